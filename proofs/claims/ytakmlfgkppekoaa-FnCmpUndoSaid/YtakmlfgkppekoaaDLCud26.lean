/-
  What l11Sends and spec.CmpUndo return, in one sentence: how many sends' conditions hold; the component ahead of an event and true, or the zero state and false; for every model, component and event in memory.
-/
import Derived.Test.YtakmlfgkppekoaaDLCud15
import Derived.Test.YtakmlfgkppekoaaDLCud18
import Derived.Test.YtakmlfgkppekoaaDLCud20
import Derived.Test.YtakmlfgkppekoaaDLCud25
namespace Go.Proofs.Ytakmlfgkppekoaa
set_option maxRecDepth 100000
open Go.RowKit
set_option maxHeartbeats 4000000 in
theorem sends_any (r : Rule) (w : World) (n c : Nat) (A : Option Addr) (hE : Evs w A n r.sends) (hs : ∀ i, i < r.sends.length → 1 ≤ (r.sends.getD i default).kd ∧ (r.sends.getD i default).kd ≤ 1000) (hn : n ≤ 2) (s : Int) (hS : 0 ≤ s ∧ s ≤ 1000) :
    Calls Try.prog 73 #[r.v (.slice A n c), .int .i64 s] w fun z w' => z = .returned (.int .i64 (nHold s r.sends)) ∧ Up w w' := by
  obtain ⟨kd, ra, rb, rc, es⟩ := r; unfold Rule.v; dsimp only at hE hs ⊢
  have HE := Lib.hid hE
  have HK := Lib.hid hs
  have LN := Lib.hid hE.1
  have ND := Lib.hid (fun k h => nHold_drop s es k h)
  have NE := Lib.hid (show ∀ k, es.length ≤ k → nHold s (es.drop k) = 0 from fun k h => by rw [List.drop_eq_nil_of_le h]; rfl)
  have H0 := Lib.hid (show 0 + nHold s (es.drop 0) = nHold s es by rw [List.drop_zero]; omega)
  have U0 := Lib.hid ((Up.refl w).alloc (.cells #[.int .i64 kd, .int .i64 ra, .int .i64 rb, .int .i64 rc, .slice A n c] 63))
  have X5 := Lib.hid (Box5.new w (.int .i64 kd) (.int .i64 ra) (.int .i64 rb) (.int .i64 rc) (.slice A n c) 63)
  generalize nHold s es = N at H0 ⊢
  clear hE hs
  go_enter Try.func73, Try.ntmps73
  go_wp2
  generalize w.alloc (.cells #[.int .i64 kd, .int .i64 ra, .int .i64 rb, .int .i64 rc, .slice A n c] 63) = W0 at *
  generalize w.heap.size = b2 at *
  go_loopw [5, 6] (fun l i wr => (∃ (q : Nat) (z : Int), q ≤ n ∧ i = .int .i64 q ∧ l = .int .i64 z ∧ (0 ≤ z ∧ z ≤ q) ∧ Hid (z + nHold s (es.drop q) = N)) ∧ Up W0 wr) (fun _ i _ => n - (intOf i).toNat)
  case atStart => exact ⟨⟨0, 0, by omega, rfl, rfl, by omega, H0⟩, Up.refl _⟩
  case round =>
    obtain ⟨⟨q, z, hq, rfl, rfl, hz, HZ⟩, ur⟩ := hrel; obtain ⟨wo, hwo⟩ : ∃ W, W = wr := ⟨_, rfl⟩; subst hwo
    have UR := Lib.hid (U0.out.trans ur)
    have UR0 := Lib.hid ur
    have x5 := X5.out.up ur
    obtain ⟨k0, k1, k2, k3, k4⟩ := And.intro x5.c0 (And.intro x5.c1 (And.intro x5.c2 (And.intro x5.c3 x5.c4)))
    have kl := x5.lt
    clear ur x5
    by_cases hlt : q < n
    · obtain ⟨b, off, hA, hb, hc⟩ := (HE.out.up UR.out).2 (by omega)
      subst hA
      have a0 := hc q hlt
      have DR := Lib.hid (ND.out q (by rw [LN.out]; exact hlt))
      have hk := HK.out q (by rw [LN.out]; exact hlt)
      clear hc
      generalize es.getD q default = x at a0 DR hk
      obtain ⟨xt, xto, xfr, xsq, xkd, xdt⟩ := x; unfold EvAt at a0; dsimp only at a0 DR hk; obtain ⟨v0, v1, v2, v3, v4, v5⟩ := a0
      have i4 : (q : Int) < n := by omega
      have i5 : IntKind.i64.wrap ((q : Int) + 1) = (q : Int) + 1 := IntWalk.i64_in _ (by omega)
      have i6 : IntKind.i64.wrap (z + 1) = z + 1 := IntWalk.i64_in _ (by omega)
      have r1 : s.tmod xkd = s % xkd := Int.tmod_eq_emod_of_nonneg hS.1
      have r0 : ¬ xkd = 0 := by omega
      have rb : 0 ≤ s % xkd ∧ s % xkd ≤ 1000 := ⟨Int.emod_nonneg _ r0, by have := Int.emod_lt_of_pos s (show 0 < xkd by omega); omega⟩
      have r2 : IntKind.i64.wrap (s % xkd) = s % xkd := IntWalk.i64_in _ (by omega)
      by_cases h1 : s % xkd = xdt
      · have HN := Lib.hid (show z + 1 + nHold s (es.drop (q + 1)) = N by rw [← HZ.out, DR.out, if_pos h1]; omega)
        have hb1 : (s % xkd == xdt) = true := by simp [h1]
        clear h1 DR hk rb
        go_wp2_with fail
        go_quiet (fail)
        go_wp2
        go_roundw
        case rel => exact ⟨⟨q + 1, z + 1, by omega, by go_num, rfl, by omega, HN⟩, UR0.out.trans ((Up.refl _).drewN _)⟩
        case measure => simp [intOf]; omega
      · have HN := Lib.hid (show z + nHold s (es.drop (q + 1)) = N by rw [← HZ.out, DR.out, if_neg h1]; omega)
        have hb1 : (s % xkd == xdt) = false := by simp [h1]
        clear h1 DR hk rb
        go_wp2_with fail
        go_quiet (fail)
        go_wp2
        go_roundw
        case rel => exact ⟨⟨q + 1, z, by omega, by go_num, rfl, by omega, HN⟩, UR0.out.trans ((Up.refl _).drewN _)⟩
        case measure => simp [intOf]; omega
    · have HN := Lib.hid (show z = N by rw [← HZ.out, NE.out q (by rw [LN.out]; omega)]; omega)
      have i4 : ¬ (q : Int) < n := by omega
      go_wp2; go_ret
      exact ⟨ret_int HN.out, UR.out⟩
end Go.Proofs.Ytakmlfgkppekoaa

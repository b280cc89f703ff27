/-
  What impl.rulesOk returns, in one sentence: whether each component's rules are in order and each is a rule; for every model that lies in memory.
-/
import Derived.Test.YtojnphchkdjafaaIRule
namespace Go.Proofs.Ytojnphchkdjafaa
set_option maxRecDepth 100000
open Go.RowKit

/-- The cells of a model's own block. -/
structure Box3 (w : World) (b : Nat) (x y z : Value) : Prop where
  lt : b < w.heap.size
  c0 : w.cell? ⟨b, 0, none⟩ = some x
  c1 : w.cell? ⟨b, 1, none⟩ = some y
  c2 : w.cell? ⟨b, 2, none⟩ = some z
theorem Box3.new (w : World) (x y z : Value) (t : TypeId) : Box3 (w.alloc (.cells #[x, y, z] t)) w.heap.size x y z := by
  have hh := heap_alloc_new w (.cells #[x, y, z] t)
  exact ⟨by simp, by rw [cell_of_row _ _ 0 _ _ _ hh]; rfl, by rw [cell_of_row _ _ 1 _ _ _ hh]; rfl, by rw [cell_of_row _ _ 2 _ _ _ hh]; rfl⟩
theorem Box3.up {w w' : World} {b : Nat} {x y z : Value} (h : Box3 w b x y z) (u : Up w w') : Box3 w' b x y z :=
  ⟨Nat.lt_of_lt_of_le h.lt u.size, (u.cells _ _ h.lt).trans h.c0, (u.cells _ _ h.lt).trans h.c1, (u.cells _ _ h.lt).trans h.c2⟩

set_option maxHeartbeats 8000000 in
theorem implRules_any (A : Option Addr) (n c : Nat) (B : Option Addr) (k d : Nat) (til : Int) (rss : List (List Rule)) (hm1 : (1 : Int) ≤ n) (hm2 : (n : Int) ≤ 4) (w : World) (hR : Rulz w A n rss) :
    Calls Try.prog 88 #[.agg #[.slice A n c, .slice B k d, .int .i64 til]] w fun x w' => x = .returned (.bool (rss.all (rulesB n (-1)))) ∧ Up w w' := by
  have AD := Lib.hid (fun i h => all_drop (f := rulesB n (-1)) (d := []) rss i h)
  have AE := Lib.hid (fun i h => all_end (f := rulesB n (-1)) rss i h)
  have RD := Lib.hid (fun bf rs i h => rulesB_drop n bf rs i h)
  have RE := Lib.hid (fun bf rs i h => rulesB_end n bf rs i h)
  have HR := Lib.hid hR
  have LR := Lib.hid hR.1
  have CL := Lib.hid (fun r A' n' c' W hn hE => implRule_any r A' n' c' n hm1 hm2 W hn hE)
  have H0 := Lib.hid (show (rss.drop 0).all (rulesB n (-1)) = rss.all (rulesB n (-1)) from rfl)
  generalize rss.all (rulesB n (-1)) = al at H0 ⊢
  have B0 := Lib.hid (Box3.new w (.slice A n c) (.slice B k d) (.int .i64 til) 26)
  clear hR
  go_enter Try.func88, Try.ntmps88
  go_wp2
  go_loopw [11] (fun i wr => (∃ q : Nat, q ≤ n ∧ i = .int .i64 q ∧ Hid ((rss.drop q).all (rulesB n (-1)) = al)) ∧ Up (w.alloc (.cells #[.slice A n c, .slice B k d, .int .i64 til] 26)) wr) (fun i _ => n - (intOf i).toNat)
  case atStart => exact ⟨⟨0, by omega, rfl, H0⟩, Up.refl _⟩
  case round =>
    obtain ⟨⟨q, hq, rfl, HA⟩, ur⟩ := hrel
    obtain ⟨wo, hwo⟩ : ∃ W, W = wr := ⟨_, rfl⟩
    subst hwo
    have hw : Up w wo := ((Up.refl w).alloc _).trans ur
    by_cases hlt : q < n
    · obtain ⟨b, off, hA, hb, hc⟩ := HR.out.2.2 (by omega)
      subst hA
      obtain ⟨A', n', c', hcell, hrs⟩ := hc q hlt
      have cell := (hw.cells _ _ hb).trans hcell
      have HS := Lib.hid (hrs.up hw)
      have hn' : n' ≤ 9223372036854775807 := hrs.2.1
      have hb' : b < wo.heap.size := by have := hw.size; omega
      have S := AD.out q (by rw [LR.out]; exact hlt)
      rw [HA.out] at S
      clear hc hcell hrs
      generalize rss.getD q [] = rs at HS S
      have S' := Lib.hid S
      have LS := Lib.hid HS.out.1
      have UR := Lib.hid ur
      have H1 := Lib.hid (show rulesB n (-1) (rs.drop 0) = rulesB n (-1) rs from rfl)
      generalize rulesB n (-1) rs = ok at S' H1
      clear S ur hw
      have i4 : (q : Int) < n := by omega
      have i5 : IntKind.i64.wrap ((q : Int) + 1) = (q : Int) + 1 := IntWalk.i64_in _ (by omega)
      go_wp2_with fail
      go_loopw [5, 17] (fun f j wj => (∃ (bf : Int) (p : Nat), p ≤ n' ∧ f = .int .i64 bf ∧ j = .int .i64 p ∧ Hid (rulesB n bf (rs.drop p) = ok)) ∧ Up wo wj) (fun _ j _ => n' - (intOf j).toNat)
      case atStart => exact ⟨⟨-1, 0, by omega, rfl, rfl, H1⟩, Up.refl _⟩
      case round =>
        obtain ⟨⟨bf, p, hp, rfl, rfl, HB⟩, uj⟩ := hrel
        have bx := B0.out.up (UR.out.trans uj)
        obtain ⟨q0, q1, q2⟩ := And.intro bx.c0 (And.intro bx.c1 bx.c2)
        have qlt := bx.lt
        have hbx : w.heap.size < wo.heap.size := (B0.out.up UR.out).lt
        clear bx
        by_cases hlp : p < n'
        · obtain ⟨b2, off2, hA2, hb2, hc2⟩ := HS.out.2.2 (by omega)
          subst hA2
          have at2 := (hc2 p hlp).up uj hb2
          have hb2' : b2 < wr.heap.size := by have := uj.size; omega
          clear hc2
          have T := RD.out bf rs p (by rw [LS.out]; exact hlp)
          rw [HB.out] at T
          have cl := fun A' n' c' W => CL.out (rs.getD p default) A' n' c' W
          generalize rs.getD p default = r at at2 T cl
          obtain ⟨A3, n3, c3, ⟨r0, r1, r2, r3, r4⟩, hn3, he3⟩ := at2
          have E3 := Lib.hid he3
          obtain ⟨kd, ra, rb, rc, es⟩ := r
          generalize ruleB ⟨kd, ra, rb, rc, es⟩ n = s at T cl
          unfold Rule.v at cl
          dsimp only at cl r0 r1 r2 r3 r4 T
          have C := Lib.hid (cl A3 n3 c3)
          have T' := Lib.hid T
          have UJ := Lib.hid uj
          have hsz : wo.heap.size ≤ wr.heap.size := uj.size
          clear T cl he3 uj
          have i6 : (p : Int) < n' := by omega
          have i7 : IntKind.i64.wrap ((p : Int) + 1) = (p : Int) + 1 := IntWalk.i64_in _ (by omega)
          by_cases hkd : kd ≤ bf
          · have hok : ok = false := by rw [T'.out, decide_eq_false (by omega)]; rfl
            go_wp2
            go_ret
            exact ⟨ret_bool (by rw [S'.out, hok]; rfl), ((((Up.refl w).alloc _).trans UR.out).trans UJ.out).alloc _⟩
          · have hd : decide (bf < kd) = true := decide_eq_true (by omega)
            have NX := Lib.hid (show wr.heap.size ≠ w.heap.size by omega)
            go_wp2_with fail
            refine (C.out _ hn3 (E3.out.up ((Up.refl _).alloc _))).mono ?_
            rintro x w2 ⟨rfl, u2⟩
            have U2 := Lib.hid ((UJ.out.alloc _).trans u2)
            obtain ⟨hc, hf, hz⟩ := u2.facts
            simp at hz
            cases s
            · have hok : ok = false := by rw [T'.out, hd]; rfl
              go_wp2
              go_ret
              exact ⟨ret_bool (by rw [S'.out, hok]; rfl), (((Up.refl w).alloc _).trans UR.out).trans U2.out⟩
            · have TT := Lib.hid (show rulesB n kd (rs.drop (p + 1)) = ok by rw [T'.out, hd]; rfl)
              go_wp2
              go_roundw
              case rel => exact ⟨⟨kd, p + 1, by omega, rfl, by first | rfl | go_num, TT⟩, U2.out⟩
              case measure => (simp [intOf]; try omega)
        · have hok : ok = true := HB.out.symm.trans (RE.out bf rs p (by rw [LS.out]; omega))
          have i6 : ¬ (p : Int) < n' := by omega
          have UJ := Lib.hid uj
          clear uj
          go_wp2
          go_roundw
          case rel => exact ⟨⟨q + 1, by omega, by first | rfl | go_num, Lib.hid (by rw [S'.out, hok, Bool.true_and])⟩, UR.out.trans UJ.out⟩
          case measure => (simp [intOf]; try omega)
    · have hal : al = true := HA.out.symm.trans (AE.out q (by rw [LR.out]; omega))
      have HW := Lib.hid hw
      have i4 : ¬ (q : Int) < n := by omega
      clear hw ur
      go_wp2
      go_ret
      exact ⟨ret_bool (by first | exact hal.symm | rfl), HW.out⟩

end Go.Proofs.Ytojnphchkdjafaa

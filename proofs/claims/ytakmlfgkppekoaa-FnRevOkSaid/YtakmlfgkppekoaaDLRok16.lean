/-
  What invertible, holding, previous and undo return, in one sentence: whether a is not 0, how many sends' conditions hold, the state ahead, and the component ahead of an event; for a machine that holds a valid model's rules and a valid component.
  What impl.RevOk returns, in one sentence: whether the model is valid, the component exists, and a is not 0 in all its rules; for every model that lies in memory and every number.
-/
import Derived.Test.YtakmlfgkppekoaaDLRok01
import Derived.Test.YtakmlfgkppekoaaDLRok03
import Derived.Test.YtakmlfgkppekoaaDLRok04
import Derived.Test.YtakmlfgkppekoaaDLRok06
import Derived.Test.YtakmlfgkppekoaaDLRok08
import Derived.Test.YtakmlfgkppekoaaDLRok13
import Derived.Test.YtakmlfgkppekoaaDLRok15
namespace Go.Proofs.Ytakmlfgkppekoaa
set_option maxRecDepth 100000
open Go.RowKit
theorem invertible_any (r : Rule) (S : Value) (w : World) (n c : Nat) (A : Option Addr) (hS : S = .slice A n c) :
    Calls Try.prog 70 #[r.v S] w fun z w' => z = .returned (.bool (decide (r.a ≠ 0))) ∧ Up w w' := by
  obtain ⟨kd, ra, rb, rc, es⟩ := r; subst hS; unfold Rule.v; dsimp only
  by_cases h : ra = 0
  · subst h
    go_enter Try.func70, Try.ntmps70
    go_wp2; go_ret
    exact ⟨rfl, (Up.refl _).alloc _⟩
  · have h1 : (ra != 0) = true := by simp [h]
    have HD := Lib.hid (show decide (ra ≠ 0) = true from decide_eq_true h)
    generalize decide (ra ≠ 0) = d at HD ⊢
    go_enter Try.func70, Try.ntmps70
    go_wp2; go_ret
    exact ⟨ret_bool HD.out.symm, (Up.refl _).alloc _⟩
end Go.Proofs.Ytakmlfgkppekoaa

namespace Go.Proofs.Ytakmlfgkppekoaa
set_option maxRecDepth 100000
open Go.RowKit
set_option maxHeartbeats 2000000 in
theorem everyR_any (A : Option Addr) (n cap : Nat) (xs : List Rule) (w : World) (hn : n ≤ 1048576) (hE : Rules w A n xs) :
    Calls Try.prog 69 #[.slice A n cap, .func (.func 70) #[] #[]] w fun x w' => x = .returned (.bool (xs.all nz)) ∧ Up w w' := by
  have AD := Lib.hid (fun k h => all_drop (f := nz) (d := default) xs k h)
  have AE := Lib.hid (fun k h => all_end (f := nz) xs k h)
  have CL := Lib.hid (fun x S n c A hS W => invertible_any x S W n c A hS)
  have HE := Lib.hid hE
  have LE := Lib.hid hE.1
  have H0 := Lib.hid (show (xs.drop 0).all nz = xs.all nz from rfl)
  generalize xs.all nz = res at H0 ⊢
  clear hE
  go_enter Try.func69, Try.ntmps69
  go_wp2
  go_loopw [9] (fun i wr => (∃ k : Nat, k ≤ n ∧ i = .int .i64 k ∧ Hid ((xs.drop k).all nz = res)) ∧ Up w wr) (fun i _ => n - (intOf i).toNat)
  case atStart => exact ⟨⟨0, by omega, rfl, H0⟩, Up.refl _⟩
  case round =>
    obtain ⟨⟨k, hk, rfl, HR⟩, ur⟩ := hrel
    by_cases hlt : k < n
    · obtain ⟨b, off, hA, hb, hc⟩ := HE.out.2.2 (by omega)
      subst hA
      have a0 := (hc k hlt).up ur hb
      have hb' : b < wr.heap.size := by have := ur.size; omega
      clear hc
      have S := AD.out k (by rw [LE.out]; exact hlt)
      generalize xs.getD k default = p at a0 S
      obtain ⟨A3, n3, c3, ⟨r0, r1, r2, r3, r4⟩, hn3', he3⟩ := a0
      have cl := CL.out p (.slice A3 n3 c3) n3 c3 A3 rfl
      have S' := Lib.hid (show (xs.drop k).all nz = (decide (p.a ≠ 0) && (xs.drop (k + 1)).all nz) from S)
      obtain ⟨kd, ra, rb, rc, es⟩ := p; unfold Rule.v at cl; dsimp only at r0 r1 r2 r3 r4 cl S'
      have C := Lib.hid cl
      clear S cl he3
      generalize decide (ra ≠ 0) = r at C S'
      have i4 : (k : Int) < n := by omega
      have UR := Lib.hid ur
      clear ur
      go_wp2_with fail
      refine (C.out _).mono ?_; rintro x wA ⟨rfl, uA⟩
      have UN := Lib.hid ((UR.out.alloc _).trans uA)
      clear uA
      cases r
      · have HF := Lib.hid (show res = false by rw [← HR.out, S'.out]; rfl)
        go_wp2; go_ret
        exact ⟨ret_bool HF.out.symm, UN.out⟩
      · have HN := Lib.hid (show (xs.drop (k + 1)).all nz = res by rw [← HR.out, S'.out]; rfl)
        go_wp2
        go_roundw
        case rel => exact ⟨⟨k + 1, by omega, by go_num, HN⟩, UN.out⟩
        case measure => simp [intOf]; omega
    · obtain rfl : k = n := by omega
      have i4 : ¬ (k : Int) < k := by omega
      have HT := Lib.hid (show res = true by rw [← HR.out]; exact AE.out k (by rw [LE.out]; omega))
      have UR := Lib.hid ur
      clear ur; go_wp2; go_ret
      exact ⟨ret_bool HT.out.symm, UR.out⟩
theorem within_upR (v lo hi : Int) (W : World) : Calls Try.prog 65 #[.int .i64 v, .int .i64 lo, .int .i64 hi] W fun x w' => x = .returned (.bool (inB v lo hi)) ∧ w' = W :=
  (within_any v lo hi W).mono (by rintro x w' ⟨rfl, rfl⟩; exact ⟨rfl, rfl⟩)
set_option maxHeartbeats 4000000 in
theorem implRok_any (A : Option Addr) (n c : Nat) (B : Option Addr) (k d : Nat) (m : Mdl) (co : Int) (w : World) (h : MdlV w A n B k m) :
    Calls Try.prog 21 #[.agg #[.slice A n c, .slice B k d, .int .i64 m.til], .int .i64 co] w fun x w' => x = .returned (.bool (revOkV m co)) ∧ Up w w' := by
  have CM := Lib.hid (fun W (u : Up w W) => implMdl_any A n c B k d m W (h.up u))
  have CF := Lib.hid (fun W => within_upR co 0 ((n : Int) - 1) W)
  have X2 := Lib.hid (Box3.new w (.slice A n c) (.slice B k d) (.int .i64 m.til) 33)
  have U0 := Lib.hid ((Up.refl w).alloc (.cells #[.slice A n c, .slice B k d, .int .i64 m.til] 33))
  have LV := Lib.hid (show revOkV m co = (mdlB m && inB co 0 ((n : Int) - 1) && (m.rules.getD co.toNat []).all nz) by rw [← h.rules.1]; rfl)
  have FEW := Lib.hid (fun hm => mdlB_few (m := m) hm)
  have ROW := Lib.hid (fun (hm : mdlB m = true) (hi : co.toNat < n) => mdlB_row hm co.toNat (by rw [h.rules.1]; exact hi))
  have HR := Lib.hid h.rules
  have NLEN := Lib.hid h.rules.1
  rw [NLEN.out] at FEW
  have IN := Lib.hid (inB_iff (n := co) (lo := 0) (hi := (n : Int) - 1))
  generalize revOkV m co = res at LV ⊢
  generalize mdlB m = bm at CM LV FEW ROW
  generalize inB co 0 ((n : Int) - 1) = b1 at LV CF IN
  generalize m.til = til at *
  clear h
  go_enter Try.func21, Try.ntmps21
  go_wp2_with fail
  refine (CM.out _ U0.out).mono ?_; rintro x w1 ⟨rfl, u1⟩
  replace U0 := Lib.hid (U0.out.trans u1)
  replace X2 := Lib.hid (X2.out.up u1)
  clear u1 CM
  generalize w.heap.size = b2 at *
  cases bm
  · go_wp2
    go_ret
    exact ⟨ret_bool LV.out.symm, U0.out⟩
  · have few := FEW.out rfl
    obtain ⟨q0, q1, q2⟩ := And.intro X2.out.c0 (And.intro X2.out.c1 X2.out.c2)
    have ql := X2.out.lt
    have i1 : IntKind.i64.wrap ((n : Int) - 1) = (n : Int) - 1 := IntWalk.i64_in _ (by omega)
    cases b1
    · go_wp2_with fail
      refine (CF.out _).mono ?_; rintro x w2 ⟨rfl, rfl⟩; go_wp2; go_ret
      exact ⟨ret_bool LV.out.symm, U0.out⟩
    · obtain ⟨c0, c1⟩ := IN.out.1 rfl
      obtain ⟨co, rfl⟩ : ∃ q : Nat, co = q := ⟨co.toNat, by omega⟩
      have hcn : co < n := by omega
      rw [Int.toNat_natCast] at LV ROW; obtain ⟨b, off, hA, hb, hc⟩ := HR.out.2.2 (by omega); subst hA; obtain ⟨A', n', c', hcell, hrs⟩ := hc co hcn
      have hlen := rulesB_len (ROW.out (by first | rfl | trivial) hcn) (by omega) (by omega)
      have hn3 : n' ≤ 3 := by have := hrs.1; omega
      have cell := (U0.out.cells _ _ hb).trans hcell
      have hbr : b < w1.heap.size := by have := U0.out.size; omega
      have j1 : (co : Int) < n := by omega
      have CE := Lib.hid (everyR_any A' n' c' _ w1 (by omega) (hrs.up U0.out))
      clear hc hcell hrs hlen ROW
      generalize (m.rules.getD co []).all nz = r at *
      go_wp2_with fail
      refine (CF.out _).mono ?_; rintro x w2 ⟨rfl, rfl⟩
      go_wp2_with fail
      refine CE.out.mono ?_; rintro x w3 ⟨rfl, u3⟩
      have U3 := Lib.hid (U0.out.trans u3)
      clear u3; go_wp2; go_ret
      exact ⟨ret_bool LV.out.symm, U3.out⟩
end Go.Proofs.Ytakmlfgkppekoaa

/-
  What toMdlModel returns, in one sentence: the same model over new blocks; for every model that lies in memory and was counted.
  What invertible, holding, previous and undo return, in one sentence: whether a is not 0, how many sends' conditions hold, the state ahead, and the component ahead of an event; for a machine that holds a valid model's rules and a valid component.
  What impl.RevOk returns, in one sentence: whether the model is valid, the component exists, and a is not 0 in all its rules; for every model that lies in memory and every number.
  What FnExactRevOk returns, in one sentence: true, with new blocks alone; for every model and number.
  For every model and number the law FnExactRevOk returns true and leaves its arguments as they were; no condition.
-/
import Derived.Deep.AppendLies
import Derived.Deep.Draws
import Derived.Deep.RegionHeld3
import Derived.Laws.Bits64
import Derived.Laws.OwnMore
import Derived.Laws.StructEq
import Derived.Maps.AppendAt
import Derived.OwnWalk
import Derived.RegionTactic
import Derived.Test.YtakmlfgkppekoaaDLErok01
import Derived.Test.YtakmlfgkppekoaaDLErok02
import Derived.Test.YtakmlfgkppekoaaDLErok03
import Derived.Test.YtakmlfgkppekoaaDLErok04
import Derived.Test.YtakmlfgkppekoaaDLErok05
import Derived.Test.YtakmlfgkppekoaaDLErok07
import Derived.Test.YtakmlfgkppekoaaDLErok08
import Derived.Test.YtakmlfgkppekoaaDLErok09
import Derived.Test.YtakmlfgkppekoaaRows
namespace Go.Proofs.Ytakmlfgkppekoaa
set_option maxRecDepth 100000
open Go.RowKit
theorem set3_at {w : World} {b : Nat} {x y z : Value} (h : ∀ k, k < 3 → ∃ v, w.cell? ⟨b, k, none⟩ = some v) :
    (((w.setCell ⟨b, 0, none⟩ x).setCell ⟨b, 1, none⟩ y).setCell ⟨b, 2, none⟩ z).cell? ⟨b, 0, none⟩ = some x ∧ (((w.setCell ⟨b, 0, none⟩ x).setCell ⟨b, 1, none⟩ y).setCell ⟨b, 2, none⟩ z).cell? ⟨b, 1, none⟩ = some y ∧ (((w.setCell ⟨b, 0, none⟩ x).setCell ⟨b, 1, none⟩ y).setCell ⟨b, 2, none⟩ z).cell? ⟨b, 2, none⟩ = some z := by
  have ne : ∀ k j, k ≠ j → (⟨b, k, none⟩ : Addr) ≠ ⟨b, j, none⟩ := fun k j hk => addr_ne (by omega)
  obtain ⟨v0, h0⟩ := h 0 (by omega); obtain ⟨v1, h1⟩ := h 1 (by omega); obtain ⟨v2, h2⟩ := h 2 (by omega); refine ⟨?_, ?_, ?_⟩
  · rw [World.cell?_setCell_other _ _ _ _ (ne 2 0 (by omega)), World.cell?_setCell_other _ _ _ _ (ne 1 0 (by omega))]
    exact World.cell?_setCell_same _ _ _ h0
  · rw [World.cell?_setCell_other _ _ _ _ (ne 2 1 (by omega))]
    exact World.cell?_setCell_same _ _ _ ((World.cell?_setCell_other _ _ _ _ (ne 0 1 (by omega))).trans h1)
  · exact World.cell?_setCell_same _ _ _ ((World.cell?_setCell_other _ _ _ _ (ne 1 2 (by omega))).trans ((World.cell?_setCell_other _ _ _ _ (ne 0 2 (by omega))).trans h2))
theorem free_new (w : World) (xs : Array Value) (t : TypeId) (j : Nat) : (w.alloc (.cells xs t)).frozen? ⟨w.heap.size, j, none⟩ = false := by
  have hh := heap_alloc_new w (.cells xs t)
  unfold World.frozen?; rw [hh]; simp
set_option maxHeartbeats 4000000 in
theorem toMdl_any (A : Option Addr) (n c : Nat) (B : Option Addr) (k d : Nat) (m : Mdl) (w : World) (hM : MdlV w A n B k m) (hS : ShortM m n) :
    Calls Try.prog 20 #[.agg #[.slice A n c, .slice B k d, .int .i64 m.til]] w (NewMdl m n k w) := by
  obtain ⟨rs, es, til⟩ := m
  have CR := Lib.hid (fun W (u : Up w W) => toRuleSS_any A n c rs W hS.few (hM.rules.up u) hS.shorts)
  have CE := Lib.hid (fun W (u : Up w W) => toS_any B k d es W (by have := hM.starts.1; have := hS.fit.2; dsimp only at *; omega) (hM.starts.up u))
  clear hM hS; unfold NewMdl; dsimp only
  go_enter Try.func20, Try.ntmps20
  go_wp2_with fail
  refine (CR.out _ ((((Up.refl w).alloc _).alloc _).alloc _)).mono ?_; rintro x w1 ⟨g1, rfl, hg1, o1, u1⟩
  have O1 := Lib.hid o1
  have U1 := Lib.hid ((((Up.refl w).alloc _).alloc _).alloc _ |>.trans u1)
  simp at hg1
  have Z1 := Lib.hid (fun j (hj : j < 3) => (show ∃ v, w1.cell? ⟨w.heap.size + 1, j, none⟩ = some v by
    obtain ⟨v, hv⟩ := somes_new (w.alloc (.cells #[.slice A n c, .slice B k d, .int .i64 til] 27)) #[.slice none 0 0, .slice none 0 0, .int .i64 0] 33 j hj
    have hs : (w.alloc (.cells #[.slice A n c, .slice B k d, .int .i64 til] 27)).heap.size = w.heap.size + 1 := by simp
    rw [hs] at hv
    exact ⟨v, (((Up.refl _).alloc _).trans u1).cells _ _ (by simp) |>.trans hv⟩))
  have x2 := (Box3.new ((w.alloc (.cells #[.slice A n c, .slice B k d, .int .i64 til] 27)).alloc (.cells #[.slice none 0 0, .slice none 0 0, .int .i64 0] 33)) (.slice none 0 0) (.slice none 0 0) (.int .i64 0) 33).up u1
  simp only [World.size_alloc] at x2
  have X2 := Lib.hid x2
  have X0 := Lib.hid ((Box3.new w (.slice A n c) (.slice B k d) (.int .i64 til) 27).up ((((Up.refl _).alloc _).alloc _).trans u1))
  have FA := Lib.hid (fun j => (show w1.frozen? ⟨w.heap.size + 1, j, none⟩ = false by
    have h := free_new (w.alloc (.cells #[.slice A n c, .slice B k d, .int .i64 til] 27)) #[.slice none 0 0, .slice none 0 0, .int .i64 0] 33 j
    simp only [World.size_alloc] at h
    exact ((((Up.refl _).alloc _).trans u1).frozens _ _ (by simp)).trans h))
  have FB := Lib.hid (fun j => (show w1.frozen? ⟨w.heap.size + 1 + 1, j, none⟩ = false by
    have h := free_new ((w.alloc (.cells #[.slice A n c, .slice B k d, .int .i64 til] 27)).alloc (.cells #[.slice none 0 0, .slice none 0 0, .int .i64 0] 33)) #[.slice none 0 0, .slice none 0 0, .int .i64 0] 33 j
    simp only [World.size_alloc] at h
    exact (u1.frozens _ _ (by simp)).trans h))
  obtain ⟨hc, hf, hz⟩ := u1.facts; simp at hz; clear o1 u1 x2
  have ne2 : w.heap.size + 1 + 1 ≠ w.heap.size := by omega
  go_wp2_with fail
  refine (CE.out _ (U1.out.setCell (by dsimp only; omega) _)).mono ?_; rintro x w2 ⟨g2, rfl, hg2, o2, u2⟩; simp at hg2
  have O2 := Lib.hid o2
  have U2 := Lib.hid ((U1.out.setCell (p := ⟨w.heap.size + 1 + 1, 0, none⟩) (by dsimp only; omega) (.slice (some ⟨g1, 0, none⟩) n n)).trans u2)
  have O1' := Lib.hid ((O1.out.setFar (p := ⟨w.heap.size + 1 + 1, 0, none⟩) (by dsimp only; omega) (.slice (some ⟨g1, 0, none⟩) n n)).up u2)
  have Z2 := Lib.hid (fun j (hj : j < 3) => (show ∃ v, w2.cell? ⟨w.heap.size + 1, j, none⟩ = some v by
    obtain ⟨v, hv⟩ := Z1.out j hj
    exact ⟨v, (u2.cells _ _ (by simp; omega)).trans ((World.cell?_setCell_other _ _ _ _ (addr_ne (by omega))).trans hv)⟩))
  have y0 : w2.cell? ⟨w.heap.size + 1 + 1, 0, none⟩ = some (.slice (some ⟨g1, 0, none⟩) n n) := (u2.cells _ _ (by have := X2.out.lt; simpa using this)).trans (World.cell?_setCell_same _ _ _ X2.out.c0)
  have y1 : w2.cell? ⟨w.heap.size + 1 + 1, 1, none⟩ = some (.slice none 0 0) := (u2.cells _ _ (by have := X2.out.lt; simpa using this)).trans ((World.cell?_setCell_other _ _ _ _ (addr_ne (by omega))).trans X2.out.c1)
  have y2 : w2.cell? ⟨w.heap.size + 1 + 1, 2, none⟩ = some (.int .i64 0) := (u2.cells _ _ (by have := X2.out.lt; simpa using this)).trans ((World.cell?_setCell_other _ _ _ _ (addr_ne (by omega))).trans X2.out.c2)
  have lt2 : w.heap.size + 1 + 1 < (w1.setCell ⟨w.heap.size + 1 + 1, 0, none⟩ (.slice (some ⟨g1, 0, none⟩) n n)).heap.size := by have := X2.out.lt; simpa using this
  have q2 : w2.cell? ⟨w.heap.size, 2, none⟩ = some (.int .i64 til) := (u2.cells _ _ (by omega)).trans ((World.cell?_setCell_other _ _ _ _ (addr_ne (by omega))).trans X0.out.c2)
  have fA : ∀ j, w2.frozen? ⟨w.heap.size + 1, j, none⟩ = false := fun j => (u2.frozens _ _ (by omega)).trans (by have := FA.out j; simpa [go_sem] using this)
  have fB : ∀ j, w2.frozen? ⟨w.heap.size + 1 + 1, j, none⟩ = false := fun j => (u2.frozens _ _ lt2).trans (by have := FB.out j; simpa [go_sem] using this)
  obtain ⟨z0, zz0⟩ := Z2.out 0 (by omega); obtain ⟨z1, zz1⟩ := Z2.out 1 (by omega); obtain ⟨z2, zz2⟩ := Z2.out 2 (by omega); clear hc hf
  have HG1 := Lib.hid hg1
  have HG2 := Lib.hid hg2
  clear o2 u2 Z1 hg1 hg2 O1; go_wp2
  have K := set3_at (w := (w2.setCell ⟨w.heap.size + 1 + 1, 1, none⟩ (.slice (some ⟨g2, 0, none⟩) k k)).setCell ⟨w.heap.size + 1 + 1, 2, none⟩ (.int .i64 til)) (b := w.heap.size + 1) (x := .slice (some ⟨g1, 0, none⟩) n n) (y := .slice (some ⟨g2, 0, none⟩) k k) (z := .int .i64 til) (fun j hj => by
    obtain ⟨v, hv⟩ := Z2.out j hj
    exact ⟨v, (World.cell?_setCell_other _ _ _ _ (addr_ne (by omega))).trans ((World.cell?_setCell_other _ _ _ _ (addr_ne (by omega))).trans hv)⟩)
  have far : ∀ j, (⟨w.heap.size + 1, j, none⟩ : Addr).block < g1 ∧ (⟨w.heap.size + 1, j, none⟩ : Addr).block ≠ g2 := fun j => by have := HG1.out; have := HG2.out; dsimp only; omega
  have far2 : ∀ j, (⟨w.heap.size + 1 + 1, j, none⟩ : Addr).block < g1 ∧ (⟨w.heap.size + 1 + 1, j, none⟩ : Addr).block ≠ g2 := fun j => by have := HG1.out; have := HG2.out; dsimp only; omega
  have OA := Lib.hid (((((O1'.out.setFar (far2 1).1 (.slice (some ⟨g2, 0, none⟩) k k)).setFar (far2 2).1 (.int .i64 til)).setFar (far 0).1 (.slice (some ⟨g1, 0, none⟩) n n)).setFar (far 1).1 (.slice (some ⟨g2, 0, none⟩) k k)).setFar (far 2).1 (.int .i64 til))
  have OB := Lib.hid (((((O2.out.setFar (far2 1).2 (.slice (some ⟨g2, 0, none⟩) k k)).setFar (far2 2).2 (.int .i64 til)).setFar (far 0).2 (.slice (some ⟨g1, 0, none⟩) n n)).setFar (far 1).2 (.slice (some ⟨g2, 0, none⟩) k k)).setFar (far 2).2 (.int .i64 til))
  have near : ∀ j, w.heap.size ≤ (⟨w.heap.size + 1, j, none⟩ : Addr).block := fun j => by dsimp only; omega
  have near2 : ∀ j, w.heap.size ≤ (⟨w.heap.size + 1 + 1, j, none⟩ : Addr).block := fun j => by dsimp only; omega
  have UA := Lib.hid (((((U2.out.setCell (near2 1) (.slice (some ⟨g2, 0, none⟩) k k)).setCell (near2 2) (.int .i64 til)).setCell (near 0) (.slice (some ⟨g1, 0, none⟩) n n)).setCell (near 1) (.slice (some ⟨g2, 0, none⟩) k k)).setCell (near 2) (.int .i64 til))
  obtain ⟨k0, k1, k2⟩ := K
  exact bodyPost_ret (v := .agg #[.slice (some ⟨g1, 0, none⟩) n n, .slice (some ⟨g2, 0, none⟩) k k, .int .i64 til]) (by simp [results, Try.results20, go_sem, k0, k1, k2]) rfl ⟨g1, g2, rfl, by have := HG1.out; omega, by have := HG2.out; omega, OA.out, OB.out, UA.out⟩
theorem NewMdl.v {m : Mdl} {n k g1 g2 : Nat} {w : World} (h1 : RulzF w g1 n m.rules) (h2 : Own w g2 k m.starts) (hk : k ≤ 9223372036854775807) : MdlV w (some ⟨g1, 0, none⟩) n (some ⟨g2, 0, none⟩) k m :=
  ⟨h1.rulz, h2.evs', hk⟩
end Go.Proofs.Ytakmlfgkppekoaa

namespace Go.Proofs.Ytakmlfgkppekoaa
set_option maxRecDepth 100000
open Go.RowKit
theorem invertible_any (r : Rule) (S : Value) (w : World) (n c : Nat) (A : Option Addr) (hS : S = .slice A n c) :
    Calls Try.prog 70 #[r.v S] w fun z w' => z = .returned (.bool (decide (r.a ≠ 0))) ∧ Up w w' := by
  obtain ⟨kd, ra, rb, rc, es⟩ := r; subst hS; unfold Rule.v; dsimp only
  by_cases h : ra = 0
  · subst h
    go_enter Try.func70, Try.ntmps70
    go_wp2; go_ret
    exact ⟨rfl, (Up.refl _).alloc _⟩
  · have h1 : (ra != 0) = true := by simp [h]
    have HD := Lib.hid (show decide (ra ≠ 0) = true from decide_eq_true h)
    generalize decide (ra ≠ 0) = d at HD ⊢
    go_enter Try.func70, Try.ntmps70
    go_wp2; go_ret
    exact ⟨ret_bool HD.out.symm, (Up.refl _).alloc _⟩
end Go.Proofs.Ytakmlfgkppekoaa

namespace Go.Proofs.Ytakmlfgkppekoaa
set_option maxRecDepth 100000
open Go.RowKit
set_option maxHeartbeats 2000000 in
theorem everyR_any (A : Option Addr) (n cap : Nat) (xs : List Rule) (w : World) (hn : n ≤ 1048576) (hE : Rules w A n xs) :
    Calls Try.prog 69 #[.slice A n cap, .func (.func 70) #[] #[]] w fun x w' => x = .returned (.bool (xs.all nz)) ∧ Up w w' := by
  have AD := Lib.hid (fun k h => all_drop (f := nz) (d := default) xs k h)
  have AE := Lib.hid (fun k h => all_end (f := nz) xs k h)
  have CL := Lib.hid (fun x S n c A hS W => invertible_any x S W n c A hS)
  have HE := Lib.hid hE
  have LE := Lib.hid hE.1
  have H0 := Lib.hid (show (xs.drop 0).all nz = xs.all nz from rfl)
  generalize xs.all nz = res at H0 ⊢
  clear hE
  go_enter Try.func69, Try.ntmps69
  go_wp2
  go_loopw [9] (fun i wr => (∃ k : Nat, k ≤ n ∧ i = .int .i64 k ∧ Hid ((xs.drop k).all nz = res)) ∧ Up w wr) (fun i _ => n - (intOf i).toNat)
  case atStart => exact ⟨⟨0, by omega, rfl, H0⟩, Up.refl _⟩
  case round =>
    obtain ⟨⟨k, hk, rfl, HR⟩, ur⟩ := hrel
    by_cases hlt : k < n
    · obtain ⟨b, off, hA, hb, hc⟩ := HE.out.2.2 (by omega)
      subst hA
      have a0 := (hc k hlt).up ur hb
      have hb' : b < wr.heap.size := by have := ur.size; omega
      clear hc
      have S := AD.out k (by rw [LE.out]; exact hlt)
      generalize xs.getD k default = p at a0 S
      obtain ⟨A3, n3, c3, ⟨r0, r1, r2, r3, r4⟩, hn3', he3⟩ := a0
      have cl := CL.out p (.slice A3 n3 c3) n3 c3 A3 rfl
      have S' := Lib.hid (show (xs.drop k).all nz = (decide (p.a ≠ 0) && (xs.drop (k + 1)).all nz) from S)
      obtain ⟨kd, ra, rb, rc, es⟩ := p; unfold Rule.v at cl; dsimp only at r0 r1 r2 r3 r4 cl S'
      have C := Lib.hid cl
      clear S cl he3
      generalize decide (ra ≠ 0) = r at C S'
      have i4 : (k : Int) < n := by omega
      have UR := Lib.hid ur
      clear ur
      go_wp2_with fail
      refine (C.out _).mono ?_; rintro x wA ⟨rfl, uA⟩
      have UN := Lib.hid ((UR.out.alloc _).trans uA)
      clear uA
      cases r
      · have HF := Lib.hid (show res = false by rw [← HR.out, S'.out]; rfl)
        go_wp2; go_ret
        exact ⟨ret_bool HF.out.symm, UN.out⟩
      · have HN := Lib.hid (show (xs.drop (k + 1)).all nz = res by rw [← HR.out, S'.out]; rfl)
        go_wp2
        go_roundw
        case rel => exact ⟨⟨k + 1, by omega, by go_num, HN⟩, UN.out⟩
        case measure => simp [intOf]; omega
    · obtain rfl : k = n := by omega
      have i4 : ¬ (k : Int) < k := by omega
      have HT := Lib.hid (show res = true by rw [← HR.out]; exact AE.out k (by rw [LE.out]; omega))
      have UR := Lib.hid ur
      clear ur; go_wp2; go_ret
      exact ⟨ret_bool HT.out.symm, UR.out⟩
theorem within_upR (v lo hi : Int) (W : World) : Calls Try.prog 65 #[.int .i64 v, .int .i64 lo, .int .i64 hi] W fun x w' => x = .returned (.bool (inB v lo hi)) ∧ w' = W :=
  (within_any v lo hi W).mono (by rintro x w' ⟨rfl, rfl⟩; exact ⟨rfl, rfl⟩)
set_option maxHeartbeats 4000000 in
theorem implRok_any (A : Option Addr) (n c : Nat) (B : Option Addr) (k d : Nat) (m : Mdl) (co : Int) (w : World) (h : MdlV w A n B k m) :
    Calls Try.prog 21 #[.agg #[.slice A n c, .slice B k d, .int .i64 m.til], .int .i64 co] w fun x w' => x = .returned (.bool (revOkV m co)) ∧ Up w w' := by
  have CM := Lib.hid (fun W (u : Up w W) => implMdl_any A n c B k d m W (h.up u))
  have CF := Lib.hid (fun W => within_upR co 0 ((n : Int) - 1) W)
  have X2 := Lib.hid (Box3.new w (.slice A n c) (.slice B k d) (.int .i64 m.til) 33)
  have U0 := Lib.hid ((Up.refl w).alloc (.cells #[.slice A n c, .slice B k d, .int .i64 m.til] 33))
  have LV := Lib.hid (show revOkV m co = (mdlB m && inB co 0 ((n : Int) - 1) && (m.rules.getD co.toNat []).all nz) by rw [← h.rules.1]; rfl)
  have FEW := Lib.hid (fun hm => mdlB_few (m := m) hm)
  have ROW := Lib.hid (fun (hm : mdlB m = true) (hi : co.toNat < n) => mdlB_row hm co.toNat (by rw [h.rules.1]; exact hi))
  have HR := Lib.hid h.rules
  have NLEN := Lib.hid h.rules.1
  rw [NLEN.out] at FEW
  have IN := Lib.hid (inB_iff (n := co) (lo := 0) (hi := (n : Int) - 1))
  generalize revOkV m co = res at LV ⊢
  generalize mdlB m = bm at CM LV FEW ROW
  generalize inB co 0 ((n : Int) - 1) = b1 at LV CF IN
  generalize m.til = til at *
  clear h
  go_enter Try.func21, Try.ntmps21
  go_wp2_with fail
  refine (CM.out _ U0.out).mono ?_; rintro x w1 ⟨rfl, u1⟩
  replace U0 := Lib.hid (U0.out.trans u1)
  replace X2 := Lib.hid (X2.out.up u1)
  clear u1 CM
  generalize w.heap.size = b2 at *
  cases bm
  · go_wp2
    go_ret
    exact ⟨ret_bool LV.out.symm, U0.out⟩
  · have few := FEW.out rfl
    obtain ⟨q0, q1, q2⟩ := And.intro X2.out.c0 (And.intro X2.out.c1 X2.out.c2)
    have ql := X2.out.lt
    have i1 : IntKind.i64.wrap ((n : Int) - 1) = (n : Int) - 1 := IntWalk.i64_in _ (by omega)
    cases b1
    · go_wp2_with fail
      refine (CF.out _).mono ?_; rintro x w2 ⟨rfl, rfl⟩; go_wp2; go_ret
      exact ⟨ret_bool LV.out.symm, U0.out⟩
    · obtain ⟨c0, c1⟩ := IN.out.1 rfl
      obtain ⟨co, rfl⟩ : ∃ q : Nat, co = q := ⟨co.toNat, by omega⟩
      have hcn : co < n := by omega
      rw [Int.toNat_natCast] at LV ROW; obtain ⟨b, off, hA, hb, hc⟩ := HR.out.2.2 (by omega); subst hA; obtain ⟨A', n', c', hcell, hrs⟩ := hc co hcn
      have hlen := rulesB_len (ROW.out (by first | rfl | trivial) hcn) (by omega) (by omega)
      have hn3 : n' ≤ 3 := by have := hrs.1; omega
      have cell := (U0.out.cells _ _ hb).trans hcell
      have hbr : b < w1.heap.size := by have := U0.out.size; omega
      have j1 : (co : Int) < n := by omega
      have CE := Lib.hid (everyR_any A' n' c' _ w1 (by omega) (hrs.up U0.out))
      clear hc hcell hrs hlen ROW
      generalize (m.rules.getD co []).all nz = r at *
      go_wp2_with fail
      refine (CF.out _).mono ?_; rintro x w2 ⟨rfl, rfl⟩
      go_wp2_with fail
      refine CE.out.mono ?_; rintro x w3 ⟨rfl, u3⟩
      have U3 := Lib.hid (U0.out.trans u3)
      clear u3; go_wp2; go_ret
      exact ⟨ret_bool LV.out.symm, U3.out⟩
end Go.Proofs.Ytakmlfgkppekoaa

namespace Go.Proofs.Ytakmlfgkppekoaa
set_option maxRecDepth 100000
open Go.RowKit
theorem two_upr {w w' : World} {b0 b1 : Nat} {x0 x1 x2 y0 y1 y2 : Value} (u : Up w w')
    (h : b0 < w.heap.size ∧ b1 < w.heap.size ∧ w.cell? ⟨b0, 0, none⟩ = some x0 ∧ w.cell? ⟨b0, 1, none⟩ = some x1 ∧ w.cell? ⟨b0, 2, none⟩ = some x2 ∧ w.cell? ⟨b1, 0, none⟩ = some y0 ∧ w.cell? ⟨b1, 1, none⟩ = some y1 ∧ w.cell? ⟨b1, 2, none⟩ = some y2) :
    b0 < w'.heap.size ∧ b1 < w'.heap.size ∧ w'.cell? ⟨b0, 0, none⟩ = some x0 ∧ w'.cell? ⟨b0, 1, none⟩ = some x1 ∧ w'.cell? ⟨b0, 2, none⟩ = some x2 ∧ w'.cell? ⟨b1, 0, none⟩ = some y0 ∧ w'.cell? ⟨b1, 1, none⟩ = some y1 ∧ w'.cell? ⟨b1, 2, none⟩ = some y2 := by
  obtain ⟨h0, h1, k0, k1, k2, l0, l1, l2⟩ := h
  have := u.size
  exact ⟨by omega, by omega, (u.cells _ _ h0).trans k0, (u.cells _ _ h0).trans k1, (u.cells _ _ h0).trans k2, (u.cells _ _ h1).trans l0, (u.cells _ _ h1).trans l1, (u.cells _ _ h1).trans l2⟩
set_option maxHeartbeats 8000000 in
theorem walkErok (v : Value) (m : Mdl) (co : Int) {w : World} (h : ∃ A n c B k d, v = .agg #[.slice A n c, .slice B k d, .int .i64 m.til] ∧ MdlV w A n B k m) :
    Calls Try.prog 4 #[v, .int .i64 co] w fun x w' => x = .returned (.bool true) ∧ Up w w' := by
  obtain ⟨A, n, c, B, k, d, rfl, hM⟩ := h
  have HM := Lib.hid hM
  have hk := hM.big
  have BX := Lib.hid (Box3.new w (.slice A n c) (.slice B k d) (.int .i64 m.til) 27)
  have CS := Lib.hid (fun W (u : Up w W) => szMdl_any A n c B k d m W (hM.up u))
  have CT := Lib.hid (fun W (u : Up w W) hS => toMdl_any A n c B k d m W (hM.up u) hS)
  have CP := Lib.hid (fun A n c B k d W (h : MdlV W A n B k m) => specRok_any A n c B k d m co W h)
  have CI := Lib.hid (fun A n c B k d W (h : MdlV W A n B k m) => implRok_any A n c B k d m co W h)
  have CE := Lib.hid (fun A n c B k d A' n' c' B' k' d' W (h1 : MdlV W A n B k m) (h2 : MdlV W A' n' B' k' m) (hS : FitM m) => eqMdl_any A n c B k d m A' n' c' B' k' d' m W h1 h2 hS)
  have DM := Lib.hid (show decide (m = m) = true from decide_eq_true rfl)
  generalize revOkV m co = b at CP CI
  clear hM
  have bne0 : (b != b) = false := by cases b <;> rfl
  unfold NewMdl at CT
  generalize htil : m.til = til at *
  go_enter Try.func4, Try.ntmps4
  go_wp2_with fail
  refine (CS.out _ ((Up.refl _).alloc _)).mono ?_; rintro x w1 ⟨z, rfl, hz, u1⟩
  have U1 := Lib.hid (((Up.refl w).alloc _).trans u1)
  have B1 := Lib.hid (BX.out.up u1)
  clear u1
  rcases hz with rfl | ⟨z0, z1, hS⟩
  · go_wp2
    go_ret
    exact ⟨rfl, U1.out⟩
  · have SH := Lib.hid hS
    have j0 : ¬ z < 0 := by omega
    clear hS; obtain ⟨q0, q1, q2⟩ := And.intro B1.out.c0 (And.intro B1.out.c1 B1.out.c2)
    go_wp2_with fail
    refine (CT.out _ U1.out SH.out).mono ?_; rintro x w2 ⟨g1, g2, rfl, hg1, hg2, o1, o2, u2⟩
    have O1 := Lib.hid o1
    have O2 := Lib.hid o2
    have U2 := Lib.hid (U1.out.trans u2)
    clear o1 o2
    go_wp2_with fail
    refine (CP.out (some ⟨g1, 0, none⟩) n n (some ⟨g2, 0, none⟩) k k _ (NewMdl.v O1.out O2.out hk)).mono ?_; rintro x w3 ⟨rfl, u3⟩
    have U3 := Lib.hid (U2.out.trans u3)
    have B3 := Lib.hid ((B1.out.up u2).up u3)
    clear u2 u3 O1 O2 hg1 hg2 q0 q1 q2; obtain ⟨q0, q1, q2⟩ := And.intro B3.out.c0 (And.intro B3.out.c1 B3.out.c2)
    go_wp2_with fail
    refine (CT.out _ U3.out SH.out).mono ?_; rintro x w4 ⟨g3, g4, rfl, hg3, hg4, o3, o4, u4⟩
    have ua := (Up.refl w4).alloc (.cells #[.slice (some ⟨g3, 0, none⟩) n n, .slice (some ⟨g4, 0, none⟩) k k, .int .i64 til] 33)
    have V4 := Lib.hid ((NewMdl.v o3 o4 hk).up ua)
    have U4 := Lib.hid ((U3.out.trans u4).trans ua)
    have B4 := Lib.hid ((B3.out.up u4).up ua)
    have X4 := Lib.hid (Box3.new w4 (.slice (some ⟨g3, 0, none⟩) n n) (.slice (some ⟨g4, 0, none⟩) k k) (.int .i64 til) 33)
    clear u4 o3 o4 hg3 hg4 q0 q1 q2 ua
    go_wp2_with fail
    generalize hb1 : w4.heap.size = b1 at X4 ⊢
    generalize w4.alloc (.cells #[.slice (some ⟨g3, 0, none⟩) n n, .slice (some ⟨g4, 0, none⟩) k k, .int .i64 til] 33) = W at V4 U4 B4 X4 ⊢
    clear hb1; refine (CI.out _ n n _ k k _ V4.out).mono ?_; rintro x w5 ⟨rfl, u5⟩
    have V5 := Lib.hid (V4.out.up u5)
    have U5 := Lib.hid (U4.out.trans u5)
    have B5 := B4.out.up u5
    have X5 := X4.out.up u5
    generalize hb0 : w.heap.size = b0 at B5
    have HB := And.intro B5.lt (And.intro X5.lt (And.intro B5.c0 (And.intro B5.c1 (And.intro B5.c2 (And.intro X5.c0 (And.intro X5.c1 X5.c2))))))
    have HH := Lib.hid HB
    clear u5 B5 X5 HB V4 U4 B4 X4 CI CP
    go_wp2_with fail
    try rw [hb0]
    clear hb0 BX B1 B3; obtain ⟨l0, l1, q0, q1, q2, r0, r1, r2⟩ := HH.out
    go_region_held3 (fun w' => b0 < w'.heap.size ∧ b1 < w'.heap.size ∧ w'.cell? ⟨b0, 0, none⟩ = some (.slice A n c) ∧ w'.cell? ⟨b0, 1, none⟩ = some (.slice B k d) ∧ w'.cell? ⟨b0, 2, none⟩ = some (.int .i64 til) ∧ w'.cell? ⟨b1, 0, none⟩ = some (.slice (some ⟨g3, 0, none⟩) n n) ∧ w'.cell? ⟨b1, 1, none⟩ = some (.slice (some ⟨g4, 0, none⟩) k k) ∧ w'.cell? ⟨b1, 2, none⟩ = some (.int .i64 til))
      (first | (exact HH.out) | (exact two_upr uF (by assumption)) | (exact two_upr uE (by assumption)))
      (first
        | (go_at_call 20; refine (CT.out _ (U5.out.trans (Up.refl _).drew) SH.out).mono ?_; rintro x wE ⟨g5, g6, rfl, hg5, hg6, o5, o6, uE⟩; have VE := Lib.hid (NewMdl.v o5 o6 hk); clear o5 o6)
        | (go_at_call 22; refine (CE.out _ n n _ k k _ n n _ k k _ (V5.out.up ((Up.refl _).drew.trans uE)) VE.out SH.out.fit).mono ?_; rintro x wF ⟨rfl, uF⟩))
    have U9 := Lib.hid (U5.out.trans (((Up.refl _).drew.trans uE).trans uF))
    clear uE uF l0 l1 q0 q1 q2 r0 r1 r2; go_wp2; go_ret
    exact ⟨rfl, U9.out⟩
end Go.Proofs.Ytakmlfgkppekoaa

namespace Go.Proofs.Ytakmlfgkppekoaa.fnExactRevOk
set_option maxRecDepth 100000
open Go.ChangeShapes Go.WideShapes Go.ChangeAt Go.RowKit Go.Joins Go.Deep
set_option linter.unusedVariables false
set_option maxRecDepth 100000 in
theorem lifted (os : Os) (started : os.Started) (H : Type) (enc : TypeId × Value → H) :
    ReturnsInHanded {} Try.checked os 4 .any (Rows.fnExactRevOkSpec.pre6 enc Try.prog Try.f4 Rows.fnExactRevOkRow.domain false) (Rows.fnExactRevOkSpec.post enc Try.prog Try.f4 false true false false) := by
  refine returnsInHanded_of_change (C := Try.checked) own started (by kernel_rfl) Try.func4
    (ChangeSpec.witness6 (enc := enc) (C := Try.checked) false ⟨#[], #[.agg #[.slice none 0 0, .slice none 0 0, .int .i64 0], .int .i64 0], []⟩ 8 (by kernel_rfl) (by kernel_rfl) (by kernel_rfl) (by kernel_rfl)) ?_
  intro W base args ds gs before hval0 hW hcnd _
  have hval : ∀ (j : Nat) t v, Try.f4.params[j]? = some t → args[j]? = some v → Value.okWide Try.prog W .any base t v := hval0
  have hW' := hW
  obtain ⟨p, q, hA0, hV, rfl, hfz, hnd⟩ := hW
  have hA : DataW.TrodAll enc Try.prog W 0 (fun _ => true) true Try.f4.params.toList args.toList ds p := hA0
  rw [Try.params4] at hA hval; obtain ⟨v0, vs0, d0, ds0, p0, q0, hargs, rfl, rfl, h0, r0⟩ := trodAll_cons hA; obtain ⟨v1, vs1, d1, ds1, p1, q1, rfl, rfl, rfl, h1, r1⟩ := trodAll_cons r0; obtain ⟨rfl, rfl, rfl⟩ := trodAll_nil r1
  obtain rfl : args = #[v0, v1] := by cases args; simp_all
  obtain ⟨rfl, rfl⟩ := trodVars_none hV
  have k0 := h0
  have lt0 : ∀ x ∈ p0, x.block < W.heap.size := by obtain ⟨m, hm⟩ := k0; exact DataW.trod_lt m _ _ _ hm
  obtain ⟨a0, w0⟩ := open_mdl (hval 0 27 v0 rfl rfl) h0
  have k1 := h1
  have lt1 : ∀ x ∈ p1, x.block < W.heap.size := by obtain ⟨m, hm⟩ := k1; exact DataW.trod_lt m _ _ _ hm
  obtain ⟨a1, rfl, rfl, rfl, w1'⟩ := open_int Try.underlying3 (hval 1 3 v1 rfl rfl) h1
  have w1 := i64_of_wf w1'
  clear hA0 hval0
  refine (walkErok v0 a0 a1 w0).mono fun e W' ⟨he, bel⟩ => ?_
  subst he
  exact ⟨_, rfl, _, _, _, [], _, [], hW', trodAll_mk1 (shut_bool Try.underlying4 _), (trodAll_cons_mk (Below.trod laidOut (by kernel_rfl) (of_decide_eq_true (by kernel_rfl)) k0 bel lt0) (trodAll_cons_mk (Below.trod laidOut (by kernel_rfl) (of_decide_eq_true (by kernel_rfl)) k1 bel lt1) trodAll_mk0)), rfl, bel.frame _, fun h => by cases h⟩
theorem over : Rows.fnExactRevOkRow.holds Try.pinned (OpenSpec.ofChange Rows.fnExactRevOkSpec) :=
  OpenClaim.holds_of_wide 4 Try.f4 rfl rfl rfl rfl rfl rfl rfl ⟨rfl, rfl, rfl, rfl, rfl⟩ rfl rfl rfl rfl rfl (by kernel_rfl) Try.func4 (by kernel_rfl)
    (of_decide_eq_true (by kernel_rfl)) (by unfold Func.isWrapper; first | (rw [if_pos (by decide +kernel)]; kernel_rfl) | (rw [if_neg (by decide +kernel)]; exact ⟨rfl, rfl⟩))
    (fun os started H enc _ => lifted os started H enc)
theorem proved : Rows.FnExactRevOkSaid := over
end Go.Proofs.Ytakmlfgkppekoaa.fnExactRevOk

/-
  What toMdlModel returns, in one sentence: the same model over new blocks; for every model that lies in memory and was counted.
  What undoing an event gives, in one sentence: lists and numbers, and what doing and undoing have to do with each other; no condition is made.
  What minus, inverse and impl.RevInverse return, in one sentence: the difference and the inverse modulo 97, and 0 where there is none; for numbers in bounds, RevInverse for every number.
  What times, plus and next return, in one sentence: the product, the sum and the next state modulo 97; for numbers in bounds.
  What holds returns, in one sentence: whether the condition of a send holds; for a state and a send in bounds.
  What invertible, holding, previous and undo return, in one sentence: whether a is not 0, how many sends' conditions hold, the state ahead, and the component ahead of an event; for a machine that holds a valid model's rules and a valid component.
  What previous returns, in one sentence: the state ahead of an event; for a rule, a state and data in bounds, where a is not 0.
-/
import Derived.Laws.StructEq
import Derived.Test.YtakmlfgkppekoaaDLEbak01
import Derived.Test.YtakmlfgkppekoaaDLEbak02
import Derived.Test.YtakmlfgkppekoaaDLEbak04
import Derived.Test.YtakmlfgkppekoaaDLEbak05
import Derived.Test.YtakmlfgkppekoaaDLEbak07
import Derived.Test.YtakmlfgkppekoaaDLEbak08
import Derived.Test.YtakmlfgkppekoaaDLEbak09
import Derived.Test.YtakmlfgkppekoaaDLEbak11
namespace Go.Proofs.Ytakmlfgkppekoaa
set_option maxRecDepth 100000
open Go.RowKit
theorem set3_at {w : World} {b : Nat} {x y z : Value} (h : ∀ k, k < 3 → ∃ v, w.cell? ⟨b, k, none⟩ = some v) :
    (((w.setCell ⟨b, 0, none⟩ x).setCell ⟨b, 1, none⟩ y).setCell ⟨b, 2, none⟩ z).cell? ⟨b, 0, none⟩ = some x ∧ (((w.setCell ⟨b, 0, none⟩ x).setCell ⟨b, 1, none⟩ y).setCell ⟨b, 2, none⟩ z).cell? ⟨b, 1, none⟩ = some y ∧ (((w.setCell ⟨b, 0, none⟩ x).setCell ⟨b, 1, none⟩ y).setCell ⟨b, 2, none⟩ z).cell? ⟨b, 2, none⟩ = some z := by
  have ne : ∀ k j, k ≠ j → (⟨b, k, none⟩ : Addr) ≠ ⟨b, j, none⟩ := fun k j hk => addr_ne (by omega)
  obtain ⟨v0, h0⟩ := h 0 (by omega); obtain ⟨v1, h1⟩ := h 1 (by omega); obtain ⟨v2, h2⟩ := h 2 (by omega); refine ⟨?_, ?_, ?_⟩
  · rw [World.cell?_setCell_other _ _ _ _ (ne 2 0 (by omega)), World.cell?_setCell_other _ _ _ _ (ne 1 0 (by omega))]
    exact World.cell?_setCell_same _ _ _ h0
  · rw [World.cell?_setCell_other _ _ _ _ (ne 2 1 (by omega))]
    exact World.cell?_setCell_same _ _ _ ((World.cell?_setCell_other _ _ _ _ (ne 0 1 (by omega))).trans h1)
  · exact World.cell?_setCell_same _ _ _ ((World.cell?_setCell_other _ _ _ _ (ne 1 2 (by omega))).trans ((World.cell?_setCell_other _ _ _ _ (ne 0 2 (by omega))).trans h2))
theorem free_new (w : World) (xs : Array Value) (t : TypeId) (j : Nat) : (w.alloc (.cells xs t)).frozen? ⟨w.heap.size, j, none⟩ = false := by
  have hh := heap_alloc_new w (.cells xs t)
  unfold World.frozen?; rw [hh]; simp
set_option maxHeartbeats 4000000 in
theorem toMdl_any (A : Option Addr) (n c : Nat) (B : Option Addr) (k d : Nat) (m : Mdl) (w : World) (hM : MdlV w A n B k m) (hS : ShortM m n) :
    Calls Try.prog 20 #[.agg #[.slice A n c, .slice B k d, .int .i64 m.til]] w (NewMdl m n k w) := by
  obtain ⟨rs, es, til⟩ := m
  have CR := Lib.hid (fun W (u : Up w W) => toRuleSS_any A n c rs W hS.few (hM.rules.up u) hS.shorts)
  have CE := Lib.hid (fun W (u : Up w W) => toS_any B k d es W (by have := hM.starts.1; have := hS.fit.2; dsimp only at *; omega) (hM.starts.up u))
  clear hM hS; unfold NewMdl; dsimp only
  go_enter Try.func20, Try.ntmps20
  go_wp2_with fail
  refine (CR.out _ ((((Up.refl w).alloc _).alloc _).alloc _)).mono ?_; rintro x w1 ⟨g1, rfl, hg1, o1, u1⟩
  have O1 := Lib.hid o1
  have U1 := Lib.hid ((((Up.refl w).alloc _).alloc _).alloc _ |>.trans u1)
  simp at hg1
  have Z1 := Lib.hid (fun j (hj : j < 3) => (show ∃ v, w1.cell? ⟨w.heap.size + 1, j, none⟩ = some v by
    obtain ⟨v, hv⟩ := somes_new (w.alloc (.cells #[.slice A n c, .slice B k d, .int .i64 til] 27)) #[.slice none 0 0, .slice none 0 0, .int .i64 0] 33 j hj
    have hs : (w.alloc (.cells #[.slice A n c, .slice B k d, .int .i64 til] 27)).heap.size = w.heap.size + 1 := by simp
    rw [hs] at hv
    exact ⟨v, (((Up.refl _).alloc _).trans u1).cells _ _ (by simp) |>.trans hv⟩))
  have x2 := (Box3.new ((w.alloc (.cells #[.slice A n c, .slice B k d, .int .i64 til] 27)).alloc (.cells #[.slice none 0 0, .slice none 0 0, .int .i64 0] 33)) (.slice none 0 0) (.slice none 0 0) (.int .i64 0) 33).up u1
  simp only [World.size_alloc] at x2
  have X2 := Lib.hid x2
  have X0 := Lib.hid ((Box3.new w (.slice A n c) (.slice B k d) (.int .i64 til) 27).up ((((Up.refl _).alloc _).alloc _).trans u1))
  have FA := Lib.hid (fun j => (show w1.frozen? ⟨w.heap.size + 1, j, none⟩ = false by
    have h := free_new (w.alloc (.cells #[.slice A n c, .slice B k d, .int .i64 til] 27)) #[.slice none 0 0, .slice none 0 0, .int .i64 0] 33 j
    simp only [World.size_alloc] at h
    exact ((((Up.refl _).alloc _).trans u1).frozens _ _ (by simp)).trans h))
  have FB := Lib.hid (fun j => (show w1.frozen? ⟨w.heap.size + 1 + 1, j, none⟩ = false by
    have h := free_new ((w.alloc (.cells #[.slice A n c, .slice B k d, .int .i64 til] 27)).alloc (.cells #[.slice none 0 0, .slice none 0 0, .int .i64 0] 33)) #[.slice none 0 0, .slice none 0 0, .int .i64 0] 33 j
    simp only [World.size_alloc] at h
    exact (u1.frozens _ _ (by simp)).trans h))
  obtain ⟨hc, hf, hz⟩ := u1.facts; simp at hz; clear o1 u1 x2
  have ne2 : w.heap.size + 1 + 1 ≠ w.heap.size := by omega
  go_wp2_with fail
  refine (CE.out _ (U1.out.setCell (by dsimp only; omega) _)).mono ?_; rintro x w2 ⟨g2, rfl, hg2, o2, u2⟩; simp at hg2
  have O2 := Lib.hid o2
  have U2 := Lib.hid ((U1.out.setCell (p := ⟨w.heap.size + 1 + 1, 0, none⟩) (by dsimp only; omega) (.slice (some ⟨g1, 0, none⟩) n n)).trans u2)
  have O1' := Lib.hid ((O1.out.setFar (p := ⟨w.heap.size + 1 + 1, 0, none⟩) (by dsimp only; omega) (.slice (some ⟨g1, 0, none⟩) n n)).up u2)
  have Z2 := Lib.hid (fun j (hj : j < 3) => (show ∃ v, w2.cell? ⟨w.heap.size + 1, j, none⟩ = some v by
    obtain ⟨v, hv⟩ := Z1.out j hj
    exact ⟨v, (u2.cells _ _ (by simp; omega)).trans ((World.cell?_setCell_other _ _ _ _ (addr_ne (by omega))).trans hv)⟩))
  have y0 : w2.cell? ⟨w.heap.size + 1 + 1, 0, none⟩ = some (.slice (some ⟨g1, 0, none⟩) n n) := (u2.cells _ _ (by have := X2.out.lt; simpa using this)).trans (World.cell?_setCell_same _ _ _ X2.out.c0)
  have y1 : w2.cell? ⟨w.heap.size + 1 + 1, 1, none⟩ = some (.slice none 0 0) := (u2.cells _ _ (by have := X2.out.lt; simpa using this)).trans ((World.cell?_setCell_other _ _ _ _ (addr_ne (by omega))).trans X2.out.c1)
  have y2 : w2.cell? ⟨w.heap.size + 1 + 1, 2, none⟩ = some (.int .i64 0) := (u2.cells _ _ (by have := X2.out.lt; simpa using this)).trans ((World.cell?_setCell_other _ _ _ _ (addr_ne (by omega))).trans X2.out.c2)
  have lt2 : w.heap.size + 1 + 1 < (w1.setCell ⟨w.heap.size + 1 + 1, 0, none⟩ (.slice (some ⟨g1, 0, none⟩) n n)).heap.size := by have := X2.out.lt; simpa using this
  have q2 : w2.cell? ⟨w.heap.size, 2, none⟩ = some (.int .i64 til) := (u2.cells _ _ (by omega)).trans ((World.cell?_setCell_other _ _ _ _ (addr_ne (by omega))).trans X0.out.c2)
  have fA : ∀ j, w2.frozen? ⟨w.heap.size + 1, j, none⟩ = false := fun j => (u2.frozens _ _ (by omega)).trans (by have := FA.out j; simpa [go_sem] using this)
  have fB : ∀ j, w2.frozen? ⟨w.heap.size + 1 + 1, j, none⟩ = false := fun j => (u2.frozens _ _ lt2).trans (by have := FB.out j; simpa [go_sem] using this)
  obtain ⟨z0, zz0⟩ := Z2.out 0 (by omega); obtain ⟨z1, zz1⟩ := Z2.out 1 (by omega); obtain ⟨z2, zz2⟩ := Z2.out 2 (by omega); clear hc hf
  have HG1 := Lib.hid hg1
  have HG2 := Lib.hid hg2
  clear o2 u2 Z1 hg1 hg2 O1; go_wp2
  have K := set3_at (w := (w2.setCell ⟨w.heap.size + 1 + 1, 1, none⟩ (.slice (some ⟨g2, 0, none⟩) k k)).setCell ⟨w.heap.size + 1 + 1, 2, none⟩ (.int .i64 til)) (b := w.heap.size + 1) (x := .slice (some ⟨g1, 0, none⟩) n n) (y := .slice (some ⟨g2, 0, none⟩) k k) (z := .int .i64 til) (fun j hj => by
    obtain ⟨v, hv⟩ := Z2.out j hj
    exact ⟨v, (World.cell?_setCell_other _ _ _ _ (addr_ne (by omega))).trans ((World.cell?_setCell_other _ _ _ _ (addr_ne (by omega))).trans hv)⟩)
  have far : ∀ j, (⟨w.heap.size + 1, j, none⟩ : Addr).block < g1 ∧ (⟨w.heap.size + 1, j, none⟩ : Addr).block ≠ g2 := fun j => by have := HG1.out; have := HG2.out; dsimp only; omega
  have far2 : ∀ j, (⟨w.heap.size + 1 + 1, j, none⟩ : Addr).block < g1 ∧ (⟨w.heap.size + 1 + 1, j, none⟩ : Addr).block ≠ g2 := fun j => by have := HG1.out; have := HG2.out; dsimp only; omega
  have OA := Lib.hid (((((O1'.out.setFar (far2 1).1 (.slice (some ⟨g2, 0, none⟩) k k)).setFar (far2 2).1 (.int .i64 til)).setFar (far 0).1 (.slice (some ⟨g1, 0, none⟩) n n)).setFar (far 1).1 (.slice (some ⟨g2, 0, none⟩) k k)).setFar (far 2).1 (.int .i64 til))
  have OB := Lib.hid (((((O2.out.setFar (far2 1).2 (.slice (some ⟨g2, 0, none⟩) k k)).setFar (far2 2).2 (.int .i64 til)).setFar (far 0).2 (.slice (some ⟨g1, 0, none⟩) n n)).setFar (far 1).2 (.slice (some ⟨g2, 0, none⟩) k k)).setFar (far 2).2 (.int .i64 til))
  have near : ∀ j, w.heap.size ≤ (⟨w.heap.size + 1, j, none⟩ : Addr).block := fun j => by dsimp only; omega
  have near2 : ∀ j, w.heap.size ≤ (⟨w.heap.size + 1 + 1, j, none⟩ : Addr).block := fun j => by dsimp only; omega
  have UA := Lib.hid (((((U2.out.setCell (near2 1) (.slice (some ⟨g2, 0, none⟩) k k)).setCell (near2 2) (.int .i64 til)).setCell (near 0) (.slice (some ⟨g1, 0, none⟩) n n)).setCell (near 1) (.slice (some ⟨g2, 0, none⟩) k k)).setCell (near 2) (.int .i64 til))
  obtain ⟨k0, k1, k2⟩ := K
  exact bodyPost_ret (v := .agg #[.slice (some ⟨g1, 0, none⟩) n n, .slice (some ⟨g2, 0, none⟩) k k, .int .i64 til]) (by simp [results, Try.results20, go_sem, k0, k1, k2]) rfl ⟨g1, g2, rfl, by have := HG1.out; omega, by have := HG2.out; omega, OA.out, OB.out, UA.out⟩
theorem NewMdl.v {m : Mdl} {n k g1 g2 : Nat} {w : World} (h1 : RulzF w g1 n m.rules) (h2 : Own w g2 k m.starts) (hk : k ≤ 9223372036854775807) : MdlV w (some ⟨g1, 0, none⟩) n (some ⟨g2, 0, none⟩) k m :=
  ⟨h1.rulz, h2.evs', hk⟩
end Go.Proofs.Ytakmlfgkppekoaa

namespace Go.Proofs.Ytakmlfgkppekoaa
set_option maxRecDepth 100000
open Go.RowKit
/-- How many sends' conditions hold. -/
def nHold (s : Int) : List Evt → Int
  | [] => 0
  | x :: xs => (if s % x.kd = x.dt then 1 else 0) + nHold s xs
theorem nHold_le (s : Int) : ∀ xs : List Evt, 0 ≤ nHold s xs ∧ nHold s xs ≤ xs.length
  | [] => by simp [nHold]
  | x :: xs => by
    have := nHold_le s xs
    rw [nHold]
    split <;> simp <;> omega
theorem nHold_drop (s : Int) (xs : List Evt) (k : Nat) (h : k < xs.length) : nHold s (xs.drop k) = (if s % (xs.getD k default).kd = (xs.getD k default).dt then 1 else 0) + nHold s (xs.drop (k + 1)) := by
  rw [List.drop_eq_getElem_cons h, nHold]; simp [h]
/-- The state ahead. -/
def prevR (r : Rule) (s d : Int) : Int := (s - (r.b * d % 97 + r.c) % 97 + 97) % 97 * invV r.a % 97
/-- What undoing gives in a valid model, for a valid component. -/
def undoE (m : Mdl) (c : Cst) (e : Evt) : Option Cst :=
  if (okB e m.rules.length && decide (e.t ≤ m.til)) = true ∧ c.ct ≠ 0 ∧ c.sq ≠ 12 then
    match ruleOf e.kd (m.rules.getD e.to.toNat []) with
    | none => some ⟨c.s, c.sq, c.ct - 1⟩
    | some r => if r.a = 0 ∨ c.sq < nHold c.s r.sends then none else some ⟨prevR r c.s e.dt, c.sq - nHold c.s r.sends, c.ct - 1⟩
  else none
def undoM (m : Mdl) (c : Cst) (e : Evt) : Option Cst := if (mdlB m && cstB c) = true then undoE m c e else none
/-- The events behind each other, the last one first. -/
def backE (m : Mdl) : Cst → List Evt → Option Cst
  | c, [] => some c
  | c, e :: es => (undoE m c e).bind fun x => backE m x es
def backM (m : Mdl) (c : Cst) (es : List Evt) : Option Cst := if (mdlB m && cstB c && decide (es.length ≤ 100)) = true then backE m c es.reverse else none
theorem prevR_le (r : Rule) (s d : Int) : 0 ≤ prevR r s d ∧ prevR r s d ≤ 96 := by
  unfold prevR
  omega
/-- As the document's own words have it. -/
theorem prev_spec (r : Rule) (s d : Int) : invV r.a * ((s + 18818 - r.b * d - r.c) % 97) % 97 = prevR r s d := by
  unfold prevR; rw [Int.mul_comm]
  have e : (s + 18818 - r.b * d - r.c) % 97 = (s - (r.b * d % 97 + r.c) % 97 + 97) % 97 := by
    generalize r.b * d = P at *
    omega
  rw [e]
theorem cst_parts {c : Cst} (h : cstB c = true) : (0 ≤ c.s ∧ c.s ≤ 96) ∧ (0 ≤ c.sq ∧ c.sq ≤ 12) ∧ 0 ≤ c.ct := by
  simpa only [cstB, Bool.and_eq_true, inB_iff, decide_eq_true_eq, and_assoc] using h
theorem cst_of {c : Cst} (h1 : 0 ≤ c.s ∧ c.s ≤ 96) (h2 : 0 ≤ c.sq ∧ c.sq ≤ 12) (h3 : 0 ≤ c.ct) : cstB c = true := by
  unfold cstB; simp only [Bool.and_eq_true, inB_iff, decide_eq_true_eq]
  exact ⟨⟨h1, h2⟩, h3⟩
/-- What is undone is a valid component. -/
theorem undoE_ok {m : Mdl} {c x : Cst} {e : Evt} (_hm : mdlB m = true) (hc : cstB c = true) (h : undoE m c e = some x) : cstB x = true ∧ x.ct = c.ct - 1 := by
  obtain ⟨h1, h2, h3⟩ := cst_parts hc; unfold undoE at h
  split at h
  · rename_i hg
    split at h
    · injection h with h
      subst h
      exact ⟨cst_of h1 h2 (by dsimp only; omega), rfl⟩
    · split at h
      · cases h
      · rename_i r _ hr
        injection h with h
        subst h
        have := nHold_le c.s r.sends
        exact ⟨cst_of (prevR_le _ _ _) (by dsimp only; omega) (by dsimp only; omega), rfl⟩
  · cases h
theorem backE_app (m : Mdl) : ∀ (xs ys : List Evt) (c : Cst), backE m c (xs ++ ys) = (backE m c xs).bind fun x => backE m x ys
  | [], ys, c => rfl
  | e :: xs, ys, c => by
    rw [List.cons_append, backE, backE]
    cases undoE m c e with
    | none => rfl
    | some x =>
      simp only [Option.bind_some]
      exact backE_app m xs ys x
end Go.Proofs.Ytakmlfgkppekoaa

namespace Go.Proofs.Ytakmlfgkppekoaa
set_option maxRecDepth 100000
open Go.RowKit
theorem timesw_any (x y : Int) (hx : 0 ≤ x ∧ x ≤ 1000) (hy : 0 ≤ y ∧ y ≤ 1000) (w : World) :
    Calls Try.prog 109 #[.int .i64 x, .int .i64 y] w fun z w' => z = .returned (.int .i64 (x * y % 97)) ∧ w = w' := by
  have h0 : 0 ≤ x * y := Int.mul_nonneg hx.1 hy.1
  have h1 : x * y ≤ 1000 * 1000 := Int.mul_le_mul hx.2 hy.2 hy.1 (by omega)
  have i1 : IntKind.i64.wrap (x * y) = x * y := IntWalk.i64_in _ (by omega)
  have i2 : (x * y).tmod 97 = x * y % 97 := Int.tmod_eq_emod_of_nonneg h0
  have i3 : IntKind.i64.wrap (x * y % 97) = x * y % 97 := IntWalk.i64_in _ (by omega)
  go_enter Try.func109, Try.ntmps109
  go_wp2; go_ret
  exact ⟨by first | rfl | simp [*], rfl⟩
theorem minus_any (x y : Int) (hx : 0 ≤ x ∧ x ≤ 1000) (hy : 0 ≤ y ∧ y ≤ 96) (w : World) :
    Calls Try.prog 108 #[.int .i64 x, .int .i64 y] w fun z w' => z = .returned (.int .i64 ((x - y + 97) % 97)) ∧ w = w' := by
  have i1 : IntKind.i64.wrap (x - y) = x - y := IntWalk.i64_in _ (by omega)
  have i4 : IntKind.i64.wrap (x - y + 97) = x - y + 97 := IntWalk.i64_in _ (by omega)
  have i2 : (x - y + 97).tmod 97 = (x - y + 97) % 97 := Int.tmod_eq_emod_of_nonneg (by omega)
  have i3 : IntKind.i64.wrap ((x - y + 97) % 97) = (x - y + 97) % 97 := IntWalk.i64_in _ (by omega)
  go_enter Try.func108, Try.ntmps108
  go_wp2; go_ret
  exact ⟨by first | rfl | simp [*], rfl⟩
set_option maxHeartbeats 4000000 in
theorem inverse_any (r : Int) (hr : 1 ≤ r ∧ r ≤ 96) (w : World) :
    Calls Try.prog 66 #[.int .i64 r] w fun x w' => x = .returned (.int .i64 (invV r)) ∧ Up w w' := by
  obtain ⟨r, rfl⟩ : ∃ x : Nat, r = x := ⟨r.toNat, by omega⟩
  have R0 : 0 < r := by omega
  have R9 : r < 97 := by omega
  have HV := Lib.hid (show invV (r : Int) = ((invN r : Nat) : Int) by rw [invV_in hr, Int.toNat_natCast])
  generalize invV (r : Int) = res at HV ⊢
  have HS := Lib.hid (Eu.start R0 R9)
  have HD := Lib.hid (fun a s t (h : Eu r a 0 s t) => h.done R0 R9)
  clear hr R0 R9
  go_enter Try.func66, Try.ntmps66
  go_wp2
  go_loopw [3, 4, 5, 6] (fun va vs vb vt wr => (∃ a s b t : Nat, va = .int .i64 a ∧ vs = .int .i64 s ∧ vb = .int .i64 b ∧ vt = .int .i64 t ∧ Hid (Eu r a b s t)) ∧ Up w wr) (fun _ _ vb _ _ => (intOf vb).toNat)
  case atStart => exact ⟨⟨97, 0, r, 1, rfl, rfl, rfl, rfl, HS⟩, Up.refl _⟩
  case round =>
    obtain ⟨⟨a, s, b, t, rfl, rfl, rfl, rfl, HE⟩, ur⟩ := hrel
    have E := HE.out
    have a97 := E.a97
    have b97 := E.b97
    have s97 := E.s97
    have t97 := E.t97
    by_cases hb : b = 0
    · subst hb
      have HZ := Lib.hid (HV.out.trans (by rw [HD.out a s t E]) : res = ((s : Nat) : Int))
      clear E; go_wp2; go_ret
      exact ⟨ret_int HZ.out.symm, ur⟩
    · have HN := Lib.hid (E.next (by omega))
      have hq : a / b ≤ 97 := Nat.le_trans (Nat.div_le_self _ _) a97
      have hbi : ¬ (b : Int) = 0 := by omega
      have hbb : ((b : Int) != 0) = true := by simp; omega
      have d1 : (a : Int).tdiv b = ((a / b : Nat) : Int) := by rw [Int.tdiv_eq_ediv_of_nonneg (by omega), Int.natCast_ediv]
      have d2 : (a : Int).tmod b = ((a % b : Nat) : Int) := by rw [Int.tmod_eq_emod_of_nonneg (by omega), Int.natCast_emod]
      have hml := Nat.mod_lt a (show b > 0 by omega)
      clear E
      generalize a / b = qn at *
      generalize a % b = rn at *
      have i1 : IntKind.i64.wrap (qn : Int) = qn := IntWalk.i64_in _ (by clear d1 d2; omega)
      have i2 : IntKind.i64.wrap (rn : Int) = rn := IntWalk.i64_in _ (by clear d1 d2; omega)
      have T1 := Lib.hid (fun W => (timesw_any (qn : Int) (t : Int) (by omega) (by omega) W))
      rw [castm] at T1
      have hy := Nat.mod_lt (qn * t) (show 97 > 0 by omega)
      generalize qn * t % 97 = y at *
      have M1 := Lib.hid (fun W => minus_any (s : Int) (y : Int) (by omega) (by omega) W)
      rw [show ((s : Int) - (y : Int) + 97) % 97 = (((s + 97 - y) % 97 : Nat) : Int) by omega] at M1
      generalize (s + 97 - y) % 97 = t2 at *
      have ML := Lib.hid hml
      clear hy hq a97 b97 s97 t97 hml HE HS
      go_wp2_with fail
      go_quiet (fail)
      go_wp2_with fail
      refine (T1.out _).mono ?_; rintro x w2 ⟨rfl, rfl⟩
      go_wp2_with fail
      refine (M1.out _).mono ?_; rintro x w3 ⟨rfl, rfl⟩; go_wp2
      go_roundw
      case rel => exact ⟨⟨b, t, rn, t2, rfl, rfl, rfl, rfl, HN⟩, ur.trans ((Up.refl _).drewN _)⟩
      case measure => have := ML.out; simp [intOf]; omega
end Go.Proofs.Ytakmlfgkppekoaa

namespace Go.Proofs.Ytakmlfgkppekoaa
set_option maxRecDepth 100000
open Go.RowKit
theorem plus_any (x y : Int) (hx : 0 ≤ x ∧ x ≤ 1000) (hy : 0 ≤ y ∧ y ≤ 1000) (w : World) :
    Calls Try.prog 142 #[.int .i64 x, .int .i64 y] w fun z w' => z = .returned (.int .i64 ((x + y) % 97)) ∧ w = w' := by
  have h0 : 0 ≤ x + y := by omega
  have i1 : IntKind.i64.wrap (x + y) = x + y := IntWalk.i64_in _ (by omega)
  have i2 : (x + y).tmod 97 = (x + y) % 97 := Int.tmod_eq_emod_of_nonneg h0
  have i3 : IntKind.i64.wrap ((x + y) % 97) = (x + y) % 97 := IntWalk.i64_in _ (by omega)
  go_enter Try.func142, Try.ntmps142
  go_wp2; go_ret
  exact ⟨by first | rfl | simp [*], rfl⟩
theorem plus_up (x y : Int) (hx : 0 ≤ x ∧ x ≤ 1000) (hy : 0 ≤ y ∧ y ≤ 1000) (w : World) :
    Calls Try.prog 142 #[.int .i64 x, .int .i64 y] w fun z w' => z = .returned (.int .i64 ((x + y) % 97)) ∧ Up w w' :=
  (plus_any x y hx hy w).mono (by rintro z w' ⟨rfl, rfl⟩; exact ⟨rfl, Up.refl _⟩)
/-- What takes says of an event, in a machine of so many components and that end. -/
theorem takes_any (M : Value) (many til : Int) (e : Evt) (mp : Option Nat) (hM : M = .agg #[.map mp, .int .i64 many, .int .i64 til]) (w : World) :
    Calls Try.prog 84 #[M, e.v] w fun z w' => z = .returned (.bool (okB e many && decide (e.t ≤ til))) ∧ Up w w' := by
  subst hM
  have OC := Lib.hid (fun W => implOk_any e many W)
  generalize okB e many = b at OC ⊢
  obtain ⟨et, eto, efr, esq, ekd, edt⟩ := e
  have X3 := Lib.hid ((Box3.new w (.map mp) (.int .i64 many) (.int .i64 til) 106).up ((Up.refl _).alloc (.cells #[.int .i64 et, .int .i64 eto, .int .i64 efr, .int .i64 esq, .int .i64 ekd, .int .i64 edt] 45)))
  unfold Evt.v at OC ⊢; dsimp only at OC ⊢
  go_enter Try.func84, Try.ntmps84
  go_wp2_with fail
  refine (OC.out _).mono ?_; rintro v w1 ⟨rfl, u1⟩
  have x3 := X3.out.up u1
  have x5 := (Box.new (w.alloc (.cells #[.map mp, .int .i64 many, .int .i64 til] 106)) ⟨et, eto, efr, esq, ekd, edt⟩ 45).up u1
  simp only [World.size_alloc] at x5; obtain ⟨b0, b1, b2⟩ := And.intro x3.c0 (And.intro x3.c1 x3.c2); obtain ⟨⟨y0, y1, y2, y3, y4, y5⟩, -⟩ := x5.mk6
  have U := Lib.hid ((((Up.refl w).alloc (.cells #[.map mp, .int .i64 many, .int .i64 til] 106)).alloc (.cells #[.int .i64 et, .int .i64 eto, .int .i64 efr, .int .i64 esq, .int .i64 ekd, .int .i64 edt] 45)).trans u1)
  clear x3 x5 u1
  cases b
  · go_wp2
    go_ret
    exact ⟨rfl, U.out⟩
  · go_wp2
    go_ret
    exact ⟨by simp, U.out⟩
end Go.Proofs.Ytakmlfgkppekoaa

namespace Go.Proofs.Ytakmlfgkppekoaa
set_option maxRecDepth 100000
open Go.RowKit
theorem holds_any (x : Evt) (S : Int) (hS : 0 ≤ S ∧ S ≤ 1000) (hk : 1 ≤ x.kd ∧ x.kd ≤ 1000) (w : World) :
    Calls Try.prog 121 #[x.v, .int .i64 S] w fun z w' => z = .returned (.bool (decide (S % x.kd = x.dt))) ∧ Up w w' := by
  obtain ⟨xt, xto, xfr, xsq, xkd, xdt⟩ := x; unfold Evt.v; dsimp only at hk ⊢
  have r1 : S.tmod xkd = S % xkd := Int.tmod_eq_emod_of_nonneg hS.1
  have r0 : ¬ xkd = 0 := by omega
  have rb : 0 ≤ S % xkd ∧ S % xkd ≤ 1000 := ⟨Int.emod_nonneg _ r0, by have := Int.emod_lt_of_pos S (show 0 < xkd by omega); omega⟩
  have r2 : IntKind.i64.wrap (S % xkd) = S % xkd := IntWalk.i64_in _ (by omega)
  by_cases h1 : S % xkd = xdt
  · have hb1 : (S % xkd == xdt) = true := by simp [h1]
    have HD := Lib.hid (show decide (S % xkd = xdt) = true from decide_eq_true h1)
    generalize decide (S % xkd = xdt) = d at HD ⊢
    clear h1 rb
    go_enter Try.func121, Try.ntmps121
    go_wp2_with fail
    go_quiet (fail)
    go_wp2; go_ret
    exact ⟨ret_bool HD.out.symm, ((Up.refl _).alloc _).drewN _⟩
  · have hb1 : (S % xkd == xdt) = false := by simp [h1]
    have HD := Lib.hid (show decide (S % xkd = xdt) = false from decide_eq_false h1)
    generalize decide (S % xkd = xdt) = d at HD ⊢
    clear h1 rb
    go_enter Try.func121, Try.ntmps121
    go_wp2_with fail
    go_quiet (fail)
    go_wp2; go_ret
    exact ⟨ret_bool HD.out.symm, ((Up.refl _).alloc _).drewN _⟩
end Go.Proofs.Ytakmlfgkppekoaa

namespace Go.Proofs.Ytakmlfgkppekoaa
set_option maxRecDepth 100000
open Go.RowKit
theorem invertible_any (r : Rule) (S : Value) (w : World) (n c : Nat) (A : Option Addr) (hS : S = .slice A n c) :
    Calls Try.prog 70 #[r.v S] w fun z w' => z = .returned (.bool (decide (r.a ≠ 0))) ∧ Up w w' := by
  obtain ⟨kd, ra, rb, rc, es⟩ := r; subst hS; unfold Rule.v; dsimp only
  by_cases h : ra = 0
  · subst h
    go_enter Try.func70, Try.ntmps70
    go_wp2; go_ret
    exact ⟨rfl, (Up.refl _).alloc _⟩
  · have h1 : (ra != 0) = true := by simp [h]
    have HD := Lib.hid (show decide (ra ≠ 0) = true from decide_eq_true h)
    generalize decide (ra ≠ 0) = d at HD ⊢
    go_enter Try.func70, Try.ntmps70
    go_wp2; go_ret
    exact ⟨ret_bool HD.out.symm, (Up.refl _).alloc _⟩
set_option maxHeartbeats 4000000 in
theorem holding_any (r : Rule) (w : World) (n c : Nat) (A : Option Addr) (hE : Evs w A n r.sends) (hs : ∀ i, i < r.sends.length → 1 ≤ (r.sends.getD i default).kd ∧ (r.sends.getD i default).kd ≤ 1000) (hn : n ≤ 2) (s : Int) (hS : 0 ≤ s ∧ s ≤ 1000) :
    Calls Try.prog 114 #[r.v (.slice A n c), .int .i64 s] w fun z w' => z = .returned (.int .i64 (nHold s r.sends)) ∧ Up w w' := by
  obtain ⟨kd, ra, rb, rc, es⟩ := r; unfold Rule.v; dsimp only at hE hs ⊢
  have HE := Lib.hid hE
  have HK := Lib.hid hs
  have LN := Lib.hid hE.1
  have ND := Lib.hid (fun k h => nHold_drop s es k h)
  have NL := Lib.hid (nHold_le s es)
  have NE := Lib.hid (show ∀ k, es.length ≤ k → nHold s (es.drop k) = 0 from fun k h => by rw [List.drop_eq_nil_of_le h]; rfl)
  have H0 := Lib.hid (show 0 + nHold s (es.drop 0) = nHold s es by rw [List.drop_zero]; omega)
  have U0 := Lib.hid ((Up.refl w).alloc (.cells #[.int .i64 kd, .int .i64 ra, .int .i64 rb, .int .i64 rc, .slice A n c] 63))
  generalize nHold s es = N at H0 NL ⊢
  clear hE hs
  go_enter Try.func114, Try.ntmps114
  go_wp2
  go_loopw [5, 11] (fun l i wr => (∃ (q : Nat) (z : Int), q ≤ n ∧ i = .int .i64 q ∧ l = .int .i64 z ∧ (0 ≤ z ∧ z ≤ q) ∧ Hid (z + nHold s (es.drop q) = N)) ∧ Up w wr) (fun _ i _ => n - (intOf i).toNat)
  case atStart => exact ⟨⟨0, 0, by omega, rfl, rfl, by omega, H0⟩, U0.out⟩
  case round =>
    obtain ⟨⟨q, z, hq, rfl, rfl, hz, HZ⟩, ur⟩ := hrel; obtain ⟨wo, hwo⟩ : ∃ W, W = wr := ⟨_, rfl⟩; subst hwo
    have UR := Lib.hid ur
    clear ur
    by_cases hlt : q < n
    · obtain ⟨b, off, hA, hb, hc⟩ := (HE.out.up UR.out).2 (by omega)
      subst hA
      have a0 := hc q hlt
      have DR := Lib.hid (ND.out q (by rw [LN.out]; exact hlt))
      have hk := HK.out q (by rw [LN.out]; exact hlt)
      clear hc
      generalize es.getD q default = x at a0 DR hk
      have CH := Lib.hid (fun W => holds_any x s hS hk W)
      obtain ⟨xt, xto, xfr, xsq, xkd, xdt⟩ := x; unfold EvAt at a0; unfold Evt.v at CH; dsimp only at a0 DR CH; obtain ⟨v0, v1, v2, v3, v4, v5⟩ := a0
      have UX := Lib.hid (UR.out.alloc (.cells #[.int .i64 xt, .int .i64 xto, .int .i64 xfr, .int .i64 xsq, .int .i64 xkd, .int .i64 xdt] 140))
      have i4 : (q : Int) < n := by omega
      have i5 : IntKind.i64.wrap ((q : Int) + 1) = (q : Int) + 1 := IntWalk.i64_in _ (by omega)
      have i6 : IntKind.i64.wrap (z + 1) = z + 1 := IntWalk.i64_in _ (by omega)
      by_cases h1 : s % xkd = xdt
      · have HN := Lib.hid (show z + 1 + nHold s (es.drop (q + 1)) = N by rw [← HZ.out, DR.out, if_pos h1]; omega)
        rw [decide_eq_true h1] at CH; clear h1 DR hk
        go_wp2_with fail
        refine (CH.out _).mono ?_; rintro x w1 ⟨rfl, u1⟩
        have U1 := Lib.hid (UX.out.trans u1)
        clear u1 v0 v1 v2 v3 v4 v5; go_wp2
        go_roundw
        case rel => exact ⟨⟨q + 1, z + 1, by omega, by go_num, rfl, by omega, HN⟩, U1.out⟩
        case measure => simp [intOf]; omega
      · have HN := Lib.hid (show z + nHold s (es.drop (q + 1)) = N by rw [← HZ.out, DR.out, if_neg h1]; omega)
        rw [decide_eq_false h1] at CH; clear h1 DR hk
        go_wp2_with fail
        refine (CH.out _).mono ?_; rintro x w1 ⟨rfl, u1⟩
        have U1 := Lib.hid (UX.out.trans u1)
        clear u1 v0 v1 v2 v3 v4 v5; go_wp2
        go_roundw
        case rel => exact ⟨⟨q + 1, z, by omega, by go_num, rfl, by omega, HN⟩, U1.out⟩
        case measure => simp [intOf]; omega
    · have HN := Lib.hid (show z = N by rw [← HZ.out, NE.out q (by rw [LN.out]; omega)]; omega)
      have i4 : ¬ (q : Int) < n := by omega
      go_wp2; go_ret
      exact ⟨ret_int HN.out, UR.out⟩
end Go.Proofs.Ytakmlfgkppekoaa

namespace Go.Proofs.Ytakmlfgkppekoaa
set_option maxRecDepth 100000
open Go.RowKit
set_option maxHeartbeats 4000000 in
theorem previous_any (r : Rule) (S : Value) (s d : Int) (ha : 1 ≤ r.a ∧ r.a ≤ 96) (hb : 0 ≤ r.b ∧ r.b ≤ 96) (hc : 0 ≤ r.c ∧ r.c ≤ 96) (hs : 0 ≤ s ∧ s ≤ 96) (hd : 0 ≤ d ∧ d ≤ 96) (w : World) (n c : Nat) (A : Option Addr) (hS : S = .slice A n c) :
    Calls Try.prog 115 #[r.v S, .int .i64 s, .int .i64 d] w fun z w' => z = .returned (.int .i64 (prevR r s d)) ∧ Up w w' := by
  have PV := Lib.hid (show (s - (r.b * d % 97 + r.c) % 97 + 97) % 97 * invV r.a % 97 = prevR r s d from rfl)
  generalize prevR r s d = res at PV ⊢
  obtain ⟨kd, ra, rb, rc, es⟩ := r; subst hS; dsimp only at ha hb hc PV ⊢
  have T1 := Lib.hid (fun W => (timesw_any rb d (by omega) (by omega) W).mono (R' := fun z w' => z = .returned (.int .i64 (rb * d % 97)) ∧ Up W w') (by rintro z w' ⟨rfl, rfl⟩; exact ⟨rfl, Up.refl _⟩))
  have p1 : 0 ≤ rb * d % 97 ∧ rb * d % 97 ≤ 96 := by omega
  generalize rb * d % 97 = x at T1 PV p1
  have P1 := Lib.hid (fun W => plus_up x rc (by omega) (by omega) W)
  have p2 : 0 ≤ (x + rc) % 97 ∧ (x + rc) % 97 ≤ 96 := by omega
  generalize (x + rc) % 97 = y at P1 PV p2
  have M1 := Lib.hid (fun W => (minus_any s y (by omega) p2 W).mono (R' := fun z w' => z = .returned (.int .i64 ((s - y + 97) % 97)) ∧ Up W w') (by rintro z w' ⟨rfl, rfl⟩; exact ⟨rfl, Up.refl _⟩))
  have p3 : 0 ≤ (s - y + 97) % 97 ∧ (s - y + 97) % 97 ≤ 96 := by omega
  generalize (s - y + 97) % 97 = u at M1 PV p3
  have V1 := Lib.hid (fun W => inverse_any ra ha W)
  have p4 := invV_le ra
  generalize invV ra = i at V1 PV p4
  have T2 := Lib.hid (fun W => (timesw_any u i (by omega) (by omega) W).mono (R' := fun z w' => z = .returned (.int .i64 (u * i % 97)) ∧ Up W w') (by rintro z w' ⟨rfl, rfl⟩; exact ⟨rfl, Up.refl _⟩))
  rw [PV.out] at T2
  have B5 := Lib.hid (Box5.new w (.int .i64 kd) (.int .i64 ra) (.int .i64 rb) (.int .i64 rc) (.slice A n c) 63)
  have u0 := Lib.hid ((Up.refl w).alloc (.cells #[.int .i64 kd, .int .i64 ra, .int .i64 rb, .int .i64 rc, .slice A n c] 63))
  clear ha hb hc hs hd p1 p2 p3 p4 PV; unfold Rule.v; dsimp only
  go_enter Try.func115, Try.ntmps115
  go_wp2_with fail
  refine region_qw (by kernel_rfl) (by kernel_rfl) ?_; refine qWalk_step ?_; intro K hK; go_simp; apply Exists.intro; refine And.intro ?_ ?_
  · intro w1 hw1
    try go_simp
    try rfl
  try go_simp
  refine hK _ ?_; clear hK K; refine qWalk_step ?_; intro K hK; go_simp; apply Exists.intro; refine And.intro ?_ ?_
  · intro w1 hw1
    obtain ⟨hc, hf, hz⟩ := hw1.facts
    try simp at hz
    try go_simp
    try rfl
  try go_simp
  refine hK _ ?_; clear hK K; refine qWalk_step ?_; intro K hK; go_simp; apply Exists.intro; refine And.intro ?_ ?_
  · intro w1 hw1
    try go_simp
    try rfl
  try go_simp
  refine hK _ ?_; clear hK K; refine qWalk_step ?_; intro K hK; go_simp; apply Exists.intro; refine And.intro ?_ ?_
  · intro w1 hw1
    try go_simp
    exact up_call hw1 (T1.out _)
  try go_simp
  refine hK _ ?_; clear hK K; refine qWalk_step ?_; intro K hK; go_simp; apply Exists.intro; refine And.intro ?_ ?_
  · intro w1 hw1
    try go_simp
    try rfl
  try go_simp
  refine hK _ ?_; clear hK K; refine qWalk_step ?_; intro K hK; go_simp; apply Exists.intro; refine And.intro ?_ ?_
  · intro w1 hw1
    obtain ⟨hc, hf, hz⟩ := hw1.facts
    try simp at hz
    try go_simp
    try rfl
  try go_simp
  refine hK _ ?_; clear hK K; refine qWalk_step ?_; intro K hK; go_simp; apply Exists.intro; refine And.intro ?_ ?_
  · intro w1 hw1
    try go_simp
    exact up_call hw1 (P1.out _)
  try go_simp
  refine hK _ ?_; clear hK K; refine qWalk_step ?_; intro K hK; go_simp; apply Exists.intro; refine And.intro ?_ ?_
  · intro w1 hw1
    try go_simp
    try rfl
  try go_simp
  refine hK _ ?_; clear hK K; refine qWalk_nil ?_; intro wA uA
  have B5 := Lib.hid (B5.out.up uA)
  have u0 := Lib.hid (u0.out.trans uA)
  clear uA; obtain ⟨q0, q1, q2, q3, q4⟩ := And.intro B5.out.c0 (And.intro B5.out.c1 (And.intro B5.out.c2 (And.intro B5.out.c3 B5.out.c4)))
  have ql := B5.out.lt
  go_wp2_with fail
  refine region_qw (by kernel_rfl) (by kernel_rfl) ?_; refine qWalk_step ?_; intro K hK; go_simp; apply Exists.intro; refine And.intro ?_ ?_
  · intro w1 hw1
    try go_simp
    try rfl
  try go_simp
  refine hK _ ?_; clear hK K; refine qWalk_step ?_; intro K hK; go_simp; apply Exists.intro; refine And.intro ?_ ?_
  · intro w1 hw1
    try go_simp
    try rfl
  try go_simp
  refine hK _ ?_; clear hK K; refine qWalk_step ?_; intro K hK; go_simp; apply Exists.intro; refine And.intro ?_ ?_
  · intro w1 hw1
    try go_simp
    exact up_call hw1 (M1.out _)
  try go_simp
  refine hK _ ?_; clear hK K; refine qWalk_step ?_; intro K hK; go_simp; apply Exists.intro; refine And.intro ?_ ?_
  · intro w1 hw1
    try go_simp
    try rfl
  try go_simp
  refine hK _ ?_; clear hK K; refine qWalk_step ?_; intro K hK; go_simp; apply Exists.intro; refine And.intro ?_ ?_
  · intro w1 hw1
    obtain ⟨hc, hf, hz⟩ := hw1.facts
    try simp at hz
    try go_simp
    try rfl
  try go_simp
  refine hK _ ?_; clear hK K; refine qWalk_step ?_; intro K hK; go_simp; apply Exists.intro; refine And.intro ?_ ?_
  · intro w1 hw1
    try go_simp
    exact up_call hw1 (V1.out _)
  try go_simp
  refine hK _ ?_; clear hK K; refine qWalk_step ?_; intro K hK; go_simp; apply Exists.intro; refine And.intro ?_ ?_
  · intro w1 hw1
    try go_simp
    exact up_call hw1 (T2.out _)
  try go_simp
  refine hK _ ?_; clear hK K; refine qWalk_step ?_; intro K hK; go_simp; apply Exists.intro; refine And.intro ?_ ?_
  · intro w1 hw1
    try go_simp
    try rfl
  try go_simp
  refine hK _ ?_; clear hK K; refine qWalk_nil ?_; intro wB uB
  have U := Lib.hid (u0.out.trans uB)
  clear uB; go_wp2; go_ret
  exact ⟨rfl, U.out⟩
end Go.Proofs.Ytakmlfgkppekoaa

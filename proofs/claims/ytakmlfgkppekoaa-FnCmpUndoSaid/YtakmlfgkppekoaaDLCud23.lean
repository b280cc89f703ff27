/-
  Inverses modulo 97, in one sentence: numbers, and one step of the Euclidean algorithm; no condition is made.
  What undoing an event gives, in one sentence: lists and numbers, and what doing and undoing have to do with each other; no condition is made.
  The machine's map of rules, in one sentence: a block that is a map by component and kind has the values that a function tells; looked up, stored into, kept; no condition is made.
  What a machine's map holds, in one sentence: for each component and kind the model's rule, if there is one; no condition is made.
  What RevOk returns, in one sentence: whether the model is valid, the component exists, and a is not 0 in all its rules; defined over lists; no condition is made.
  What FnCmpUndo asks of the lists, in one sentence: doing after undoing, undoing after doing; no condition is made.
  What toMdlModel returns, in one sentence: the same model over new blocks; for every model that lies in memory and was counted.
-/
import Derived.DeepKeys4
import Derived.Maps.OwnSet
import Derived.Test.YtakmlfgkppekoaaDLCud01
import Derived.Test.YtakmlfgkppekoaaDLCud03
import Derived.Test.YtakmlfgkppekoaaDLCud06
import Derived.Test.YtakmlfgkppekoaaDLCud08
import Derived.Test.YtakmlfgkppekoaaDLCud09
import Derived.Test.YtakmlfgkppekoaaDLCud16
import Derived.Test.YtakmlfgkppekoaaDLCud21
namespace Go.Proofs.Ytakmlfgkppekoaa
set_option maxRecDepth 100000
open Go.RowKit
/-- The inverse modulo 97. -/
def invN (a : Nat) : Nat := a ^ 95 % 97
def invT : Bool := (List.range 97).all fun a => a == 0 || (List.range 97).all fun b => (a * b % 97 == 1) == (b == invN a)
theorem invT_true : invT = true := by decide +kernel
theorem invN_iff {a b : Nat} (ha : 0 < a) (h97 : a < 97) (hb : b < 97) : a * b % 97 = 1 ↔ b = invN a := by
  have h := invT_true
  unfold invT at h; rw [List.all_eq_true] at h
  have h1 := h a (List.mem_range.2 h97)
  rw [Bool.or_eq_true] at h1
  rcases h1 with h1 | h1
  · have h1 := eq_of_beq h1
    omega
  · rw [List.all_eq_true] at h1
    have h2 := eq_of_beq (h1 b (List.mem_range.2 hb))
    rw [Bool.eq_iff_iff, beq_iff_eq, beq_iff_eq] at h2
    exact h2
theorem invN_lt (a : Nat) : invN a < 97 := Nat.mod_lt _ (by decide)
theorem invN_mul {a : Nat} (ha : 0 < a) (h97 : a < 97) : a * invN a % 97 = 1 := (invN_iff ha h97 (invN_lt a)).2 rfl
theorem invN_pos {a : Nat} (ha : 0 < a) (h97 : a < 97) : 0 < invN a := by
  rcases Nat.eq_zero_or_pos (invN a) with h | h
  · have := invN_mul ha h97
    rw [h] at this; simp at this
  · exact h
/-- What RevInverse returns. -/
def invV (a : Int) : Int := if inB a 1 96 = true then ((invN a.toNat : Nat) : Int) else 0
theorem invV_in {a : Int} (h : 1 ≤ a ∧ a ≤ 96) : invV a = ((invN a.toNat : Nat) : Int) := by
  unfold invV; rw [if_pos (inB_iff.2 h)]
theorem invV_no {a : Int} (h : ¬ (1 ≤ a ∧ a ≤ 96)) : invV a = 0 := by
  unfold invV; rw [if_neg (by rw [inB_iff]; exact h)]
theorem invV_le (a : Int) : 0 ≤ invV a ∧ invV a ≤ 96 := by
  by_cases h : 1 ≤ a ∧ a ≤ 96
  · rw [invV_in h]
    have := invN_lt a.toNat
    omega
  · rw [invV_no h]
    omega
theorem invV_pos {a : Int} (h : 1 ≤ a ∧ a ≤ 96) : 1 ≤ invV a := by
  rw [invV_in h]
  have := @invN_pos a.toNat (by omega) (by omega)
  omega
theorem castm (a b : Nat) : ((a : Int) * (b : Int)) % 97 = ((a * b % 97 : Nat) : Int) := by
  rw [Int.natCast_emod, Int.natCast_mul]
  rfl
theorem invV_iff {a b : Int} (h : 1 ≤ a ∧ a ≤ 96) (hb : 0 ≤ b ∧ b ≤ 96) : a * b % 97 = 1 ↔ b = invV a := by
  obtain ⟨x, rfl⟩ : ∃ x : Nat, a = x := ⟨a.toNat, by omega⟩; obtain ⟨y, rfl⟩ : ∃ y : Nat, b = y := ⟨b.toNat, by omega⟩; rw [invV_in h, castm, Int.toNat_natCast]
  have := @invN_iff x y (by omega) (by omega) (by omega)
  omega
theorem invV_mul {a : Int} (h : 1 ≤ a ∧ a ≤ 96) : a * invV a % 97 = 1 := (invV_iff h (invV_le a)).2 rfl
/-- A step of the Euclidean algorithm. -/
structure Eu (r a b s t : Nat) : Prop where
  a97 : a ≤ 97
  b97 : b < 97
  s97 : s < 97
  t97 : t < 97
  sa : s * r % 97 = a % 97
  tb : t * r % 97 = b % 97
  one : Nat.gcd a b = 1
theorem Eu.start {r : Nat} (h : 0 < r) (h97 : r < 97) : Eu r 97 r 0 1 :=
  ⟨by omega, h97, by omega, by omega, by simp, by simp, by
    have hall : ((List.range 97).all fun r => r == 0 || Nat.gcd 97 r == 1) = true := by decide +kernel
    rw [List.all_eq_true] at hall
    have h1 := hall r (List.mem_range.2 h97)
    rw [Bool.or_eq_true] at h1
    rcases h1 with h1 | h1
    · have h1 := eq_of_beq h1
      omega
    · exact eq_of_beq h1⟩
theorem Eu.next {r a b s t : Nat} (h : Eu r a b s t) (hb : 0 < b) : Eu r b (a % b) t ((s + 97 - a / b * t % 97) % 97) := by
  have hlt := Nat.mod_lt a hb
  have h97 := h.b97
  refine ⟨by omega, by omega, h.t97, Nat.mod_lt _ (by decide), h.tb, ?_, ?_⟩
  · have y97 : a / b * t % 97 < 97 := Nat.mod_lt _ (by decide)
    have e1 : ((s + 97 - a / b * t % 97) % 97 + a / b * t % 97) % 97 = s % 97 := by
      have := h.s97
      omega
    have e2 : (((s + 97 - a / b * t % 97) % 97 + a / b * t % 97) * r) % 97 = (s * r) % 97 := by
      rw [Nat.mul_mod, e1, ← Nat.mul_mod]
    rw [Nat.add_mul, Nat.add_mod, h.sa] at e2
    have e3 : (a / b * t % 97 * r) % 97 = (a / b * b) % 97 := by
      rw [Nat.mul_mod, Nat.mod_mod, ← Nat.mul_mod, Nat.mul_assoc, Nat.mul_mod, h.tb, ← Nat.mul_mod]
    rw [e3] at e2
    have e4 : a / b * b + a % b = a := by
      rw [Nat.mul_comm]
      exact Nat.div_add_mod a b
    generalize (s + 97 - a / b * t % 97) % 97 * r = X at *
    generalize a / b * b = Y at *
    generalize a % b = Z at *
    omega
  · rw [← h.one, Nat.gcd_comm a b, Nat.gcd_rec b a, Nat.gcd_comm]
theorem Eu.done {r a s t : Nat} (h : Eu r a 0 s t) (hr : 0 < r) (h97 : r < 97) : s = invN r := by
  have h1 := h.one
  rw [Nat.gcd_zero_right] at h1
  have h2 := h.sa
  rw [h1, Nat.mul_comm] at h2
  exact (invN_iff hr h97 h.s97).1 h2
end Go.Proofs.Ytakmlfgkppekoaa

namespace Go.Proofs.Ytakmlfgkppekoaa
set_option maxRecDepth 100000
open Go.RowKit
/-- How many sends' conditions hold. -/
def nHold (s : Int) : List Evt → Int
  | [] => 0
  | x :: xs => (if s % x.kd = x.dt then 1 else 0) + nHold s xs
theorem nHold_le (s : Int) : ∀ xs : List Evt, 0 ≤ nHold s xs ∧ nHold s xs ≤ xs.length
  | [] => by simp [nHold]
  | x :: xs => by
    have := nHold_le s xs
    rw [nHold]
    split <;> simp <;> omega
theorem nHold_drop (s : Int) (xs : List Evt) (k : Nat) (h : k < xs.length) : nHold s (xs.drop k) = (if s % (xs.getD k default).kd = (xs.getD k default).dt then 1 else 0) + nHold s (xs.drop (k + 1)) := by
  rw [List.drop_eq_getElem_cons h, nHold]; simp [h]
/-- The state ahead. -/
def prevR (r : Rule) (s d : Int) : Int := (s - (r.b * d % 97 + r.c) % 97 + 97) % 97 * invV r.a % 97
/-- What undoing gives in a valid model, for a valid component. -/
def undoE (m : Mdl) (c : Cst) (e : Evt) : Option Cst :=
  if (okB e m.rules.length && decide (e.t ≤ m.til)) = true ∧ c.ct ≠ 0 ∧ c.sq ≠ 12 then
    match ruleOf e.kd (m.rules.getD e.to.toNat []) with
    | none => some ⟨c.s, c.sq, c.ct - 1⟩
    | some r => if r.a = 0 ∨ c.sq < nHold c.s r.sends then none else some ⟨prevR r c.s e.dt, c.sq - nHold c.s r.sends, c.ct - 1⟩
  else none
def undoM (m : Mdl) (c : Cst) (e : Evt) : Option Cst := if (mdlB m && cstB c) = true then undoE m c e else none
/-- The events behind each other, the last one first. -/
def backE (m : Mdl) : Cst → List Evt → Option Cst
  | c, [] => some c
  | c, e :: es => (undoE m c e).bind fun x => backE m x es
def backM (m : Mdl) (c : Cst) (es : List Evt) : Option Cst := if (mdlB m && cstB c && decide (es.length ≤ 100)) = true then backE m c es.reverse else none
theorem mulm {a i x : Int} (h : a * i % 97 = 1) (hx : 0 ≤ x ∧ x ≤ 96) : a * (x * i % 97) % 97 = x := by
  have h1 : a * (x * i % 97) % 97 = (a * i % 97) * x % 97 := by
    rw [Int.mul_emod, Int.emod_emod_of_dvd _ (Int.dvd_refl 97), ← Int.mul_emod, Int.mul_left_comm, Int.mul_comm x, Int.mul_emod (a * i) x, Int.mul_emod (a * i % 97) x, Int.emod_emod_of_dvd _ (Int.dvd_refl 97)]
  rw [h1, h, Int.one_mul]
  exact Int.emod_eq_of_lt hx.1 (by omega)
theorem mulm2 {a i x : Int} (h : a * i % 97 = 1) (hx : 0 ≤ x ∧ x ≤ 96) : (a * x % 97) * i % 97 = x := by
  have h1 : (a * x % 97) * i % 97 = (a * i % 97) * x % 97 := by
    rw [Int.mul_emod, Int.emod_emod_of_dvd _ (Int.dvd_refl 97), ← Int.mul_emod, Int.mul_right_comm, Int.mul_emod (a * i) x, Int.mul_emod (a * i % 97) x, Int.emod_emod_of_dvd _ (Int.dvd_refl 97)]
  rw [h1, h, Int.one_mul]
  exact Int.emod_eq_of_lt hx.1 (by omega)
theorem prevR_le (r : Rule) (s d : Int) : 0 ≤ prevR r s d ∧ prevR r s d ≤ 96 := by
  unfold prevR
  omega
theorem next_prev {r : Rule} {S d : Int} (ha : 1 ≤ r.a ∧ r.a ≤ 96) (hS : 0 ≤ S ∧ S ≤ 96) : (r.a * prevR r S d + r.b * d + r.c) % 97 = S := by
  unfold prevR
  have h := @mulm r.a (invV r.a) ((S - (r.b * d % 97 + r.c) % 97 + 97) % 97) (invV_mul ha) (by omega)
  generalize r.a * ((S - (r.b * d % 97 + r.c) % 97 + 97) % 97 * invV r.a % 97) = X at *
  generalize r.b * d = P at *
  omega
theorem prev_next {r : Rule} {s d : Int} (ha : 1 ≤ r.a ∧ r.a ≤ 96) (hs : 0 ≤ s ∧ s ≤ 96) : prevR r ((r.a * s + r.b * d + r.c) % 97) d = s := by
  unfold prevR
  have h := @mulm2 r.a (invV r.a) s (invV_mul ha) hs
  have e : ((r.a * s + r.b * d + r.c) % 97 - (r.b * d % 97 + r.c) % 97 + 97) % 97 = r.a * s % 97 := by
    generalize r.a * s = X
    generalize r.b * d = P
    omega
  rw [e, h]
/-- As the document's own words have it. -/
theorem prev_spec (r : Rule) (s d : Int) : invV r.a * ((s + 18818 - r.b * d - r.c) % 97) % 97 = prevR r s d := by
  unfold prevR; rw [Int.mul_comm]
  have e : (s + 18818 - r.b * d - r.c) % 97 = (s - (r.b * d % 97 + r.c) % 97 + 97) % 97 := by
    generalize r.b * d = P at *
    omega
  rw [e]
theorem sendsE_sq (til s : Int) (e : Evt) : ∀ (xs : List Evt) (q : Int), q ≤ 12 → (sendsE til s e xs q).2 = min 12 (q + nHold s xs)
  | [], q, h => by
    simp only [sendsE, nHold]
    omega
  | x :: xs, q, h => by
    have h0 := nHold_le s xs
    rw [sendsE, nHold]
    by_cases h1 : s % x.kd = x.dt
    · by_cases h2 : q = 12
      · rw [if_pos (.inr h2), sendsE_sq til s e xs q h, if_pos h1]
        omega
      · have h3 := sendsE_sq til s e xs (q + 1) (by omega)
        rw [if_neg (by simp [h1, h2]), if_pos h1]
        split
        · dsimp only
          rw [h3]
          omega
        · rw [h3]
          omega
    · rw [if_pos (.inl h1), sendsE_sq til s e xs q h, if_neg h1]
      omega
theorem cst_parts {c : Cst} (h : cstB c = true) : (0 ≤ c.s ∧ c.s ≤ 96) ∧ (0 ≤ c.sq ∧ c.sq ≤ 12) ∧ 0 ≤ c.ct := by
  simpa only [cstB, Bool.and_eq_true, inB_iff, decide_eq_true_eq, and_assoc] using h
theorem cst_of {c : Cst} (h1 : 0 ≤ c.s ∧ c.s ≤ 96) (h2 : 0 ≤ c.sq ∧ c.sq ≤ 12) (h3 : 0 ≤ c.ct) : cstB c = true := by
  unfold cstB; simp only [Bool.and_eq_true, inB_iff, decide_eq_true_eq]
  exact ⟨⟨h1, h2⟩, h3⟩
theorem ok_to {e : Evt} {m : Mdl} (h : okB e m.rules.length = true) : 0 ≤ e.to ∧ e.to.toNat < m.rules.length := by
  simp only [okB, Bool.and_eq_true, inB_iff] at h
  omega
/-- What is undone is a valid component. -/
theorem undoE_ok {m : Mdl} {c x : Cst} {e : Evt} (_hm : mdlB m = true) (hc : cstB c = true) (h : undoE m c e = some x) : cstB x = true ∧ x.ct = c.ct - 1 := by
  obtain ⟨h1, h2, h3⟩ := cst_parts hc; unfold undoE at h
  split at h
  · rename_i hg
    split at h
    · injection h with h
      subst h
      exact ⟨cst_of h1 h2 (by dsimp only; omega), rfl⟩
    · split at h
      · cases h
      · rename_i r _ hr
        injection h with h
        subst h
        have := nHold_le c.s r.sends
        exact ⟨cst_of (prevR_le _ _ _) (by dsimp only; omega) (by dsimp only; omega), rfl⟩
  · cases h
/-- Doing after undoing. -/
theorem do_of_undo {m : Mdl} {c x : Cst} {e : Evt} (hm : mdlB m = true) (hc : cstB c = true) (hI : c.ct ≤ 9223372036854775807) (h : undoE m c e = some x) : (doE m x e).1 = c ∧ mayB m x e = true := by
  obtain ⟨h1, h2, h3⟩ := cst_parts hc
  have hx := undoE_ok hm hc h
  have hw : IntKind.i64.wrap (c.ct - 1 + 1) = c.ct := by
    rw [IntWalk.i64_in _ (by omega)]
    omega
  unfold undoE at h
  split at h
  · rename_i hg
    have hto := ok_to (m := m) (Bool.and_eq_true_iff.1 hg.1).1
    have hmay : mayB m x e = true := by
      have := Bool.and_eq_true_iff.1 hg.1
      unfold mayB; rw [hm, hx.1, this.1, this.2]
      rfl
    refine ⟨?_, hmay⟩
    split at h
    · rename_i hr
      injection h with h
      subst h; unfold doE; rw [hr]; dsimp only; rw [hw]
    · rename_i r hr
      split at h
      · cases h
      · rename_i hno
        injection h with h
        subst h
        have hb := mdlB_rule (i := e.to.toNat) hm hto.2 hr
        have ha := (ruleB_parts hb).2.2.1
        have hn := nHold_le c.s r.sends
        unfold doE; rw [hr]; dsimp only; rw [next_prev (by omega) h1, sendsE_sq _ _ _ _ _ (by omega), hw]
        have : min 12 (c.sq - nHold c.s r.sends + nHold c.s r.sends) = c.sq := by omega
        rw [this]
  · cases h
/-- Undoing after doing. -/
theorem undo_of_do {m : Mdl} {c : Cst} {e : Evt} (h : mayB m c e = true) (hI : c.ct < 9223372036854775807) (hq : (doE m c e).1.sq ≠ 12) (ha : ∀ r, ruleOf e.kd (m.rules.getD e.to.toNat []) = some r → r.a ≠ 0) : undoE m (doE m c e).1 e = some c := by
  have h0 := h
  unfold mayB at h0; simp only [Bool.and_eq_true] at h0; obtain ⟨⟨⟨hm, hc⟩, ho⟩, ht⟩ := h0; obtain ⟨h1, h2, h3⟩ := cst_parts hc
  have hto := ok_to (m := m) ho
  have hw : IntKind.i64.wrap (c.ct + 1) = c.ct + 1 := IntWalk.i64_in _ (by omega)
  obtain ⟨cs, cq, cc⟩ := c; dsimp only at h1 h2 h3 hw
  cases hr : ruleOf e.kd (m.rules.getD e.to.toNat []) with
  | none =>
    have hz : (doE m ⟨cs, cq, cc⟩ e).1 = ⟨cs, cq, cc + 1⟩ := by
      unfold doE; rw [hr]; dsimp only; rw [hw]
    rw [hz] at hq ⊢; unfold undoE; rw [hr]; dsimp only at hq ⊢; rw [if_pos ⟨by rw [ho, ht]; rfl, by omega, hq⟩, Int.add_sub_cancel]
  | some r =>
    have hb := mdlB_rule (i := e.to.toNat) hm hto.2 hr
    have hA := (ruleB_parts hb).2.2.1
    have hA0 := ha r hr
    have hz : (doE m ⟨cs, cq, cc⟩ e).1 = ⟨(r.a * cs + r.b * e.dt + r.c) % 97, min 12 (cq + nHold ((r.a * cs + r.b * e.dt + r.c) % 97) r.sends), cc + 1⟩ := by
      unfold doE; rw [hr]; dsimp only; rw [hw, sendsE_sq _ _ _ _ _ h2.2]
    rw [hz] at hq ⊢; dsimp only at hq
    have hn := nHold_le ((r.a * cs + r.b * e.dt + r.c) % 97) r.sends
    have hP := @prev_next r cs e.dt (by omega) h1
    generalize (r.a * cs + r.b * e.dt + r.c) % 97 = S at *
    have hmin : min 12 (cq + nHold S r.sends) = cq + nHold S r.sends := by omega
    rw [hmin] at hq ⊢; unfold undoE; rw [hr]; dsimp only; rw [if_pos ⟨by rw [ho, ht]; rfl, by omega, hq⟩, if_neg (by omega), hP, Int.add_sub_cancel, Int.add_sub_cancel]
theorem backE_app (m : Mdl) : ∀ (xs ys : List Evt) (c : Cst), backE m c (xs ++ ys) = (backE m c xs).bind fun x => backE m x ys
  | [], ys, c => rfl
  | e :: xs, ys, c => by
    rw [List.cons_append, backE, backE]
    cases undoE m c e with
    | none => rfl
    | some x =>
      simp only [Option.bind_some]
      exact backE_app m xs ys x
end Go.Proofs.Ytakmlfgkppekoaa

namespace Go.Proofs.Ytakmlfgkppekoaa
set_option maxRecDepth 100000
open Go.RowKit
open Go.Maps (Keyed)
/-- A key. -/
def keyV (c k : Int) : Value := .agg #[.int .i64 c, .int .i64 k]
/-- What an element reads as: itself. -/
def valR (v : Value) : Option (DataW Value × List MemPlace) := some (.held v, [])
def ZRv : Value := .agg #[.int .i64 0, .int .i64 0, .int .i64 0, .int .i64 0, .slice none 0 0]
theorem laidOut_ : laidOutB Try.prog = true := by kernel_rfl
theorem keyLaw : Keyed Try.prog 142 :=
  Keyed.of_law (deep_law_laid laidOut_ (m := 2) (by omega) (of_decide_eq_true (by kernel_rfl)) (by kernel_rfl) (by kernel_rfl))
theorem keyCells : Try.prog.cellsOf 142 = 2 := by kernel_rfl
theorem keyType_ : Try.prog.keyType 142 = true := by kernel_rfl
theorem intCells : Try.prog.cellsOf 3 = 1 := by kernel_rfl
theorem typesMany : 2 ≤ Try.prog.types.size := of_decide_eq_true (by kernel_rfl)
theorem zeroRule (w : World) : (zeroValue 63).run Try.prog w = .ok ZRv w := by kernel_rfl
theorem key_ex (c k : Int) (hc : I64 c) (hk : I64 k) : ∃ l, keyOf Try.prog 142 (keyV c k) = some l := by
  obtain ⟨n, hn⟩ := Nat.exists_eq_add_of_le typesMany
  have wc : (Lit.int .i64 c).wf = true := by unfold I64 at hc; simp [Lit.wf, IntKind.min, IntKind.max, IntKind.signed, IntKind.bits]; omega
  have wk : (Lit.int .i64 k).wf = true := by unfold I64 at hk; simp [Lit.wf, IntKind.min, IntKind.max, IntKind.signed, IntKind.bits]; omega
  have e : Try.prog.types.size + 1 = n + 1 + 1 + 1 := by omega
  unfold keyOf keyV; rw [Try.underlying142]; dsimp only; rw [keyType_, e]; simp [Value.formed, Try.underlying142, Try.underlying3, keyCells, intCells, Program.keyLits, Value.cells, wc, wk]
/-- Block b is a map of at most n entries that has the values of f. -/
def RMap (w : World) (b n : Nat) (f : Int → Int → Option Value) : Prop :=
  ∃ D : DataW Value, w.ownsMap Try.prog 142 valR b n D ∧ Maps.IsMap D ∧ ∀ c k l, keyOf Try.prog 142 (keyV c k) = some l → (∀ zd, D.atKey l zd = match f c k with | some v => .held v | none => zd) ∧ Maps.has D l = (f c k).isSome
theorem RMap.made (w : World) : RMap (w.alloc (.map #[] 0)) w.heap.size 0 (fun _ _ => none) :=
  ⟨.map [], World.ownsMap_made w _ _ _, Maps.isMap_empty, fun _ _ _ _ => ⟨fun _ => rfl, rfl⟩⟩
theorem RMap.lt {w : World} {b n : Nat} {f : Int → Int → Option Value} (h : RMap w b n f) : b < w.heap.size := by
  obtain ⟨D, h, _⟩ := h
  exact h.lt
theorem RMap.block {w w' : World} {b n : Nat} {f : Int → Int → Option Value} (h : RMap w b n f) (e : w'.heap[b]? = w.heap[b]?) : RMap w' b n f := by
  obtain ⟨D, ⟨es, cl, hb, F, hs, hD⟩, hr⟩ := h
  exact ⟨D, ⟨es, cl, e.trans hb, F, hs, hD⟩, hr⟩
theorem RMap.up {w w' : World} {b n : Nat} {f : Int → Int → Option Value} (h : RMap w b n f) (u : Up w w') : RMap w' b n f := h.block (u.below.block b h.lt)
theorem RMap.setFar {w : World} {b n : Nat} {f : Int → Int → Option Value} (h : RMap w b n f) {p : Addr} (hp : p.block ≠ b) (u : Value) : RMap (w.setCell p u) b n f := h.block (Below.heap_setCell w p u b (fun e => hp e.symm))
theorem RMap.look {w : World} {b n : Nat} {f : Int → Int → Option Value} (h : RMap w b n f) (c k : Int) (hc : I64 c) (hk : I64 k) :
    (Instr.lookup 104 (.map (some b)) (.agg #[.int .i64 c, .int .i64 k]) true).run Try.prog w = .ok (.tuple #[(f c k).getD ZRv, .bool (f c k).isSome]) w := by
  obtain ⟨D, ho, _, hr⟩ := h; obtain ⟨l, hl⟩ := key_ex c k hc hk; obtain ⟨h1, h2⟩ := hr c k l hl; obtain ⟨v, ps, hrun, hv⟩ := ho.look_ok keyLaw Try.underlying104 (zeroRule w) (zd := .held ZRv) (zp := []) rfl hl
  have e : v = (f c k).getD ZRv := by
    rw [h1 (.held ZRv)] at hv; simp only [valR, Option.some.injEq, Prod.mk.injEq] at hv
    cases hf : f c k with
    | none => rw [hf] at hv; simpa using hv.1
    | some u => rw [hf] at hv; simpa using hv.1
  rw [h2, e] at hrun
  exact hrun
theorem mapTurned_mv {w w' : World} {b : Nat} (h : w.mapTurned w' b) : Mv b w w' := by
  obtain ⟨es, clock, es', clock', hb, rfl⟩ := h
  exact ⟨rfl, rfl, rfl, by simp [ChangeMaps.setBlock], fun k _ hne => ChangeMaps.heap_setBlock_other hb _ hne⟩
theorem RMap.store {w : World} {b n : Nat} {f : Int → Int → Option Value} (h : RMap w b n f) (hn : n < maxLen) (c k : Int) (hc : I64 c) (hk : I64 k) (v : Value) :
    ∃ w', (Instr.mapUpdate 104 (.map (some b)) (.agg #[.int .i64 c, .int .i64 k]) v).run Try.prog w = .ok () w' ∧ RMap w' b (n + 1) (fun c' k' => if c' = c ∧ k' = k then some v else f c' k') ∧ Mv b w w' := by
  obtain ⟨D, ho, hm, hr⟩ := h; obtain ⟨l, hl⟩ := key_ex c k hc hk; obtain ⟨w', hrun, ho', ht⟩ := ho.store keyLaw Try.underlying104 hn (val := v) (d := .held v) (ps := []) hl rfl; refine ⟨w', hrun, ⟨D.put l (.held v), ho', hm.put _ _, fun c' k' l' hl' => ?_⟩, mapTurned_mv ht⟩
  by_cases e : l' = l
  · subst e
    have hkk := keyLaw.inj hl' hl
    simp only [keyV, Value.agg.injEq] at hkk
    have h0 := congrArg (fun a => a[0]?) hkk
    have h1 := congrArg (fun a => a[1]?) hkk
    simp at h0 h1; simp only [if_pos (And.intro h0 h1)]
    exact ⟨fun zd => Maps.atKey_put_same hm (keyLaw.key hl) _ _, Maps.has_put_same hm (keyLaw.key hl) _⟩
  · have hne : ¬ (c' = c ∧ k' = k) := fun ⟨h0, h1⟩ => by
      subst h0 h1; rw [hl] at hl'
      injection hl' with hl'
      exact e hl'.symm
    simp only [if_neg hne]; obtain ⟨h1, h2⟩ := hr c' k' l' hl'
    exact ⟨fun zd => (Maps.atKey_put_other e _ _).trans (h1 zd), (Maps.has_put_other e _).trans h2⟩
end Go.Proofs.Ytakmlfgkppekoaa

namespace Go.Proofs.Ytakmlfgkppekoaa
set_option maxRecDepth 100000
open Go.RowKit
/-- A rule as a value over a slice that holds its sends. -/
def RowV (w : World) (o : Option Rule) (v : Option Value) : Prop :=
  match o with
  | none => v = none
  | some r => ∃ A n c, v = some (r.v (.slice A n c)) ∧ n ≤ 9223372036854775807 ∧ Evs w A n r.sends
theorem RowV.up {w w' : World} {o : Option Rule} {v : Option Value} (h : RowV w o v) (u : Up w w') : RowV w' o v := by
  cases o with
  | none => exact h
  | some r =>
    obtain ⟨A, n, c, h1, h2, h3⟩ := h
    exact ⟨A, n, c, h1, h2, h3.up u⟩
/-- The last rule of a kind. -/
def lastOf (kd : Int) : List Rule → Option Rule
  | [] => none
  | r :: rs => match lastOf kd rs with
    | some x => some x
    | none => if r.kd = kd then some r else none
theorem lastOf_snoc (kd : Int) (r : Rule) : ∀ rs : List Rule, lastOf kd (rs ++ [r]) = if r.kd = kd then some r else lastOf kd rs
  | [] => by simp [lastOf]
  | x :: rs => by
    rw [List.cons_append, lastOf, lastOf_snoc kd r rs]
    by_cases h : r.kd = kd
    · simp [h]
    · simp only [if_neg h]
      rw [lastOf]
theorem lastOf_take (kd : Int) (rs : List Rule) (q : Nat) (h : q < rs.length) : lastOf kd (rs.take (q + 1)) = if (rs.getD q default).kd = kd then some (rs.getD q default) else lastOf kd (rs.take q) := by
  rw [List.take_succ_eq_append_getElem h, lastOf_snoc]; simp [h]
theorem lastOf_past {many kd : Int} : ∀ {bf : Int} {rs : List Rule}, rulesB many bf rs = true → kd ≤ bf → lastOf kd rs = none
  | _, [], _, _ => rfl
  | bf, x :: rs, h, hk => by
    rw [rulesB, Bool.and_eq_true, Bool.and_eq_true] at h
    have h1 := of_decide_eq_true h.1.1
    rw [lastOf, lastOf_past h.2 (by omega)]
    exact if_neg (by omega)
theorem lastOf_ruleOf {many kd : Int} : ∀ {bf : Int} {rs : List Rule}, rulesB many bf rs = true → lastOf kd rs = ruleOf kd rs
  | _, [], _ => rfl
  | bf, x :: rs, h => by
    rw [rulesB, Bool.and_eq_true, Bool.and_eq_true] at h; rw [lastOf, ruleOf]
    by_cases hk : x.kd = kd
    · rw [lastOf_past h.2 (by omega), if_pos hk]
      exact (if_pos hk).symm
    · rw [lastOf_ruleOf h.2, if_neg hk, if_neg hk]
      cases ruleOf kd rs <;> rfl
theorem rulesB_len {many : Int} : ∀ {bf : Int} {rs : List Rule}, rulesB many bf rs = true → -1 ≤ bf → bf ≤ 2 → (rs.length : Int) ≤ 2 - bf
  | bf, [], _, _, h2 => by simp; omega
  | bf, x :: rs, h, h1, h2 => by
    rw [rulesB, Bool.and_eq_true, Bool.and_eq_true] at h
    have k1 := of_decide_eq_true h.1.1
    have k2 := h.1.2
    simp only [ruleB, Bool.and_eq_true, inB_iff] at k2
    have := rulesB_len h.2 (by omega) (by omega)
    simp only [List.length_cons]
    omega
theorem rulesB_mem {many : Int} : ∀ {bf : Int} {rs : List Rule}, rulesB many bf rs = true → ∀ i, i < rs.length → ruleB (rs.getD i default) many = true
  | _, [], _, _, h => absurd h (by simp)
  | bf, x :: rs, h, 0, _ => by
    rw [rulesB, Bool.and_eq_true, Bool.and_eq_true] at h
    exact h.1.2
  | bf, x :: rs, h, i + 1, hi => by
    rw [rulesB, Bool.and_eq_true, Bool.and_eq_true] at h
    simpa using rulesB_mem h.2 i (by simpa using hi)
theorem mdlB_row {m : Mdl} (hm : mdlB m = true) (i : Nat) (hi : i < m.rules.length) : rulesB m.rules.length (-1) (m.rules.getD i []) = true := by
  simp only [mdlB, Bool.and_eq_true, List.all_eq_true] at hm; refine hm.2 (m.rules.getD i []) ?_; rw [List.getD, List.getElem?_eq_getElem hi]
  exact List.getElem_mem hi
theorem mdlB_few {m : Mdl} (hm : mdlB m = true) : 1 ≤ m.rules.length ∧ m.rules.length ≤ 4 := by
  simp only [mdlB, Bool.and_eq_true] at hm
  have := inB_iff.1 hm.1.1.1
  omega
/-- What stands at a key when i components and q rules of the next are stored. -/
def upto (rss : List (List Rule)) (i q : Nat) (c k : Int) : Option Rule :=
  if c < 0 then none else if c < i then lastOf k (rss.getD c.toNat []) else if c = i then lastOf k ((rss.getD i []).take q) else none
def Filled (w : World) (rss : List (List Rule)) (i q : Nat) (f : Int → Int → Option Value) : Prop := ∀ c k, RowV w (upto rss i q c k) (f c k)
theorem Filled.start (w : World) (rss : List (List Rule)) : Filled w rss 0 0 (fun _ _ => none) := fun c k => by
  have e : upto rss 0 0 c k = none := by
    unfold upto
    split
    · rfl
    · split
      · omega
      · split
        · simp [lastOf]
        · rfl
  rw [e]
  rfl
theorem Filled.step {w : World} {rss : List (List Rule)} {i q : Nat} {f : Int → Int → Option Value} (h : Filled w rss i q f) {r : Rule} (hq : q < (rss.getD i []).length) (hr : (rss.getD i []).getD q default = r) {A : Option Addr} {n c : Nat}
    (hn : n ≤ 9223372036854775807) (he : Evs w A n r.sends) : Filled w rss i (q + 1) (fun c' k' => if c' = (i : Int) ∧ k' = r.kd then some (r.v (.slice A n c)) else f c' k') := fun c' k' => by
  have h0 := h c' k'
  have e : upto rss i (q + 1) c' k' = if c' = (i : Int) ∧ k' = r.kd then some r else upto rss i q c' k' := by
    unfold upto
    by_cases hc : c' = (i : Int)
    · subst hc
      have n1 : ¬ (i : Int) < 0 := by omega
      have n2 : ¬ (i : Int) < i := by omega
      simp only [if_neg n1, if_neg n2, if_true]; rw [lastOf_take _ _ _ hq, hr]
      by_cases hk : k' = r.kd
      · rw [if_pos hk.symm, if_pos ⟨trivial, hk⟩]
      · rw [if_neg (fun e => hk e.symm), if_neg (fun e => hk e.2)]
    · rw [if_neg hc, if_neg (fun e : c' = (i : Int) ∧ k' = r.kd => hc e.1), if_neg hc]
  rw [e]
  by_cases hc : c' = (i : Int) ∧ k' = r.kd
  · simp only [if_pos hc]
    exact ⟨A, n, c, rfl, hn, he⟩
  · simp only [if_neg hc]
    exact h0
theorem Filled.row {w : World} {rss : List (List Rule)} {i q : Nat} {f : Int → Int → Option Value} (h : Filled w rss i q f) (hq : (rss.getD i []).length ≤ q) : Filled w rss (i + 1) 0 f := fun c k => by
  have h0 := h c k
  have e : upto rss (i + 1) 0 c k = upto rss i q c k := by
    unfold upto
    by_cases h1 : c < 0
    · rw [if_pos h1, if_pos h1]
    · rw [if_neg h1, if_neg h1]
      by_cases h2 : c < (i : Int)
      · rw [if_pos h2, if_pos (by omega)]
      · rw [if_neg h2]
        by_cases h3 : c = (i : Int)
        · subst h3
          rw [if_pos (by omega), if_pos rfl, List.take_of_length_le hq]; simp
        · rw [if_neg (by omega), if_neg h3]
          split
          · simp [lastOf]
          · rfl
  rw [e]
  exact h0
/-- The map of a model. -/
def Mach (w : World) (b : Nat) (m : Mdl) : Prop :=
  ∃ N f, RMap w b N f ∧ ∀ c k, RowV w (if 0 ≤ c then ruleOf k (m.rules.getD c.toNat []) else none) (f c k)
theorem Filled.done {w : World} {m : Mdl} (hm : mdlB m = true) {f : Int → Int → Option Value} (h : Filled w m.rules m.rules.length 0 f) : ∀ c k, RowV w (if 0 ≤ c then ruleOf k (m.rules.getD c.toNat []) else none) (f c k) := fun c k => by
  have h0 := h c k
  have e : upto m.rules m.rules.length 0 c k = if 0 ≤ c then ruleOf k (m.rules.getD c.toNat []) else none := by
    unfold upto
    by_cases h1 : c < 0
    · rw [if_pos h1, if_neg (show ¬ (0 : Int) ≤ c by omega)]
    · rw [if_neg h1, if_pos (show (0 : Int) ≤ c by omega)]
      by_cases h2 : c < (m.rules.length : Int)
      · rw [if_pos h2, lastOf_ruleOf (mdlB_row hm c.toNat (by omega))]
      · rw [if_neg h2]
        have : m.rules.getD c.toNat [] = [] := by
          rw [List.getD, List.getElem?_eq_none (by omega)]
          rfl
        rw [this]
        split
        · simp [lastOf, ruleOf]
        · rfl
  rw [← e]
  exact h0
theorem Mach.up {w w' : World} {b : Nat} {m : Mdl} (h : Mach w b m) (u : Up w w') : Mach w' b m := by
  obtain ⟨N, f, h1, h2⟩ := h
  exact ⟨N, f, h1.up u, fun c k => (h2 c k).up u⟩
/-- Looked up. -/
theorem Mach.look {w W : World} {b : Nat} {m : Mdl} (h : Mach w b m) (u : Up w W) (c k : Int) (hc : I64 c) (hk : I64 k) (h0 : 0 ≤ c) :
    (ruleOf k (m.rules.getD c.toNat []) = none ∧ (Instr.lookup 104 (.map (some b)) (.agg #[.int .i64 c, .int .i64 k]) true).run Try.prog W = .ok (.tuple #[.agg #[.int .i64 0, .int .i64 0, .int .i64 0, .int .i64 0, .slice none 0 0], .bool false]) W) ∨
    ∃ r A n cp, ruleOf k (m.rules.getD c.toNat []) = some r ∧ n ≤ 9223372036854775807 ∧ Evs w A n r.sends ∧ (Instr.lookup 104 (.map (some b)) (.agg #[.int .i64 c, .int .i64 k]) true).run Try.prog W = .ok (.tuple #[.agg #[.int .i64 r.kd, .int .i64 r.a, .int .i64 r.b, .int .i64 r.c, .slice A n cp], .bool true]) W := by
  obtain ⟨N, f, h1, h2⟩ := h
  have hr := h2 c k
  rw [if_pos h0] at hr
  have hl := (h1.up u).look c k hc hk
  cases ho : ruleOf k (m.rules.getD c.toNat []) with
  | none =>
    rw [ho] at hr; unfold RowV at hr; dsimp only at hr; rw [hr] at hl
    exact .inl ⟨rfl, hl⟩
  | some r =>
    rw [ho] at hr; obtain ⟨A, n, cp, e, hn, he⟩ := hr; rw [e] at hl
    exact .inr ⟨r, A, n, cp, rfl, hn, he, hl⟩
theorem wpList_store_R {P : Program} (hP : P = Try.prog) (w : World) {ops : Array Oper} {rest : List Oper} {o : Oper} {a : Act} {Q : Exit → Act → World → Prop}
    (hg : o.guard = none) (m x v : Operand) (hop : o.op = Op.mapUpdate 104 m x v) (b n : Nat) (f : Int → Int → Option Value) (hm : a.eval m = .map (some b)) (h : RMap w b n f) (hn : n < maxLen)
    (c k : Int) (hx : a.eval x = .agg #[.int .i64 c, .int .i64 k]) (hc : I64 c) (hk : I64 k) (val : Value) (hv : a.eval v = val)
    (hK : ∀ w', RMap w' b (n + 1) (fun c' k' => if c' = c ∧ k' = k then some val else f c' k') → Mv b w w' → wpList P ops Q rest (a.put o.dst undef) w') : wpList P ops Q (o :: rest) a w := by
  subst hP
  refine wpList_plain hg fun K' hK' => ?_
  obtain ⟨w', hrun, r1, r2⟩ := h.store hn c k hc hk val; unfold Oper.wp; simp [execOp, hop, hm, hx, hv, hrun, Result.andThen]
  exact hK' _ _ (hK w' r1 r2)
end Go.Proofs.Ytakmlfgkppekoaa

namespace Go.Proofs.Ytakmlfgkppekoaa
set_option maxRecDepth 100000
open Go.RowKit
def nz (r : Rule) : Bool := decide (r.a ≠ 0)
def revOkV (m : Mdl) (co : Int) : Bool := mdlB m && inB co 0 ((m.rules.length : Int) - 1) && (m.rules.getD co.toNat []).all nz
end Go.Proofs.Ytakmlfgkppekoaa

namespace Go.Proofs.Ytakmlfgkppekoaa
set_option maxRecDepth 100000
open Go.RowKit
theorem may_of_undo {m : Mdl} {c x : Cst} {e : Evt} (hI : c.ct ≤ 9223372036854775807) (h : undoM m c e = some x) : (doM m x e).1 = c := by
  unfold undoM at h
  split at h
  · rename_i hg
    obtain ⟨hm, hc⟩ := Bool.and_eq_true_iff.1 hg; obtain ⟨h1, h2⟩ := do_of_undo hm hc hI h; rw [doM, if_pos h2]
    exact h1
  · cases h
theorem nz_of {m : Mdl} {e : Evt} (h : revOkV m e.to = true) : ∀ r, ruleOf e.kd (m.rules.getD e.to.toNat []) = some r → r.a ≠ 0 := fun r hr => by
  unfold revOkV at h
  have h1 := List.all_eq_true.1 (Bool.and_eq_true_iff.1 h).2 r (inRule hr)
  simpa [nz] using h1
theorem undo_of_may {m : Mdl} {c : Cst} {e : Evt} (hI : c.ct ≤ 1000000) (h : mayB m c e = true) (hr : revOkV m e.to = true) (hq : (doM m c e).1.sq ≠ 12) : undoM m (doM m c e).1 e = some c := by
  have hf := may_facts m c e (by omega) h
  have h0 := h
  unfold mayB at h0; simp only [Bool.and_eq_true] at h0
  have hd : doM m c e = doE m c e := by rw [doM, if_pos h]
  unfold undoM; rw [h0.1.1.1, hf.cst]; rw [if_pos (by rfl)]; rw [hd] at hq ⊢
  exact undo_of_do h (by omega) hq (nz_of hr)
end Go.Proofs.Ytakmlfgkppekoaa

namespace Go.Proofs.Ytakmlfgkppekoaa
set_option maxRecDepth 100000
open Go.RowKit
theorem set3_at {w : World} {b : Nat} {x y z : Value} (h : ∀ k, k < 3 → ∃ v, w.cell? ⟨b, k, none⟩ = some v) :
    (((w.setCell ⟨b, 0, none⟩ x).setCell ⟨b, 1, none⟩ y).setCell ⟨b, 2, none⟩ z).cell? ⟨b, 0, none⟩ = some x ∧ (((w.setCell ⟨b, 0, none⟩ x).setCell ⟨b, 1, none⟩ y).setCell ⟨b, 2, none⟩ z).cell? ⟨b, 1, none⟩ = some y ∧ (((w.setCell ⟨b, 0, none⟩ x).setCell ⟨b, 1, none⟩ y).setCell ⟨b, 2, none⟩ z).cell? ⟨b, 2, none⟩ = some z := by
  have ne : ∀ k j, k ≠ j → (⟨b, k, none⟩ : Addr) ≠ ⟨b, j, none⟩ := fun k j hk => addr_ne (by omega)
  obtain ⟨v0, h0⟩ := h 0 (by omega); obtain ⟨v1, h1⟩ := h 1 (by omega); obtain ⟨v2, h2⟩ := h 2 (by omega); refine ⟨?_, ?_, ?_⟩
  · rw [World.cell?_setCell_other _ _ _ _ (ne 2 0 (by omega)), World.cell?_setCell_other _ _ _ _ (ne 1 0 (by omega))]
    exact World.cell?_setCell_same _ _ _ h0
  · rw [World.cell?_setCell_other _ _ _ _ (ne 2 1 (by omega))]
    exact World.cell?_setCell_same _ _ _ ((World.cell?_setCell_other _ _ _ _ (ne 0 1 (by omega))).trans h1)
  · exact World.cell?_setCell_same _ _ _ ((World.cell?_setCell_other _ _ _ _ (ne 1 2 (by omega))).trans ((World.cell?_setCell_other _ _ _ _ (ne 0 2 (by omega))).trans h2))
theorem free_new (w : World) (xs : Array Value) (t : TypeId) (j : Nat) : (w.alloc (.cells xs t)).frozen? ⟨w.heap.size, j, none⟩ = false := by
  have hh := heap_alloc_new w (.cells xs t)
  unfold World.frozen?; rw [hh]; simp
end Go.Proofs.Ytakmlfgkppekoaa

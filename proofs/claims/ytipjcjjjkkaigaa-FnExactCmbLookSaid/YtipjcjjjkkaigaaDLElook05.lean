/-
  The least delay of a component's sends to another one, in one sentence: by the rules in their order it is what it is kind by kind; no condition beyond the rules' own bounds.
-/
import Derived.Test.YtipjcjjjkkaigaaDLElook04
namespace Go.Proofs.Ytipjcjjjkkaigaa
set_option maxRecDepth 100000
open Go.RowKit
/-- The least delay of the sends to one component, but at most l. -/
def lkS (to : Int) : Int → List Evt → Int
  | l, [] => l
  | l, s :: ss => lkS to (if s.t = to then min l s.to else l) ss
def lkR (to : Int) : Int → List Rule → Int
  | l, [] => l
  | l, r :: rs => lkR to (lkS to l r.sends) rs
def lkO (to l : Int) : Option Rule → Int
  | none => l
  | some r => lkS to l r.sends
/-- Kind by kind: n kinds from k on. -/
def lkU (to : Int) : Nat → Int → Int → List Rule → Int
  | 0, _, l, _ => l
  | n + 1, k, l, rs => lkU to n (k + 1) (lkO to l (ruleOf k rs)) rs
theorem lkU_step (to : Int) (n : Nat) (k l : Int) (rs : List Rule) : lkU to (n + 1) k l rs = lkU to n (k + 1) (lkO to l (ruleOf k rs)) rs := rfl
theorem lkU_zero (to : Int) (k l : Int) (rs : List Rule) : lkU to 0 k l rs = l := rfl
theorem lkU_skip (to : Int) (r : Rule) (rs : List Rule) : ∀ (n : Nat) (k l : Int), r.kd < k → lkU to n k l (r :: rs) = lkU to n k l rs
  | 0, _, _, _ => rfl
  | n + 1, k, l, h => by
    rw [lkU, lkU, lkU_skip to r rs n (k + 1) _ (by omega), show ruleOf k (r :: rs) = ruleOf k rs by rw [ruleOf]; exact if_neg (by omega)]
theorem lkU_none (to : Int) : ∀ (n : Nat) (k l : Int), lkU to n k l [] = l
  | 0, _, _ => rfl
  | n + 1, k, l => by rw [lkU, ruleOf, lkO, lkU_none to n]
theorem ruleOf_past {many kd : Int} {bf : Int} {rs : List Rule} (h : rulesB many bf rs = true) (hk : kd ≤ bf) : ruleOf kd rs = none := by
  rw [← lastOf_ruleOf h]
  exact lastOf_past h hk
theorem lkU_lkR {many to : Int} : ∀ (n : Nat) (k l : Int) (rs : List Rule), rulesB many (k - 1) rs = true → k + n = 3 → lkU to n k l rs = lkR to l rs
  | n, k, l, [], _, _ => by rw [lkU_none]; rfl
  | 0, k, l, r :: rs, h, hk => by
    rw [rulesB, Bool.and_eq_true, Bool.and_eq_true] at h
    have k1 := of_decide_eq_true h.1.1
    have k2 := h.1.2
    simp only [ruleB, Bool.and_eq_true, inB_iff] at k2
    omega
  | n + 1, k, l, r :: rs, h, hk => by
    have h' := h
    rw [rulesB, Bool.and_eq_true, Bool.and_eq_true] at h
    have k1 := of_decide_eq_true h.1.1
    by_cases e : r.kd = k
    · rw [lkU, show ruleOf k (r :: rs) = some r by rw [ruleOf]; exact if_pos e, lkO, lkU_skip to r rs n (k + 1) _ (by omega), lkR]
      have h2 := h.2
      rw [e] at h2
      exact lkU_lkR n (k + 1) _ rs (by rw [show k + 1 - 1 = k by omega]; exact h2) (by omega)
    · have hb : rulesB many k (r :: rs) = true := by
        rw [rulesB, Bool.and_eq_true, Bool.and_eq_true]
        exact ⟨⟨decide_eq_true (by omega), h.1.2⟩, h.2⟩
      rw [lkU, ruleOf_past hb (by omega), lkO]
      exact lkU_lkR n (k + 1) l (r :: rs) (by rw [show k + 1 - 1 = k by omega]; exact hb) (by omega)
theorem drop_get {α : Type} {d : α} (es : List α) (k : Nat) (h : k < es.length) : es.drop k = es.getD k d :: es.drop (k + 1) := by
  rw [List.drop_eq_getElem_cons h]; simp [h]
theorem lkS_drop (to l : Int) (es : List Evt) (k : Nat) (h : k < es.length) : lkS to l (es.drop k) = lkS to (if (es.getD k default).t = to then min l (es.getD k default).to else l) (es.drop (k + 1)) := by
  rw [drop_get (d := default) es k h, lkS]
theorem lkS_end (to l : Int) (es : List Evt) (k : Nat) (h : es.length ≤ k) : lkS to l (es.drop k) = l := by
  rw [List.drop_of_length_le h]
  rfl
theorem lkR_drop (to l : Int) (rs : List Rule) (k : Nat) (h : k < rs.length) : lkR to l (rs.drop k) = lkR to (lkS to l (rs.getD k default).sends) (rs.drop (k + 1)) := by
  rw [drop_get (d := default) rs k h, lkR]
theorem lkR_end (to l : Int) (rs : List Rule) (k : Nat) (h : rs.length ≤ k) : lkR to l (rs.drop k) = l := by
  rw [List.drop_of_length_le h]
  rfl
/-- What CmbLook gives. -/
def lookV (m : Mdl) (fr to : Int) : Int :=
  if mdlB m && inB fr 0 ((m.rules.length : Int) - 1) && inB to 0 ((m.rules.length : Int) - 1) then lkR to (m.til + 1) (m.rules.getD fr.toNat []) else -1
end Go.Proofs.Ytipjcjjjkkaigaa

/-
  The putting of an event in its place, in one sentence: where it stands in the new list, as lists; no condition is made.
-/
import Derived.Test.YtojnphchkdjafaaApp
namespace Go.Proofs.Ytojnphchkdjafaa
set_option maxRecDepth 100000
open Go.RowKit

/-- e ahead of the first that is greater. -/
def ins (e : Evt) : List Evt → List Evt
  | [] => [e]
  | x :: r => if ltE e x = true then e :: x :: r else x :: ins e r
/-- What stands in the new list behind some of the old one. -/
def acc (e : Evt) (l : List Evt) : List Evt := if l.any (ltE e) = true then ins e l else l

theorem ins_none (e : Evt) : ∀ l : List Evt, l.any (ltE e) = false → ins e l = l ++ [e]
  | [], _ => rfl
  | x :: r, h => by
    simp only [List.any_cons, Bool.or_eq_false_iff] at h
    rw [ins, if_neg (by rw [h.1]; exact Bool.false_ne_true), ins_none e r h.2, List.cons_append]
theorem ins_snoc (e x : Evt) : ∀ l : List Evt, l.any (ltE e) = true → ins e (l ++ [x]) = ins e l ++ [x]
  | [], h => by simp at h
  | y :: r, h => by
    rw [List.cons_append, ins, ins]
    by_cases hy : ltE e y = true
    · rw [if_pos hy, if_pos hy]; rfl
    · rw [if_neg hy, if_neg hy, ins_snoc e x r (by simpa [hy] using h), List.cons_append]
theorem ins_here (e x : Evt) : ∀ l : List Evt, l.any (ltE e) = false → ltE e x = true → ins e (l ++ [x]) = l ++ [e, x]
  | [], _, h => by rw [List.nil_append, ins, if_pos h]; rfl
  | y :: r, h, hx => by
    simp only [List.any_cons, Bool.or_eq_false_iff] at h
    rw [List.cons_append, ins, if_neg (by rw [h.1]; exact Bool.false_ne_true), ins_here e x r h.2 hx]
    rfl
theorem ins_len (e : Evt) : ∀ l : List Evt, (ins e l).length = l.length + 1
  | [] => rfl
  | x :: r => by
    rw [ins]
    split
    · rfl
    · rw [List.length_cons, ins_len e r, List.length_cons]

theorem acc_true (e x : Evt) (l : List Evt) (h : l.any (ltE e) = true) : acc e (l ++ [x]) = acc e l ++ [x] ∧ (l ++ [x]).any (ltE e) = true := by
  have h2 : (l ++ [x]).any (ltE e) = true := by rw [List.any_append, h]; rfl
  exact ⟨by rw [acc, if_pos h2, acc, if_pos h, ins_snoc e x l h], h2⟩
theorem acc_here (e x : Evt) (l : List Evt) (h : l.any (ltE e) = false) (hx : ltE e x = true) : acc e (l ++ [x]) = (acc e l ++ [e]) ++ [x] ∧ (l ++ [x]).any (ltE e) = true := by
  have h2 : (l ++ [x]).any (ltE e) = true := by rw [List.any_append, h]; simp [hx]
  exact ⟨by rw [acc, if_pos h2, acc, if_neg (by rw [h]; exact Bool.false_ne_true), ins_here e x l h hx]; simp, h2⟩
theorem acc_no (e x : Evt) (l : List Evt) (h : l.any (ltE e) = false) (hx : ltE e x = false) : acc e (l ++ [x]) = acc e l ++ [x] ∧ (l ++ [x]).any (ltE e) = false := by
  have h2 : (l ++ [x]).any (ltE e) = false := by rw [List.any_append, h]; simp [hx]
  exact ⟨by rw [acc, if_neg (by rw [h2]; exact Bool.false_ne_true), acc, if_neg (by rw [h]; exact Bool.false_ne_true)], h2⟩
theorem acc_end (e : Evt) (l : List Evt) : (l.any (ltE e) = true → acc e l = ins e l) ∧ (l.any (ltE e) = false → acc e l ++ [e] = ins e l) :=
  ⟨fun h => by rw [acc, if_pos h], fun h => by rw [acc, if_neg (by rw [h]; exact Bool.false_ne_true), ins_none e l h]⟩
theorem take_snoc (es : List Evt) (k : Nat) (h : k < es.length) : es.take (k + 1) = es.take k ++ [es.getD k default] := by
  rw [List.take_succ_eq_append_getElem h]
  simp [h]

theorem own_mono {w : World} {b b' e size n : Nat} {v : Value} {xs : List Value} (h : w.ownsRow b e size v n xs) (hb : b' ≤ b) : w.ownsRow b' e size v n xs := by
  refine ⟨h.1, ?_⟩
  rcases h.2 with hn | ⟨g, cap, cur, hv, hg, hr⟩
  · exact .inl hn
  · exact .inr ⟨g, cap, cur, hv, by omega, hr⟩

end Go.Proofs.Ytojnphchkdjafaa

/-
  What a list is with an event put in, in one sentence: in order if the event is new, not in order if it is there, and the list again once it is taken out; no condition is made.
-/
import Derived.Test.YtkfjemgelmbcfaaInsAt
import Derived.Test.YtkfjemgelmbcfaaITake
namespace Go.Proofs.Ytkfjemgelmbcfaa
set_option maxRecDepth 100000
open Go.RowKit

theorem eqB_eq {a b : Evt} (h : eqB a b = true) : a = b := by
  obtain ⟨h0, h1, h2, h3, h4, h5⟩ := (eqB_iff a b).1 h
  cases a
  cases b
  simp_all
theorem eqB_self (a : Evt) : eqB a a = true := (eqB_iff a a).2 ⟨rfl, rfl, rfl, rfl, rfl, rfl⟩
theorem rise_tail (x : Evt) : ∀ l : List Evt, riseB (x :: l) = true → riseB l = true
  | [], _ => rfl
  | y :: r, h => by rw [riseB, Bool.and_eq_true] at h; exact h.2
theorem rise_head {x y : Evt} {r : List Evt} (h : riseB (x :: y :: r) = true) : ltE x y = true := by rw [riseB, Bool.and_eq_true] at h; exact h.1

theorem ins_new (e : Evt) : ∀ es : List Evt, riseB es = true → (∀ j, j < es.length → eqB (es.getD j default) e = false) → riseB (ins e es) = true
  | [], _, _ => rfl
  | x :: r, h, hn => by
    rw [ins]
    by_cases hx : ltE e x = true
    · rw [if_pos hx, riseB, hx, h]; rfl
    · rw [if_neg hx]
      have hx' : ltE e x = false := by simpa using hx
      have hne : eqB x e = false := by simpa using hn 0 (by simp)
      have hlt : ltE x e = true := by
        cases hc : ltE x e
        · rw [ltE_total x e hc hx'] at hne; cases hne
        · rfl
      have ih := ins_new e r (rise_tail x r h) fun j hj => by simpa using hn (j + 1) (by simpa using hj)
      cases r with
      | nil => rw [ins, riseB, hlt]; rfl
      | cons y r' =>
        rw [ins] at ih ⊢
        by_cases hy : ltE e y = true
        · rw [if_pos hy] at ih ⊢
          rw [riseB, hlt, ih]; rfl
        · rw [if_neg hy] at ih ⊢
          rw [riseB, rise_head h, ih]; rfl

theorem ins_old (e : Evt) : ∀ es : List Evt, riseB es = true → ∀ j, j < es.length → eqB (es.getD j default) e = true → riseB (ins e es) = false
  | [], _, j, hj, _ => by simp at hj
  | x :: r, h, 0, _, he => by
    have hx : x = e := eqB_eq (by simpa using he)
    subst hx
    rw [ins, if_neg (by rw [ltE_irr]; exact Bool.false_ne_true)]
    cases r with
    | nil => rw [ins, riseB, ltE_irr]; rfl
    | cons y r' => rw [ins, if_pos (rise_head h), riseB, ltE_irr]; rfl
  | x :: r, h, j + 1, hj, he => by
    have hj' : j < r.length := by simpa using hj
    have he' : eqB (r.getD j default) e = true := by simpa using he
    have hlt : ltE x e = true := by
      have := rise_lt (x :: r) h 0 j (by simpa using hj')
      rw [show 0 + j + 1 = j + 1 by omega] at this
      rw [← eqB_eq he']
      simpa using this
    rw [ins, if_neg (by rw [ltE_asym x e hlt]; exact Bool.false_ne_true)]
    have ih := ins_old e r (rise_tail x r h) j hj' he'
    cases hc : riseB (x :: ins e r)
    · rfl
    · rw [rise_tail _ _ hc] at ih; cases ih

theorem ins_split (e : Evt) : ∀ es : List Evt, ∃ q, q ≤ es.length ∧ ins e es = es.take q ++ e :: es.drop q
  | [] => ⟨0, by simp, rfl⟩
  | x :: r => by
    rw [ins]
    split
    · exact ⟨0, by simp, rfl⟩
    · obtain ⟨q, hq, h⟩ := ins_split e r
      exact ⟨q + 1, by simpa using hq, by rw [h]; rfl⟩

theorem ins_back (e : Evt) (es : List Evt) (hn : ∀ j, j < es.length → eqB (es.getD j default) e = false) {r : Int} (hr : IsAt e (ins e es) r) : outE (ins e es) r = es ∧ decide (0 ≤ r) = true := by
  obtain ⟨q, hq, h⟩ := ins_split e es
  have hl : (es.take q).length = q := by rw [List.length_take, Nat.min_eq_left hq]
  have hat : IsAt e (ins e es) (q : Int) := by
    refine .inl ⟨q, rfl, by rw [ins_len]; omega, ?_, fun j hj => ?_⟩
    · rw [h, List.getD, List.getElem?_append_right (by omega), hl, Nat.sub_self]
      exact eqB_self e
    · have := hn j (by omega)
      rw [h, List.getD, List.getElem?_append_left (by omega), List.getElem?_take_of_lt hj]
      exact this
  obtain rfl := hr.one hat
  refine ⟨?_, by simp⟩
  rw [outE_at, h]
  have e1 : (es.take q ++ e :: es.drop q).take q = es.take q := List.take_left' hl
  have e2 : (es.take q ++ e :: es.drop q).drop (q + 1) = es.drop q := by
    rw [← List.drop_drop, List.drop_left' hl]
    rfl
  rw [e1, e2, List.take_append_drop]

end Go.Proofs.Ytkfjemgelmbcfaa

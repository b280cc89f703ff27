/-
  Where an event is put, in one sentence: ahead of the first that is greater, and so a rising stretch with the event slid to its place is the list with the event put in; no condition is made.
-/
import Derived.Test.YtkfjemgelmbcfaaInsertion
import Derived.Test.YtkfjemgelmbcfaaIns
import Derived.Test.YtkfjemgelmbcfaaCut
namespace Go.Proofs.Ytkfjemgelmbcfaa
set_option maxRecDepth 100000
open Go.RowKit

theorem ins_at (e : Evt) : ∀ (es : List Evt) (q : Nat), q ≤ es.length → (∀ i, i < q → ltE e (es.getD i default) = false) → (q < es.length → ltE e (es.getD q default) = true) → ins e es = es.take q ++ e :: es.drop q
  | [], q, h, _, _ => by
    obtain rfl : q = 0 := by simpa using h
    rfl
  | x :: r, 0, _, _, h2 => by
    have : ltE e x = true := by simpa using h2 (by simp)
    rw [ins, if_pos this]
    rfl
  | x :: r, q + 1, h, h1, h2 => by
    have h0 : ltE e x = false := by simpa using h1 0 (by omega)
    rw [ins, if_neg (by rw [h0]; exact Bool.false_ne_true), ins_at e r q (by simpa using h) (fun i hi => by simpa using h1 (i + 1) (by omega)) (fun hq => by simpa using h2 (by simpa using hq))]
    rfl
theorem rise_pair (es : List Evt) (h : riseB es = true) (k : Nat) (hk : k + 1 < es.length) : ltE (es.getD k default) (es.getD (k + 1) default) = true := by
  have h1 := rise_drop es h k
  rw [riseB_drop es k hk, Bool.and_eq_true] at h1
  exact h1.1
theorem rise_lt (es : List Evt) (h : riseB es = true) (i : Nat) : ∀ d, i + d + 1 < es.length → ltE (es.getD i default) (es.getD (i + d + 1) default) = true
  | 0, hd => rise_pair es h i hd
  | d + 1, hd => ltE_trans _ _ _ (rise_lt es h i d (by omega)) (rise_pair es h (i + d + 1) (by omega))
theorem snoc_lt (es : List Evt) (e : Evt) (i : Nat) (h : i < es.length) : (es ++ [e]).getD i default = es.getD i default := by
  simp [List.getD, List.getElem?_append_left h]
theorem snoc_at (es : List Evt) (e : Evt) : (es ++ [e]).getD es.length default = e := by simp [List.getD]

/-- The slid row is the list with the event put in. -/
theorem slid_ins (es : List Evt) (e : Evt) (h : riseB es = true) (q : Nat) (hp : Place (fun i => (es ++ [e]).getD i default) 0 es.length q) (k : Nat) (hk : k < es.length + 1) :
    slid (fun i => (es ++ [e]).getD i default) es.length q k = (ins e es).getD k default := by
  obtain ⟨_, hq, h1, h2⟩ := hp
  simp only [snoc_at] at h1 h2
  have lo : ∀ i, i < q → ltE e (es.getD i default) = false := by
    intro i hi
    rcases h1 with h0 | h1
    · omega
    · rw [snoc_lt es e (q - 1) (by omega)] at h1
      by_cases hiq : i = q - 1
      · rw [hiq]; exact h1
      · have hlt := rise_lt es h i (q - 1 - i - 1) (by omega)
        rw [show i + (q - 1 - i - 1) + 1 = q - 1 by omega] at hlt
        cases hc : ltE e (es.getD i default)
        · rfl
        · rw [ltE_trans _ _ _ hc hlt] at h1
          cases h1
  have hi : q < es.length → ltE e (es.getD q default) = true := fun hlt => by
    have := h2 q (Nat.le_refl _) hlt
    rwa [snoc_lt es e q hlt] at this
  rw [ins_at e es q hq lo hi]
  show (if k < q then (es ++ [e]).getD k default else if k = q then (es ++ [e]).getD es.length default else if k ≤ es.length then (es ++ [e]).getD (k - 1) default else (es ++ [e]).getD k default) = _
  by_cases hkq : k < q
  · rw [if_pos hkq, snoc_lt es e k (by omega)]
    rw [List.getD, List.getD, List.getElem?_append_left (by rw [List.length_take, Nat.min_eq_left hq]; exact hkq), List.getElem?_take_of_lt hkq]
  · rw [if_neg hkq]
    by_cases hk2 : k = q
    · subst hk2
      rw [if_pos rfl, snoc_at]
      simp [List.getD, List.length_take, Nat.min_eq_left hq]
    · rw [if_neg hk2, if_pos (by omega), snoc_lt es e (k - 1) (by omega)]
      obtain ⟨m, rfl⟩ : ∃ m, k = q + m + 1 := ⟨k - q - 1, by omega⟩
      have hl : (es.take q).length = q := by rw [List.length_take, Nat.min_eq_left hq]
      rw [List.getD, List.getD, List.getElem?_append_right (by omega), hl, show q + m + 1 - q = m + 1 by omega, List.getElem?_cons_succ, List.getElem?_drop, show q + m + 1 - 1 = q + m by omega]

end Go.Proofs.Ytkfjemgelmbcfaa

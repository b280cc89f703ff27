/-
  What a component sends, in one sentence: valid events from it, later, not behind the end, with rising numbers from its own on; for every list of valid sends.
-/
import Derived.Test.YtojplcbennfifaaKR
import Derived.Test.YtojplcbennfifaaKA
namespace Go.Proofs.Ytojplcbennfifaa
set_option maxRecDepth 100000
open Go.RowKit

/-- One event that is sent. -/
structure SentF (til many : Int) (e : Evt) (lo hi : Int) (x : Evt) : Prop where
  sq : lo ≤ x.sq ∧ x.sq < hi
  fr : x.fr = e.to
  t : e.t < x.t ∧ x.t ≤ til
  to_ : 0 ≤ x.to ∧ x.to < many
  kd : 0 ≤ x.kd ∧ x.kd ≤ 2
  dt : 0 ≤ x.dt ∧ x.dt ≤ 96
structure SendsF (til many : Int) (e : Evt) (q q' : Int) (n : Nat) (L : List Evt) : Prop where
  len : q + L.length ≤ q'
  top : q' ≤ 12
  few : q' ≤ q + n
  each : ∀ i, i < L.length → SentF til many e (q + i) q' (L.getD i default)
  rise : ∀ i j, j < i → i < L.length → (L.getD j default).sq < (L.getD i default).sq
theorem sendsE_facts (til s many : Int) (e : Evt) : ∀ (xs : List Evt) (q : Int), (∀ x ∈ xs, sndB x many = true) → 0 ≤ q → q ≤ 12 → SendsF til many e q (sendsE til s e xs q).2 xs.length (sendsE til s e xs q).1
  | [], q, _, _, h1 => by
    simp only [sendsE]
    exact ⟨by simp, h1, by simp, fun i hi => by simp at hi, fun i j _ hi => by simp at hi⟩
  | x :: xs, q, hx, h0, h1 => by
    have hb := hx x List.mem_cons_self
    have hr : ∀ y ∈ xs, sndB y many = true := fun y hy => hx y (List.mem_cons_of_mem _ hy)
    unfold sndB at hb
    simp only [Bool.and_eq_true, inB_iff] at hb
    rw [sendsE]
    by_cases hs : s % x.kd ≠ x.dt ∨ q = 12
    · rw [if_pos hs]
      have ih := sendsE_facts til s many e xs q hr h0 h1
      exact ⟨ih.len, ih.top, by have := ih.few; rw [List.length_cons]; omega, ih.each, ih.rise⟩
    · rw [if_neg hs]
      have hq : q ≠ 12 := fun h => hs (.inr h)
      have ih := sendsE_facts til s many e xs (q + 1) hr (by omega) (by omega)
      by_cases ht : e.t + x.to ≤ til
      · rw [if_pos ht]
        have hl := ih.len
        refine ⟨by rw [List.length_cons]; dsimp only; omega, ih.top, by have := ih.few; rw [List.length_cons]; dsimp only; omega, fun i hi => ?_, fun i j hji hi => ?_⟩
        · cases i with
          | zero =>
            have hz : SentF til many e (q + ((0 : Nat) : Int)) (sendsE til s e xs (q + 1)).2 ⟨e.t + x.to, x.t, e.to, q, x.fr, (s + x.sq) % 97⟩ :=
              ⟨⟨by dsimp only; omega, by dsimp only; omega⟩, rfl, ⟨by dsimp only; omega, ht⟩, ⟨by dsimp only; omega, by dsimp only; omega⟩, ⟨by dsimp only; omega, by dsimp only; omega⟩, ⟨by dsimp only; omega, by dsimp only; omega⟩⟩
            exact hz
          | succ i =>
            have h := ih.each i (by simpa using hi)
            exact ⟨⟨by have := h.sq.1; rw [List.getD_cons_succ]; omega, h.sq.2⟩, h.fr, h.t, h.to_, h.kd, h.dt⟩
        · cases i with
          | zero => omega
          | succ i =>
            have hi' : i < (sendsE til s e xs (q + 1)).1.length := by simpa using hi
            cases j with
            | zero =>
              have h := (ih.each i hi').sq.1
              rw [List.getD_cons_succ, List.getD_cons_zero]
              dsimp only
              omega
            | succ j => exact ih.rise i j (by omega) hi'
      · rw [if_neg ht]
        exact ⟨by have := ih.len; omega, ih.top, by have := ih.few; rw [List.length_cons]; omega, fun i hi => by
          have h := ih.each i hi
          exact ⟨⟨by have := h.sq.1; omega, h.sq.2⟩, h.fr, h.t, h.to_, h.kd, h.dt⟩, ih.rise⟩

end Go.Proofs.Ytojplcbennfifaa

/-
  What makes a model one and what spoils it, in one sentence: no starts keep it, a kind twice and more than four components do not.
-/
import Derived.Test.YtkfjemgelmbcfaaKJ
namespace Go.Proofs.Ytkfjemgelmbcfaa
set_option maxRecDepth 100000
open Go.RowKit

theorem mdlB_nostart {m : Mdl} (h : mdlB m = true) : mdlB ⟨m.rules, [], m.til⟩ = true := by
  unfold mdlB at h ⊢
  simp only [Bool.and_eq_true] at h ⊢
  exact ⟨⟨h.1.1, by rfl⟩, h.2⟩
theorem mdlB_many {m : Mdl} (h : 4 < m.rules.length) : mdlB m = false := by
  unfold mdlB
  have : inB (m.rules.length : Int) 1 4 = false := by
    cases hh : inB (m.rules.length : Int) 1 4 with
    | false => rfl
    | true => rw [inB_iff] at hh; omega
  rw [this]
  rfl
theorem mdlB_facts {m : Mdl} (h : mdlB m = true) : (1 ≤ m.rules.length ∧ m.rules.length ≤ 4) ∧ ∀ i, i < m.rules.length → rulesB m.rules.length (-1) (m.rules.getD i []) = true := by
  unfold mdlB at h
  simp only [Bool.and_eq_true, inB_iff] at h
  refine ⟨by omega, fun i hi => ?_⟩
  have e : m.rules.getD i [] = m.rules[i] := by simp [List.getD, hi]
  rw [e]
  exact List.all_eq_true.1 h.2 _ (List.getElem_mem hi)
/-- A kind lies between what is before and three: no more than three rules behind -1. -/
theorem rulesB_few {many : Int} : ∀ {rs : List Rule} {bf : Int}, rulesB many bf rs = true → bf ≤ 2 → (rs.length : Int) + bf ≤ 2
  | [], _, _, h => by simpa using h
  | r :: rs, bf, hb, _ => by
    rw [rulesB] at hb
    simp only [Bool.and_eq_true, decide_eq_true_eq] at hb
    obtain ⟨⟨h1, h2⟩, h3⟩ := hb
    unfold ruleB at h2
    simp only [Bool.and_eq_true, inB_iff] at h2
    have := rulesB_few h3 (by omega)
    simp only [List.length_cons]
    omega
/-- A last rule of a kind that is not above what was before spoils the rules. -/
theorem rulesB_twice {many : Int} {r0 : Rule} : ∀ {rs : List Rule} {bf : Int}, r0.kd ≤ bf → rulesB many bf (rs ++ [r0]) = false
  | [], bf, h => by
    have : decide (bf < r0.kd) = false := decide_eq_false (by omega)
    simp [rulesB, this]
  | r :: rs, bf, h => by
    rw [List.cons_append, rulesB]
    by_cases hk : bf < r.kd
    · rw [rulesB_twice (rs := rs) (bf := r.kd) (by omega)]
      simp
    · rw [decide_eq_false hk]
      rfl
theorem rulesB_again {many bf : Int} {r : Rule} {rs : List Rule} : rulesB many bf ((r :: rs) ++ [r]) = false := by
  rw [List.cons_append, rulesB, rulesB_twice (rs := rs) (bf := r.kd) (Int.le_refl _)]
  simp
theorem mdlB_twice {m : Mdl} {i : Nat} (hi : i < m.rules.length) {r : Rule} {rs : List Rule} (e : m.rules.getD i [] = (r :: rs) ++ [r]) : mdlB m = false := by
  cases h : mdlB m with
  | false => rfl
  | true =>
    have := (mdlB_facts h).2 i hi
    rw [e, rulesB_again] at this
    cases this

end Go.Proofs.Ytkfjemgelmbcfaa

/-
  What FnRevOk asks of the lists, in one sentence: a model with an empty row of rules is valid and can be reversed there, one with a rule whose a is 0 cannot; no condition is made.
-/
import Derived.Test.YtakmlfgkppekoaaDLRok13
namespace Go.Proofs.Ytakmlfgkppekoaa
set_option maxRecDepth 100000
open Go.RowKit
theorem mdlB_nil {m : Mdl} (hm : mdlB m = true) (i : Nat) : mdlB ⟨m.rules.set i [], m.starts, m.til⟩ = true := by
  unfold mdlB at hm ⊢; simp only [Bool.and_eq_true, List.length_set] at hm ⊢; refine ⟨hm.1, ?_⟩; rw [List.all_eq_true]; intro r hr
  rcases List.mem_or_eq_of_mem_set hr with h | h
  · exact List.all_eq_true.1 hm.2 r h
  · rw [h]
    rfl
theorem rev_nil {m : Mdl} (hm : mdlB m = true) {i : Nat} (hi : i < m.rules.length) : revOkV ⟨m.rules.set i [], m.starts, m.til⟩ (i : Int) = true := by
  unfold revOkV; rw [mdlB_nil hm i, inB_iff.2 (by simp only [List.length_set]; omega), Int.toNat_natCast]; simp [List.getD, hi]
theorem rev_zero (m : Mdl) {i : Nat} (hi : i < m.rules.length) : revOkV ⟨m.rules.set i [⟨1, 0, 0, 0, []⟩], m.starts, m.til⟩ (i : Int) = false := by
  unfold revOkV; rw [Int.toNat_natCast]
  have : ((m.rules.set i [⟨1, 0, 0, 0, []⟩]).getD i []).all nz = false := by
    simp [List.getD, hi, nz]
  rw [this, Bool.and_false]
theorem rev_no {m : Mdl} {co : Int} (h : mdlB m = false ∨ co < 0 ∨ (m.rules.length : Int) ≤ co) : revOkV m co = false := by
  unfold revOkV
  rcases h with h | h
  · rw [h]
    rfl
  · rw [inB_no.2 (by omega)]
    simp
end Go.Proofs.Ytakmlfgkppekoaa

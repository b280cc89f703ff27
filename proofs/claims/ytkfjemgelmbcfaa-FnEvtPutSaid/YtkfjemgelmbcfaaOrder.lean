/-
  The order of events, in one sentence: it is irreflexive, total, asymmetric and transitive, and an earlier time is less; and what == and != of two events give; for all events.
-/
import Derived.Test.YtkfjemgelmbcfaaLess
import Derived.Test.YtkfjemgelmbcfaaEq
import Derived.Laws.StructEq
namespace Go.Proofs.Ytkfjemgelmbcfaa
set_option maxRecDepth 100000
open Go.RowKit

theorem orL_lt (x : Int) (r : List Int) : orL (x :: r) < 0 ↔ x < 0 ∨ (x = 0 ∧ orL r < 0) := by
  rw [orL]
  split <;> omega
theorem ltE_iff (a b : Evt) : ltE a b = true ↔ a.t < b.t ∨ (a.t = b.t ∧ (a.to < b.to ∨ (a.to = b.to ∧ (a.fr < b.fr ∨ (a.fr = b.fr ∧ (a.sq < b.sq ∨ (a.sq = b.sq ∧ (a.kd < b.kd ∨ (a.kd = b.kd ∧ a.dt < b.dt))))))))) := by
  unfold ltE cmpE
  rw [decide_eq_true_iff, orL_lt, orL_lt, orL_lt, orL_lt, orL_lt, orL_lt]
  simp only [cmpI_lt, cmpI_eq, orL]
  omega
theorem ltE_no (a b : Evt) : ltE a b = false ↔ ¬ (a.t < b.t ∨ (a.t = b.t ∧ (a.to < b.to ∨ (a.to = b.to ∧ (a.fr < b.fr ∨ (a.fr = b.fr ∧ (a.sq < b.sq ∨ (a.sq = b.sq ∧ (a.kd < b.kd ∨ (a.kd = b.kd ∧ a.dt < b.dt)))))))))) := by
  rw [← ltE_iff]; simp
theorem eqB_iff (a b : Evt) : eqB a b = true ↔ a.t = b.t ∧ a.to = b.to ∧ a.fr = b.fr ∧ a.sq = b.sq ∧ a.kd = b.kd ∧ a.dt = b.dt := by
  obtain ⟨z0, z1, z2, z3, z4, z5⟩ := a
  obtain ⟨y0, y1, y2, y3, y4, y5⟩ := b
  simp [eqB]
theorem ltE_irr (a : Evt) : ltE a a = false := by rw [ltE_no]; omega
theorem ltE_trans (a b c : Evt) (h1 : ltE a b = true) (h2 : ltE b c = true) : ltE a c = true := by
  rw [ltE_iff] at *
  omega
theorem ltE_asym (a b : Evt) (h1 : ltE a b = true) : ltE b a = false := by
  rw [ltE_no]
  rw [ltE_iff] at h1
  omega
theorem ltE_ne (a b : Evt) (h1 : ltE a b = true) : eqB a b = false := by
  rw [Bool.eq_false_iff]
  intro h
  rw [eqB_iff] at h
  rw [ltE_iff] at h1
  omega
theorem eqB_comm (a b : Evt) : eqB a b = eqB b a := by
  unfold eqB
  rw [Bool.eq_iff_iff, decide_eq_true_iff, decide_eq_true_iff]
  exact eq_comm
theorem ltE_total (a b : Evt) (h1 : ltE a b = false) (h2 : ltE b a = false) : eqB a b = true := by
  rw [eqB_iff]
  rw [ltE_no] at h1 h2
  omega
theorem ltE_time (a b : Evt) (h1 : ltE a b = false) : b.t ≤ a.t := by
  rw [ltE_no] at h1
  omega

theorem equalIn_evt (a b : Evt) (w : World) : (Op.equalIn 10000 50 a.v b.v).run Try.prog w = .ok (eqB a b) w := by
  obtain ⟨z0, z1, z2, z3, z4, z5⟩ := a
  obtain ⟨y0, y1, y2, y3, y4, y5⟩ := b
  have u3 := Try.underlying3
  have a3 := Try.isAgg3
  have s3 := Try.sizeOf3
  have hS : Try.prog.underlying 50 = some (.struct (Try.prog.fieldsOf 50)) := by kernel_rfl
  have hp : Try.prog.stoodInHeld 50 = false := by kernel_rfl
  rw [eqB_mk]
  unfold Evt.v
  dsimp only
  rw [show (10000 : Nat) = 9999 + 1 from rfl, run_equalIn_agg w 9999 50 _ _ hS hp]
  simp only [Program.fieldsOf, Try.underlying50]
  go_simp
  by_cases h0 : z0 = y0 <;> by_cases h1 : z1 = y1 <;> by_cases h2 : z2 = y2 <;> by_cases h3 : z3 = y3 <;> by_cases h4 : z4 = y4 <;> by_cases h5 : z5 = y5 <;> simp [h0, h1, h2, h3, h4, h5]

theorem neq_evt (a b : Evt) (w : World) : (binOp .neq 50 a.v b.v).run Try.prog w = .ok (.bool (!eqB a b)) w := by
  have h := equalIn_evt a b w
  unfold Evt.v at h ⊢
  rw [run_neq_struct, h]
  rfl
theorem eql_evt (a b : Evt) (w : World) : (binOp .eql 50 a.v b.v).run Try.prog w = .ok (.bool (eqB a b)) w := by
  have h := equalIn_evt a b w
  unfold Evt.v at h ⊢
  rw [run_eql_struct, h]
  rfl
theorem guard_evt (op : BinOp) (x y : Operand) (xs ys : Array Value) (w : World) : (eqGuard op 50 x y (.agg xs) (.agg ys)).run Try.prog w = .ok () w :=
  run_eqGuard_agg w op 50 x y xs ys (by kernel_rfl)

end Go.Proofs.Ytkfjemgelmbcfaa

/-
  A record is not different from itself, in one sentence: the language's own sign says so; for every record.
-/
import Derived.Test.YtkfjemgelmbcfaaKA
import Derived.Test.YtkfjemgelmbcfaaKZ2
namespace Go.Proofs.Ytkfjemgelmbcfaa
set_option maxRecDepth 100000
open Go.RowKit

theorem equalIn_evt_f (a b : Evt) (f : Nat) (w : World) : (Op.equalIn (f + 2) 50 a.v b.v).run Try.prog w = .ok (eqB a b) w := by
  obtain ⟨z0, z1, z2, z3, z4, z5⟩ := a
  obtain ⟨y0, y1, y2, y3, y4, y5⟩ := b
  have u3 := Try.underlying3
  have a3 := Try.isAgg3
  have s3 := Try.sizeOf3
  have hS : Try.prog.underlying 50 = some (.struct (Try.prog.fieldsOf 50)) := by kernel_rfl
  have hp : Try.prog.stoodInHeld 50 = false := by kernel_rfl
  rw [eqB_mk]
  unfold Evt.v
  dsimp only
  rw [show f + 2 = (f + 1) + 1 from rfl, run_equalIn_agg w (f + 1) 50 _ _ hS hp]
  simp only [Program.fieldsOf, Try.underlying50]
  go_simp
  by_cases h0 : z0 = y0 <;> by_cases h1 : z1 = y1 <;> by_cases h2 : z2 = y2 <;> by_cases h3 : z3 = y3 <;> by_cases h4 : z4 = y4 <;> by_cases h5 : z5 = y5 <;> simp [h0, h1, h2, h3, h4, h5]
theorem equalIn_rec (a : Rec) (w : World) : (Op.equalIn 10000 171 a.v a.v).run Try.prog w = .ok true w := by
  obtain ⟨e, s⟩ := a
  have u3 := Try.underlying3
  have a3 := Try.isAgg3
  have s3 := Try.sizeOf3
  have hS : Try.prog.underlying 171 = some (.struct (Try.prog.fieldsOf 171)) := by kernel_rfl
  have hp : Try.prog.stoodInHeld 171 = false := by kernel_rfl
  have hE := equalIn_evt_f e e 9997 w
  unfold Evt.v at hE
  unfold Rec.v
  dsimp only
  rw [show (10000 : Nat) = 9999 + 1 from rfl, run_equalIn_agg w 9999 171 _ _ hS hp]
  simp only [Program.fieldsOf, Try.underlying171]
  go_simp
theorem neq_rec (a : Rec) (w : World) : (binOp .neq 171 a.v a.v).run Try.prog w = .ok (.bool false) w := by
  have h := equalIn_rec a w
  unfold Rec.v at h ⊢
  rw [run_neq_struct, h]
  rfl
theorem guard_rec (op : BinOp) (x y : Operand) (xs ys : Array Value) (w : World) : (eqGuard op 171 x y (.agg xs) (.agg ys)).run Try.prog w = .ok () w :=
  run_eqGuard_agg w op 171 x y xs ys (by kernel_rfl)

end Go.Proofs.Ytkfjemgelmbcfaa

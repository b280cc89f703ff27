/-
  Two component states compared by the language's own sign, in one sentence: are they different; for every two.
-/
import Derived.Test.YtakmlfgkppekoaaDLCud06
import Derived.Test.YtakmlfgkppekoaaDLCud15
namespace Go.Proofs.Ytakmlfgkppekoaa
set_option maxRecDepth 100000
open Go.RowKit
def eqD (a b : Cst) : Bool := decide (a.s = b.s) && decide (a.sq = b.sq) && decide (a.ct = b.ct)
theorem eqD_refl (a : Cst) : eqD a a = true := by simp [eqD]
theorem equalIn_cst (a b : Cst) (w : World) : (Op.equalIn 10000 41 a.v b.v).run Try.prog w = .ok (eqD a b) w := by
  obtain ⟨z0, z1, z2⟩ := a; obtain ⟨y0, y1, y2⟩ := b
  have u3 := Try.underlying3
  have a3 := Try.isAgg3
  have s3 := Try.sizeOf3
  have hS : Try.prog.underlying 41 = some (.struct (Try.prog.fieldsOf 41)) := by kernel_rfl
  have hp : Try.prog.stoodInHeld 41 = false := by kernel_rfl
  unfold Cst.v eqD; dsimp only; rw [show (10000 : Nat) = 9999 + 1 from rfl, run_equalIn_agg w 9999 41 _ _ hS hp]; simp only [Program.fieldsOf, Try.underlying41]; go_simp
  by_cases h0 : z0 = y0 <;> by_cases h1 : z1 = y1 <;> by_cases h2 : z2 = y2 <;> simp [h0, h1, h2]
theorem neq_cst (a b : Cst) (w : World) : (binOp .neq 41 a.v b.v).run Try.prog w = .ok (.bool (!eqD a b)) w := by
  have h := equalIn_cst a b w
  unfold Cst.v at h ⊢; rw [run_neq_struct, h]
  rfl
theorem guard_cst (op : BinOp) (x y : Operand) (xs ys : Array Value) (w : World) : (eqGuard op 41 x y (.agg xs) (.agg ys)).run Try.prog w = .ok () w :=
  run_eqGuard_agg w op 41 x y xs ys (by kernel_rfl)
end Go.Proofs.Ytakmlfgkppekoaa

/-
  Two tokens, or two marks, compared by the language's own sign, in one sentence: are they different; for every two.
-/
import Derived.Test.YtojnphchkdjafaaKT1
import Derived.Test.YtojnphchkdjafaaKA
namespace Go.Proofs.Ytojnphchkdjafaa
set_option maxRecDepth 100000
open Go.RowKit

def eqK (a b : Gk) : Bool := (a.on == b.on) && decide (a.r = b.r) && decide (a.a = b.a) && decide (a.n = b.n) && decide (a.l = b.l)
def eqG (a b : Gm) : Bool := decide (a.r = b.r) && decide (a.e = b.e) && decide (a.o = b.o) && decide (a.l = b.l)
theorem eqK_refl (a : Gk) : eqK a a = true := by simp [eqK]
theorem eqG_refl (a : Gm) : eqG a a = true := by simp [eqG]
theorem equalIn_gk (a b : Gk) (w : World) : (Op.equalIn 10000 32 a.v b.v).run Try.prog w = .ok (eqK a b) w := by
  obtain ⟨z0, z1, z2, z3, z4⟩ := a
  obtain ⟨y0, y1, y2, y3, y4⟩ := b
  have u3 := Try.underlying3
  have a3 := Try.isAgg3
  have s3 := Try.sizeOf3
  have u4 := Try.underlying4
  have a4 := Try.isAgg4
  have s4 := Try.sizeOf4
  have hS : Try.prog.underlying 32 = some (.struct (Try.prog.fieldsOf 32)) := by kernel_rfl
  have hp : Try.prog.stoodInHeld 32 = false := by kernel_rfl
  unfold Gk.v eqK
  dsimp only
  rw [show (10000 : Nat) = 9999 + 1 from rfl, run_equalIn_agg w 9999 32 _ _ hS hp]
  simp only [Program.fieldsOf, Try.underlying32]
  go_simp
  cases z0 <;> cases y0 <;> by_cases h1 : z1 = y1 <;> by_cases h2 : z2 = y2 <;> by_cases h3 : z3 = y3 <;> by_cases h4 : z4 = y4 <;> simp [h1, h2, h3, h4]
theorem equalIn_gm (a b : Gm) (w : World) : (Op.equalIn 10000 28 a.v b.v).run Try.prog w = .ok (eqG a b) w := by
  obtain ⟨z0, z1, z2, z3⟩ := a
  obtain ⟨y0, y1, y2, y3⟩ := b
  have u3 := Try.underlying3
  have a3 := Try.isAgg3
  have s3 := Try.sizeOf3
  have hS : Try.prog.underlying 28 = some (.struct (Try.prog.fieldsOf 28)) := by kernel_rfl
  have hp : Try.prog.stoodInHeld 28 = false := by kernel_rfl
  unfold Gm.v eqG
  dsimp only
  rw [show (10000 : Nat) = 9999 + 1 from rfl, run_equalIn_agg w 9999 28 _ _ hS hp]
  simp only [Program.fieldsOf, Try.underlying28]
  go_simp
  by_cases h0 : z0 = y0 <;> by_cases h1 : z1 = y1 <;> by_cases h2 : z2 = y2 <;> by_cases h3 : z3 = y3 <;> simp [h0, h1, h2, h3]
theorem neq_gk (a b : Gk) (w : World) : (binOp .neq 32 a.v b.v).run Try.prog w = .ok (.bool (!eqK a b)) w := by
  have h := equalIn_gk a b w
  unfold Gk.v at h ⊢
  rw [run_neq_struct, h]
  rfl
theorem eql_gk (a b : Gk) (w : World) : (binOp .eql 32 a.v b.v).run Try.prog w = .ok (.bool (eqK a b)) w := by
  have h := equalIn_gk a b w
  unfold Gk.v at h ⊢
  rw [run_eql_struct, h]
  rfl
theorem neq_gm (a b : Gm) (w : World) : (binOp .neq 28 a.v b.v).run Try.prog w = .ok (.bool (!eqG a b)) w := by
  have h := equalIn_gm a b w
  unfold Gm.v at h ⊢
  rw [run_neq_struct, h]
  rfl
theorem guard_gk (op : BinOp) (x y : Operand) (xs ys : Array Value) (w : World) : (eqGuard op 32 x y (.agg xs) (.agg ys)).run Try.prog w = .ok () w :=
  run_eqGuard_agg w op 32 x y xs ys (by kernel_rfl)
theorem guard_gm (op : BinOp) (x y : Operand) (xs ys : Array Value) (w : World) : (eqGuard op 28 x y (.agg xs) (.agg ys)).run Try.prog w = .ok () w :=
  run_eqGuard_agg w op 28 x y xs ys (by kernel_rfl)

end Go.Proofs.Ytojnphchkdjafaa

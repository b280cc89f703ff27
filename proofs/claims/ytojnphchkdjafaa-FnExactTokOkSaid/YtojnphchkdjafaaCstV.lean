/-
  Component states as values, in one sentence: three numbers, and the bounds that make one valid; no condition is made.
-/
import Derived.Test.YtojnphchkdjafaaOk
namespace Go.Proofs.Ytojnphchkdjafaa
set_option maxRecDepth 100000
open Go.RowKit

/-- A component's state: its three numbers. -/
structure Cst where
  s : Int
  sq : Int
  ct : Int
deriving DecidableEq
instance : Inhabited Cst := ⟨⟨0, 0, 0⟩⟩
def Cst.v (c : Cst) : Value := .agg #[.int .i64 c.s, .int .i64 c.sq, .int .i64 c.ct]
def Cst.ok (c : Cst) : Prop := I64 c.s ∧ I64 c.sq ∧ I64 c.ct

/-- What both CmpOk compute. -/
def cstB (c : Cst) : Bool := inB c.s 0 96 && inB c.sq 0 12 && decide (0 ≤ c.ct)

end Go.Proofs.Ytojnphchkdjafaa

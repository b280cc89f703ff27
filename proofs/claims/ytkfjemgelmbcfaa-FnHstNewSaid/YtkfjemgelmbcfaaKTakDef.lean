/-
  Which records and which pending events are valid, in one sentence: two functions on numbers; no condition is made.
-/
import Derived.Test.YtkfjemgelmbcfaaKZ2
import Derived.Test.YtkfjemgelmbcfaaKA
namespace Go.Proofs.Ytkfjemgelmbcfaa
set_option maxRecDepth 100000
open Go.RowKit

/-- Is a record one, among so many components? -/
def recB (many : Int) (r : Rec) : Bool := okB r.ev many && inB r.s 0 96
/-- May an event be pending, among so many components and up to that end? -/
def takB (many til : Int) (e : Evt) : Bool := okB e many && decide (e.t ≤ til)

end Go.Proofs.Ytkfjemgelmbcfaa

/-
  What a drawer of a model alone gives, in one sentence: some model in memory, over new blocks.
-/
import Derived.Test.YtkfjemgelmbcfaaKDrawM
namespace Go.Proofs.Ytkfjemgelmbcfaa
set_option maxRecDepth 100000
open Go.RowKit

/-- What it gives. -/
def DrawnMd (w : World) (x : Ending) (w' : World) : Prop :=
  ∃ (A : Option Addr) (n c : Nat) (B : Option Addr) (k d : Nat) (m : Mdl), x = .returned (.agg #[.slice A n c, .slice B k d, .int .i64 m.til]) ∧ MdlV w' A n B k m ∧ (n ≤ 32 ∧ n ≤ c ∧ c ≤ 9223372036854775807) ∧ Up w w'

end Go.Proofs.Ytkfjemgelmbcfaa

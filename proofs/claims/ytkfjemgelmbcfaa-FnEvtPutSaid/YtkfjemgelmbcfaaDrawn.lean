/-
  What a drawn event is, in one sentence: six numbers of 64 bits in one aggregate, the reader further on; no condition is made.
-/
import Derived.Test.YtkfjemgelmbcfaaEvt
namespace Go.Proofs.Ytkfjemgelmbcfaa
set_option maxRecDepth 100000
open Go.RowKit

theorem Drawn.cases {g N : Nat} {w : World} {x : Ending} {w' : World} (h : Drawn g N w x w') :
    ∃ z0 z1 z2 z3 z4 z5 : Int, x = .returned (.agg #[.int .i64 z0, .int .i64 z1, .int .i64 z2, .int .i64 z3, .int .i64 z4, .int .i64 z5]) ∧ Evt.ok ⟨z0, z1, z2, z3, z4, z5⟩ ∧ (-2000000 ≤ z5 ∧ z5 ≤ 2000000) ∧ Rd w' g N ∧ Mv g w w' := by
  obtain ⟨⟨z0, z1, z2, z3, z4, z5⟩, hx, ⟨h1, h4⟩, h2, h3⟩ := h
  exact ⟨z0, z1, z2, z3, z4, z5, hx, h1, h4, h2, h3⟩

end Go.Proofs.Ytkfjemgelmbcfaa

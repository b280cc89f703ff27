/-
  What a new row of cells holds, in one sentence: something in each, none frozen; no condition is made.
-/
import Derived.Test.YtojnphchkdjafaaMem
namespace Go.Proofs.Ytojnphchkdjafaa
set_option maxRecDepth 100000
open Go.RowKit

theorem made_cell (w : World) (z : Array Value) (N : Nat) (t : TypeId) (j : Nat) (hj : j < N) : (∃ v, (w.alloc (.cells (madeCells z N) t)).cell? ⟨w.heap.size, j, none⟩ = some v) ∧ (w.alloc (.cells (madeCells z N) t)).frozen? ⟨w.heap.size, j, none⟩ = false := by
  have hh := heap_alloc_new w (.cells (madeCells z N) t)
  refine ⟨?_, ?_⟩
  · rw [cell_of_row _ _ j _ _ _ hh]
    have : j < (madeCells z N).size := by rw [size_madeCells]; exact hj
    exact ⟨_, Array.getElem?_eq_getElem this⟩
  · unfold World.frozen?
    rw [hh]
    simp
theorem Part.begin (w : World) (n : Nat) (t : TypeId) (es : List Evt) : Part (w.alloc (.cells (madeCells #[.int .i64 0, .int .i64 0, .int .i64 0, .int .i64 0, .int .i64 0, .int .i64 0] (n * 6)) t)) w.heap.size n 0 es :=
  ⟨by simp, fun i hi => absurd hi (by omega), fun j hj => made_cell w _ _ t j hj⟩

end Go.Proofs.Ytojnphchkdjafaa

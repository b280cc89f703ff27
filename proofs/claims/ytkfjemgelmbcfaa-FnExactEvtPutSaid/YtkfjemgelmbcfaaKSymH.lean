/-
  Sorted stretches outside of what is changed, in one sentence: they stay sorted; no condition is made.
-/
import Derived.Test.YtkfjemgelmbcfaaKSymB
namespace Go.Proofs.Ytkfjemgelmbcfaa
set_option maxRecDepth 100000
open Go.RowKit

theorem Arr.sort_out {f f' : Nat → Evt} {a b c d N : Nat} (h : Arr f f' a b N) (hs : SortF f c d) (hd : b ≤ c ∨ d ≤ a) : SortF f' c d := fun k h1 h2 => by
  rw [h.out k (by omega), h.out (k + 1) (by omega)]
  exact hs k h1 h2
/-- What merging of a smaller stretch gives. -/
def SymIH (g N c L : Nat) : Prop := ∀ (a m b : Nat) (f : Nat → Evt) (w : World), b - a < L → a < m → m < b → b ≤ N → Row w g N f → SortF f a m → SortF f m b →
    Calls Try.prog 168 #[.slice (some ⟨g, 0, none⟩) N c, .int .i64 (a : Int), .int .i64 (m : Int), .int .i64 (b : Int), .func (.func 73) #[] #[]] w (SymPost g N a b f w)

end Go.Proofs.Ytkfjemgelmbcfaa

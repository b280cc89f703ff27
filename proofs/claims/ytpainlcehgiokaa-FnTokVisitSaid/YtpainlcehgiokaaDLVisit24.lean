/-
  What is written into the blocks of marks and tokens, in one sentence: their cells and no others; no condition is made.
-/
import Derived.Test.YtpainlcehgiokaaDLVisit08
import Derived.Test.YtpainlcehgiokaaDLVisit19
import Derived.Test.YtpainlcehgiokaaDLVisit22
import Derived.Test.YtpainlcehgiokaaDLVisit23
namespace Go.Proofs.Ytpainlcehgiokaa
set_option maxRecDepth 100000
open Go.RowKit
set_option linter.unusedVariables false
theorem Sml.setNew {lo b o : Nat} {a w : World} {u : Value} (h : Sml lo a w) (hb : a.heap.size ≤ b) : Sml lo a (w.setCell ⟨b, o, none⟩ u) :=
  ⟨by simpa using h.size, fun k h1 h2 => (Below.heap_setCell w ⟨b, o, none⟩ u k (show k ≠ b by omega)).trans (h.block k h1 h2)⟩
/-- A model stored. -/
def putM (w : World) (b : Nat) (x y z : Value) : World := ((w.setCell ⟨b, 0, none⟩ x).setCell ⟨b, 1, none⟩ y).setCell ⟨b, 2, none⟩ z
theorem putM_bk {w : World} {b : Nat} {x0 x1 x2 : Value} (h : Bk w b #[x0, x1, x2]) (x y z : Value) : Bk (putM w b x y z) b #[x, y, z] := bk_setC _ _ _ _ (bk_setC _ _ _ _ (bk_setC _ _ _ _ h))
theorem putM_far {w : World} {b b' : Nat} {arr : Array Value} (h : Bk w b' arr) (hb : b' ≠ b) (x y z : Value) : Bk (putM w b x y z) b' arr := bk_far _ _ (bk_far _ _ (bk_far _ _ h hb) hb) hb
theorem putM_up {a w : World} {b : Nat} (h : Up a w) (hb : a.heap.size ≤ b) (x y z : Value) : Up a (putM w b x y z) := ((h.setCell hb _).setCell hb _).setCell hb _
theorem putM_sml {lo b : Nat} {a w : World} (h : Sml lo a w) (hb : b < lo) (x y z : Value) : Sml lo a (putM w b x y z) := ((h.set hb).set hb).set hb
theorem putG_up {a w : World} {b : Nat} (h : Up a w) (hb : a.heap.size ≤ b) (q0 q1 q2 q3 : Int) : Up a (putG w b q0 q1 q2 q3) := (((h.setCell hb _).setCell hb _).setCell hb _).setCell hb _
theorem putG_sml {lo b : Nat} {a w : World} (h : Sml lo a w) (hb : b < lo) (q0 q1 q2 q3 : Int) : Sml lo a (putG w b q0 q1 q2 q3) := (((h.set hb).set hb).set hb).set hb
theorem putK_up {a w : World} {b : Nat} (h : Up a w) (hb : a.heap.size ≤ b) (q0 : Bool) (q1 q2 q3 q4 : Int) : Up a (putK w b q0 q1 q2 q3 q4) := ((((h.setCell hb _).setCell hb _).setCell hb _).setCell hb _).setCell hb _
theorem putK_sml {lo b : Nat} {a w : World} (h : Sml lo a w) (hb : b < lo) (q0 : Bool) (q1 q2 q3 q4 : Int) : Sml lo a (putK w b q0 q1 q2 q3 q4) := ((((h.set hb).set hb).set hb).set hb).set hb
end Go.Proofs.Ytpainlcehgiokaa

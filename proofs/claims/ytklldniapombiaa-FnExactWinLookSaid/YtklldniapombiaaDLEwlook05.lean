/-
  The least delay of all sends of a model, in one sentence: component by component what it is over all pairs; no condition.
-/
import Derived.Test.YtklldniapombiaaDLEwlook04
namespace Go.Proofs.Ytklldniapombiaa
set_option maxRecDepth 100000
open Go.RowKit
/-- The lookahead between two components that exist. -/
def lkM (m : Mdl) (fr to : Int) : Int := lkR to (m.til + 1) (m.rules.getD fr.toNat [])
def wjV (g : Int → Int → Int) (fr : Int) : Nat → Nat → Int → Int
  | 0, _, l => l
  | n + 1, j, l => wjV g fr n (j + 1) (min l (g fr j))
def wiV (g : Int → Int → Int) (N : Nat) : Nat → Nat → Int → Int
  | 0, _, l => l
  | n + 1, i, l => wiV g N n (i + 1) (wjV g i N 0 l)
theorem wjV_at {g : Int → Int → Int} {fr : Int} {N p : Nat} {y : Int} (h : p < N) : wjV g fr (N - p) p y = wjV g fr (N - (p + 1)) (p + 1) (min y (g fr p)) := by
  rw [show N - p = (N - (p + 1)) + 1 by omega]
  rfl
theorem wjV_end {g : Int → Int → Int} {fr : Int} {N p : Nat} {y : Int} (h : N ≤ p) : wjV g fr (N - p) p y = y := by
  rw [show N - p = 0 by omega]
  rfl
theorem wiV_at {g : Int → Int → Int} {N M p : Nat} {y : Int} (h : p < N) : wiV g M (N - p) p y = wiV g M (N - (p + 1)) (p + 1) (wjV g p M 0 y) := by
  rw [show N - p = (N - (p + 1)) + 1 by omega]
  rfl
theorem wiV_end {g : Int → Int → Int} {N M p : Nat} {y : Int} (h : N ≤ p) : wiV g M (N - p) p y = y := by
  rw [show N - p = 0 by omega]
  rfl
def winL (m : Mdl) : Int := wiV (lkM m) m.rules.length m.rules.length 0 (m.til + 1)
/-- What WinLook gives. -/
def winV (m : Mdl) : Int := if mdlB m then winL m else -1
end Go.Proofs.Ytklldniapombiaa

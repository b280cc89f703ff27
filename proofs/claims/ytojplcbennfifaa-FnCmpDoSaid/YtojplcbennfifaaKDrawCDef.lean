/-
  What stands in the slots of DrawCmpDo's region, in one sentence: the model, a component, small numbers, an event; no condition is made.
-/
import Derived.Test.YtojplcbennfifaaKDrawM
import Derived.Test.YtojplcbennfifaaKQ
namespace Go.Proofs.Ytojplcbennfifaa
set_option maxRecDepth 100000
open Go.RowKit

def cD (g b6 n : Nat) (VM VR : Value) (i : Nat) (v : Value) (_ : World) : Prop :=
  if i = 0 then v = VM else if i = 1 then v = .pointer (some ⟨g, 0, none⟩) else if i = 2 then (∃ c : Cst, v = c.v ∧ c.ct ≤ 1000000) else if i = 3 then v = .pointer (some ⟨g, 0, none⟩) else if i = 4 then v = .pointer (some ⟨b6, 0, none⟩) else if i = 5 then v = VR else if i = 6 then v = .int .i64 (n : Int) else
  if i = 7 then (∃ z : Int, v = .int .i64 z ∧ 0 ≤ z ∧ z ≤ 4) else if i = 8 then (∃ z : Int, v = .int .i64 z ∧ 1 ≤ z ∧ z ≤ 4) else if i = 9 then (∃ e : Evt, v = e.v ∧ e.ok) else True
theorem cD_0 {g b6 n : Nat} {VM VR v : Value} {w : World} : cD g b6 n VM VR 0 v w = (v = VM) := by simp [cD]
theorem cD_1 {g b6 n : Nat} {VM VR v : Value} {w : World} : cD g b6 n VM VR 1 v w = (v = .pointer (some ⟨g, 0, none⟩)) := by simp [cD]
theorem cD_2 {g b6 n : Nat} {VM VR v : Value} {w : World} : cD g b6 n VM VR 2 v w = (∃ c : Cst, v = c.v ∧ c.ct ≤ 1000000) := by simp [cD]
theorem cD_3 {g b6 n : Nat} {VM VR v : Value} {w : World} : cD g b6 n VM VR 3 v w = (v = .pointer (some ⟨g, 0, none⟩)) := by simp [cD]
theorem cD_4 {g b6 n : Nat} {VM VR v : Value} {w : World} : cD g b6 n VM VR 4 v w = (v = .pointer (some ⟨b6, 0, none⟩)) := by simp [cD]
theorem cD_5 {g b6 n : Nat} {VM VR v : Value} {w : World} : cD g b6 n VM VR 5 v w = (v = VR) := by simp [cD]
theorem cD_6 {g b6 n : Nat} {VM VR v : Value} {w : World} : cD g b6 n VM VR 6 v w = (v = .int .i64 (n : Int)) := by simp [cD]
theorem cD_7 {g b6 n : Nat} {VM VR v : Value} {w : World} : cD g b6 n VM VR 7 v w = (∃ z : Int, v = .int .i64 z ∧ 0 ≤ z ∧ z ≤ 4) := by simp [cD]
theorem cD_8 {g b6 n : Nat} {VM VR v : Value} {w : World} : cD g b6 n VM VR 8 v w = (∃ z : Int, v = .int .i64 z ∧ 1 ≤ z ∧ z ≤ 4) := by simp [cD]
theorem cD_9 {g b6 n : Nat} {VM VR v : Value} {w : World} : cD g b6 n VM VR 9 v w = (∃ e : Evt, v = e.v ∧ e.ok) := by simp [cD]
/-- The reader within its bound, old blocks as they were. -/
structure GCD (g B : Nat) (w0 : World) (k : Nat) (w : World) : Prop where
  rd : ∃ c, c + 31 * k ≤ B ∧ Rd w g c
  mv : Mv g w0 w
/-- What DrawCmpDo gives. -/
def DrawnCD (w : World) (x : Ending) (w' : World) : Prop :=
  ∃ (A : Option Addr) (n c : Nat) (B : Option Addr) (k d : Nat) (m : Mdl) (s : Cst) (e : Evt), x = .returned (.tuple #[.agg #[.slice A n c, .slice B k d, .int .i64 m.til], s.v, e.v]) ∧ MdlV w' A n B k m ∧ (n ≤ 32 ∧ n ≤ c ∧ c ≤ 9223372036854775807) ∧ (s.ct ≤ 1000000 ∧ e.ok) ∧ Up w w'

end Go.Proofs.Ytojplcbennfifaa

/-
  What both CmpOk and toCmpState return, in one sentence: the bool that the bounds give, the same three numbers; for every component state.
-/
import Derived.Test.YtkfjemgelmbcfaaOk
namespace Go.Proofs.Ytkfjemgelmbcfaa
set_option maxRecDepth 100000
open Go.RowKit

/-- A component's state: its three numbers. -/
structure Cst where
  s : Int
  sq : Int
  ct : Int
deriving DecidableEq
instance : Inhabited Cst := ⟨⟨0, 0, 0⟩⟩
def Cst.v (c : Cst) : Value := .agg #[.int .i64 c.s, .int .i64 c.sq, .int .i64 c.ct]
def Cst.ok (c : Cst) : Prop := I64 c.s ∧ I64 c.sq ∧ I64 c.ct

/-- What both CmpOk compute. -/
def cstB (c : Cst) : Bool := inB c.s 0 96 && inB c.sq 0 12 && decide (0 ≤ c.ct)

theorem implCst_any (c : Cst) (w : World) :
    Calls Try.prog 86 #[c.v] w fun x w' => x = .returned (.bool (cstB c)) ∧ Up w w' := by
  unfold cstB
  obtain ⟨s, q, n⟩ := c
  unfold Cst.v
  dsimp only
  go_enter Try.func86, Try.ntmps86
  go_wp2_with (go_at_call 62; refine (within_any _ _ _ _).mono ?_; rintro e w' ⟨rfl, rfl⟩)
  all_goals go_ret
  all_goals exact ⟨ret_bool (by simp [*]), (Up.refl _).alloc _⟩

theorem specCst_any (c : Cst) (w : World) :
    Calls Try.prog 83 #[c.v] w fun x w' => x = .returned (.bool (cstB c)) ∧ Up w w' := by
  unfold cstB
  obtain ⟨s, q, n⟩ := c
  unfold Cst.v
  dsimp only
  go_enter Try.func83, Try.ntmps83
  go_wp2_with (go_at_call 65; refine (l1In_any _ _ _ _).mono ?_; rintro e w' ⟨rfl, rfl⟩)
  all_goals go_ret
  all_goals exact ⟨ret_bool (by simp [*]), (Up.refl _).alloc _⟩

theorem toCst_any (c : Cst) (w : World) :
    Calls Try.prog 37 #[c.v] w fun x w' => x = .returned c.v ∧ Up w w' := by
  obtain ⟨s, q, n⟩ := c
  unfold Cst.v
  dsimp only
  go_enter Try.func37, Try.ntmps37
  go_wp2
  refine bodyPost_ret (v := .agg #[.int .i64 s, .int .i64 q, .int .i64 n]) (by simp [results, Try.results37, go_sem]) rfl ⟨rfl, (((Up.refl _).alloc _).alloc _).alloc _⟩

end Go.Proofs.Ytkfjemgelmbcfaa

/-
  What MdlOk says of more than four components, in one sentence: no, whatever lies in memory.
-/
import Derived.Test.YtkfjemgelmbcfaaKJ
namespace Go.Proofs.Ytkfjemgelmbcfaa
set_option maxRecDepth 100000
open Go.RowKit

set_option maxHeartbeats 4000000 in
theorem implMdl_many (A : Option Addr) (n c : Nat) (B : Option Addr) (k d : Nat) (til : Int) (w : World) (hm : 4 < n) :
    Calls Try.prog 16 #[.agg #[.slice A n c, .slice B k d, .int .i64 til]] w fun x w' => x = .returned (.bool false) ∧ Up w w' := by
  have hin : inB n 1 4 = false := inB_no.2 (by omega)
  have B0 := Lib.hid (Box3.new w (.slice A n c) (.slice B k d) (.int .i64 til) 26)
  have U0 := Lib.hid ((Up.refl w).alloc (.cells #[.slice A n c, .slice B k d, .int .i64 til] 26))
  clear hm
  go_enter Try.func16, Try.ntmps16
  go_wp2_with (go_at_call 62; refine (within_any _ _ _ _).mono ?_; rintro e w' ⟨rfl, rfl⟩)
  go_ret
  exact ⟨rfl, U0.out⟩

end Go.Proofs.Ytkfjemgelmbcfaa

/-
  The parts of a visit, in one sentence: a timestamp behind all, the counts of a mark, the colour of a round, the end of a lap; with the blocks that they make.
-/
import Derived.Test.YtpainlcehgiokaaKITok0
import Derived.RegionTactic
import Derived.ChangeAlike
namespace Go.Proofs.Ytpainlcehgiokaa
set_option maxRecDepth 100000
open Go.RowKit

theorem never_ex (mb : Option Nat) (many til : Int) (w : World) (i1 : IntKind.i64.wrap (til + 1) = til + 1) :
    Calls Try.prog 43 #[.agg #[.map mb, .int .i64 many, .int .i64 til]] w fun x w' => x = .returned (.int .i64 (til + 1)) ∧ w' = w.alloc (.cells #[.map mb, .int .i64 many, .int .i64 til] 59) := by
  go_enter Try.func43, Try.ntmps43
  go_wp2
  go_ret
  exact ⟨rfl, rfl⟩
theorem tally_ex (g : Gm) (w : World) :
    Calls Try.prog 44 #[g.v] w fun x w' => x = .returned (.agg #[.int .i64 g.e, .int .i64 g.o]) ∧ w' = (w.alloc (.cells #[.int .i64 g.r, .int .i64 g.e, .int .i64 g.o, .int .i64 g.l] 30)).alloc (.cells #[.int .i64 g.e, .int .i64 g.o] 96) := by
  obtain ⟨r, e, o, l⟩ := g
  unfold Gm.v
  dsimp only
  go_enter Try.func44, Try.ntmps44
  go_wp2
  exact bodyPost_ret (v := .agg #[.int .i64 e, .int .i64 o]) (by simp [results, Try.results44, go_sem]) rfl ⟨rfl, rfl⟩
theorem with_ex (g : Gm) (e o : Int) (w : World) :
    Calls Try.prog 47 #[g.v, .agg #[.int .i64 e, .int .i64 o]] w fun x w' => x = .returned (.agg #[.int .i64 g.r, .int .i64 e, .int .i64 o, .int .i64 g.l]) ∧
      w' = (((w.alloc (.cells #[.int .i64 g.r, .int .i64 e, .int .i64 o, .int .i64 g.l] 30)).alloc (.cells #[.int .i64 e, .int .i64 o] 96)).alloc (.cells #[.int .i64 g.r, .int .i64 e, .int .i64 o, .int .i64 g.l] 30)).drew := by
  obtain ⟨r, ge, go, l⟩ := g
  unfold Gm.v
  dsimp only
  go_enter Try.func47, Try.ntmps47
  go_wp2
  go_region
  go_wp2
  exact bodyPost_ret (v := .agg #[.int .i64 r, .int .i64 e, .int .i64 o, .int .i64 l]) (by simp [results, Try.results47, go_sem]) rfl ⟨rfl, rfl⟩
theorem colourOf_ex (r : Int) (w : World) (h : 0 ≤ r ∧ r ≤ 999) :
    Calls Try.prog 45 #[.int .i64 r] w fun x w' => x = .returned (.int .i64 (r % 2)) ∧ w' = w := by
  have i5 : Int.tmod r 2 = r % 2 := Int.tmod_eq_emod_of_nonneg (by omega)
  have i6 : IntKind.i64.wrap (r % 2) = r % 2 := IntWalk.i64_in _ (by omega)
  go_enter Try.func45, Try.ntmps45
  go_wp2
  go_ret
  exact ⟨rfl, rfl⟩
theorem other_ex (c : Int) (w : World) (h : 0 ≤ c ∧ c ≤ 1) :
    Calls Try.prog 46 #[.int .i64 c] w fun x w' => x = .returned (.int .i64 (1 - c)) ∧ w' = w := by
  have i6 : IntKind.i64.wrap (1 - c) = 1 - c := IntWalk.i64_in _ (by omega)
  go_enter Try.func46, Try.ntmps46
  go_wp2
  go_ret
  exact ⟨rfl, rfl⟩
theorem endLap_ex0 (mb : Option Nat) (many til : Int) (on : Bool) (r a l : Int) (w : World) (i1 : IntKind.i64.wrap (til + 1) = til + 1) :
    Calls Try.prog 48 #[.agg #[.map mb, .int .i64 many, .int .i64 til], .agg #[.bool on, .int .i64 r, .int .i64 a, .int .i64 0, .int .i64 l]] w fun x w' => x = .returned (.tuple #[.agg #[.bool false, .int .i64 r, .int .i64 0, .int .i64 0, .int .i64 (til + 1)], .int .i64 l]) ∧
      w' = (((w.alloc (.cells #[.map mb, .int .i64 many, .int .i64 til] 59)).alloc (.cells #[.bool false, .int .i64 r, .int .i64 0, .int .i64 0, .int .i64 (til + 1)] 28)).alloc (.cells #[.bool false, .int .i64 r, .int .i64 0, .int .i64 0, .int .i64 (til + 1)] 28)).alloc (.cells #[.map mb, .int .i64 many, .int .i64 til] 59) := by
  go_enter Try.func48, Try.ntmps48
  go_wp2_with (go_at_call 43; refine (never_ex mb many til _ i1).mono ?_; rintro x wz ⟨rfl, rfl⟩)
  exact bodyPost_ret (v := .tuple #[.agg #[.bool false, .int .i64 r, .int .i64 0, .int .i64 0, .int .i64 (til + 1)], .int .i64 l]) (by simp [results, Try.results48, go_sem]) rfl ⟨rfl, rfl⟩
theorem endLap_ex1 (mb : Option Nat) (many til : Int) (on : Bool) (r a n l : Int) (w : World) (i1 : IntKind.i64.wrap (til + 1) = til + 1) (j : ¬ n = 0) :
    Calls Try.prog 48 #[.agg #[.map mb, .int .i64 many, .int .i64 til], .agg #[.bool on, .int .i64 r, .int .i64 a, .int .i64 n, .int .i64 l]] w fun x w' => x = .returned (.tuple #[.agg #[.bool on, .int .i64 r, .int .i64 0, .int .i64 n, .int .i64 (til + 1)], .int .i64 (-1)]) ∧
      w' = (((w.alloc (.cells #[.map mb, .int .i64 many, .int .i64 til] 59)).alloc (.cells #[.bool on, .int .i64 r, .int .i64 0, .int .i64 n, .int .i64 (til + 1)] 28)).alloc (.cells #[.bool on, .int .i64 r, .int .i64 0, .int .i64 n, .int .i64 (til + 1)] 28)).alloc (.cells #[.map mb, .int .i64 many, .int .i64 til] 59) := by
  go_enter Try.func48, Try.ntmps48
  go_wp2_with (go_at_call 43; refine (never_ex mb many til _ i1).mono ?_; rintro x wz ⟨rfl, rfl⟩)
  exact bodyPost_ret (v := .tuple #[.agg #[.bool on, .int .i64 r, .int .i64 0, .int .i64 n, .int .i64 (til + 1)], .int .i64 (-1)]) (by simp [results, Try.results48, go_sem]) rfl ⟨rfl, rfl⟩

end Go.Proofs.Ytpainlcehgiokaa

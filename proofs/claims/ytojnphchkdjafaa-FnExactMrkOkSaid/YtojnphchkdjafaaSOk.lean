/-
  What sendOk and l2Send return, in one sentence: the bool that the bounds give; for every send and every number of components in bounds.
-/
import Derived.Test.YtojnphchkdjafaaOk
namespace Go.Proofs.Ytojnphchkdjafaa
set_option maxRecDepth 100000
open Go.RowKit

/-- What both compute: to, delay, kind, plus, mod, rem. -/
def sndB (e : Evt) (many : Int) : Bool :=
  inB e.t 0 (many - 1) && inB e.to 1 9 && inB e.fr 0 2 && inB e.sq 0 96 && inB e.kd 1 9 && inB e.dt 0 (e.kd - 1)

set_option maxHeartbeats 2000000 in
theorem implSnd_any (e : Evt) (many : Int) (hm1 : 1 ≤ many) (hm2 : many ≤ 4) (w : World) :
    Calls Try.prog 121 #[e.v, .int .i64 many] w fun x w' => x = .returned (.bool (sndB e many)) ∧ Up w w' := by
  unfold sndB
  obtain ⟨et, eto, efr, esq, ekd, edt⟩ := e
  unfold Evt.v
  dsimp only
  by_cases hk : 1 ≤ ekd ∧ ekd ≤ 9
  · have hin : inB ekd 1 9 = true := inB_iff.2 hk
    obtain ⟨hk1, hk2⟩ := hk
    go_enter Try.func121, Try.ntmps121
    go_wp2_with (go_at_call 64; refine (within_any _ _ _ _).mono ?_; rintro e w' ⟨rfl, rfl⟩)
    all_goals go_ret
    all_goals exact ⟨ret_bool (by simp [*]), (Up.refl _).alloc _⟩
  · have hin : inB ekd 1 9 = false := inB_no.2 hk
    clear hk
    go_enter Try.func121, Try.ntmps121
    go_wp2_with (go_at_call 64; refine (within_any _ _ _ _).mono ?_; rintro e w' ⟨rfl, rfl⟩)
    all_goals go_ret
    all_goals exact ⟨ret_bool (by simp [*]), (Up.refl _).alloc _⟩

set_option maxHeartbeats 2000000 in
theorem specSnd_any (e : Evt) (many : Int) (hm1 : 1 ≤ many) (hm2 : many ≤ 4) (w : World) :
    Calls Try.prog 89 #[e.v, .int .i64 many] w fun x w' => x = .returned (.bool (sndB e many)) ∧ Up w w' := by
  unfold sndB
  obtain ⟨et, eto, efr, esq, ekd, edt⟩ := e
  unfold Evt.v
  dsimp only
  by_cases hk : 1 ≤ ekd ∧ ekd ≤ 9
  · have hin : inB ekd 1 9 = true := inB_iff.2 hk
    obtain ⟨hk1, hk2⟩ := hk
    go_enter Try.func89, Try.ntmps89
    go_wp2_with (go_at_call 40; refine (l1In_any _ _ _ _).mono ?_; rintro e w' ⟨rfl, rfl⟩)
    all_goals go_ret
    all_goals exact ⟨ret_bool (by simp [*]), (Up.refl _).alloc _⟩
  · have hin : inB ekd 1 9 = false := inB_no.2 hk
    clear hk
    go_enter Try.func89, Try.ntmps89
    go_wp2_with (go_at_call 40; refine (l1In_any _ _ _ _).mono ?_; rintro e w' ⟨rfl, rfl⟩)
    all_goals go_ret
    all_goals exact ⟨ret_bool (by simp [*]), (Up.refl _).alloc _⟩

end Go.Proofs.Ytojnphchkdjafaa

/-
  What within, l1In and the two EvtOk return, in one sentence: the bool that the fields' bounds give; for every event and every number of components of 64 bits.
-/
import Derived.Test.YtojnphchkdjafaaBase
namespace Go.Proofs.Ytojnphchkdjafaa
set_option maxRecDepth 100000
open Go.RowKit

theorem within_any (n lo hi : Int) (w : World) :
    Calls Try.prog 64 #[.int .i64 n, .int .i64 lo, .int .i64 hi] w fun e w' => e = .returned (.bool (inB n lo hi)) ∧ w = w' := by
  by_cases h1 : lo ≤ n
  · by_cases h2 : n ≤ hi
    · have hf := inB_iff.2 ⟨h1, h2⟩
      go_enter Try.func64, Try.ntmps64
      go_wp2
      go_ret
      exact ⟨by first | rfl | exact ret_bool hf.symm, rfl⟩
    · have hf : inB n lo hi = false := inB_no.2 fun h => h2 h.2
      go_enter Try.func64, Try.ntmps64
      go_wp2
      go_ret
      exact ⟨by first | rfl | exact ret_bool hf.symm, rfl⟩
  · have hf : inB n lo hi = false := inB_no.2 fun h => h1 h.1
    go_enter Try.func64, Try.ntmps64
    go_wp2
    go_ret
    exact ⟨by first | rfl | exact ret_bool hf.symm, rfl⟩

theorem l1In_any (n lo hi : Int) (w : World) :
    Calls Try.prog 40 #[.int .i64 n, .int .i64 lo, .int .i64 hi] w fun e w' => e = .returned (.bool (inB n lo hi)) ∧ w = w' := by
  by_cases h1 : lo ≤ n
  · by_cases h2 : n ≤ hi
    · have hf := inB_iff.2 ⟨h1, h2⟩
      go_enter Try.func40, Try.ntmps40
      go_wp2
      go_ret
      exact ⟨by first | rfl | exact ret_bool hf.symm, rfl⟩
    · have hf : inB n lo hi = false := inB_no.2 fun h => h2 h.2
      go_enter Try.func40, Try.ntmps40
      go_wp2
      go_ret
      exact ⟨by first | rfl | exact ret_bool hf.symm, rfl⟩
  · have hf : inB n lo hi = false := inB_no.2 fun h => h1 h.1
    go_enter Try.func40, Try.ntmps40
    go_wp2
    go_ret
    exact ⟨by first | rfl | exact ret_bool hf.symm, rfl⟩

/-- What both EvtOk compute. -/
def okB (e : Evt) (many : Int) : Bool :=
  inB many 1 4 && inB e.t 0 99 && inB e.to 0 (many - 1) && inB e.fr (-1) (many - 1) && inB e.sq 0 11 && inB e.kd 0 2 && inB e.dt 0 96

theorem implOk_any (e : Evt) (many : Int) (w : World) :
    Calls Try.prog 41 #[e.v, .int .i64 many] w fun x w' => x = .returned (.bool (okB e many)) ∧ Up w w' := by
  unfold okB
  obtain ⟨et, eto, efr, esq, ekd, edt⟩ := e
  unfold Evt.v
  dsimp only
  by_cases hm : 1 ≤ many ∧ many ≤ 4
  · have hin : inB many 1 4 = true := inB_iff.2 hm
    obtain ⟨hm1, hm2⟩ := hm
    go_enter Try.func41, Try.ntmps41
    go_wp2_with (go_at_call 64; refine (within_any _ _ _ _).mono ?_; rintro e w' ⟨rfl, rfl⟩)
    all_goals go_ret
    all_goals exact ⟨ret_bool (by simp [*]), (Up.refl _).alloc _⟩
  · have hin : inB many 1 4 = false := inB_no.2 hm
    go_enter Try.func41, Try.ntmps41
    go_wp2_with (go_at_call 64; refine (within_any _ _ _ _).mono ?_; rintro e w' ⟨rfl, rfl⟩)
    go_ret
    exact ⟨ret_bool (by simp [*]), (Up.refl _).alloc _⟩

theorem specOk_any (e : Evt) (many : Int) (w : World) :
    Calls Try.prog 68 #[e.v, .int .i64 many] w fun x w' => x = .returned (.bool (okB e many)) ∧ Up w w' := by
  unfold okB
  obtain ⟨et, eto, efr, esq, ekd, edt⟩ := e
  unfold Evt.v
  dsimp only
  by_cases hm : 1 ≤ many ∧ many ≤ 4
  · have hin : inB many 1 4 = true := inB_iff.2 hm
    obtain ⟨hm1, hm2⟩ := hm
    go_enter Try.func68, Try.ntmps68
    go_wp2_with (go_at_call 40; refine (l1In_any _ _ _ _).mono ?_; rintro e w' ⟨rfl, rfl⟩)
    all_goals go_ret
    all_goals exact ⟨ret_bool (by simp [*]), (Up.refl _).alloc _⟩
  · have hin : inB many 1 4 = false := inB_no.2 hm
    go_enter Try.func68, Try.ntmps68
    go_wp2_with (go_at_call 40; refine (l1In_any _ _ _ _).mono ?_; rintro e w' ⟨rfl, rfl⟩)
    go_ret
    exact ⟨ret_bool (by simp [*]), (Up.refl _).alloc _⟩

end Go.Proofs.Ytojnphchkdjafaa

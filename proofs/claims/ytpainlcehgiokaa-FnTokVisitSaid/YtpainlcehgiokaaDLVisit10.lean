/-
  The parts of a visit, in one sentence: a timestamp behind all, the counts of a mark, the colour of a round, the end of a lap; with the blocks that they make.
  What (machine).visit returns in one of four cases, in one sentence: the token, the mark and the bound behind a visit; for every valid token and mark.
  What (machine).visit returns in one of four cases, in one sentence: the token, the mark and the bound behind a visit; for every valid token and mark.
  What (machine).visit returns in one of four cases, in one sentence: the token, the mark and the bound behind a visit; for every valid token and mark.
  What (machine).visit returns in one of four cases, in one sentence: the token, the mark and the bound behind a visit; for every valid token and mark.
  What (machine).visit returns, in one sentence: the token, the mark and the bound behind a visit; for every valid token and mark.
  What visits returns, in one sentence: whether a valid token may visit a host with this mark; for every valid token and mark.
-/
import Derived.ChangeAlike
import Derived.RegionTactic
import Derived.Test.YtpainlcehgiokaaDLVisit09
namespace Go.Proofs.Ytpainlcehgiokaa
set_option maxRecDepth 100000
open Go.RowKit
theorem never_ex (mb : Option Nat) (many til : Int) (w : World) (i1 : IntKind.i64.wrap (til + 1) = til + 1) :
    Calls Try.prog 43 #[.agg #[.map mb, .int .i64 many, .int .i64 til]] w fun x w' => x = .returned (.int .i64 (til + 1)) ∧ w' = w.alloc (.cells #[.map mb, .int .i64 many, .int .i64 til] 59) := by
  go_enter Try.func43, Try.ntmps43
  go_wp2; go_ret
  exact ⟨rfl, rfl⟩
theorem tally_ex (g : Gm) (w : World) :
    Calls Try.prog 44 #[g.v] w fun x w' => x = .returned (.agg #[.int .i64 g.e, .int .i64 g.o]) ∧ w' = (w.alloc (.cells #[.int .i64 g.r, .int .i64 g.e, .int .i64 g.o, .int .i64 g.l] 30)).alloc (.cells #[.int .i64 g.e, .int .i64 g.o] 96) := by
  obtain ⟨r, e, o, l⟩ := g; unfold Gm.v; dsimp only
  go_enter Try.func44, Try.ntmps44
  go_wp2
  exact bodyPost_ret (v := .agg #[.int .i64 e, .int .i64 o]) (by simp [results, Try.results44, go_sem]) rfl ⟨rfl, rfl⟩
theorem with_ex (g : Gm) (e o : Int) (w : World) :
    Calls Try.prog 47 #[g.v, .agg #[.int .i64 e, .int .i64 o]] w fun x w' => x = .returned (.agg #[.int .i64 g.r, .int .i64 e, .int .i64 o, .int .i64 g.l]) ∧
      w' = (((w.alloc (.cells #[.int .i64 g.r, .int .i64 e, .int .i64 o, .int .i64 g.l] 30)).alloc (.cells #[.int .i64 e, .int .i64 o] 96)).alloc (.cells #[.int .i64 g.r, .int .i64 e, .int .i64 o, .int .i64 g.l] 30)).drew := by
  obtain ⟨r, ge, go, l⟩ := g; unfold Gm.v; dsimp only
  go_enter Try.func47, Try.ntmps47
  go_wp2
  go_region
  go_wp2
  exact bodyPost_ret (v := .agg #[.int .i64 r, .int .i64 e, .int .i64 o, .int .i64 l]) (by simp [results, Try.results47, go_sem]) rfl ⟨rfl, rfl⟩
theorem colourOf_ex (r : Int) (w : World) (h : 0 ≤ r ∧ r ≤ 999) :
    Calls Try.prog 45 #[.int .i64 r] w fun x w' => x = .returned (.int .i64 (r % 2)) ∧ w' = w := by
  have i5 : Int.tmod r 2 = r % 2 := Int.tmod_eq_emod_of_nonneg (by omega)
  have i6 : IntKind.i64.wrap (r % 2) = r % 2 := IntWalk.i64_in _ (by omega)
  go_enter Try.func45, Try.ntmps45
  go_wp2; go_ret
  exact ⟨rfl, rfl⟩
theorem other_ex (c : Int) (w : World) (h : 0 ≤ c ∧ c ≤ 1) :
    Calls Try.prog 46 #[.int .i64 c] w fun x w' => x = .returned (.int .i64 (1 - c)) ∧ w' = w := by
  have i6 : IntKind.i64.wrap (1 - c) = 1 - c := IntWalk.i64_in _ (by omega)
  go_enter Try.func46, Try.ntmps46
  go_wp2; go_ret
  exact ⟨rfl, rfl⟩
theorem endLap_ex0 (mb : Option Nat) (many til : Int) (on : Bool) (r a l : Int) (w : World) (i1 : IntKind.i64.wrap (til + 1) = til + 1) :
    Calls Try.prog 48 #[.agg #[.map mb, .int .i64 many, .int .i64 til], .agg #[.bool on, .int .i64 r, .int .i64 a, .int .i64 0, .int .i64 l]] w fun x w' => x = .returned (.tuple #[.agg #[.bool false, .int .i64 r, .int .i64 0, .int .i64 0, .int .i64 (til + 1)], .int .i64 l]) ∧
      w' = (((w.alloc (.cells #[.map mb, .int .i64 many, .int .i64 til] 59)).alloc (.cells #[.bool false, .int .i64 r, .int .i64 0, .int .i64 0, .int .i64 (til + 1)] 28)).alloc (.cells #[.bool false, .int .i64 r, .int .i64 0, .int .i64 0, .int .i64 (til + 1)] 28)).alloc (.cells #[.map mb, .int .i64 many, .int .i64 til] 59) := by
  go_enter Try.func48, Try.ntmps48
  go_wp2_with (go_at_call 43; refine (never_ex mb many til _ i1).mono ?_; rintro x wz ⟨rfl, rfl⟩)
  exact bodyPost_ret (v := .tuple #[.agg #[.bool false, .int .i64 r, .int .i64 0, .int .i64 0, .int .i64 (til + 1)], .int .i64 l]) (by simp [results, Try.results48, go_sem]) rfl ⟨rfl, rfl⟩
theorem endLap_ex1 (mb : Option Nat) (many til : Int) (on : Bool) (r a n l : Int) (w : World) (i1 : IntKind.i64.wrap (til + 1) = til + 1) (j : ¬ n = 0) :
    Calls Try.prog 48 #[.agg #[.map mb, .int .i64 many, .int .i64 til], .agg #[.bool on, .int .i64 r, .int .i64 a, .int .i64 n, .int .i64 l]] w fun x w' => x = .returned (.tuple #[.agg #[.bool on, .int .i64 r, .int .i64 0, .int .i64 n, .int .i64 (til + 1)], .int .i64 (-1)]) ∧
      w' = (((w.alloc (.cells #[.map mb, .int .i64 many, .int .i64 til] 59)).alloc (.cells #[.bool on, .int .i64 r, .int .i64 0, .int .i64 n, .int .i64 (til + 1)] 28)).alloc (.cells #[.bool on, .int .i64 r, .int .i64 0, .int .i64 n, .int .i64 (til + 1)] 28)).alloc (.cells #[.map mb, .int .i64 many, .int .i64 til] 59) := by
  go_enter Try.func48, Try.ntmps48
  go_wp2_with (go_at_call 43; refine (never_ex mb many til _ i1).mono ?_; rintro x wz ⟨rfl, rfl⟩)
  exact bodyPost_ret (v := .tuple #[.agg #[.bool on, .int .i64 r, .int .i64 0, .int .i64 n, .int .i64 (til + 1)], .int .i64 (-1)]) (by simp [results, Try.results48, go_sem]) rfl ⟨rfl, rfl⟩
end Go.Proofs.Ytpainlcehgiokaa

namespace Go.Proofs.Ytpainlcehgiokaa
set_option maxRecDepth 100000
open Go.RowKit
set_option maxHeartbeats 40000000 in
theorem visit_lt_odd (mb : Option Nat) (n : Nat) (til : Int) (t : Gk) (g : Gm) (least : Int) (w : World) (h0 : 0 ≤ til ∧ til ≤ 99) (h1 : 1 ≤ n ∧ n ≤ 4) (hk : gkB til n t = true) (hm : gmB til g = true) (j1 : g.r < t.r) (j2 : t.r % 2 = 1) :
    Calls Try.prog 25 #[.agg #[.map mb, .int .i64 (n : Int), .int .i64 til], t.v, g.v, .int .i64 least] w fun x w' => x = .returned (tokV (visK til n t g least)) ∧ Up w w' := by
  obtain ⟨gr, ge, gq, gl⟩ := g; obtain ⟨ton, tr, ta, tn, tl⟩ := t; simp only [gkB, gmB, Bool.and_eq_true, inB_iff] at hk hm
  have i1 : IntKind.i64.wrap (til + 1) = til + 1 := IntWalk.i64_in _ (by omega)
  have i2 : IntKind.i64.wrap (ta + 1) = ta + 1 := IntWalk.i64_in _ (by omega)
  have i3 : IntKind.i64.wrap (tn + ge) = tn + ge := IntWalk.i64_in _ (by omega)
  have i4 : IntKind.i64.wrap (tn + gq) = tn + gq := IntWalk.i64_in _ (by omega)
  have i5 : Int.tmod tr 2 = tr % 2 := Int.tmod_eq_emod_of_nonneg (by omega)
  have hr9 : 0 ≤ tr ∧ tr ≤ 999 := by omega
  dsimp only at j1 j2; obtain ⟨q1, hq1⟩ : ∃ q, (if least < tl then least else tl) = q := ⟨_, rfl⟩; obtain ⟨q2, hq2⟩ : ∃ q, (if til + 1 < q1 then til + 1 else q1) = q := ⟨_, rfl⟩
  have hq : min tl (min least (til + 1)) = q2 := by
    rw [← hq2, ← hq1]
    repeat' split
    all_goals omega
  have hmn : ∀ W : World, (Builtin.min_ #[3, 3, 3] 3 #[.int .i64 tl, .int .i64 least, .int .i64 (til + 1)]).run Try.prog W = .ok (.int .i64 q2) W := fun W => by
    rw [← hq2, ← hq1]; simp [Builtin.min_, Builtin.min2]
  by_cases j3 : ta + 1 < (n : Int)
  · have RV := Lib.hid (show tokV (visK til n ⟨ton, tr, ta, tn, tl⟩ ⟨gr, ge, gq, gl⟩ least) = .tuple #[.agg #[.bool ton, .int .i64 tr, .int .i64 (ta + 1), .int .i64 (tn + ge), .int .i64 (q2)], .agg #[.int .i64 tr, .int .i64 0, .int .i64 gq, .int .i64 (til + 1)], .int .i64 (-1)] by
      simp [tokV, visK, visM, visG, visN, visE, j1, j2, j3, hq, Gk.v, Gm.v])
    rw [RV.out]; unfold Gk.v Gm.v; dsimp only; clear RV hq
    go_enter Try.func25, Try.ntmps25
    go_wp2_with (first | (go_at_call 43; refine (never_ex mb n til _ i1).mono ?_; rintro x wz ⟨rfl, rfl⟩) | (go_at_call 44; refine (tally_ex ⟨_, _, _, _⟩ _).mono ?_; rintro x wz ⟨rfl, rfl⟩; dsimp only) | (go_at_call 47; refine (with_ex ⟨_, _, _, _⟩ _ _ _).mono ?_; rintro x wz ⟨rfl, rfl⟩; dsimp only) | (go_at_call 45; refine (colourOf_ex tr _ hr9).mono ?_; rintro x wz ⟨rfl, rfl⟩) | (go_at_call 46; refine (other_ex _ _ (by omega)).mono ?_; rintro x wz ⟨rfl, rfl⟩))
    go_region
    go_wp2_with (first | (go_at_call 43; refine (never_ex mb n til _ i1).mono ?_; rintro x wz ⟨rfl, rfl⟩) | (go_at_call 44; refine (tally_ex ⟨_, _, _, _⟩ _).mono ?_; rintro x wz ⟨rfl, rfl⟩; dsimp only) | (go_at_call 47; refine (with_ex ⟨_, _, _, _⟩ _ _ _).mono ?_; rintro x wz ⟨rfl, rfl⟩; dsimp only) | (go_at_call 45; refine (colourOf_ex tr _ hr9).mono ?_; rintro x wz ⟨rfl, rfl⟩) | (go_at_call 46; refine (other_ex _ _ (by omega)).mono ?_; rintro x wz ⟨rfl, rfl⟩))
    go_region
    go_wp2
    exact bodyPost_ret (v := .tuple #[.agg #[.bool ton, .int .i64 tr, .int .i64 (ta + 1), .int .i64 (tn + ge), .int .i64 (q2)], .agg #[.int .i64 tr, .int .i64 0, .int .i64 gq, .int .i64 (til + 1)], .int .i64 (-1)]) (by simp [results, Try.results25, go_sem]) rfl ⟨rfl, by repeat (first | exact Up.refl _ | refine Up.drew ?_ | refine Up.alloc ?_ _)⟩
  · by_cases j6 : tn + ge = 0
    · have RV := Lib.hid (show tokV (visK til n ⟨ton, tr, ta, tn, tl⟩ ⟨gr, ge, gq, gl⟩ least) = .tuple #[.agg #[.bool false, .int .i64 tr, .int .i64 (0), .int .i64 (0), .int .i64 (til + 1)], .agg #[.int .i64 tr, .int .i64 0, .int .i64 gq, .int .i64 (til + 1)], .int .i64 (q2)] by
        simp [tokV, visK, visM, visG, visN, visE, j1, j2, j3, j6, hq, Gk.v, Gm.v])
      rw [RV.out]; unfold Gk.v Gm.v; dsimp only; clear RV hq
      go_enter Try.func25, Try.ntmps25
      go_wp2_with (first | (go_at_call 43; refine (never_ex mb n til _ i1).mono ?_; rintro x wz ⟨rfl, rfl⟩) | (go_at_call 44; refine (tally_ex ⟨_, _, _, _⟩ _).mono ?_; rintro x wz ⟨rfl, rfl⟩; dsimp only) | (go_at_call 47; refine (with_ex ⟨_, _, _, _⟩ _ _ _).mono ?_; rintro x wz ⟨rfl, rfl⟩; dsimp only) | (go_at_call 45; refine (colourOf_ex tr _ hr9).mono ?_; rintro x wz ⟨rfl, rfl⟩) | (go_at_call 46; refine (other_ex _ _ (by omega)).mono ?_; rintro x wz ⟨rfl, rfl⟩) | (go_at_call 48; refine (endLap_ex0 mb n til _ _ _ _ _ i1).mono ?_; rintro x wz ⟨rfl, rfl⟩))
      go_region
      go_wp2_with (first | (go_at_call 43; refine (never_ex mb n til _ i1).mono ?_; rintro x wz ⟨rfl, rfl⟩) | (go_at_call 44; refine (tally_ex ⟨_, _, _, _⟩ _).mono ?_; rintro x wz ⟨rfl, rfl⟩; dsimp only) | (go_at_call 47; refine (with_ex ⟨_, _, _, _⟩ _ _ _).mono ?_; rintro x wz ⟨rfl, rfl⟩; dsimp only) | (go_at_call 45; refine (colourOf_ex tr _ hr9).mono ?_; rintro x wz ⟨rfl, rfl⟩) | (go_at_call 46; refine (other_ex _ _ (by omega)).mono ?_; rintro x wz ⟨rfl, rfl⟩) | (go_at_call 48; refine (endLap_ex0 mb n til _ _ _ _ _ i1).mono ?_; rintro x wz ⟨rfl, rfl⟩))
      go_region
      go_wp2
      exact bodyPost_ret (v := .tuple #[.agg #[.bool false, .int .i64 tr, .int .i64 (0), .int .i64 (0), .int .i64 (til + 1)], .agg #[.int .i64 tr, .int .i64 0, .int .i64 gq, .int .i64 (til + 1)], .int .i64 (q2)]) (by simp [results, Try.results25, go_sem]) rfl ⟨rfl, by repeat (first | exact Up.refl _ | refine Up.drew ?_ | refine Up.alloc ?_ _)⟩
    · have RV := Lib.hid (show tokV (visK til n ⟨ton, tr, ta, tn, tl⟩ ⟨gr, ge, gq, gl⟩ least) = .tuple #[.agg #[.bool ton, .int .i64 tr, .int .i64 (0), .int .i64 (tn + ge), .int .i64 (til + 1)], .agg #[.int .i64 tr, .int .i64 0, .int .i64 gq, .int .i64 (til + 1)], .int .i64 (-1)] by
        simp [tokV, visK, visM, visG, visN, visE, j1, j2, j3, j6, Gk.v, Gm.v])
      rw [RV.out]; unfold Gk.v Gm.v; dsimp only; clear RV hq
      go_enter Try.func25, Try.ntmps25
      go_wp2_with (first | (go_at_call 43; refine (never_ex mb n til _ i1).mono ?_; rintro x wz ⟨rfl, rfl⟩) | (go_at_call 44; refine (tally_ex ⟨_, _, _, _⟩ _).mono ?_; rintro x wz ⟨rfl, rfl⟩; dsimp only) | (go_at_call 47; refine (with_ex ⟨_, _, _, _⟩ _ _ _).mono ?_; rintro x wz ⟨rfl, rfl⟩; dsimp only) | (go_at_call 45; refine (colourOf_ex tr _ hr9).mono ?_; rintro x wz ⟨rfl, rfl⟩) | (go_at_call 46; refine (other_ex _ _ (by omega)).mono ?_; rintro x wz ⟨rfl, rfl⟩) | (go_at_call 48; refine (endLap_ex1 mb n til _ _ _ _ _ _ i1 j6).mono ?_; rintro x wz ⟨rfl, rfl⟩))
      go_region
      go_wp2_with (first | (go_at_call 43; refine (never_ex mb n til _ i1).mono ?_; rintro x wz ⟨rfl, rfl⟩) | (go_at_call 44; refine (tally_ex ⟨_, _, _, _⟩ _).mono ?_; rintro x wz ⟨rfl, rfl⟩; dsimp only) | (go_at_call 47; refine (with_ex ⟨_, _, _, _⟩ _ _ _).mono ?_; rintro x wz ⟨rfl, rfl⟩; dsimp only) | (go_at_call 45; refine (colourOf_ex tr _ hr9).mono ?_; rintro x wz ⟨rfl, rfl⟩) | (go_at_call 46; refine (other_ex _ _ (by omega)).mono ?_; rintro x wz ⟨rfl, rfl⟩) | (go_at_call 48; refine (endLap_ex1 mb n til _ _ _ _ _ _ i1 j6).mono ?_; rintro x wz ⟨rfl, rfl⟩))
      go_region
      go_wp2
      exact bodyPost_ret (v := .tuple #[.agg #[.bool ton, .int .i64 tr, .int .i64 (0), .int .i64 (tn + ge), .int .i64 (til + 1)], .agg #[.int .i64 tr, .int .i64 0, .int .i64 gq, .int .i64 (til + 1)], .int .i64 (-1)]) (by simp [results, Try.results25, go_sem]) rfl ⟨rfl, by repeat (first | exact Up.refl _ | refine Up.drew ?_ | refine Up.alloc ?_ _)⟩
end Go.Proofs.Ytpainlcehgiokaa

namespace Go.Proofs.Ytpainlcehgiokaa
set_option maxRecDepth 100000
open Go.RowKit
set_option maxHeartbeats 40000000 in
theorem visit_lt_ev (mb : Option Nat) (n : Nat) (til : Int) (t : Gk) (g : Gm) (least : Int) (w : World) (h0 : 0 ≤ til ∧ til ≤ 99) (h1 : 1 ≤ n ∧ n ≤ 4) (hk : gkB til n t = true) (hm : gmB til g = true) (j1 : g.r < t.r) (j2 : ¬ t.r % 2 = 1) :
    Calls Try.prog 25 #[.agg #[.map mb, .int .i64 (n : Int), .int .i64 til], t.v, g.v, .int .i64 least] w fun x w' => x = .returned (tokV (visK til n t g least)) ∧ Up w w' := by
  obtain ⟨gr, ge, gq, gl⟩ := g; obtain ⟨ton, tr, ta, tn, tl⟩ := t; simp only [gkB, gmB, Bool.and_eq_true, inB_iff] at hk hm
  have i1 : IntKind.i64.wrap (til + 1) = til + 1 := IntWalk.i64_in _ (by omega)
  have i2 : IntKind.i64.wrap (ta + 1) = ta + 1 := IntWalk.i64_in _ (by omega)
  have i3 : IntKind.i64.wrap (tn + ge) = tn + ge := IntWalk.i64_in _ (by omega)
  have i4 : IntKind.i64.wrap (tn + gq) = tn + gq := IntWalk.i64_in _ (by omega)
  have i5 : Int.tmod tr 2 = tr % 2 := Int.tmod_eq_emod_of_nonneg (by omega)
  have hr9 : 0 ≤ tr ∧ tr ≤ 999 := by omega
  dsimp only at j1 j2; obtain ⟨q1, hq1⟩ : ∃ q, (if least < tl then least else tl) = q := ⟨_, rfl⟩; obtain ⟨q2, hq2⟩ : ∃ q, (if til + 1 < q1 then til + 1 else q1) = q := ⟨_, rfl⟩
  have hq : min tl (min least (til + 1)) = q2 := by
    rw [← hq2, ← hq1]
    repeat' split
    all_goals omega
  have hmn : ∀ W : World, (Builtin.min_ #[3, 3, 3] 3 #[.int .i64 tl, .int .i64 least, .int .i64 (til + 1)]).run Try.prog W = .ok (.int .i64 q2) W := fun W => by
    rw [← hq2, ← hq1]; simp [Builtin.min_, Builtin.min2]
  have j2z : tr % 2 = 0 := by omega
  by_cases j3 : ta + 1 < (n : Int)
  · have RV := Lib.hid (show tokV (visK til n ⟨ton, tr, ta, tn, tl⟩ ⟨gr, ge, gq, gl⟩ least) = .tuple #[.agg #[.bool ton, .int .i64 tr, .int .i64 (ta + 1), .int .i64 (tn + gq), .int .i64 (q2)], .agg #[.int .i64 tr, .int .i64 ge, .int .i64 0, .int .i64 (til + 1)], .int .i64 (-1)] by
      simp [tokV, visK, visM, visG, visN, visE, j1, j2, j3, hq, Gk.v, Gm.v])
    rw [RV.out]; unfold Gk.v Gm.v; dsimp only; clear RV hq
    go_enter Try.func25, Try.ntmps25
    go_wp2_with (first | (go_at_call 43; refine (never_ex mb n til _ i1).mono ?_; rintro x wz ⟨rfl, rfl⟩) | (go_at_call 44; refine (tally_ex ⟨_, _, _, _⟩ _).mono ?_; rintro x wz ⟨rfl, rfl⟩; dsimp only) | (go_at_call 47; refine (with_ex ⟨_, _, _, _⟩ _ _ _).mono ?_; rintro x wz ⟨rfl, rfl⟩; dsimp only) | (go_at_call 45; refine (colourOf_ex tr _ hr9).mono ?_; rintro x wz ⟨rfl, rfl⟩) | (go_at_call 46; refine (other_ex _ _ (by omega)).mono ?_; rintro x wz ⟨rfl, rfl⟩))
    go_region
    go_wp2_with (first | (go_at_call 43; refine (never_ex mb n til _ i1).mono ?_; rintro x wz ⟨rfl, rfl⟩) | (go_at_call 44; refine (tally_ex ⟨_, _, _, _⟩ _).mono ?_; rintro x wz ⟨rfl, rfl⟩; dsimp only) | (go_at_call 47; refine (with_ex ⟨_, _, _, _⟩ _ _ _).mono ?_; rintro x wz ⟨rfl, rfl⟩; dsimp only) | (go_at_call 45; refine (colourOf_ex tr _ hr9).mono ?_; rintro x wz ⟨rfl, rfl⟩) | (go_at_call 46; refine (other_ex _ _ (by omega)).mono ?_; rintro x wz ⟨rfl, rfl⟩))
    go_region
    go_wp2
    exact bodyPost_ret (v := .tuple #[.agg #[.bool ton, .int .i64 tr, .int .i64 (ta + 1), .int .i64 (tn + gq), .int .i64 (q2)], .agg #[.int .i64 tr, .int .i64 ge, .int .i64 0, .int .i64 (til + 1)], .int .i64 (-1)]) (by simp [results, Try.results25, go_sem]) rfl ⟨rfl, by repeat (first | exact Up.refl _ | refine Up.drew ?_ | refine Up.alloc ?_ _)⟩
  · by_cases j6 : tn + gq = 0
    · have RV := Lib.hid (show tokV (visK til n ⟨ton, tr, ta, tn, tl⟩ ⟨gr, ge, gq, gl⟩ least) = .tuple #[.agg #[.bool false, .int .i64 tr, .int .i64 (0), .int .i64 (0), .int .i64 (til + 1)], .agg #[.int .i64 tr, .int .i64 ge, .int .i64 0, .int .i64 (til + 1)], .int .i64 (q2)] by
        simp [tokV, visK, visM, visG, visN, visE, j1, j2, j3, j6, hq, Gk.v, Gm.v])
      rw [RV.out]; unfold Gk.v Gm.v; dsimp only; clear RV hq
      go_enter Try.func25, Try.ntmps25
      go_wp2_with (first | (go_at_call 43; refine (never_ex mb n til _ i1).mono ?_; rintro x wz ⟨rfl, rfl⟩) | (go_at_call 44; refine (tally_ex ⟨_, _, _, _⟩ _).mono ?_; rintro x wz ⟨rfl, rfl⟩; dsimp only) | (go_at_call 47; refine (with_ex ⟨_, _, _, _⟩ _ _ _).mono ?_; rintro x wz ⟨rfl, rfl⟩; dsimp only) | (go_at_call 45; refine (colourOf_ex tr _ hr9).mono ?_; rintro x wz ⟨rfl, rfl⟩) | (go_at_call 46; refine (other_ex _ _ (by omega)).mono ?_; rintro x wz ⟨rfl, rfl⟩) | (go_at_call 48; refine (endLap_ex0 mb n til _ _ _ _ _ i1).mono ?_; rintro x wz ⟨rfl, rfl⟩))
      go_region
      go_wp2_with (first | (go_at_call 43; refine (never_ex mb n til _ i1).mono ?_; rintro x wz ⟨rfl, rfl⟩) | (go_at_call 44; refine (tally_ex ⟨_, _, _, _⟩ _).mono ?_; rintro x wz ⟨rfl, rfl⟩; dsimp only) | (go_at_call 47; refine (with_ex ⟨_, _, _, _⟩ _ _ _).mono ?_; rintro x wz ⟨rfl, rfl⟩; dsimp only) | (go_at_call 45; refine (colourOf_ex tr _ hr9).mono ?_; rintro x wz ⟨rfl, rfl⟩) | (go_at_call 46; refine (other_ex _ _ (by omega)).mono ?_; rintro x wz ⟨rfl, rfl⟩) | (go_at_call 48; refine (endLap_ex0 mb n til _ _ _ _ _ i1).mono ?_; rintro x wz ⟨rfl, rfl⟩))
      go_region
      go_wp2
      exact bodyPost_ret (v := .tuple #[.agg #[.bool false, .int .i64 tr, .int .i64 (0), .int .i64 (0), .int .i64 (til + 1)], .agg #[.int .i64 tr, .int .i64 ge, .int .i64 0, .int .i64 (til + 1)], .int .i64 (q2)]) (by simp [results, Try.results25, go_sem]) rfl ⟨rfl, by repeat (first | exact Up.refl _ | refine Up.drew ?_ | refine Up.alloc ?_ _)⟩
    · have RV := Lib.hid (show tokV (visK til n ⟨ton, tr, ta, tn, tl⟩ ⟨gr, ge, gq, gl⟩ least) = .tuple #[.agg #[.bool ton, .int .i64 tr, .int .i64 (0), .int .i64 (tn + gq), .int .i64 (til + 1)], .agg #[.int .i64 tr, .int .i64 ge, .int .i64 0, .int .i64 (til + 1)], .int .i64 (-1)] by
        simp [tokV, visK, visM, visG, visN, visE, j1, j2, j3, j6, Gk.v, Gm.v])
      rw [RV.out]; unfold Gk.v Gm.v; dsimp only; clear RV hq
      go_enter Try.func25, Try.ntmps25
      go_wp2_with (first | (go_at_call 43; refine (never_ex mb n til _ i1).mono ?_; rintro x wz ⟨rfl, rfl⟩) | (go_at_call 44; refine (tally_ex ⟨_, _, _, _⟩ _).mono ?_; rintro x wz ⟨rfl, rfl⟩; dsimp only) | (go_at_call 47; refine (with_ex ⟨_, _, _, _⟩ _ _ _).mono ?_; rintro x wz ⟨rfl, rfl⟩; dsimp only) | (go_at_call 45; refine (colourOf_ex tr _ hr9).mono ?_; rintro x wz ⟨rfl, rfl⟩) | (go_at_call 46; refine (other_ex _ _ (by omega)).mono ?_; rintro x wz ⟨rfl, rfl⟩) | (go_at_call 48; refine (endLap_ex1 mb n til _ _ _ _ _ _ i1 j6).mono ?_; rintro x wz ⟨rfl, rfl⟩))
      go_region
      go_wp2_with (first | (go_at_call 43; refine (never_ex mb n til _ i1).mono ?_; rintro x wz ⟨rfl, rfl⟩) | (go_at_call 44; refine (tally_ex ⟨_, _, _, _⟩ _).mono ?_; rintro x wz ⟨rfl, rfl⟩; dsimp only) | (go_at_call 47; refine (with_ex ⟨_, _, _, _⟩ _ _ _).mono ?_; rintro x wz ⟨rfl, rfl⟩; dsimp only) | (go_at_call 45; refine (colourOf_ex tr _ hr9).mono ?_; rintro x wz ⟨rfl, rfl⟩) | (go_at_call 46; refine (other_ex _ _ (by omega)).mono ?_; rintro x wz ⟨rfl, rfl⟩) | (go_at_call 48; refine (endLap_ex1 mb n til _ _ _ _ _ _ i1 j6).mono ?_; rintro x wz ⟨rfl, rfl⟩))
      go_region
      go_wp2
      exact bodyPost_ret (v := .tuple #[.agg #[.bool ton, .int .i64 tr, .int .i64 (0), .int .i64 (tn + gq), .int .i64 (til + 1)], .agg #[.int .i64 tr, .int .i64 ge, .int .i64 0, .int .i64 (til + 1)], .int .i64 (-1)]) (by simp [results, Try.results25, go_sem]) rfl ⟨rfl, by repeat (first | exact Up.refl _ | refine Up.drew ?_ | refine Up.alloc ?_ _)⟩
end Go.Proofs.Ytpainlcehgiokaa

namespace Go.Proofs.Ytpainlcehgiokaa
set_option maxRecDepth 100000
open Go.RowKit
set_option maxHeartbeats 40000000 in
theorem visit_ge_odd (mb : Option Nat) (n : Nat) (til : Int) (t : Gk) (g : Gm) (least : Int) (w : World) (h0 : 0 ≤ til ∧ til ≤ 99) (h1 : 1 ≤ n ∧ n ≤ 4) (hk : gkB til n t = true) (hm : gmB til g = true) (j1 : ¬ g.r < t.r) (j2 : t.r % 2 = 1) :
    Calls Try.prog 25 #[.agg #[.map mb, .int .i64 (n : Int), .int .i64 til], t.v, g.v, .int .i64 least] w fun x w' => x = .returned (tokV (visK til n t g least)) ∧ Up w w' := by
  obtain ⟨gr, ge, gq, gl⟩ := g; obtain ⟨ton, tr, ta, tn, tl⟩ := t; simp only [gkB, gmB, Bool.and_eq_true, inB_iff] at hk hm
  have i1 : IntKind.i64.wrap (til + 1) = til + 1 := IntWalk.i64_in _ (by omega)
  have i2 : IntKind.i64.wrap (ta + 1) = ta + 1 := IntWalk.i64_in _ (by omega)
  have i3 : IntKind.i64.wrap (tn + ge) = tn + ge := IntWalk.i64_in _ (by omega)
  have i4 : IntKind.i64.wrap (tn + gq) = tn + gq := IntWalk.i64_in _ (by omega)
  have i5 : Int.tmod tr 2 = tr % 2 := Int.tmod_eq_emod_of_nonneg (by omega)
  have hr9 : 0 ≤ tr ∧ tr ≤ 999 := by omega
  dsimp only at j1 j2; obtain ⟨q1, hq1⟩ : ∃ q, (if least < tl then least else tl) = q := ⟨_, rfl⟩; obtain ⟨q2, hq2⟩ : ∃ q, (if gl < q1 then gl else q1) = q := ⟨_, rfl⟩
  have hq : min tl (min least (gl)) = q2 := by
    rw [← hq2, ← hq1]
    repeat' split
    all_goals omega
  have hmn : ∀ W : World, (Builtin.min_ #[3, 3, 3] 3 #[.int .i64 tl, .int .i64 least, .int .i64 (gl)]).run Try.prog W = .ok (.int .i64 q2) W := fun W => by
    rw [← hq2, ← hq1]; simp [Builtin.min_, Builtin.min2]
  by_cases j3 : ta + 1 < (n : Int)
  · have RV := Lib.hid (show tokV (visK til n ⟨ton, tr, ta, tn, tl⟩ ⟨gr, ge, gq, gl⟩ least) = .tuple #[.agg #[.bool ton, .int .i64 tr, .int .i64 (ta + 1), .int .i64 (tn + ge), .int .i64 (q2)], .agg #[.int .i64 gr, .int .i64 0, .int .i64 gq, .int .i64 (gl)], .int .i64 (-1)] by
      simp [tokV, visK, visM, visG, visN, visE, j1, j2, j3, hq, Gk.v, Gm.v])
    rw [RV.out]; unfold Gk.v Gm.v; dsimp only; clear RV hq
    go_enter Try.func25, Try.ntmps25
    go_wp2_with (first | (go_at_call 43; refine (never_ex mb n til _ i1).mono ?_; rintro x wz ⟨rfl, rfl⟩) | (go_at_call 44; refine (tally_ex ⟨_, _, _, _⟩ _).mono ?_; rintro x wz ⟨rfl, rfl⟩; dsimp only) | (go_at_call 47; refine (with_ex ⟨_, _, _, _⟩ _ _ _).mono ?_; rintro x wz ⟨rfl, rfl⟩; dsimp only) | (go_at_call 45; refine (colourOf_ex tr _ hr9).mono ?_; rintro x wz ⟨rfl, rfl⟩) | (go_at_call 46; refine (other_ex _ _ (by omega)).mono ?_; rintro x wz ⟨rfl, rfl⟩))
    go_region
    go_wp2_with (first | (go_at_call 43; refine (never_ex mb n til _ i1).mono ?_; rintro x wz ⟨rfl, rfl⟩) | (go_at_call 44; refine (tally_ex ⟨_, _, _, _⟩ _).mono ?_; rintro x wz ⟨rfl, rfl⟩; dsimp only) | (go_at_call 47; refine (with_ex ⟨_, _, _, _⟩ _ _ _).mono ?_; rintro x wz ⟨rfl, rfl⟩; dsimp only) | (go_at_call 45; refine (colourOf_ex tr _ hr9).mono ?_; rintro x wz ⟨rfl, rfl⟩) | (go_at_call 46; refine (other_ex _ _ (by omega)).mono ?_; rintro x wz ⟨rfl, rfl⟩))
    go_region
    go_wp2
    exact bodyPost_ret (v := .tuple #[.agg #[.bool ton, .int .i64 tr, .int .i64 (ta + 1), .int .i64 (tn + ge), .int .i64 (q2)], .agg #[.int .i64 gr, .int .i64 0, .int .i64 gq, .int .i64 (gl)], .int .i64 (-1)]) (by simp [results, Try.results25, go_sem]) rfl ⟨rfl, by repeat (first | exact Up.refl _ | refine Up.drew ?_ | refine Up.alloc ?_ _)⟩
  · by_cases j6 : tn + ge = 0
    · have RV := Lib.hid (show tokV (visK til n ⟨ton, tr, ta, tn, tl⟩ ⟨gr, ge, gq, gl⟩ least) = .tuple #[.agg #[.bool false, .int .i64 tr, .int .i64 (0), .int .i64 (0), .int .i64 (til + 1)], .agg #[.int .i64 gr, .int .i64 0, .int .i64 gq, .int .i64 (gl)], .int .i64 (q2)] by
        simp [tokV, visK, visM, visG, visN, visE, j1, j2, j3, j6, hq, Gk.v, Gm.v])
      rw [RV.out]; unfold Gk.v Gm.v; dsimp only; clear RV hq
      go_enter Try.func25, Try.ntmps25
      go_wp2_with (first | (go_at_call 43; refine (never_ex mb n til _ i1).mono ?_; rintro x wz ⟨rfl, rfl⟩) | (go_at_call 44; refine (tally_ex ⟨_, _, _, _⟩ _).mono ?_; rintro x wz ⟨rfl, rfl⟩; dsimp only) | (go_at_call 47; refine (with_ex ⟨_, _, _, _⟩ _ _ _).mono ?_; rintro x wz ⟨rfl, rfl⟩; dsimp only) | (go_at_call 45; refine (colourOf_ex tr _ hr9).mono ?_; rintro x wz ⟨rfl, rfl⟩) | (go_at_call 46; refine (other_ex _ _ (by omega)).mono ?_; rintro x wz ⟨rfl, rfl⟩) | (go_at_call 48; refine (endLap_ex0 mb n til _ _ _ _ _ i1).mono ?_; rintro x wz ⟨rfl, rfl⟩))
      go_region
      go_wp2_with (first | (go_at_call 43; refine (never_ex mb n til _ i1).mono ?_; rintro x wz ⟨rfl, rfl⟩) | (go_at_call 44; refine (tally_ex ⟨_, _, _, _⟩ _).mono ?_; rintro x wz ⟨rfl, rfl⟩; dsimp only) | (go_at_call 47; refine (with_ex ⟨_, _, _, _⟩ _ _ _).mono ?_; rintro x wz ⟨rfl, rfl⟩; dsimp only) | (go_at_call 45; refine (colourOf_ex tr _ hr9).mono ?_; rintro x wz ⟨rfl, rfl⟩) | (go_at_call 46; refine (other_ex _ _ (by omega)).mono ?_; rintro x wz ⟨rfl, rfl⟩) | (go_at_call 48; refine (endLap_ex0 mb n til _ _ _ _ _ i1).mono ?_; rintro x wz ⟨rfl, rfl⟩))
      go_region
      go_wp2
      exact bodyPost_ret (v := .tuple #[.agg #[.bool false, .int .i64 tr, .int .i64 (0), .int .i64 (0), .int .i64 (til + 1)], .agg #[.int .i64 gr, .int .i64 0, .int .i64 gq, .int .i64 (gl)], .int .i64 (q2)]) (by simp [results, Try.results25, go_sem]) rfl ⟨rfl, by repeat (first | exact Up.refl _ | refine Up.drew ?_ | refine Up.alloc ?_ _)⟩
    · have RV := Lib.hid (show tokV (visK til n ⟨ton, tr, ta, tn, tl⟩ ⟨gr, ge, gq, gl⟩ least) = .tuple #[.agg #[.bool ton, .int .i64 tr, .int .i64 (0), .int .i64 (tn + ge), .int .i64 (til + 1)], .agg #[.int .i64 gr, .int .i64 0, .int .i64 gq, .int .i64 (gl)], .int .i64 (-1)] by
        simp [tokV, visK, visM, visG, visN, visE, j1, j2, j3, j6, Gk.v, Gm.v])
      rw [RV.out]; unfold Gk.v Gm.v; dsimp only; clear RV hq
      go_enter Try.func25, Try.ntmps25
      go_wp2_with (first | (go_at_call 43; refine (never_ex mb n til _ i1).mono ?_; rintro x wz ⟨rfl, rfl⟩) | (go_at_call 44; refine (tally_ex ⟨_, _, _, _⟩ _).mono ?_; rintro x wz ⟨rfl, rfl⟩; dsimp only) | (go_at_call 47; refine (with_ex ⟨_, _, _, _⟩ _ _ _).mono ?_; rintro x wz ⟨rfl, rfl⟩; dsimp only) | (go_at_call 45; refine (colourOf_ex tr _ hr9).mono ?_; rintro x wz ⟨rfl, rfl⟩) | (go_at_call 46; refine (other_ex _ _ (by omega)).mono ?_; rintro x wz ⟨rfl, rfl⟩) | (go_at_call 48; refine (endLap_ex1 mb n til _ _ _ _ _ _ i1 j6).mono ?_; rintro x wz ⟨rfl, rfl⟩))
      go_region
      go_wp2_with (first | (go_at_call 43; refine (never_ex mb n til _ i1).mono ?_; rintro x wz ⟨rfl, rfl⟩) | (go_at_call 44; refine (tally_ex ⟨_, _, _, _⟩ _).mono ?_; rintro x wz ⟨rfl, rfl⟩; dsimp only) | (go_at_call 47; refine (with_ex ⟨_, _, _, _⟩ _ _ _).mono ?_; rintro x wz ⟨rfl, rfl⟩; dsimp only) | (go_at_call 45; refine (colourOf_ex tr _ hr9).mono ?_; rintro x wz ⟨rfl, rfl⟩) | (go_at_call 46; refine (other_ex _ _ (by omega)).mono ?_; rintro x wz ⟨rfl, rfl⟩) | (go_at_call 48; refine (endLap_ex1 mb n til _ _ _ _ _ _ i1 j6).mono ?_; rintro x wz ⟨rfl, rfl⟩))
      go_region
      go_wp2
      exact bodyPost_ret (v := .tuple #[.agg #[.bool ton, .int .i64 tr, .int .i64 (0), .int .i64 (tn + ge), .int .i64 (til + 1)], .agg #[.int .i64 gr, .int .i64 0, .int .i64 gq, .int .i64 (gl)], .int .i64 (-1)]) (by simp [results, Try.results25, go_sem]) rfl ⟨rfl, by repeat (first | exact Up.refl _ | refine Up.drew ?_ | refine Up.alloc ?_ _)⟩
end Go.Proofs.Ytpainlcehgiokaa

namespace Go.Proofs.Ytpainlcehgiokaa
set_option maxRecDepth 100000
open Go.RowKit
set_option maxHeartbeats 40000000 in
theorem visit_ge_ev (mb : Option Nat) (n : Nat) (til : Int) (t : Gk) (g : Gm) (least : Int) (w : World) (h0 : 0 ≤ til ∧ til ≤ 99) (h1 : 1 ≤ n ∧ n ≤ 4) (hk : gkB til n t = true) (hm : gmB til g = true) (j1 : ¬ g.r < t.r) (j2 : ¬ t.r % 2 = 1) :
    Calls Try.prog 25 #[.agg #[.map mb, .int .i64 (n : Int), .int .i64 til], t.v, g.v, .int .i64 least] w fun x w' => x = .returned (tokV (visK til n t g least)) ∧ Up w w' := by
  obtain ⟨gr, ge, gq, gl⟩ := g; obtain ⟨ton, tr, ta, tn, tl⟩ := t; simp only [gkB, gmB, Bool.and_eq_true, inB_iff] at hk hm
  have i1 : IntKind.i64.wrap (til + 1) = til + 1 := IntWalk.i64_in _ (by omega)
  have i2 : IntKind.i64.wrap (ta + 1) = ta + 1 := IntWalk.i64_in _ (by omega)
  have i3 : IntKind.i64.wrap (tn + ge) = tn + ge := IntWalk.i64_in _ (by omega)
  have i4 : IntKind.i64.wrap (tn + gq) = tn + gq := IntWalk.i64_in _ (by omega)
  have i5 : Int.tmod tr 2 = tr % 2 := Int.tmod_eq_emod_of_nonneg (by omega)
  have hr9 : 0 ≤ tr ∧ tr ≤ 999 := by omega
  dsimp only at j1 j2; obtain ⟨q1, hq1⟩ : ∃ q, (if least < tl then least else tl) = q := ⟨_, rfl⟩; obtain ⟨q2, hq2⟩ : ∃ q, (if gl < q1 then gl else q1) = q := ⟨_, rfl⟩
  have hq : min tl (min least (gl)) = q2 := by
    rw [← hq2, ← hq1]
    repeat' split
    all_goals omega
  have hmn : ∀ W : World, (Builtin.min_ #[3, 3, 3] 3 #[.int .i64 tl, .int .i64 least, .int .i64 (gl)]).run Try.prog W = .ok (.int .i64 q2) W := fun W => by
    rw [← hq2, ← hq1]; simp [Builtin.min_, Builtin.min2]
  have j2z : tr % 2 = 0 := by omega
  by_cases j3 : ta + 1 < (n : Int)
  · have RV := Lib.hid (show tokV (visK til n ⟨ton, tr, ta, tn, tl⟩ ⟨gr, ge, gq, gl⟩ least) = .tuple #[.agg #[.bool ton, .int .i64 tr, .int .i64 (ta + 1), .int .i64 (tn + gq), .int .i64 (q2)], .agg #[.int .i64 gr, .int .i64 ge, .int .i64 0, .int .i64 (gl)], .int .i64 (-1)] by
      simp [tokV, visK, visM, visG, visN, visE, j1, j2, j3, hq, Gk.v, Gm.v])
    rw [RV.out]; unfold Gk.v Gm.v; dsimp only; clear RV hq
    go_enter Try.func25, Try.ntmps25
    go_wp2_with (first | (go_at_call 43; refine (never_ex mb n til _ i1).mono ?_; rintro x wz ⟨rfl, rfl⟩) | (go_at_call 44; refine (tally_ex ⟨_, _, _, _⟩ _).mono ?_; rintro x wz ⟨rfl, rfl⟩; dsimp only) | (go_at_call 47; refine (with_ex ⟨_, _, _, _⟩ _ _ _).mono ?_; rintro x wz ⟨rfl, rfl⟩; dsimp only) | (go_at_call 45; refine (colourOf_ex tr _ hr9).mono ?_; rintro x wz ⟨rfl, rfl⟩) | (go_at_call 46; refine (other_ex _ _ (by omega)).mono ?_; rintro x wz ⟨rfl, rfl⟩))
    go_region
    go_wp2_with (first | (go_at_call 43; refine (never_ex mb n til _ i1).mono ?_; rintro x wz ⟨rfl, rfl⟩) | (go_at_call 44; refine (tally_ex ⟨_, _, _, _⟩ _).mono ?_; rintro x wz ⟨rfl, rfl⟩; dsimp only) | (go_at_call 47; refine (with_ex ⟨_, _, _, _⟩ _ _ _).mono ?_; rintro x wz ⟨rfl, rfl⟩; dsimp only) | (go_at_call 45; refine (colourOf_ex tr _ hr9).mono ?_; rintro x wz ⟨rfl, rfl⟩) | (go_at_call 46; refine (other_ex _ _ (by omega)).mono ?_; rintro x wz ⟨rfl, rfl⟩))
    go_region
    go_wp2
    exact bodyPost_ret (v := .tuple #[.agg #[.bool ton, .int .i64 tr, .int .i64 (ta + 1), .int .i64 (tn + gq), .int .i64 (q2)], .agg #[.int .i64 gr, .int .i64 ge, .int .i64 0, .int .i64 (gl)], .int .i64 (-1)]) (by simp [results, Try.results25, go_sem]) rfl ⟨rfl, by repeat (first | exact Up.refl _ | refine Up.drew ?_ | refine Up.alloc ?_ _)⟩
  · by_cases j6 : tn + gq = 0
    · have RV := Lib.hid (show tokV (visK til n ⟨ton, tr, ta, tn, tl⟩ ⟨gr, ge, gq, gl⟩ least) = .tuple #[.agg #[.bool false, .int .i64 tr, .int .i64 (0), .int .i64 (0), .int .i64 (til + 1)], .agg #[.int .i64 gr, .int .i64 ge, .int .i64 0, .int .i64 (gl)], .int .i64 (q2)] by
        simp [tokV, visK, visM, visG, visN, visE, j1, j2, j3, j6, hq, Gk.v, Gm.v])
      rw [RV.out]; unfold Gk.v Gm.v; dsimp only; clear RV hq
      go_enter Try.func25, Try.ntmps25
      go_wp2_with (first | (go_at_call 43; refine (never_ex mb n til _ i1).mono ?_; rintro x wz ⟨rfl, rfl⟩) | (go_at_call 44; refine (tally_ex ⟨_, _, _, _⟩ _).mono ?_; rintro x wz ⟨rfl, rfl⟩; dsimp only) | (go_at_call 47; refine (with_ex ⟨_, _, _, _⟩ _ _ _).mono ?_; rintro x wz ⟨rfl, rfl⟩; dsimp only) | (go_at_call 45; refine (colourOf_ex tr _ hr9).mono ?_; rintro x wz ⟨rfl, rfl⟩) | (go_at_call 46; refine (other_ex _ _ (by omega)).mono ?_; rintro x wz ⟨rfl, rfl⟩) | (go_at_call 48; refine (endLap_ex0 mb n til _ _ _ _ _ i1).mono ?_; rintro x wz ⟨rfl, rfl⟩))
      go_region
      go_wp2_with (first | (go_at_call 43; refine (never_ex mb n til _ i1).mono ?_; rintro x wz ⟨rfl, rfl⟩) | (go_at_call 44; refine (tally_ex ⟨_, _, _, _⟩ _).mono ?_; rintro x wz ⟨rfl, rfl⟩; dsimp only) | (go_at_call 47; refine (with_ex ⟨_, _, _, _⟩ _ _ _).mono ?_; rintro x wz ⟨rfl, rfl⟩; dsimp only) | (go_at_call 45; refine (colourOf_ex tr _ hr9).mono ?_; rintro x wz ⟨rfl, rfl⟩) | (go_at_call 46; refine (other_ex _ _ (by omega)).mono ?_; rintro x wz ⟨rfl, rfl⟩) | (go_at_call 48; refine (endLap_ex0 mb n til _ _ _ _ _ i1).mono ?_; rintro x wz ⟨rfl, rfl⟩))
      go_region
      go_wp2
      exact bodyPost_ret (v := .tuple #[.agg #[.bool false, .int .i64 tr, .int .i64 (0), .int .i64 (0), .int .i64 (til + 1)], .agg #[.int .i64 gr, .int .i64 ge, .int .i64 0, .int .i64 (gl)], .int .i64 (q2)]) (by simp [results, Try.results25, go_sem]) rfl ⟨rfl, by repeat (first | exact Up.refl _ | refine Up.drew ?_ | refine Up.alloc ?_ _)⟩
    · have RV := Lib.hid (show tokV (visK til n ⟨ton, tr, ta, tn, tl⟩ ⟨gr, ge, gq, gl⟩ least) = .tuple #[.agg #[.bool ton, .int .i64 tr, .int .i64 (0), .int .i64 (tn + gq), .int .i64 (til + 1)], .agg #[.int .i64 gr, .int .i64 ge, .int .i64 0, .int .i64 (gl)], .int .i64 (-1)] by
        simp [tokV, visK, visM, visG, visN, visE, j1, j2, j3, j6, Gk.v, Gm.v])
      rw [RV.out]; unfold Gk.v Gm.v; dsimp only; clear RV hq
      go_enter Try.func25, Try.ntmps25
      go_wp2_with (first | (go_at_call 43; refine (never_ex mb n til _ i1).mono ?_; rintro x wz ⟨rfl, rfl⟩) | (go_at_call 44; refine (tally_ex ⟨_, _, _, _⟩ _).mono ?_; rintro x wz ⟨rfl, rfl⟩; dsimp only) | (go_at_call 47; refine (with_ex ⟨_, _, _, _⟩ _ _ _).mono ?_; rintro x wz ⟨rfl, rfl⟩; dsimp only) | (go_at_call 45; refine (colourOf_ex tr _ hr9).mono ?_; rintro x wz ⟨rfl, rfl⟩) | (go_at_call 46; refine (other_ex _ _ (by omega)).mono ?_; rintro x wz ⟨rfl, rfl⟩) | (go_at_call 48; refine (endLap_ex1 mb n til _ _ _ _ _ _ i1 j6).mono ?_; rintro x wz ⟨rfl, rfl⟩))
      go_region
      go_wp2_with (first | (go_at_call 43; refine (never_ex mb n til _ i1).mono ?_; rintro x wz ⟨rfl, rfl⟩) | (go_at_call 44; refine (tally_ex ⟨_, _, _, _⟩ _).mono ?_; rintro x wz ⟨rfl, rfl⟩; dsimp only) | (go_at_call 47; refine (with_ex ⟨_, _, _, _⟩ _ _ _).mono ?_; rintro x wz ⟨rfl, rfl⟩; dsimp only) | (go_at_call 45; refine (colourOf_ex tr _ hr9).mono ?_; rintro x wz ⟨rfl, rfl⟩) | (go_at_call 46; refine (other_ex _ _ (by omega)).mono ?_; rintro x wz ⟨rfl, rfl⟩) | (go_at_call 48; refine (endLap_ex1 mb n til _ _ _ _ _ _ i1 j6).mono ?_; rintro x wz ⟨rfl, rfl⟩))
      go_region
      go_wp2
      exact bodyPost_ret (v := .tuple #[.agg #[.bool ton, .int .i64 tr, .int .i64 (0), .int .i64 (tn + gq), .int .i64 (til + 1)], .agg #[.int .i64 gr, .int .i64 ge, .int .i64 0, .int .i64 (gl)], .int .i64 (-1)]) (by simp [results, Try.results25, go_sem]) rfl ⟨rfl, by repeat (first | exact Up.refl _ | refine Up.drew ?_ | refine Up.alloc ?_ _)⟩
end Go.Proofs.Ytpainlcehgiokaa

namespace Go.Proofs.Ytpainlcehgiokaa
set_option maxRecDepth 100000
open Go.RowKit
theorem visit_any (mb : Option Nat) (n : Nat) (til : Int) (t : Gk) (g : Gm) (least : Int) (w : World) (h0 : 0 ≤ til ∧ til ≤ 99) (h1 : 1 ≤ n ∧ n ≤ 4) (hk : gkB til n t = true) (hm : gmB til g = true) :
    Calls Try.prog 25 #[.agg #[.map mb, .int .i64 (n : Int), .int .i64 til], t.v, g.v, .int .i64 least] w fun x w' => x = .returned (tokV (visK til n t g least)) ∧ Up w w' := by
  by_cases j1 : g.r < t.r
  · by_cases j2 : t.r % 2 = 1
    · exact visit_lt_odd mb n til t g least w h0 h1 hk hm j1 j2
    · exact visit_lt_ev mb n til t g least w h0 h1 hk hm j1 j2
  · by_cases j2 : t.r % 2 = 1
    · exact visit_ge_odd mb n til t g least w h0 h1 hk hm j1 j2
    · exact visit_ge_ev mb n til t g least w h0 h1 hk hm j1 j2
end Go.Proofs.Ytpainlcehgiokaa

namespace Go.Proofs.Ytpainlcehgiokaa
set_option maxRecDepth 100000
open Go.RowKit
set_option maxHeartbeats 8000000 in
theorem visits_any (mb : Option Nat) (many til : Int) (t : Gk) (g : Gm) (least : Int) (w : World) (h0 : 0 ≤ til ∧ til ≤ 99) (hk : gkB til many t = true) (hm : gmB til g = true) :
    Calls Try.prog 24 #[.agg #[.map mb, .int .i64 many, .int .i64 til], t.v, g.v, .int .i64 least] w fun x w' => x = .returned (.bool (mayV til t g least)) ∧ Up w w' := by
  obtain ⟨gr, ge, gq, gl⟩ := g; obtain ⟨ton, tr, ta, tn, tl⟩ := t; simp only [gkB, gmB, Bool.and_eq_true, inB_iff] at hk hm
  have i1 : IntKind.i64.wrap (til + 1) = til + 1 := IntWalk.i64_in _ (by omega)
  have i2 : IntKind.i64.wrap (tr - gr) = tr - gr := IntWalk.i64_in _ (by omega)
  unfold mayV Gk.v Gm.v; dsimp only
  have C0 := Lib.hid (fun W => within_any least 0 (til + 1) W)
  have C1 := Lib.hid (fun W => within_any (tr - gr) 0 1 W)
  generalize inB least 0 (til + 1) = b0 at C0 ⊢
  generalize inB (tr - gr) 0 1 = b1 at C1 ⊢
  have CN := Lib.hid (fun W => never_any mb many til W h0)
  have X0 := Lib.hid (((Bk.new w #[.map mb, .int .i64 many, .int .i64 til] 59).alloc (.cells #[.bool ton, .int .i64 tr, .int .i64 ta, .int .i64 tn, .int .i64 tl] 28)).alloc (.cells #[.int .i64 gr, .int .i64 ge, .int .i64 gq, .int .i64 gl] 30))
  have X1 := Lib.hid ((Bk.new (w.alloc (.cells #[.map mb, .int .i64 many, .int .i64 til] 59)) #[.bool ton, .int .i64 tr, .int .i64 ta, .int .i64 tn, .int .i64 tl] 28).alloc (.cells #[.int .i64 gr, .int .i64 ge, .int .i64 gq, .int .i64 gl] 30))
  have X2 := Lib.hid (Bk.new ((w.alloc (.cells #[.map mb, .int .i64 many, .int .i64 til] 59)).alloc (.cells #[.bool ton, .int .i64 tr, .int .i64 ta, .int .i64 tn, .int .i64 tl] 28)) #[.int .i64 gr, .int .i64 ge, .int .i64 gq, .int .i64 gl] 30)
  simp only [World.size_alloc] at X1 X2
  have U := Lib.hid ((((Up.refl w).alloc (.cells #[.map mb, .int .i64 many, .int .i64 til] 59)).alloc (.cells #[.bool ton, .int .i64 tr, .int .i64 ta, .int .i64 tn, .int .i64 tl] 28)).alloc (.cells #[.int .i64 gr, .int .i64 ge, .int .i64 gq, .int .i64 gl] 30))
  clear hk hm h0 i1
  cases ton
  · simp only [Bool.false_and]
    go_enter Try.func24, Try.ntmps24
    go_wp2; go_ret
    exact ⟨rfl, U.out⟩
  · simp only [Bool.true_and]
    go_enter Try.func24, Try.ntmps24
    go_wp2_with fail
    refine (CN.out _).mono ?_; rintro x w1 ⟨rfl, u1⟩
    replace U := Lib.hid (U.out.trans u1)
    replace X1 := Lib.hid (X1.out.up u1)
    replace X2 := Lib.hid (X2.out.up u1)
    clear u1 X0
    go_wp2_with fail
    refine (C0.out _).mono ?_; rintro x wz ⟨rfl, rfl⟩
    cases b0
    · go_wp2
      go_ret
      exact ⟨rfl, U.out⟩
    · have y1 := X1.out.cell (j := 1) rfl
      have x0 := X2.out.cell (j := 0) rfl
      have ly := X1.out.lt
      have lx := X2.out.lt
      go_wp2_with fail
      refine (C1.out _).mono ?_; rintro x wz ⟨rfl, rfl⟩; go_wp2; go_ret
      exact ⟨rfl, U.out⟩
end Go.Proofs.Ytpainlcehgiokaa

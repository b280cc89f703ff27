/-
  What (machine).visit returns in one of four cases, in one sentence: the token, the mark and the bound behind a visit; for every valid token and mark.
-/
import Derived.Test.YtpainlcehgiokaaKIVis0
namespace Go.Proofs.Ytpainlcehgiokaa
set_option maxRecDepth 100000
open Go.RowKit

set_option maxHeartbeats 40000000 in
theorem visit_ge_odd (mb : Option Nat) (n : Nat) (til : Int) (t : Gk) (g : Gm) (least : Int) (w : World) (h0 : 0 ≤ til ∧ til ≤ 99) (h1 : 1 ≤ n ∧ n ≤ 4) (hk : gkB til n t = true) (hm : gmB til g = true) (j1 : ¬ g.r < t.r) (j2 : t.r % 2 = 1) :
    Calls Try.prog 25 #[.agg #[.map mb, .int .i64 (n : Int), .int .i64 til], t.v, g.v, .int .i64 least] w fun x w' => x = .returned (tokV (visK til n t g least)) ∧ Up w w' := by
  obtain ⟨gr, ge, gq, gl⟩ := g
  obtain ⟨ton, tr, ta, tn, tl⟩ := t
  simp only [gkB, gmB, Bool.and_eq_true, inB_iff] at hk hm
  have i1 : IntKind.i64.wrap (til + 1) = til + 1 := IntWalk.i64_in _ (by omega)
  have i2 : IntKind.i64.wrap (ta + 1) = ta + 1 := IntWalk.i64_in _ (by omega)
  have i3 : IntKind.i64.wrap (tn + ge) = tn + ge := IntWalk.i64_in _ (by omega)
  have i4 : IntKind.i64.wrap (tn + gq) = tn + gq := IntWalk.i64_in _ (by omega)
  have i5 : Int.tmod tr 2 = tr % 2 := Int.tmod_eq_emod_of_nonneg (by omega)
  have hr9 : 0 ≤ tr ∧ tr ≤ 999 := by omega
  dsimp only at j1 j2
  obtain ⟨q1, hq1⟩ : ∃ q, (if least < tl then least else tl) = q := ⟨_, rfl⟩
  obtain ⟨q2, hq2⟩ : ∃ q, (if gl < q1 then gl else q1) = q := ⟨_, rfl⟩
  have hq : min tl (min least (gl)) = q2 := by
    rw [← hq2, ← hq1]
    repeat' split
    all_goals omega
  have hmn : ∀ W : World, (Builtin.min_ #[3, 3, 3] 3 #[.int .i64 tl, .int .i64 least, .int .i64 (gl)]).run Try.prog W = .ok (.int .i64 q2) W := fun W => by
    rw [← hq2, ← hq1]
    simp [Builtin.min_, Builtin.min2]
  by_cases j3 : ta + 1 < (n : Int)
  · have RV := Lib.hid (show tokV (visK til n ⟨ton, tr, ta, tn, tl⟩ ⟨gr, ge, gq, gl⟩ least) = .tuple #[.agg #[.bool ton, .int .i64 tr, .int .i64 (ta + 1), .int .i64 (tn + ge), .int .i64 (q2)], .agg #[.int .i64 gr, .int .i64 0, .int .i64 gq, .int .i64 (gl)], .int .i64 (-1)] by
      simp [tokV, visK, visM, visG, visN, visE, j1, j2, j3, hq, Gk.v, Gm.v])
    rw [RV.out]
    unfold Gk.v Gm.v
    dsimp only
    clear RV hq
    go_enter Try.func25, Try.ntmps25
    go_wp2_with (first | (go_at_call 43; refine (never_ex mb n til _ i1).mono ?_; rintro x wz ⟨rfl, rfl⟩) | (go_at_call 44; refine (tally_ex ⟨_, _, _, _⟩ _).mono ?_; rintro x wz ⟨rfl, rfl⟩; dsimp only) | (go_at_call 47; refine (with_ex ⟨_, _, _, _⟩ _ _ _).mono ?_; rintro x wz ⟨rfl, rfl⟩; dsimp only) | (go_at_call 45; refine (colourOf_ex tr _ hr9).mono ?_; rintro x wz ⟨rfl, rfl⟩) | (go_at_call 46; refine (other_ex _ _ (by omega)).mono ?_; rintro x wz ⟨rfl, rfl⟩))
    go_region
    go_wp2_with (first | (go_at_call 43; refine (never_ex mb n til _ i1).mono ?_; rintro x wz ⟨rfl, rfl⟩) | (go_at_call 44; refine (tally_ex ⟨_, _, _, _⟩ _).mono ?_; rintro x wz ⟨rfl, rfl⟩; dsimp only) | (go_at_call 47; refine (with_ex ⟨_, _, _, _⟩ _ _ _).mono ?_; rintro x wz ⟨rfl, rfl⟩; dsimp only) | (go_at_call 45; refine (colourOf_ex tr _ hr9).mono ?_; rintro x wz ⟨rfl, rfl⟩) | (go_at_call 46; refine (other_ex _ _ (by omega)).mono ?_; rintro x wz ⟨rfl, rfl⟩))
    go_region
    go_wp2
    exact bodyPost_ret (v := .tuple #[.agg #[.bool ton, .int .i64 tr, .int .i64 (ta + 1), .int .i64 (tn + ge), .int .i64 (q2)], .agg #[.int .i64 gr, .int .i64 0, .int .i64 gq, .int .i64 (gl)], .int .i64 (-1)]) (by simp [results, Try.results25, go_sem]) rfl ⟨rfl, by repeat (first | exact Up.refl _ | refine Up.drew ?_ | refine Up.alloc ?_ _)⟩
  · by_cases j6 : tn + ge = 0
    · have RV := Lib.hid (show tokV (visK til n ⟨ton, tr, ta, tn, tl⟩ ⟨gr, ge, gq, gl⟩ least) = .tuple #[.agg #[.bool false, .int .i64 tr, .int .i64 (0), .int .i64 (0), .int .i64 (til + 1)], .agg #[.int .i64 gr, .int .i64 0, .int .i64 gq, .int .i64 (gl)], .int .i64 (q2)] by
        simp [tokV, visK, visM, visG, visN, visE, j1, j2, j3, j6, hq, Gk.v, Gm.v])
      rw [RV.out]
      unfold Gk.v Gm.v
      dsimp only
      clear RV hq
      go_enter Try.func25, Try.ntmps25
      go_wp2_with (first | (go_at_call 43; refine (never_ex mb n til _ i1).mono ?_; rintro x wz ⟨rfl, rfl⟩) | (go_at_call 44; refine (tally_ex ⟨_, _, _, _⟩ _).mono ?_; rintro x wz ⟨rfl, rfl⟩; dsimp only) | (go_at_call 47; refine (with_ex ⟨_, _, _, _⟩ _ _ _).mono ?_; rintro x wz ⟨rfl, rfl⟩; dsimp only) | (go_at_call 45; refine (colourOf_ex tr _ hr9).mono ?_; rintro x wz ⟨rfl, rfl⟩) | (go_at_call 46; refine (other_ex _ _ (by omega)).mono ?_; rintro x wz ⟨rfl, rfl⟩) | (go_at_call 48; refine (endLap_ex0 mb n til _ _ _ _ _ i1).mono ?_; rintro x wz ⟨rfl, rfl⟩))
      go_region
      go_wp2_with (first | (go_at_call 43; refine (never_ex mb n til _ i1).mono ?_; rintro x wz ⟨rfl, rfl⟩) | (go_at_call 44; refine (tally_ex ⟨_, _, _, _⟩ _).mono ?_; rintro x wz ⟨rfl, rfl⟩; dsimp only) | (go_at_call 47; refine (with_ex ⟨_, _, _, _⟩ _ _ _).mono ?_; rintro x wz ⟨rfl, rfl⟩; dsimp only) | (go_at_call 45; refine (colourOf_ex tr _ hr9).mono ?_; rintro x wz ⟨rfl, rfl⟩) | (go_at_call 46; refine (other_ex _ _ (by omega)).mono ?_; rintro x wz ⟨rfl, rfl⟩) | (go_at_call 48; refine (endLap_ex0 mb n til _ _ _ _ _ i1).mono ?_; rintro x wz ⟨rfl, rfl⟩))
      go_region
      go_wp2
      exact bodyPost_ret (v := .tuple #[.agg #[.bool false, .int .i64 tr, .int .i64 (0), .int .i64 (0), .int .i64 (til + 1)], .agg #[.int .i64 gr, .int .i64 0, .int .i64 gq, .int .i64 (gl)], .int .i64 (q2)]) (by simp [results, Try.results25, go_sem]) rfl ⟨rfl, by repeat (first | exact Up.refl _ | refine Up.drew ?_ | refine Up.alloc ?_ _)⟩
    · have RV := Lib.hid (show tokV (visK til n ⟨ton, tr, ta, tn, tl⟩ ⟨gr, ge, gq, gl⟩ least) = .tuple #[.agg #[.bool ton, .int .i64 tr, .int .i64 (0), .int .i64 (tn + ge), .int .i64 (til + 1)], .agg #[.int .i64 gr, .int .i64 0, .int .i64 gq, .int .i64 (gl)], .int .i64 (-1)] by
        simp [tokV, visK, visM, visG, visN, visE, j1, j2, j3, j6, Gk.v, Gm.v])
      rw [RV.out]
      unfold Gk.v Gm.v
      dsimp only
      clear RV hq
      go_enter Try.func25, Try.ntmps25
      go_wp2_with (first | (go_at_call 43; refine (never_ex mb n til _ i1).mono ?_; rintro x wz ⟨rfl, rfl⟩) | (go_at_call 44; refine (tally_ex ⟨_, _, _, _⟩ _).mono ?_; rintro x wz ⟨rfl, rfl⟩; dsimp only) | (go_at_call 47; refine (with_ex ⟨_, _, _, _⟩ _ _ _).mono ?_; rintro x wz ⟨rfl, rfl⟩; dsimp only) | (go_at_call 45; refine (colourOf_ex tr _ hr9).mono ?_; rintro x wz ⟨rfl, rfl⟩) | (go_at_call 46; refine (other_ex _ _ (by omega)).mono ?_; rintro x wz ⟨rfl, rfl⟩) | (go_at_call 48; refine (endLap_ex1 mb n til _ _ _ _ _ _ i1 j6).mono ?_; rintro x wz ⟨rfl, rfl⟩))
      go_region
      go_wp2_with (first | (go_at_call 43; refine (never_ex mb n til _ i1).mono ?_; rintro x wz ⟨rfl, rfl⟩) | (go_at_call 44; refine (tally_ex ⟨_, _, _, _⟩ _).mono ?_; rintro x wz ⟨rfl, rfl⟩; dsimp only) | (go_at_call 47; refine (with_ex ⟨_, _, _, _⟩ _ _ _).mono ?_; rintro x wz ⟨rfl, rfl⟩; dsimp only) | (go_at_call 45; refine (colourOf_ex tr _ hr9).mono ?_; rintro x wz ⟨rfl, rfl⟩) | (go_at_call 46; refine (other_ex _ _ (by omega)).mono ?_; rintro x wz ⟨rfl, rfl⟩) | (go_at_call 48; refine (endLap_ex1 mb n til _ _ _ _ _ _ i1 j6).mono ?_; rintro x wz ⟨rfl, rfl⟩))
      go_region
      go_wp2
      exact bodyPost_ret (v := .tuple #[.agg #[.bool ton, .int .i64 tr, .int .i64 (0), .int .i64 (tn + ge), .int .i64 (til + 1)], .agg #[.int .i64 gr, .int .i64 0, .int .i64 gq, .int .i64 (gl)], .int .i64 (-1)]) (by simp [results, Try.results25, go_sem]) rfl ⟨rfl, by repeat (first | exact Up.refl _ | refine Up.drew ?_ | refine Up.alloc ?_ _)⟩

end Go.Proofs.Ytpainlcehgiokaa

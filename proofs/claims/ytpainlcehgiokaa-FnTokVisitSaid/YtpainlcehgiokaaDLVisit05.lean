/-
  What spec.MrkOk and spec.TokOk return, in one sentence: whether the model is one and the mark, or the token, is valid of it; for every model that lies in memory.
  What spec.l5Visit returns, in one sentence: the token, the mark and the bound behind a visit; for every valid token and mark.
  A token and a mark stored in two blocks, in one sentence: what then lies there; no condition is made.
  What makes a visit, in one sentence: valid arguments, or none; no condition is made.
-/
import Derived.ChangeAlike
import Derived.RegionTactic
import Derived.Test.YtpainlcehgiokaaDLVisit02
import Derived.Test.YtpainlcehgiokaaDLVisit04
namespace Go.Proofs.Ytpainlcehgiokaa
set_option maxRecDepth 100000
open Go.RowKit
set_option maxHeartbeats 4000000 in
theorem specMrk_any (A : Option Addr) (n c : Nat) (B : Option Addr) (k d : Nat) (m : Mdl) (g : Gm) (w : World) (hM : MdlV w A n B k m) :
    Calls Try.prog 27 #[.agg #[.slice A n c, .slice B k d, .int .i64 m.til], g.v] w fun x w' => x = .returned (.bool (mdlB m && gmB m.til g)) ∧ Up w w' := by
  have LR : m.rules.length = n := hM.rules.1
  have CM := Lib.hid (fun W (u : Up w W) => specMdl_any A n c B k d m W (hM.up u))
  have FEW := Lib.hid (fun (h : mdlB m = true) => (show 0 ≤ m.til ∧ m.til ≤ 99 ∧ 1 ≤ n ∧ n ≤ 4 by simp only [mdlB, Bool.and_eq_true] at h; have h1 := inB_iff.1 h.1.1.1; have h2 := inB_iff.1 h.1.1.2; omega))
  obtain ⟨res, hres⟩ : ∃ r, r = (mdlB m && gmB m.til g) := ⟨_, rfl⟩; rw [← hres]
  try rw [LR] at hres
  have RES := Lib.hid hres
  clear hres LR
  generalize mdlB m = bm at *
  obtain ⟨gr, ge, gq, gl⟩ := g; unfold Gm.v gmB at *; dsimp only at *
  have X0 := Lib.hid ((Bk.new w #[.slice A n c, .slice B k d, .int .i64 m.til] 26).alloc (.cells #[.int .i64 gr, .int .i64 ge, .int .i64 gq, .int .i64 gl] 30))
  have X1 := Lib.hid (Bk.new (w.alloc (.cells #[.slice A n c, .slice B k d, .int .i64 m.til] 26)) #[.int .i64 gr, .int .i64 ge, .int .i64 gq, .int .i64 gl] 30)
  simp only [World.size_alloc] at X1
  have ua := Lib.hid (((Up.refl w).alloc (.cells #[.slice A n c, .slice B k d, .int .i64 m.til] 26)).alloc (.cells #[.int .i64 gr, .int .i64 ge, .int .i64 gq, .int .i64 gl] 30))
  clear hM
  generalize m.til = til at *
  go_enter Try.func27, Try.ntmps27
  go_wp2_with fail
  refine (CM.out _ ua.out).mono ?_; rintro x w1 ⟨rfl, u1⟩
  have U1 := Lib.hid (ua.out.trans u1)
  replace X0 := Lib.hid (X0.out.up u1)
  replace X1 := Lib.hid (X1.out.up u1)
  clear u1 ua CM
  cases bm
  · go_wp2
    go_ret
    exact ⟨ret_bool (by rw [RES.out]; rfl), U1.out⟩
  · obtain ⟨t0, t1, n0, n1⟩ := FEW.out rfl
    have i1 : IntKind.i64.wrap (til + 1) = til + 1 := IntWalk.i64_in _ (by omega)
    have i2 : IntKind.i64.wrap ((n : Int) - 1) = (n : Int) - 1 := IntWalk.i64_in _ (by omega)
    clear FEW
    have z0 := X0.out.cell (j := 0) rfl
    have z1 := X0.out.cell (j := 1) rfl
    have z2 := X0.out.cell (j := 2) rfl
    have y0 := X1.out.cell (j := 0) rfl
    have y1 := X1.out.cell (j := 1) rfl
    have y2 := X1.out.cell (j := 2) rfl
    have y3 := X1.out.cell (j := 3) rfl
    go_wp2_with (go_at_call 28; refine (l1In_any _ _ _ _).mono ?_; rintro e w' ⟨rfl, rfl⟩)
    all_goals go_ret
    all_goals exact ⟨ret_bool (by rw [RES.out]; simp [*]), U1.out⟩
set_option maxHeartbeats 4000000 in
theorem specTok_any (A : Option Addr) (n c : Nat) (B : Option Addr) (k d : Nat) (m : Mdl) (g : Gk) (w : World) (hM : MdlV w A n B k m) :
    Calls Try.prog 26 #[.agg #[.slice A n c, .slice B k d, .int .i64 m.til], g.v] w fun x w' => x = .returned (.bool (mdlB m && gkB m.til m.rules.length g)) ∧ Up w w' := by
  have LR : m.rules.length = n := hM.rules.1
  have CM := Lib.hid (fun W (u : Up w W) => specMdl_any A n c B k d m W (hM.up u))
  have FEW := Lib.hid (fun (h : mdlB m = true) => (show 0 ≤ m.til ∧ m.til ≤ 99 ∧ 1 ≤ n ∧ n ≤ 4 by simp only [mdlB, Bool.and_eq_true] at h; have h1 := inB_iff.1 h.1.1.1; have h2 := inB_iff.1 h.1.1.2; omega))
  obtain ⟨res, hres⟩ : ∃ r, r = (mdlB m && gkB m.til m.rules.length g) := ⟨_, rfl⟩; rw [← hres]
  try rw [LR] at hres
  have RES := Lib.hid hres
  clear hres LR
  generalize mdlB m = bm at *
  obtain ⟨ton, tr, ta, tn, tl⟩ := g; unfold Gk.v gkB at *; dsimp only at *
  have X0 := Lib.hid ((Bk.new w #[.slice A n c, .slice B k d, .int .i64 m.til] 26).alloc (.cells #[.bool ton, .int .i64 tr, .int .i64 ta, .int .i64 tn, .int .i64 tl] 28))
  have X1 := Lib.hid (Bk.new (w.alloc (.cells #[.slice A n c, .slice B k d, .int .i64 m.til] 26)) #[.bool ton, .int .i64 tr, .int .i64 ta, .int .i64 tn, .int .i64 tl] 28)
  simp only [World.size_alloc] at X1
  have ua := Lib.hid (((Up.refl w).alloc (.cells #[.slice A n c, .slice B k d, .int .i64 m.til] 26)).alloc (.cells #[.bool ton, .int .i64 tr, .int .i64 ta, .int .i64 tn, .int .i64 tl] 28))
  clear hM
  generalize m.til = til at *
  go_enter Try.func26, Try.ntmps26
  go_wp2_with fail
  refine (CM.out _ ua.out).mono ?_; rintro x w1 ⟨rfl, u1⟩
  have U1 := Lib.hid (ua.out.trans u1)
  replace X0 := Lib.hid (X0.out.up u1)
  replace X1 := Lib.hid (X1.out.up u1)
  clear u1 ua CM
  cases bm
  · go_wp2
    go_ret
    exact ⟨ret_bool (by rw [RES.out]; rfl), U1.out⟩
  · obtain ⟨t0, t1, n0, n1⟩ := FEW.out rfl
    have i1 : IntKind.i64.wrap (til + 1) = til + 1 := IntWalk.i64_in _ (by omega)
    have i2 : IntKind.i64.wrap ((n : Int) - 1) = (n : Int) - 1 := IntWalk.i64_in _ (by omega)
    clear FEW
    have z0 := X0.out.cell (j := 0) rfl
    have z1 := X0.out.cell (j := 1) rfl
    have z2 := X0.out.cell (j := 2) rfl
    have y0 := X1.out.cell (j := 0) rfl
    have y1 := X1.out.cell (j := 1) rfl
    have y2 := X1.out.cell (j := 2) rfl
    have y3 := X1.out.cell (j := 3) rfl
    have y4 := X1.out.cell (j := 4) rfl
    go_wp2_with (go_at_call 28; refine (l1In_any _ _ _ _).mono ?_; rintro e w' ⟨rfl, rfl⟩)
    all_goals go_ret
    all_goals exact ⟨ret_bool (by rw [RES.out]; simp [*]), U1.out⟩
end Go.Proofs.Ytpainlcehgiokaa

namespace Go.Proofs.Ytpainlcehgiokaa
set_option maxRecDepth 100000
open Go.RowKit
set_option maxHeartbeats 40000000 in
theorem l5Visit_any (A : Option Addr) (n c : Nat) (B : Option Addr) (k d : Nat) (til : Int) (t : Gk) (g : Gm) (least : Int) (w : World) (h0 : 0 ≤ til ∧ til ≤ 99) (h1 : 1 ≤ n ∧ n ≤ 4) (hk : gkB til n t = true) (hm : gmB til g = true) :
    Calls Try.prog 29 #[.agg #[.slice A n c, .slice B k d, .int .i64 til], t.v, g.v, .int .i64 least] w fun x w' => x = .returned (tokV (visK til n t g least)) ∧ Up w w' := by
  obtain ⟨gr, ge, gq, gl⟩ := g; obtain ⟨ton, tr, ta, tn, tl⟩ := t; simp only [gkB, gmB, Bool.and_eq_true, inB_iff] at hk hm
  have i1 : IntKind.i64.wrap (til + 1) = til + 1 := IntWalk.i64_in _ (by omega)
  have i2 : IntKind.i64.wrap (ta + 1) = ta + 1 := IntWalk.i64_in _ (by omega)
  have i3 : IntKind.i64.wrap (tn + ge) = tn + ge := IntWalk.i64_in _ (by omega)
  have i4 : IntKind.i64.wrap (tn + gq) = tn + gq := IntWalk.i64_in _ (by omega)
  have i5 : Int.tmod tr 2 = tr % 2 := Int.tmod_eq_emod_of_nonneg (by omega)
  by_cases j1 : gr < tr
  · obtain ⟨q1, hq1⟩ : ∃ q, (if til + 1 < least then til + 1 else least) = q := ⟨_, rfl⟩
    obtain ⟨q2, hq2⟩ : ∃ q, (if q1 < tl then q1 else tl) = q := ⟨_, rfl⟩
    have hq : min tl (min least (til + 1)) = q2 := by
      rw [← hq2, ← hq1]
      repeat' split
      all_goals omega
    by_cases j2 : tr % 2 = 1
    · by_cases j3 : ta + 1 < (n : Int)
      · have RV := Lib.hid (show tokV (visK til n ⟨ton, tr, ta, tn, tl⟩ ⟨gr, ge, gq, gl⟩ least) = .tuple #[.agg #[.bool ton, .int .i64 tr, .int .i64 (ta + 1), .int .i64 (tn + ge), .int .i64 (q2)], .agg #[.int .i64 tr, .int .i64 0, .int .i64 gq, .int .i64 (til + 1)], .int .i64 (-1)] by
          simp [tokV, visK, visM, visG, visN, visE, j1, j2, j3, hq, Gk.v, Gm.v])
        rw [RV.out]; unfold Gk.v Gm.v; dsimp only; clear RV hq
        go_enter Try.func29, Try.ntmps29
        go_wp2
        go_region
        go_wp2
        exact bodyPost_ret (v := .tuple #[.agg #[.bool ton, .int .i64 tr, .int .i64 (ta + 1), .int .i64 (tn + ge), .int .i64 (q2)], .agg #[.int .i64 tr, .int .i64 0, .int .i64 gq, .int .i64 (til + 1)], .int .i64 (-1)]) (by simp [results, Try.results29, go_sem]) rfl ⟨rfl, ((((((Up.refl w).alloc _).alloc _).alloc _).alloc _).alloc _).drew⟩
      · by_cases j6 : tn + ge = 0
        · have RV := Lib.hid (show tokV (visK til n ⟨ton, tr, ta, tn, tl⟩ ⟨gr, ge, gq, gl⟩ least) = .tuple #[.agg #[.bool false, .int .i64 tr, .int .i64 (0), .int .i64 (0), .int .i64 (til + 1)], .agg #[.int .i64 tr, .int .i64 0, .int .i64 gq, .int .i64 (til + 1)], .int .i64 (q2)] by
            simp [tokV, visK, visM, visG, visN, visE, j1, j2, j3, j6, hq, Gk.v, Gm.v])
          rw [RV.out]; unfold Gk.v Gm.v; dsimp only; clear RV hq
          go_enter Try.func29, Try.ntmps29
          go_wp2
          go_region
          go_wp2
          exact bodyPost_ret (v := .tuple #[.agg #[.bool false, .int .i64 tr, .int .i64 (0), .int .i64 (0), .int .i64 (til + 1)], .agg #[.int .i64 tr, .int .i64 0, .int .i64 gq, .int .i64 (til + 1)], .int .i64 (q2)]) (by simp [results, Try.results29, go_sem]) rfl ⟨rfl, ((((((Up.refl w).alloc _).alloc _).alloc _).alloc _).alloc _).drew⟩
        · have RV := Lib.hid (show tokV (visK til n ⟨ton, tr, ta, tn, tl⟩ ⟨gr, ge, gq, gl⟩ least) = .tuple #[.agg #[.bool ton, .int .i64 tr, .int .i64 (0), .int .i64 (tn + ge), .int .i64 (til + 1)], .agg #[.int .i64 tr, .int .i64 0, .int .i64 gq, .int .i64 (til + 1)], .int .i64 (-1)] by
            simp [tokV, visK, visM, visG, visN, visE, j1, j2, j3, j6, Gk.v, Gm.v])
          rw [RV.out]; unfold Gk.v Gm.v; dsimp only; clear RV hq
          go_enter Try.func29, Try.ntmps29
          go_wp2
          go_region
          go_wp2
          exact bodyPost_ret (v := .tuple #[.agg #[.bool ton, .int .i64 tr, .int .i64 (0), .int .i64 (tn + ge), .int .i64 (til + 1)], .agg #[.int .i64 tr, .int .i64 0, .int .i64 gq, .int .i64 (til + 1)], .int .i64 (-1)]) (by simp [results, Try.results29, go_sem]) rfl ⟨rfl, ((((((Up.refl w).alloc _).alloc _).alloc _).alloc _).alloc _).drew⟩
    · have j2z : tr % 2 = 0 := by omega
      by_cases j3 : ta + 1 < (n : Int)
      · have RV := Lib.hid (show tokV (visK til n ⟨ton, tr, ta, tn, tl⟩ ⟨gr, ge, gq, gl⟩ least) = .tuple #[.agg #[.bool ton, .int .i64 tr, .int .i64 (ta + 1), .int .i64 (tn + gq), .int .i64 (q2)], .agg #[.int .i64 tr, .int .i64 ge, .int .i64 0, .int .i64 (til + 1)], .int .i64 (-1)] by
          simp [tokV, visK, visM, visG, visN, visE, j1, j2, j3, hq, Gk.v, Gm.v])
        rw [RV.out]; unfold Gk.v Gm.v; dsimp only; clear RV hq
        go_enter Try.func29, Try.ntmps29
        go_wp2
        go_region
        go_wp2
        exact bodyPost_ret (v := .tuple #[.agg #[.bool ton, .int .i64 tr, .int .i64 (ta + 1), .int .i64 (tn + gq), .int .i64 (q2)], .agg #[.int .i64 tr, .int .i64 ge, .int .i64 0, .int .i64 (til + 1)], .int .i64 (-1)]) (by simp [results, Try.results29, go_sem]) rfl ⟨rfl, ((((((Up.refl w).alloc _).alloc _).alloc _).alloc _).alloc _).drew⟩
      · by_cases j6 : tn + gq = 0
        · have RV := Lib.hid (show tokV (visK til n ⟨ton, tr, ta, tn, tl⟩ ⟨gr, ge, gq, gl⟩ least) = .tuple #[.agg #[.bool false, .int .i64 tr, .int .i64 (0), .int .i64 (0), .int .i64 (til + 1)], .agg #[.int .i64 tr, .int .i64 ge, .int .i64 0, .int .i64 (til + 1)], .int .i64 (q2)] by
            simp [tokV, visK, visM, visG, visN, visE, j1, j2, j3, j6, hq, Gk.v, Gm.v])
          rw [RV.out]; unfold Gk.v Gm.v; dsimp only; clear RV hq
          go_enter Try.func29, Try.ntmps29
          go_wp2
          go_region
          go_wp2
          exact bodyPost_ret (v := .tuple #[.agg #[.bool false, .int .i64 tr, .int .i64 (0), .int .i64 (0), .int .i64 (til + 1)], .agg #[.int .i64 tr, .int .i64 ge, .int .i64 0, .int .i64 (til + 1)], .int .i64 (q2)]) (by simp [results, Try.results29, go_sem]) rfl ⟨rfl, ((((((Up.refl w).alloc _).alloc _).alloc _).alloc _).alloc _).drew⟩
        · have RV := Lib.hid (show tokV (visK til n ⟨ton, tr, ta, tn, tl⟩ ⟨gr, ge, gq, gl⟩ least) = .tuple #[.agg #[.bool ton, .int .i64 tr, .int .i64 (0), .int .i64 (tn + gq), .int .i64 (til + 1)], .agg #[.int .i64 tr, .int .i64 ge, .int .i64 0, .int .i64 (til + 1)], .int .i64 (-1)] by
            simp [tokV, visK, visM, visG, visN, visE, j1, j2, j3, j6, Gk.v, Gm.v])
          rw [RV.out]; unfold Gk.v Gm.v; dsimp only; clear RV hq
          go_enter Try.func29, Try.ntmps29
          go_wp2
          go_region
          go_wp2
          exact bodyPost_ret (v := .tuple #[.agg #[.bool ton, .int .i64 tr, .int .i64 (0), .int .i64 (tn + gq), .int .i64 (til + 1)], .agg #[.int .i64 tr, .int .i64 ge, .int .i64 0, .int .i64 (til + 1)], .int .i64 (-1)]) (by simp [results, Try.results29, go_sem]) rfl ⟨rfl, ((((((Up.refl w).alloc _).alloc _).alloc _).alloc _).alloc _).drew⟩
  · obtain ⟨q1, hq1⟩ : ∃ q, (if gl < least then gl else least) = q := ⟨_, rfl⟩
    obtain ⟨q2, hq2⟩ : ∃ q, (if q1 < tl then q1 else tl) = q := ⟨_, rfl⟩
    have hq : min tl (min least (gl)) = q2 := by
      rw [← hq2, ← hq1]
      repeat' split
      all_goals omega
    by_cases j2 : tr % 2 = 1
    · by_cases j3 : ta + 1 < (n : Int)
      · have RV := Lib.hid (show tokV (visK til n ⟨ton, tr, ta, tn, tl⟩ ⟨gr, ge, gq, gl⟩ least) = .tuple #[.agg #[.bool ton, .int .i64 tr, .int .i64 (ta + 1), .int .i64 (tn + ge), .int .i64 (q2)], .agg #[.int .i64 gr, .int .i64 0, .int .i64 gq, .int .i64 (gl)], .int .i64 (-1)] by
          simp [tokV, visK, visM, visG, visN, visE, j1, j2, j3, hq, Gk.v, Gm.v])
        rw [RV.out]; unfold Gk.v Gm.v; dsimp only; clear RV hq
        go_enter Try.func29, Try.ntmps29
        go_wp2
        go_region
        go_wp2
        exact bodyPost_ret (v := .tuple #[.agg #[.bool ton, .int .i64 tr, .int .i64 (ta + 1), .int .i64 (tn + ge), .int .i64 (q2)], .agg #[.int .i64 gr, .int .i64 0, .int .i64 gq, .int .i64 (gl)], .int .i64 (-1)]) (by simp [results, Try.results29, go_sem]) rfl ⟨rfl, ((((((Up.refl w).alloc _).alloc _).alloc _).alloc _).alloc _).drew⟩
      · by_cases j6 : tn + ge = 0
        · have RV := Lib.hid (show tokV (visK til n ⟨ton, tr, ta, tn, tl⟩ ⟨gr, ge, gq, gl⟩ least) = .tuple #[.agg #[.bool false, .int .i64 tr, .int .i64 (0), .int .i64 (0), .int .i64 (til + 1)], .agg #[.int .i64 gr, .int .i64 0, .int .i64 gq, .int .i64 (gl)], .int .i64 (q2)] by
            simp [tokV, visK, visM, visG, visN, visE, j1, j2, j3, j6, hq, Gk.v, Gm.v])
          rw [RV.out]; unfold Gk.v Gm.v; dsimp only; clear RV hq
          go_enter Try.func29, Try.ntmps29
          go_wp2
          go_region
          go_wp2
          exact bodyPost_ret (v := .tuple #[.agg #[.bool false, .int .i64 tr, .int .i64 (0), .int .i64 (0), .int .i64 (til + 1)], .agg #[.int .i64 gr, .int .i64 0, .int .i64 gq, .int .i64 (gl)], .int .i64 (q2)]) (by simp [results, Try.results29, go_sem]) rfl ⟨rfl, ((((((Up.refl w).alloc _).alloc _).alloc _).alloc _).alloc _).drew⟩
        · have RV := Lib.hid (show tokV (visK til n ⟨ton, tr, ta, tn, tl⟩ ⟨gr, ge, gq, gl⟩ least) = .tuple #[.agg #[.bool ton, .int .i64 tr, .int .i64 (0), .int .i64 (tn + ge), .int .i64 (til + 1)], .agg #[.int .i64 gr, .int .i64 0, .int .i64 gq, .int .i64 (gl)], .int .i64 (-1)] by
            simp [tokV, visK, visM, visG, visN, visE, j1, j2, j3, j6, Gk.v, Gm.v])
          rw [RV.out]; unfold Gk.v Gm.v; dsimp only; clear RV hq
          go_enter Try.func29, Try.ntmps29
          go_wp2
          go_region
          go_wp2
          exact bodyPost_ret (v := .tuple #[.agg #[.bool ton, .int .i64 tr, .int .i64 (0), .int .i64 (tn + ge), .int .i64 (til + 1)], .agg #[.int .i64 gr, .int .i64 0, .int .i64 gq, .int .i64 (gl)], .int .i64 (-1)]) (by simp [results, Try.results29, go_sem]) rfl ⟨rfl, ((((((Up.refl w).alloc _).alloc _).alloc _).alloc _).alloc _).drew⟩
    · have j2z : tr % 2 = 0 := by omega
      by_cases j3 : ta + 1 < (n : Int)
      · have RV := Lib.hid (show tokV (visK til n ⟨ton, tr, ta, tn, tl⟩ ⟨gr, ge, gq, gl⟩ least) = .tuple #[.agg #[.bool ton, .int .i64 tr, .int .i64 (ta + 1), .int .i64 (tn + gq), .int .i64 (q2)], .agg #[.int .i64 gr, .int .i64 ge, .int .i64 0, .int .i64 (gl)], .int .i64 (-1)] by
          simp [tokV, visK, visM, visG, visN, visE, j1, j2, j3, hq, Gk.v, Gm.v])
        rw [RV.out]; unfold Gk.v Gm.v; dsimp only; clear RV hq
        go_enter Try.func29, Try.ntmps29
        go_wp2
        go_region
        go_wp2
        exact bodyPost_ret (v := .tuple #[.agg #[.bool ton, .int .i64 tr, .int .i64 (ta + 1), .int .i64 (tn + gq), .int .i64 (q2)], .agg #[.int .i64 gr, .int .i64 ge, .int .i64 0, .int .i64 (gl)], .int .i64 (-1)]) (by simp [results, Try.results29, go_sem]) rfl ⟨rfl, ((((((Up.refl w).alloc _).alloc _).alloc _).alloc _).alloc _).drew⟩
      · by_cases j6 : tn + gq = 0
        · have RV := Lib.hid (show tokV (visK til n ⟨ton, tr, ta, tn, tl⟩ ⟨gr, ge, gq, gl⟩ least) = .tuple #[.agg #[.bool false, .int .i64 tr, .int .i64 (0), .int .i64 (0), .int .i64 (til + 1)], .agg #[.int .i64 gr, .int .i64 ge, .int .i64 0, .int .i64 (gl)], .int .i64 (q2)] by
            simp [tokV, visK, visM, visG, visN, visE, j1, j2, j3, j6, hq, Gk.v, Gm.v])
          rw [RV.out]; unfold Gk.v Gm.v; dsimp only; clear RV hq
          go_enter Try.func29, Try.ntmps29
          go_wp2
          go_region
          go_wp2
          exact bodyPost_ret (v := .tuple #[.agg #[.bool false, .int .i64 tr, .int .i64 (0), .int .i64 (0), .int .i64 (til + 1)], .agg #[.int .i64 gr, .int .i64 ge, .int .i64 0, .int .i64 (gl)], .int .i64 (q2)]) (by simp [results, Try.results29, go_sem]) rfl ⟨rfl, ((((((Up.refl w).alloc _).alloc _).alloc _).alloc _).alloc _).drew⟩
        · have RV := Lib.hid (show tokV (visK til n ⟨ton, tr, ta, tn, tl⟩ ⟨gr, ge, gq, gl⟩ least) = .tuple #[.agg #[.bool ton, .int .i64 tr, .int .i64 (0), .int .i64 (tn + gq), .int .i64 (til + 1)], .agg #[.int .i64 gr, .int .i64 ge, .int .i64 0, .int .i64 (gl)], .int .i64 (-1)] by
            simp [tokV, visK, visM, visG, visN, visE, j1, j2, j3, j6, Gk.v, Gm.v])
          rw [RV.out]; unfold Gk.v Gm.v; dsimp only; clear RV hq
          go_enter Try.func29, Try.ntmps29
          go_wp2
          go_region
          go_wp2
          exact bodyPost_ret (v := .tuple #[.agg #[.bool ton, .int .i64 tr, .int .i64 (0), .int .i64 (tn + gq), .int .i64 (til + 1)], .agg #[.int .i64 gr, .int .i64 ge, .int .i64 0, .int .i64 (gl)], .int .i64 (-1)]) (by simp [results, Try.results29, go_sem]) rfl ⟨rfl, ((((((Up.refl w).alloc _).alloc _).alloc _).alloc _).alloc _).drew⟩
end Go.Proofs.Ytpainlcehgiokaa

namespace Go.Proofs.Ytpainlcehgiokaa
set_option maxRecDepth 100000
open Go.RowKit
/-- A token and a mark stored. -/
def putTM (w : World) (b3 b4 : Nat) (t : Gk) (g : Gm) : World :=
  ((((((((w.setCell ⟨b3, 0, none⟩ (.bool t.on)).setCell ⟨b3, 1, none⟩ (.int .i64 t.r)).setCell ⟨b3, 2, none⟩ (.int .i64 t.a)).setCell ⟨b3, 3, none⟩ (.int .i64 t.n)).setCell ⟨b3, 4, none⟩ (.int .i64 t.l)).setCell ⟨b4, 0, none⟩ (.int .i64 g.r)).setCell ⟨b4, 1, none⟩ (.int .i64 g.e)).setCell ⟨b4, 2, none⟩ (.int .i64 g.o)).setCell ⟨b4, 3, none⟩ (.int .i64 g.l)
theorem bk_setC (w : World) (b o : Nat) (u : Value) {arr : Array Value} (h : Bk w b arr) : Bk (w.setCell ⟨b, o, none⟩ u) b (arr.setIfInBounds o u) := by
  obtain ⟨e, h⟩ := h; refine ⟨e, ?_⟩; unfold World.setCell; simp [Array.getElem?_modify, h]
theorem bk_far (w : World) {b b' o : Nat} (u : Value) {arr : Array Value} (h : Bk w b arr) (hb : b ≠ b') : Bk (w.setCell ⟨b', o, none⟩ u) b arr := by
  obtain ⟨e, h⟩ := h
  exact ⟨e, (Below.heap_setCell w ⟨b', o, none⟩ u b hb).trans h⟩
theorem putTM_at {w : World} {b3 b4 : Nat} {x0 x1 x2 x3 x4 y0 y1 y2 y3 : Value} (h3 : Bk w b3 #[x0, x1, x2, x3, x4]) (h4 : Bk w b4 #[y0, y1, y2, y3]) (hne : b3 ≠ b4) (t : Gk) (g : Gm) :
    (putTM w b3 b4 t g).cell? ⟨b3, 0, none⟩ = some (.bool t.on) ∧ (putTM w b3 b4 t g).cell? ⟨b3, 1, none⟩ = some (.int .i64 t.r) ∧ (putTM w b3 b4 t g).cell? ⟨b3, 2, none⟩ = some (.int .i64 t.a) ∧ (putTM w b3 b4 t g).cell? ⟨b3, 3, none⟩ = some (.int .i64 t.n) ∧ (putTM w b3 b4 t g).cell? ⟨b3, 4, none⟩ = some (.int .i64 t.l) ∧
    (putTM w b3 b4 t g).cell? ⟨b4, 0, none⟩ = some (.int .i64 g.r) ∧ (putTM w b3 b4 t g).cell? ⟨b4, 1, none⟩ = some (.int .i64 g.e) ∧ (putTM w b3 b4 t g).cell? ⟨b4, 2, none⟩ = some (.int .i64 g.o) ∧ (putTM w b3 b4 t g).cell? ⟨b4, 3, none⟩ = some (.int .i64 g.l) := by
  have e3 : Bk (putTM w b3 b4 t g) b3 #[.bool t.on, .int .i64 t.r, .int .i64 t.a, .int .i64 t.n, .int .i64 t.l] := by
    unfold putTM
    exact bk_far _ _ (bk_far _ _ (bk_far _ _ (bk_far _ _ (bk_setC _ _ _ _ (bk_setC _ _ _ _ (bk_setC _ _ _ _ (bk_setC _ _ _ _ (bk_setC _ _ _ _ h3))))) hne) hne) hne) hne
  have e4 : Bk (putTM w b3 b4 t g) b4 #[.int .i64 g.r, .int .i64 g.e, .int .i64 g.o, .int .i64 g.l] := by
    unfold putTM
    exact bk_setC _ _ _ _ (bk_setC _ _ _ _ (bk_setC _ _ _ _ (bk_setC _ _ _ _ (bk_far _ _ (bk_far _ _ (bk_far _ _ (bk_far _ _ (bk_far _ _ h4 hne.symm) hne.symm) hne.symm) hne.symm) hne.symm))))
  exact ⟨e3.cell rfl, e3.cell rfl, e3.cell rfl, e3.cell rfl, e3.cell rfl, e4.cell rfl, e4.cell rfl, e4.cell rfl, e4.cell rfl⟩
theorem putTM_up {a w : World} {b3 b4 : Nat} (h : Up a w) (h3 : a.heap.size ≤ b3) (h4 : a.heap.size ≤ b4) (t : Gk) (g : Gm) : Up a (putTM w b3 b4 t g) := by
  unfold putTM
  exact ((((((((h.setCell h3 _).setCell h3 _).setCell h3 _).setCell h3 _).setCell h3 _).setCell h4 _).setCell h4 _).setCell h4 _).setCell h4 _
theorem arr_five {xs : Array Value} (h : xs.size = 5) : ∃ x0 x1 x2 x3 x4, xs = #[x0, x1, x2, x3, x4] := by
  obtain ⟨l⟩ := xs
  match l, h with
  | [a, b, c, d, e], _ => exact ⟨a, b, c, d, e, rfl⟩
theorem arr_four {xs : Array Value} (h : xs.size = 4) : ∃ x0 x1 x2 x3, xs = #[x0, x1, x2, x3] := by
  obtain ⟨l⟩ := xs
  match l, h with
  | [a, b, c, d], _ => exact ⟨a, b, c, d, rfl⟩
end Go.Proofs.Ytpainlcehgiokaa

namespace Go.Proofs.Ytpainlcehgiokaa
set_option maxRecDepth 100000
open Go.RowKit
theorem mdlB_til' {m : Mdl} (hm : mdlB m = true) : 0 ≤ m.til ∧ m.til ≤ 99 := by
  simp only [mdlB, Bool.and_eq_true] at hm
  exact inB_iff.1 hm.1.1.2
theorem mdlB_few' {m : Mdl} (hm : mdlB m = true) : 1 ≤ m.rules.length ∧ m.rules.length ≤ 4 := by
  simp only [mdlB, Bool.and_eq_true] at hm
  have := inB_iff.1 hm.1.1.1
  omega
theorem tokP_no {m : Mdl} {t : Gk} {g : Gm} {least : Int} (h : tokB m t g least = false) : tokP m t g least = (default, default, -1) := by
  unfold tokP; rw [h]; simp
theorem tokP_yes {m : Mdl} {t : Gk} {g : Gm} {least : Int} (h : tokB m t g least = true) : tokP m t g least = visK m.til m.rules.length t g least := by
  unfold tokP; rw [h]; simp
end Go.Proofs.Ytpainlcehgiokaa

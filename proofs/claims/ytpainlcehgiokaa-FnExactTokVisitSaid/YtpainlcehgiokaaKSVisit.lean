/-
  What spec.TokVisit returns, in one sentence: the token, the mark and the bound behind a visit, or zero values; for every model that lies in memory.
-/
import Derived.Test.YtpainlcehgiokaaKT1
namespace Go.Proofs.Ytpainlcehgiokaa
set_option maxRecDepth 100000
open Go.RowKit

set_option maxHeartbeats 8000000 in
theorem specVisit_any (A : Option Addr) (n c : Nat) (B : Option Addr) (k d : Nat) (m : Mdl) (t : Gk) (g : Gm) (least : Int) (w : World) (hM : MdlV w A n B k m) :
    Calls Try.prog 7 #[.agg #[.slice A n c, .slice B k d, .int .i64 m.til], t.v, g.v, .int .i64 least] w fun x w' => x = .returned (tokV (tokP m t g least)) ∧ Up w w' := by
  have BIG := Lib.hid (fun (h : mdlB m = true) => (show (0 ≤ m.til ∧ m.til ≤ 99) ∧ (1 ≤ n ∧ n ≤ 4) from ⟨mdlB_til' h, by have := mdlB_few' h; have := hM.rules.1; omega⟩))
  have LR := Lib.hid (show m.rules.length = n from hM.rules.1)
  have CT := Lib.hid (fun W (u : Up w W) => specTok_any A n c B k d m t W (hM.up u))
  have CG := Lib.hid (fun W (u : Up w W) => specMrk_any A n c B k d m g W (hM.up u))
  have TB := Lib.hid (show tokB m t g least = ((mdlB m && gkB m.til m.rules.length t) && (mdlB m && gmB m.til g) && t.on && inB least 0 (m.til + 1) && inB (t.r - g.r) 0 1) by unfold tokB mayV; cases mdlB m <;> simp [Bool.and_assoc])
  have P1 := Lib.hid (fun (h : (mdlB m && gkB m.til m.rules.length t) = true) => (show _ ∧ _ by rw [Bool.and_eq_true] at h; exact h))
  have P2 := Lib.hid (fun (h : (mdlB m && gmB m.til g) = true) => (show _ ∧ _ by rw [Bool.and_eq_true] at h; exact h))
  have CV := Lib.hid (fun W (h : mdlB m = true) (h2 : gkB m.til m.rules.length t = true) (h3 : gmB m.til g = true) => l5Visit_any A n c B k d m.til t g least W (mdlB_til' h) (by have := mdlB_few' h; have := hM.rules.1; omega) (by rw [← hM.rules.1]; exact h2) h3)
  have CB := Lib.hid (fun W => l1In_any least 0 (m.til + 1) W)
  have CC := Lib.hid (fun W => l1In_any (t.r - g.r) 0 1 W)
  have WR := Lib.hid (fun (h2 : gkB m.til m.rules.length t = true) (h3 : gmB m.til g = true) => (show IntKind.i64.wrap (t.r - g.r) = t.r - g.r by simp only [gkB, gmB, Bool.and_eq_true, inB_iff] at h2 h3; exact IntWalk.i64_in _ (by omega)))
  generalize (mdlB m && gkB m.til m.rules.length t) = bt at CT TB P1
  generalize (mdlB m && gmB m.til g) = bg at CG TB P2
  generalize inB least 0 (m.til + 1) = bl at CB TB
  generalize inB (t.r - g.r) 0 1 = br at CC TB
  obtain ⟨bo, hbo⟩ : ∃ bo, bo = t.on := ⟨_, rfl⟩
  rw [← hbo] at TB
  obtain ⟨t0, ht0⟩ : ∃ t0, t0 = t := ⟨_, rfl⟩
  obtain ⟨g0, hg0⟩ : ∃ g0, g0 = g := ⟨_, rfl⟩
  rw [← ht0, ← hg0] at TB
  rw [← ht0] at P1
  rw [← hg0] at P2
  rw [← ht0, ← hg0] at CV WR
  rw [show tokP m t g least = tokP m t0 g0 least by rw [ht0, hg0]]
  have E0 := Lib.hid (And.intro ht0 hg0)
  clear ht0 hg0
  obtain ⟨gr, ge, gq, gl⟩ := g
  obtain ⟨ton, tr, ta, tn, tl⟩ := t
  replace hbo : bo = ton := hbo
  rw [hbo] at TB
  clear hbo
  unfold Gk.v at CT ⊢
  unfold Gm.v at CG ⊢
  dsimp only at CT CG CC TB ⊢
  clear hM
  have X0 := Lib.hid (((((Bk.new w #[.slice A n c, .slice B k d, .int .i64 m.til] 26).alloc (.cells #[.bool ton, .int .i64 tr, .int .i64 ta, .int .i64 tn, .int .i64 tl] 28)).alloc (.cells #[.int .i64 gr, .int .i64 ge, .int .i64 gq, .int .i64 gl] 30)).alloc (.cells #[.bool false, .int .i64 0, .int .i64 0, .int .i64 0, .int .i64 0] 28)).alloc (.cells #[.int .i64 0, .int .i64 0, .int .i64 0, .int .i64 0] 30))
  have X1 := Lib.hid ((((Bk.new (w.alloc (.cells #[.slice A n c, .slice B k d, .int .i64 m.til] 26)) #[.bool ton, .int .i64 tr, .int .i64 ta, .int .i64 tn, .int .i64 tl] 28).alloc (.cells #[.int .i64 gr, .int .i64 ge, .int .i64 gq, .int .i64 gl] 30)).alloc (.cells #[.bool false, .int .i64 0, .int .i64 0, .int .i64 0, .int .i64 0] 28)).alloc (.cells #[.int .i64 0, .int .i64 0, .int .i64 0, .int .i64 0] 30))
  have X2 := Lib.hid (((Bk.new ((w.alloc (.cells #[.slice A n c, .slice B k d, .int .i64 m.til] 26)).alloc (.cells #[.bool ton, .int .i64 tr, .int .i64 ta, .int .i64 tn, .int .i64 tl] 28)) #[.int .i64 gr, .int .i64 ge, .int .i64 gq, .int .i64 gl] 30).alloc (.cells #[.bool false, .int .i64 0, .int .i64 0, .int .i64 0, .int .i64 0] 28)).alloc (.cells #[.int .i64 0, .int .i64 0, .int .i64 0, .int .i64 0] 30))
  have X3 := Lib.hid ((Bk.new (((w.alloc (.cells #[.slice A n c, .slice B k d, .int .i64 m.til] 26)).alloc (.cells #[.bool ton, .int .i64 tr, .int .i64 ta, .int .i64 tn, .int .i64 tl] 28)).alloc (.cells #[.int .i64 gr, .int .i64 ge, .int .i64 gq, .int .i64 gl] 30)) #[.bool false, .int .i64 0, .int .i64 0, .int .i64 0, .int .i64 0] 28).alloc (.cells #[.int .i64 0, .int .i64 0, .int .i64 0, .int .i64 0] 30))
  have X4 := Lib.hid (Bk.new ((((w.alloc (.cells #[.slice A n c, .slice B k d, .int .i64 m.til] 26)).alloc (.cells #[.bool ton, .int .i64 tr, .int .i64 ta, .int .i64 tn, .int .i64 tl] 28)).alloc (.cells #[.int .i64 gr, .int .i64 ge, .int .i64 gq, .int .i64 gl] 30)).alloc (.cells #[.bool false, .int .i64 0, .int .i64 0, .int .i64 0, .int .i64 0] 28)) #[.int .i64 0, .int .i64 0, .int .i64 0, .int .i64 0] 30)
  simp only [World.size_alloc] at X1 X2 X3 X4
  have U0 := Lib.hid ((((((Up.refl w).alloc (.cells #[.slice A n c, .slice B k d, .int .i64 m.til] 26)).alloc (.cells #[.bool ton, .int .i64 tr, .int .i64 ta, .int .i64 tn, .int .i64 tl] 28)).alloc (.cells #[.int .i64 gr, .int .i64 ge, .int .i64 gq, .int .i64 gl] 30)).alloc (.cells #[.bool false, .int .i64 0, .int .i64 0, .int .i64 0, .int .i64 0] 28)).alloc (.cells #[.int .i64 0, .int .i64 0, .int .i64 0, .int .i64 0] 30))
  have N34 := Lib.hid (show w.heap.size + 1 + 1 + 1 ≠ w.heap.size + 1 + 1 + 1 + 1 by omega)
  have NL := Lib.hid (show w.heap.size ≤ w.heap.size + 1 + 1 + 1 ∧ w.heap.size ≤ w.heap.size + 1 + 1 + 1 + 1 by omega)
  go_enter Try.func7, Try.ntmps7
  go_wp2_with fail
  generalize (((((w.alloc (.cells #[.slice A n c, .slice B k d, .int .i64 m.til] 26)).alloc (.cells #[.bool ton, .int .i64 tr, .int .i64 ta, .int .i64 tn, .int .i64 tl] 28)).alloc (.cells #[.int .i64 gr, .int .i64 ge, .int .i64 gq, .int .i64 gl] 30)).alloc (.cells #[.bool false, .int .i64 0, .int .i64 0, .int .i64 0, .int .i64 0] 28)).alloc (.cells #[.int .i64 0, .int .i64 0, .int .i64 0, .int .i64 0] 30)) = W at *
  generalize hb4 : w.heap.size + 1 + 1 + 1 + 1 = b4 at *
  generalize hb3 : w.heap.size + 1 + 1 + 1 = b3 at *
  generalize hb2 : w.heap.size + 1 + 1 = b2 at *
  generalize hb1 : w.heap.size + 1 = b1 at *
  clear hb1 hb2 hb3 hb4
  refine (CT.out _ U0.out).mono ?_
  rintro x w1 ⟨rfl, u1⟩
  have U := Lib.hid (U0.out.trans u1)
  replace X0 := Lib.hid (X0.out.up u1)
  replace X1 := Lib.hid (X1.out.up u1)
  replace X2 := Lib.hid (X2.out.up u1)
  replace X3 := Lib.hid (X3.out.up u1)
  replace X4 := Lib.hid (X4.out.up u1)
  clear u1
  cases bt
  · have RZ := Lib.hid (show tokV (tokP m t0 g0 least) = .tuple #[.agg #[.bool false, .int .i64 0, .int .i64 0, .int .i64 0, .int .i64 0], .agg #[.int .i64 0, .int .i64 0, .int .i64 0, .int .i64 0], .int .i64 (-1)] by rw [tokP_no (by rw [TB.out]; rfl)]; rfl)
    have v30 := X3.out.cell (j := 0) rfl
    have v31 := X3.out.cell (j := 1) rfl
    have v32 := X3.out.cell (j := 2) rfl
    have v33 := X3.out.cell (j := 3) rfl
    have v34 := X3.out.cell (j := 4) rfl
    have u40 := X4.out.cell (j := 0) rfl
    have u41 := X4.out.cell (j := 1) rfl
    have u42 := X4.out.cell (j := 2) rfl
    have u43 := X4.out.cell (j := 3) rfl
    have lt3 := X3.out.lt
    have lt4 := X4.out.lt
    have ff3 := fun j => X3.out.frozen j
    have ff4 := fun j => X4.out.frozen j
    have hne := N34.out
    have hne2 := N34.out.symm
    have K := Lib.hid (putTM_at X3.out X4.out N34.out (⟨false, 0, 0, 0, 0⟩) (⟨0, 0, 0, 0⟩))
    have UE := Lib.hid (putTM_up U.out NL.out.1 NL.out.2 (⟨false, 0, 0, 0, 0⟩) (⟨0, 0, 0, 0⟩))
    unfold putTM at K UE
    dsimp only at K UE
    clear TB
    go_wp2
    obtain ⟨k0, k1, k2, k3, k4, k5, k6, k7, k8⟩ := K.out
    exact bodyPost_ret (v := .tuple #[.agg #[.bool false, .int .i64 0, .int .i64 0, .int .i64 0, .int .i64 0], .agg #[.int .i64 0, .int .i64 0, .int .i64 0, .int .i64 0], .int .i64 (-1)]) (by simp [results, Try.results7, go_sem, k0, k1, k2, k3, k4, k5, k6, k7, k8]) rfl ⟨congrArg Ending.returned RZ.out.symm, UE.out⟩
  · obtain ⟨pm, pk⟩ := P1.out rfl
    have PM := Lib.hid pm
    have PK := Lib.hid pk
    have i1 : IntKind.i64.wrap (m.til + 1) = m.til + 1 := IntWalk.i64_in _ (by have := (BIG.out pm).1; omega)
    clear pm pk
    have z00 := X0.out.cell (j := 0) rfl
    have z01 := X0.out.cell (j := 1) rfl
    have z02 := X0.out.cell (j := 2) rfl
    have x20 := X2.out.cell (j := 0) rfl
    have x21 := X2.out.cell (j := 1) rfl
    have x22 := X2.out.cell (j := 2) rfl
    have x23 := X2.out.cell (j := 3) rfl
    have lt0 := X0.out.lt
    have lt2 := X2.out.lt
    go_wp2_with fail
    refine (CG.out _ U.out).mono ?_
    rintro x w2 ⟨rfl, u2⟩
    clear z00 z01 z02 x20 x21 x22 x23 lt0 lt2
    replace U := Lib.hid (U.out.trans u2)
    replace X0 := Lib.hid (X0.out.up u2)
    replace X1 := Lib.hid (X1.out.up u2)
    replace X2 := Lib.hid (X2.out.up u2)
    replace X3 := Lib.hid (X3.out.up u2)
    replace X4 := Lib.hid (X4.out.up u2)
    clear u2
    cases bg
    · have RZ := Lib.hid (show tokV (tokP m t0 g0 least) = .tuple #[.agg #[.bool false, .int .i64 0, .int .i64 0, .int .i64 0, .int .i64 0], .agg #[.int .i64 0, .int .i64 0, .int .i64 0, .int .i64 0], .int .i64 (-1)] by rw [tokP_no (by rw [TB.out]; rfl)]; rfl)
      have v30 := X3.out.cell (j := 0) rfl
      have v31 := X3.out.cell (j := 1) rfl
      have v32 := X3.out.cell (j := 2) rfl
      have v33 := X3.out.cell (j := 3) rfl
      have v34 := X3.out.cell (j := 4) rfl
      have u40 := X4.out.cell (j := 0) rfl
      have u41 := X4.out.cell (j := 1) rfl
      have u42 := X4.out.cell (j := 2) rfl
      have u43 := X4.out.cell (j := 3) rfl
      have lt3 := X3.out.lt
      have lt4 := X4.out.lt
      have ff3 := fun j => X3.out.frozen j
      have ff4 := fun j => X4.out.frozen j
      have hne := N34.out
      have hne2 := N34.out.symm
      have K := Lib.hid (putTM_at X3.out X4.out N34.out (⟨false, 0, 0, 0, 0⟩) (⟨0, 0, 0, 0⟩))
      have UE := Lib.hid (putTM_up U.out NL.out.1 NL.out.2 (⟨false, 0, 0, 0, 0⟩) (⟨0, 0, 0, 0⟩))
      unfold putTM at K UE
      dsimp only at K UE
      clear TB
      go_wp2
      obtain ⟨k0, k1, k2, k3, k4, k5, k6, k7, k8⟩ := K.out
      exact bodyPost_ret (v := .tuple #[.agg #[.bool false, .int .i64 0, .int .i64 0, .int .i64 0, .int .i64 0], .agg #[.int .i64 0, .int .i64 0, .int .i64 0, .int .i64 0], .int .i64 (-1)]) (by simp [results, Try.results7, go_sem, k0, k1, k2, k3, k4, k5, k6, k7, k8]) rfl ⟨congrArg Ending.returned RZ.out.symm, UE.out⟩
    · have PG := Lib.hid (P2.out rfl).2
      have i2 : IntKind.i64.wrap (tr - gr) = tr - gr := by have h := WR.out PK.out PG.out; rw [E0.out.1, E0.out.2] at h; exact h
      have z00 := X0.out.cell (j := 0) rfl
      have z01 := X0.out.cell (j := 1) rfl
      have z02 := X0.out.cell (j := 2) rfl
      have y10 := X1.out.cell (j := 0) rfl
      have y11 := X1.out.cell (j := 1) rfl
      have y12 := X1.out.cell (j := 2) rfl
      have y13 := X1.out.cell (j := 3) rfl
      have y14 := X1.out.cell (j := 4) rfl
      have x20 := X2.out.cell (j := 0) rfl
      have x21 := X2.out.cell (j := 1) rfl
      have x22 := X2.out.cell (j := 2) rfl
      have x23 := X2.out.cell (j := 3) rfl
      have lt0 := X0.out.lt
      have lt1 := X1.out.lt
      have lt2 := X2.out.lt
      cases ton
      · have RZ := Lib.hid (show tokV (tokP m t0 g0 least) = .tuple #[.agg #[.bool false, .int .i64 0, .int .i64 0, .int .i64 0, .int .i64 0], .agg #[.int .i64 0, .int .i64 0, .int .i64 0, .int .i64 0], .int .i64 (-1)] by rw [tokP_no (by rw [TB.out]; rfl)]; rfl)
        have v30 := X3.out.cell (j := 0) rfl
        have v31 := X3.out.cell (j := 1) rfl
        have v32 := X3.out.cell (j := 2) rfl
        have v33 := X3.out.cell (j := 3) rfl
        have v34 := X3.out.cell (j := 4) rfl
        have u40 := X4.out.cell (j := 0) rfl
        have u41 := X4.out.cell (j := 1) rfl
        have u42 := X4.out.cell (j := 2) rfl
        have u43 := X4.out.cell (j := 3) rfl
        have lt3 := X3.out.lt
        have lt4 := X4.out.lt
        have ff3 := fun j => X3.out.frozen j
        have ff4 := fun j => X4.out.frozen j
        have hne := N34.out
        have hne2 := N34.out.symm
        have K := Lib.hid (putTM_at X3.out X4.out N34.out (⟨false, 0, 0, 0, 0⟩) (⟨0, 0, 0, 0⟩))
        have UE := Lib.hid (putTM_up U.out NL.out.1 NL.out.2 (⟨false, 0, 0, 0, 0⟩) (⟨0, 0, 0, 0⟩))
        unfold putTM at K UE
        dsimp only at K UE
        clear TB
        go_wp2
        obtain ⟨k0, k1, k2, k3, k4, k5, k6, k7, k8⟩ := K.out
        exact bodyPost_ret (v := .tuple #[.agg #[.bool false, .int .i64 0, .int .i64 0, .int .i64 0, .int .i64 0], .agg #[.int .i64 0, .int .i64 0, .int .i64 0, .int .i64 0], .int .i64 (-1)]) (by simp [results, Try.results7, go_sem, k0, k1, k2, k3, k4, k5, k6, k7, k8]) rfl ⟨congrArg Ending.returned RZ.out.symm, UE.out⟩
      · go_wp2_with fail
        refine (CB.out _).mono ?_
        rintro x w3 ⟨rfl, rfl⟩
        cases bl
        · have RZ := Lib.hid (show tokV (tokP m t0 g0 least) = .tuple #[.agg #[.bool false, .int .i64 0, .int .i64 0, .int .i64 0, .int .i64 0], .agg #[.int .i64 0, .int .i64 0, .int .i64 0, .int .i64 0], .int .i64 (-1)] by rw [tokP_no (by rw [TB.out]; rfl)]; rfl)
          have v30 := X3.out.cell (j := 0) rfl
          have v31 := X3.out.cell (j := 1) rfl
          have v32 := X3.out.cell (j := 2) rfl
          have v33 := X3.out.cell (j := 3) rfl
          have v34 := X3.out.cell (j := 4) rfl
          have u40 := X4.out.cell (j := 0) rfl
          have u41 := X4.out.cell (j := 1) rfl
          have u42 := X4.out.cell (j := 2) rfl
          have u43 := X4.out.cell (j := 3) rfl
          have lt3 := X3.out.lt
          have lt4 := X4.out.lt
          have ff3 := fun j => X3.out.frozen j
          have ff4 := fun j => X4.out.frozen j
          have hne := N34.out
          have hne2 := N34.out.symm
          have K := Lib.hid (putTM_at X3.out X4.out N34.out (⟨false, 0, 0, 0, 0⟩) (⟨0, 0, 0, 0⟩))
          have UE := Lib.hid (putTM_up U.out NL.out.1 NL.out.2 (⟨false, 0, 0, 0, 0⟩) (⟨0, 0, 0, 0⟩))
          unfold putTM at K UE
          dsimp only at K UE
          clear TB
          go_wp2
          obtain ⟨k0, k1, k2, k3, k4, k5, k6, k7, k8⟩ := K.out
          exact bodyPost_ret (v := .tuple #[.agg #[.bool false, .int .i64 0, .int .i64 0, .int .i64 0, .int .i64 0], .agg #[.int .i64 0, .int .i64 0, .int .i64 0, .int .i64 0], .int .i64 (-1)]) (by simp [results, Try.results7, go_sem, k0, k1, k2, k3, k4, k5, k6, k7, k8]) rfl ⟨congrArg Ending.returned RZ.out.symm, UE.out⟩
        · go_wp2_with fail
          refine (CC.out _).mono ?_
          rintro x w3 ⟨rfl, rfl⟩
          cases br
          · have RZ := Lib.hid (show tokV (tokP m t0 g0 least) = .tuple #[.agg #[.bool false, .int .i64 0, .int .i64 0, .int .i64 0, .int .i64 0], .agg #[.int .i64 0, .int .i64 0, .int .i64 0, .int .i64 0], .int .i64 (-1)] by rw [tokP_no (by rw [TB.out]; rfl)]; rfl)
            have v30 := X3.out.cell (j := 0) rfl
            have v31 := X3.out.cell (j := 1) rfl
            have v32 := X3.out.cell (j := 2) rfl
            have v33 := X3.out.cell (j := 3) rfl
            have v34 := X3.out.cell (j := 4) rfl
            have u40 := X4.out.cell (j := 0) rfl
            have u41 := X4.out.cell (j := 1) rfl
            have u42 := X4.out.cell (j := 2) rfl
            have u43 := X4.out.cell (j := 3) rfl
            have lt3 := X3.out.lt
            have lt4 := X4.out.lt
            have ff3 := fun j => X3.out.frozen j
            have ff4 := fun j => X4.out.frozen j
            have hne := N34.out
            have hne2 := N34.out.symm
            have K := Lib.hid (putTM_at X3.out X4.out N34.out (⟨false, 0, 0, 0, 0⟩) (⟨0, 0, 0, 0⟩))
            have UE := Lib.hid (putTM_up U.out NL.out.1 NL.out.2 (⟨false, 0, 0, 0, 0⟩) (⟨0, 0, 0, 0⟩))
            unfold putTM at K UE
            dsimp only at K UE
            clear TB
            go_wp2
            obtain ⟨k0, k1, k2, k3, k4, k5, k6, k7, k8⟩ := K.out
            exact bodyPost_ret (v := .tuple #[.agg #[.bool false, .int .i64 0, .int .i64 0, .int .i64 0, .int .i64 0], .agg #[.int .i64 0, .int .i64 0, .int .i64 0, .int .i64 0], .int .i64 (-1)]) (by simp [results, Try.results7, go_sem, k0, k1, k2, k3, k4, k5, k6, k7, k8]) rfl ⟨congrArg Ending.returned RZ.out.symm, UE.out⟩
          · have TY := Lib.hid (show tokP m t0 g0 least = visK m.til n t0 g0 least by rw [tokP_yes (by rw [TB.out]; rfl), LR.out])
            have CV := Lib.hid (fun W => CV.out W PM.out PK.out PG.out)
            generalize visK m.til n t0 g0 least = r at TY CV
            rw [E0.out.1, E0.out.2] at CV
            obtain ⟨⟨r0, r1, r2, r3, r4⟩, ⟨s0, s1, s2, s3⟩, rb⟩ := r
            unfold tokV Gk.v Gm.v at CV
            dsimp only at CV
            have RY := Lib.hid (show tokV (tokP m t0 g0 least) = .tuple #[.agg #[.bool r0, .int .i64 r1, .int .i64 r2, .int .i64 r3, .int .i64 r4], .agg #[.int .i64 s0, .int .i64 s1, .int .i64 s2, .int .i64 s3], .int .i64 rb] by rw [TY.out]; rfl)
            clear TB TY
            go_wp2_with fail
            refine (CV.out _).mono ?_
            rintro x w5 ⟨rfl, u5⟩
            clear z00 z01 z02 y10 y11 y12 y13 y14 x20 x21 x22 x23 lt0 lt1 lt2
            replace U := Lib.hid (U.out.trans u5)
            replace X0 := Lib.hid (X0.out.up u5)
            replace X1 := Lib.hid (X1.out.up u5)
            replace X2 := Lib.hid (X2.out.up u5)
            replace X3 := Lib.hid (X3.out.up u5)
            replace X4 := Lib.hid (X4.out.up u5)
            clear u5
            have v30 := X3.out.cell (j := 0) rfl
            have v31 := X3.out.cell (j := 1) rfl
            have v32 := X3.out.cell (j := 2) rfl
            have v33 := X3.out.cell (j := 3) rfl
            have v34 := X3.out.cell (j := 4) rfl
            have u40 := X4.out.cell (j := 0) rfl
            have u41 := X4.out.cell (j := 1) rfl
            have u42 := X4.out.cell (j := 2) rfl
            have u43 := X4.out.cell (j := 3) rfl
            have lt3 := X3.out.lt
            have lt4 := X4.out.lt
            have ff3 := fun j => X3.out.frozen j
            have ff4 := fun j => X4.out.frozen j
            have hne := N34.out
            have hne2 := N34.out.symm
            have K := Lib.hid (putTM_at X3.out X4.out N34.out (⟨r0, r1, r2, r3, r4⟩) (⟨s0, s1, s2, s3⟩))
            have UE := Lib.hid (putTM_up U.out NL.out.1 NL.out.2 (⟨r0, r1, r2, r3, r4⟩) (⟨s0, s1, s2, s3⟩))
            unfold putTM at K UE
            dsimp only at K UE
            go_wp2
            obtain ⟨k0, k1, k2, k3, k4, k5, k6, k7, k8⟩ := K.out
            exact bodyPost_ret (v := .tuple #[.agg #[.bool r0, .int .i64 r1, .int .i64 r2, .int .i64 r3, .int .i64 r4], .agg #[.int .i64 s0, .int .i64 s1, .int .i64 s2, .int .i64 s3], .int .i64 rb]) (by simp [results, Try.results7, go_sem, k0, k1, k2, k3, k4, k5, k6, k7, k8]) rfl ⟨congrArg Ending.returned RY.out.symm, UE.out⟩

end Go.Proofs.Ytpainlcehgiokaa

/-
  What spec.TokVisit returns, in one sentence: the token, the mark and the bound behind a visit, or zero values; for every model that lies in memory.
  Blocks of events of the call's own, in one sentence: what the laying of an event's six cells keeps and what it gives; no condition is made.
  An event's block of the call's own, in one sentence: its six cells, none frozen, kept wherever another block alone is written.
  The machine's map of rules, in one sentence: a block that is a map by component and kind has the values that a function tells; looked up, stored into, kept; no condition is made.
  What toEvtEvtS returns, in one sentence: a new slice of the same events; for every list that lies in memory.
  What toMdlSendS returns, in one sentence: a new slice of the same sends; for every list that lies in memory.
  The first rule of a kind and where it stands, in one sentence: defined over lists; no condition is made.
-/
import Derived.DeepKeys4
import Derived.Maps.OwnSet
import Derived.Test.YtpainlcehgiokaaDLVisit01
import Derived.Test.YtpainlcehgiokaaDLVisit02
import Derived.Test.YtpainlcehgiokaaDLVisit05
namespace Go.Proofs.Ytpainlcehgiokaa
set_option maxRecDepth 100000
open Go.RowKit
set_option maxHeartbeats 8000000 in
theorem specVisit_any (A : Option Addr) (n c : Nat) (B : Option Addr) (k d : Nat) (m : Mdl) (t : Gk) (g : Gm) (least : Int) (w : World) (hM : MdlV w A n B k m) :
    Calls Try.prog 7 #[.agg #[.slice A n c, .slice B k d, .int .i64 m.til], t.v, g.v, .int .i64 least] w fun x w' => x = .returned (tokV (tokP m t g least)) ∧ Up w w' := by
  have BIG := Lib.hid (fun (h : mdlB m = true) => (show (0 ≤ m.til ∧ m.til ≤ 99) ∧ (1 ≤ n ∧ n ≤ 4) from ⟨mdlB_til' h, by have := mdlB_few' h; have := hM.rules.1; omega⟩))
  have LR := Lib.hid (show m.rules.length = n from hM.rules.1)
  have CT := Lib.hid (fun W (u : Up w W) => specTok_any A n c B k d m t W (hM.up u))
  have CG := Lib.hid (fun W (u : Up w W) => specMrk_any A n c B k d m g W (hM.up u))
  have TB := Lib.hid (show tokB m t g least = ((mdlB m && gkB m.til m.rules.length t) && (mdlB m && gmB m.til g) && t.on && inB least 0 (m.til + 1) && inB (t.r - g.r) 0 1) by unfold tokB mayV; cases mdlB m <;> simp [Bool.and_assoc])
  have P1 := Lib.hid (fun (h : (mdlB m && gkB m.til m.rules.length t) = true) => (show _ ∧ _ by rw [Bool.and_eq_true] at h; exact h))
  have P2 := Lib.hid (fun (h : (mdlB m && gmB m.til g) = true) => (show _ ∧ _ by rw [Bool.and_eq_true] at h; exact h))
  have CV := Lib.hid (fun W (h : mdlB m = true) (h2 : gkB m.til m.rules.length t = true) (h3 : gmB m.til g = true) => l5Visit_any A n c B k d m.til t g least W (mdlB_til' h) (by have := mdlB_few' h; have := hM.rules.1; omega) (by rw [← hM.rules.1]; exact h2) h3)
  have CB := Lib.hid (fun W => l1In_any least 0 (m.til + 1) W)
  have CC := Lib.hid (fun W => l1In_any (t.r - g.r) 0 1 W)
  have WR := Lib.hid (fun (h2 : gkB m.til m.rules.length t = true) (h3 : gmB m.til g = true) => (show IntKind.i64.wrap (t.r - g.r) = t.r - g.r by simp only [gkB, gmB, Bool.and_eq_true, inB_iff] at h2 h3; exact IntWalk.i64_in _ (by omega)))
  generalize (mdlB m && gkB m.til m.rules.length t) = bt at CT TB P1
  generalize (mdlB m && gmB m.til g) = bg at CG TB P2
  generalize inB least 0 (m.til + 1) = bl at CB TB
  generalize inB (t.r - g.r) 0 1 = br at CC TB
  obtain ⟨bo, hbo⟩ : ∃ bo, bo = t.on := ⟨_, rfl⟩; rw [← hbo] at TB; obtain ⟨t0, ht0⟩ : ∃ t0, t0 = t := ⟨_, rfl⟩; obtain ⟨g0, hg0⟩ : ∃ g0, g0 = g := ⟨_, rfl⟩; rw [← ht0, ← hg0] at TB; rw [← ht0] at P1; rw [← hg0] at P2; rw [← ht0, ← hg0] at CV WR; rw [show tokP m t g least = tokP m t0 g0 least by rw [ht0, hg0]]
  have E0 := Lib.hid (And.intro ht0 hg0)
  clear ht0 hg0; obtain ⟨gr, ge, gq, gl⟩ := g; obtain ⟨ton, tr, ta, tn, tl⟩ := t
  replace hbo : bo = ton := hbo
  rw [hbo] at TB; clear hbo; unfold Gk.v at CT ⊢; unfold Gm.v at CG ⊢; dsimp only at CT CG CC TB ⊢; clear hM
  have X0 := Lib.hid (((((Bk.new w #[.slice A n c, .slice B k d, .int .i64 m.til] 26).alloc (.cells #[.bool ton, .int .i64 tr, .int .i64 ta, .int .i64 tn, .int .i64 tl] 28)).alloc (.cells #[.int .i64 gr, .int .i64 ge, .int .i64 gq, .int .i64 gl] 30)).alloc (.cells #[.bool false, .int .i64 0, .int .i64 0, .int .i64 0, .int .i64 0] 28)).alloc (.cells #[.int .i64 0, .int .i64 0, .int .i64 0, .int .i64 0] 30))
  have X1 := Lib.hid ((((Bk.new (w.alloc (.cells #[.slice A n c, .slice B k d, .int .i64 m.til] 26)) #[.bool ton, .int .i64 tr, .int .i64 ta, .int .i64 tn, .int .i64 tl] 28).alloc (.cells #[.int .i64 gr, .int .i64 ge, .int .i64 gq, .int .i64 gl] 30)).alloc (.cells #[.bool false, .int .i64 0, .int .i64 0, .int .i64 0, .int .i64 0] 28)).alloc (.cells #[.int .i64 0, .int .i64 0, .int .i64 0, .int .i64 0] 30))
  have X2 := Lib.hid (((Bk.new ((w.alloc (.cells #[.slice A n c, .slice B k d, .int .i64 m.til] 26)).alloc (.cells #[.bool ton, .int .i64 tr, .int .i64 ta, .int .i64 tn, .int .i64 tl] 28)) #[.int .i64 gr, .int .i64 ge, .int .i64 gq, .int .i64 gl] 30).alloc (.cells #[.bool false, .int .i64 0, .int .i64 0, .int .i64 0, .int .i64 0] 28)).alloc (.cells #[.int .i64 0, .int .i64 0, .int .i64 0, .int .i64 0] 30))
  have X3 := Lib.hid ((Bk.new (((w.alloc (.cells #[.slice A n c, .slice B k d, .int .i64 m.til] 26)).alloc (.cells #[.bool ton, .int .i64 tr, .int .i64 ta, .int .i64 tn, .int .i64 tl] 28)).alloc (.cells #[.int .i64 gr, .int .i64 ge, .int .i64 gq, .int .i64 gl] 30)) #[.bool false, .int .i64 0, .int .i64 0, .int .i64 0, .int .i64 0] 28).alloc (.cells #[.int .i64 0, .int .i64 0, .int .i64 0, .int .i64 0] 30))
  have X4 := Lib.hid (Bk.new ((((w.alloc (.cells #[.slice A n c, .slice B k d, .int .i64 m.til] 26)).alloc (.cells #[.bool ton, .int .i64 tr, .int .i64 ta, .int .i64 tn, .int .i64 tl] 28)).alloc (.cells #[.int .i64 gr, .int .i64 ge, .int .i64 gq, .int .i64 gl] 30)).alloc (.cells #[.bool false, .int .i64 0, .int .i64 0, .int .i64 0, .int .i64 0] 28)) #[.int .i64 0, .int .i64 0, .int .i64 0, .int .i64 0] 30)
  simp only [World.size_alloc] at X1 X2 X3 X4
  have U0 := Lib.hid ((((((Up.refl w).alloc (.cells #[.slice A n c, .slice B k d, .int .i64 m.til] 26)).alloc (.cells #[.bool ton, .int .i64 tr, .int .i64 ta, .int .i64 tn, .int .i64 tl] 28)).alloc (.cells #[.int .i64 gr, .int .i64 ge, .int .i64 gq, .int .i64 gl] 30)).alloc (.cells #[.bool false, .int .i64 0, .int .i64 0, .int .i64 0, .int .i64 0] 28)).alloc (.cells #[.int .i64 0, .int .i64 0, .int .i64 0, .int .i64 0] 30))
  have N34 := Lib.hid (show w.heap.size + 1 + 1 + 1 ≠ w.heap.size + 1 + 1 + 1 + 1 by omega)
  have NL := Lib.hid (show w.heap.size ≤ w.heap.size + 1 + 1 + 1 ∧ w.heap.size ≤ w.heap.size + 1 + 1 + 1 + 1 by omega)
  go_enter Try.func7, Try.ntmps7
  go_wp2_with fail
  generalize (((((w.alloc (.cells #[.slice A n c, .slice B k d, .int .i64 m.til] 26)).alloc (.cells #[.bool ton, .int .i64 tr, .int .i64 ta, .int .i64 tn, .int .i64 tl] 28)).alloc (.cells #[.int .i64 gr, .int .i64 ge, .int .i64 gq, .int .i64 gl] 30)).alloc (.cells #[.bool false, .int .i64 0, .int .i64 0, .int .i64 0, .int .i64 0] 28)).alloc (.cells #[.int .i64 0, .int .i64 0, .int .i64 0, .int .i64 0] 30)) = W at *
  generalize hb4 : w.heap.size + 1 + 1 + 1 + 1 = b4 at *
  generalize hb3 : w.heap.size + 1 + 1 + 1 = b3 at *
  generalize hb2 : w.heap.size + 1 + 1 = b2 at *
  generalize hb1 : w.heap.size + 1 = b1 at *
  clear hb1 hb2 hb3 hb4; refine (CT.out _ U0.out).mono ?_; rintro x w1 ⟨rfl, u1⟩
  have U := Lib.hid (U0.out.trans u1)
  replace X0 := Lib.hid (X0.out.up u1)
  replace X1 := Lib.hid (X1.out.up u1)
  replace X2 := Lib.hid (X2.out.up u1)
  replace X3 := Lib.hid (X3.out.up u1)
  replace X4 := Lib.hid (X4.out.up u1)
  clear u1
  cases bt
  · have RZ := Lib.hid (show tokV (tokP m t0 g0 least) = .tuple #[.agg #[.bool false, .int .i64 0, .int .i64 0, .int .i64 0, .int .i64 0], .agg #[.int .i64 0, .int .i64 0, .int .i64 0, .int .i64 0], .int .i64 (-1)] by rw [tokP_no (by rw [TB.out]; rfl)]; rfl)
    have v30 := X3.out.cell (j := 0) rfl
    have v31 := X3.out.cell (j := 1) rfl
    have v32 := X3.out.cell (j := 2) rfl
    have v33 := X3.out.cell (j := 3) rfl
    have v34 := X3.out.cell (j := 4) rfl
    have u40 := X4.out.cell (j := 0) rfl
    have u41 := X4.out.cell (j := 1) rfl
    have u42 := X4.out.cell (j := 2) rfl
    have u43 := X4.out.cell (j := 3) rfl
    have lt3 := X3.out.lt
    have lt4 := X4.out.lt
    have ff3 := fun j => X3.out.frozen j
    have ff4 := fun j => X4.out.frozen j
    have hne := N34.out
    have hne2 := N34.out.symm
    have K := Lib.hid (putTM_at X3.out X4.out N34.out (⟨false, 0, 0, 0, 0⟩) (⟨0, 0, 0, 0⟩))
    have UE := Lib.hid (putTM_up U.out NL.out.1 NL.out.2 (⟨false, 0, 0, 0, 0⟩) (⟨0, 0, 0, 0⟩))
    unfold putTM at K UE; dsimp only at K UE; clear TB; go_wp2; obtain ⟨k0, k1, k2, k3, k4, k5, k6, k7, k8⟩ := K.out
    exact bodyPost_ret (v := .tuple #[.agg #[.bool false, .int .i64 0, .int .i64 0, .int .i64 0, .int .i64 0], .agg #[.int .i64 0, .int .i64 0, .int .i64 0, .int .i64 0], .int .i64 (-1)]) (by simp [results, Try.results7, go_sem, k0, k1, k2, k3, k4, k5, k6, k7, k8]) rfl ⟨congrArg Ending.returned RZ.out.symm, UE.out⟩
  · obtain ⟨pm, pk⟩ := P1.out rfl
    have PM := Lib.hid pm
    have PK := Lib.hid pk
    have i1 : IntKind.i64.wrap (m.til + 1) = m.til + 1 := IntWalk.i64_in _ (by have := (BIG.out pm).1; omega)
    clear pm pk
    have z00 := X0.out.cell (j := 0) rfl
    have z01 := X0.out.cell (j := 1) rfl
    have z02 := X0.out.cell (j := 2) rfl
    have x20 := X2.out.cell (j := 0) rfl
    have x21 := X2.out.cell (j := 1) rfl
    have x22 := X2.out.cell (j := 2) rfl
    have x23 := X2.out.cell (j := 3) rfl
    have lt0 := X0.out.lt
    have lt2 := X2.out.lt
    go_wp2_with fail
    refine (CG.out _ U.out).mono ?_; rintro x w2 ⟨rfl, u2⟩; clear z00 z01 z02 x20 x21 x22 x23 lt0 lt2
    replace U := Lib.hid (U.out.trans u2)
    replace X0 := Lib.hid (X0.out.up u2)
    replace X1 := Lib.hid (X1.out.up u2)
    replace X2 := Lib.hid (X2.out.up u2)
    replace X3 := Lib.hid (X3.out.up u2)
    replace X4 := Lib.hid (X4.out.up u2)
    clear u2
    cases bg
    · have RZ := Lib.hid (show tokV (tokP m t0 g0 least) = .tuple #[.agg #[.bool false, .int .i64 0, .int .i64 0, .int .i64 0, .int .i64 0], .agg #[.int .i64 0, .int .i64 0, .int .i64 0, .int .i64 0], .int .i64 (-1)] by rw [tokP_no (by rw [TB.out]; rfl)]; rfl)
      have v30 := X3.out.cell (j := 0) rfl
      have v31 := X3.out.cell (j := 1) rfl
      have v32 := X3.out.cell (j := 2) rfl
      have v33 := X3.out.cell (j := 3) rfl
      have v34 := X3.out.cell (j := 4) rfl
      have u40 := X4.out.cell (j := 0) rfl
      have u41 := X4.out.cell (j := 1) rfl
      have u42 := X4.out.cell (j := 2) rfl
      have u43 := X4.out.cell (j := 3) rfl
      have lt3 := X3.out.lt
      have lt4 := X4.out.lt
      have ff3 := fun j => X3.out.frozen j
      have ff4 := fun j => X4.out.frozen j
      have hne := N34.out
      have hne2 := N34.out.symm
      have K := Lib.hid (putTM_at X3.out X4.out N34.out (⟨false, 0, 0, 0, 0⟩) (⟨0, 0, 0, 0⟩))
      have UE := Lib.hid (putTM_up U.out NL.out.1 NL.out.2 (⟨false, 0, 0, 0, 0⟩) (⟨0, 0, 0, 0⟩))
      unfold putTM at K UE; dsimp only at K UE; clear TB; go_wp2; obtain ⟨k0, k1, k2, k3, k4, k5, k6, k7, k8⟩ := K.out
      exact bodyPost_ret (v := .tuple #[.agg #[.bool false, .int .i64 0, .int .i64 0, .int .i64 0, .int .i64 0], .agg #[.int .i64 0, .int .i64 0, .int .i64 0, .int .i64 0], .int .i64 (-1)]) (by simp [results, Try.results7, go_sem, k0, k1, k2, k3, k4, k5, k6, k7, k8]) rfl ⟨congrArg Ending.returned RZ.out.symm, UE.out⟩
    · have PG := Lib.hid (P2.out rfl).2
      have i2 : IntKind.i64.wrap (tr - gr) = tr - gr := by have h := WR.out PK.out PG.out; rw [E0.out.1, E0.out.2] at h; exact h
      have z00 := X0.out.cell (j := 0) rfl
      have z01 := X0.out.cell (j := 1) rfl
      have z02 := X0.out.cell (j := 2) rfl
      have y10 := X1.out.cell (j := 0) rfl
      have y11 := X1.out.cell (j := 1) rfl
      have y12 := X1.out.cell (j := 2) rfl
      have y13 := X1.out.cell (j := 3) rfl
      have y14 := X1.out.cell (j := 4) rfl
      have x20 := X2.out.cell (j := 0) rfl
      have x21 := X2.out.cell (j := 1) rfl
      have x22 := X2.out.cell (j := 2) rfl
      have x23 := X2.out.cell (j := 3) rfl
      have lt0 := X0.out.lt
      have lt1 := X1.out.lt
      have lt2 := X2.out.lt
      cases ton
      · have RZ := Lib.hid (show tokV (tokP m t0 g0 least) = .tuple #[.agg #[.bool false, .int .i64 0, .int .i64 0, .int .i64 0, .int .i64 0], .agg #[.int .i64 0, .int .i64 0, .int .i64 0, .int .i64 0], .int .i64 (-1)] by rw [tokP_no (by rw [TB.out]; rfl)]; rfl)
        have v30 := X3.out.cell (j := 0) rfl
        have v31 := X3.out.cell (j := 1) rfl
        have v32 := X3.out.cell (j := 2) rfl
        have v33 := X3.out.cell (j := 3) rfl
        have v34 := X3.out.cell (j := 4) rfl
        have u40 := X4.out.cell (j := 0) rfl
        have u41 := X4.out.cell (j := 1) rfl
        have u42 := X4.out.cell (j := 2) rfl
        have u43 := X4.out.cell (j := 3) rfl
        have lt3 := X3.out.lt
        have lt4 := X4.out.lt
        have ff3 := fun j => X3.out.frozen j
        have ff4 := fun j => X4.out.frozen j
        have hne := N34.out
        have hne2 := N34.out.symm
        have K := Lib.hid (putTM_at X3.out X4.out N34.out (⟨false, 0, 0, 0, 0⟩) (⟨0, 0, 0, 0⟩))
        have UE := Lib.hid (putTM_up U.out NL.out.1 NL.out.2 (⟨false, 0, 0, 0, 0⟩) (⟨0, 0, 0, 0⟩))
        unfold putTM at K UE; dsimp only at K UE; clear TB; go_wp2; obtain ⟨k0, k1, k2, k3, k4, k5, k6, k7, k8⟩ := K.out
        exact bodyPost_ret (v := .tuple #[.agg #[.bool false, .int .i64 0, .int .i64 0, .int .i64 0, .int .i64 0], .agg #[.int .i64 0, .int .i64 0, .int .i64 0, .int .i64 0], .int .i64 (-1)]) (by simp [results, Try.results7, go_sem, k0, k1, k2, k3, k4, k5, k6, k7, k8]) rfl ⟨congrArg Ending.returned RZ.out.symm, UE.out⟩
      · go_wp2_with fail
        refine (CB.out _).mono ?_; rintro x w3 ⟨rfl, rfl⟩
        cases bl
        · have RZ := Lib.hid (show tokV (tokP m t0 g0 least) = .tuple #[.agg #[.bool false, .int .i64 0, .int .i64 0, .int .i64 0, .int .i64 0], .agg #[.int .i64 0, .int .i64 0, .int .i64 0, .int .i64 0], .int .i64 (-1)] by rw [tokP_no (by rw [TB.out]; rfl)]; rfl)
          have v30 := X3.out.cell (j := 0) rfl
          have v31 := X3.out.cell (j := 1) rfl
          have v32 := X3.out.cell (j := 2) rfl
          have v33 := X3.out.cell (j := 3) rfl
          have v34 := X3.out.cell (j := 4) rfl
          have u40 := X4.out.cell (j := 0) rfl
          have u41 := X4.out.cell (j := 1) rfl
          have u42 := X4.out.cell (j := 2) rfl
          have u43 := X4.out.cell (j := 3) rfl
          have lt3 := X3.out.lt
          have lt4 := X4.out.lt
          have ff3 := fun j => X3.out.frozen j
          have ff4 := fun j => X4.out.frozen j
          have hne := N34.out
          have hne2 := N34.out.symm
          have K := Lib.hid (putTM_at X3.out X4.out N34.out (⟨false, 0, 0, 0, 0⟩) (⟨0, 0, 0, 0⟩))
          have UE := Lib.hid (putTM_up U.out NL.out.1 NL.out.2 (⟨false, 0, 0, 0, 0⟩) (⟨0, 0, 0, 0⟩))
          unfold putTM at K UE; dsimp only at K UE; clear TB; go_wp2; obtain ⟨k0, k1, k2, k3, k4, k5, k6, k7, k8⟩ := K.out
          exact bodyPost_ret (v := .tuple #[.agg #[.bool false, .int .i64 0, .int .i64 0, .int .i64 0, .int .i64 0], .agg #[.int .i64 0, .int .i64 0, .int .i64 0, .int .i64 0], .int .i64 (-1)]) (by simp [results, Try.results7, go_sem, k0, k1, k2, k3, k4, k5, k6, k7, k8]) rfl ⟨congrArg Ending.returned RZ.out.symm, UE.out⟩
        · go_wp2_with fail
          refine (CC.out _).mono ?_; rintro x w3 ⟨rfl, rfl⟩
          cases br
          · have RZ := Lib.hid (show tokV (tokP m t0 g0 least) = .tuple #[.agg #[.bool false, .int .i64 0, .int .i64 0, .int .i64 0, .int .i64 0], .agg #[.int .i64 0, .int .i64 0, .int .i64 0, .int .i64 0], .int .i64 (-1)] by rw [tokP_no (by rw [TB.out]; rfl)]; rfl)
            have v30 := X3.out.cell (j := 0) rfl
            have v31 := X3.out.cell (j := 1) rfl
            have v32 := X3.out.cell (j := 2) rfl
            have v33 := X3.out.cell (j := 3) rfl
            have v34 := X3.out.cell (j := 4) rfl
            have u40 := X4.out.cell (j := 0) rfl
            have u41 := X4.out.cell (j := 1) rfl
            have u42 := X4.out.cell (j := 2) rfl
            have u43 := X4.out.cell (j := 3) rfl
            have lt3 := X3.out.lt
            have lt4 := X4.out.lt
            have ff3 := fun j => X3.out.frozen j
            have ff4 := fun j => X4.out.frozen j
            have hne := N34.out
            have hne2 := N34.out.symm
            have K := Lib.hid (putTM_at X3.out X4.out N34.out (⟨false, 0, 0, 0, 0⟩) (⟨0, 0, 0, 0⟩))
            have UE := Lib.hid (putTM_up U.out NL.out.1 NL.out.2 (⟨false, 0, 0, 0, 0⟩) (⟨0, 0, 0, 0⟩))
            unfold putTM at K UE; dsimp only at K UE; clear TB; go_wp2; obtain ⟨k0, k1, k2, k3, k4, k5, k6, k7, k8⟩ := K.out
            exact bodyPost_ret (v := .tuple #[.agg #[.bool false, .int .i64 0, .int .i64 0, .int .i64 0, .int .i64 0], .agg #[.int .i64 0, .int .i64 0, .int .i64 0, .int .i64 0], .int .i64 (-1)]) (by simp [results, Try.results7, go_sem, k0, k1, k2, k3, k4, k5, k6, k7, k8]) rfl ⟨congrArg Ending.returned RZ.out.symm, UE.out⟩
          · have TY := Lib.hid (show tokP m t0 g0 least = visK m.til n t0 g0 least by rw [tokP_yes (by rw [TB.out]; rfl), LR.out])
            have CV := Lib.hid (fun W => CV.out W PM.out PK.out PG.out)
            generalize visK m.til n t0 g0 least = r at TY CV
            rw [E0.out.1, E0.out.2] at CV; obtain ⟨⟨r0, r1, r2, r3, r4⟩, ⟨s0, s1, s2, s3⟩, rb⟩ := r; unfold tokV Gk.v Gm.v at CV; dsimp only at CV
            have RY := Lib.hid (show tokV (tokP m t0 g0 least) = .tuple #[.agg #[.bool r0, .int .i64 r1, .int .i64 r2, .int .i64 r3, .int .i64 r4], .agg #[.int .i64 s0, .int .i64 s1, .int .i64 s2, .int .i64 s3], .int .i64 rb] by rw [TY.out]; rfl)
            clear TB TY
            go_wp2_with fail
            refine (CV.out _).mono ?_; rintro x w5 ⟨rfl, u5⟩; clear z00 z01 z02 y10 y11 y12 y13 y14 x20 x21 x22 x23 lt0 lt1 lt2
            replace U := Lib.hid (U.out.trans u5)
            replace X0 := Lib.hid (X0.out.up u5)
            replace X1 := Lib.hid (X1.out.up u5)
            replace X2 := Lib.hid (X2.out.up u5)
            replace X3 := Lib.hid (X3.out.up u5)
            replace X4 := Lib.hid (X4.out.up u5)
            clear u5
            have v30 := X3.out.cell (j := 0) rfl
            have v31 := X3.out.cell (j := 1) rfl
            have v32 := X3.out.cell (j := 2) rfl
            have v33 := X3.out.cell (j := 3) rfl
            have v34 := X3.out.cell (j := 4) rfl
            have u40 := X4.out.cell (j := 0) rfl
            have u41 := X4.out.cell (j := 1) rfl
            have u42 := X4.out.cell (j := 2) rfl
            have u43 := X4.out.cell (j := 3) rfl
            have lt3 := X3.out.lt
            have lt4 := X4.out.lt
            have ff3 := fun j => X3.out.frozen j
            have ff4 := fun j => X4.out.frozen j
            have hne := N34.out
            have hne2 := N34.out.symm
            have K := Lib.hid (putTM_at X3.out X4.out N34.out (⟨r0, r1, r2, r3, r4⟩) (⟨s0, s1, s2, s3⟩))
            have UE := Lib.hid (putTM_up U.out NL.out.1 NL.out.2 (⟨r0, r1, r2, r3, r4⟩) (⟨s0, s1, s2, s3⟩))
            unfold putTM at K UE; dsimp only at K UE; go_wp2; obtain ⟨k0, k1, k2, k3, k4, k5, k6, k7, k8⟩ := K.out
            exact bodyPost_ret (v := .tuple #[.agg #[.bool r0, .int .i64 r1, .int .i64 r2, .int .i64 r3, .int .i64 r4], .agg #[.int .i64 s0, .int .i64 s1, .int .i64 s2, .int .i64 s3], .int .i64 rb]) (by simp [results, Try.results7, go_sem, k0, k1, k2, k3, k4, k5, k6, k7, k8]) rfl ⟨congrArg Ending.returned RY.out.symm, UE.out⟩
end Go.Proofs.Ytpainlcehgiokaa

namespace Go.Proofs.Ytpainlcehgiokaa
set_option maxRecDepth 100000
open Go.RowKit
/-- The world with an event's six cells laid. -/
def putEv (w : World) (b o : Nat) (e : Evt) : World :=
  (((((w.setCell ⟨b, o, none⟩ (.int .i64 e.t)).setCell ⟨b, o + 1, none⟩ (.int .i64 e.to)).setCell ⟨b, o + 2, none⟩ (.int .i64 e.fr)).setCell ⟨b, o + 3, none⟩ (.int .i64 e.sq)).setCell ⟨b, o + 4, none⟩ (.int .i64 e.kd)).setCell ⟨b, o + 5, none⟩ (.int .i64 e.dt)
theorem addr_ne {b b' o o' : Nat} (h : b ≠ b' ∨ o ≠ o') : (⟨b, o, none⟩ : Addr) ≠ ⟨b', o', none⟩ := by
  intro e
  injection e with e1 e2
  rcases h with h | h
  · exact h e1
  · exact h e2
theorem putEv_other (w : World) (b o : Nat) (e : Evt) (b' o' : Nat) (h : b ≠ b' ∨ o' < o ∨ o + 6 ≤ o') : (putEv w b o e).cell? ⟨b', o', none⟩ = w.cell? ⟨b', o', none⟩ := by
  unfold putEv
  have f : ∀ k, k < 6 → (⟨b, o + k, none⟩ : Addr) ≠ ⟨b', o', none⟩ := fun k hk => addr_ne (by omega)
  have f0 : (⟨b, o, none⟩ : Addr) ≠ ⟨b', o', none⟩ := addr_ne (by omega)
  rw [World.cell?_setCell_other _ _ _ _ (f 5 (by omega)), World.cell?_setCell_other _ _ _ _ (f 4 (by omega)), World.cell?_setCell_other _ _ _ _ (f 3 (by omega)), World.cell?_setCell_other _ _ _ _ (f 2 (by omega)), World.cell?_setCell_other _ _ _ _ (f 1 (by omega)), World.cell?_setCell_other _ _ _ _ f0]
theorem putEv_at {w : World} {b o : Nat} {e : Evt} (h : ∀ k, k < 6 → ∃ v, w.cell? ⟨b, o + k, none⟩ = some v) : EvAt (putEv w b o e) b o e := by
  have ne : ∀ k j, k ≠ j → (⟨b, o + k, none⟩ : Addr) ≠ ⟨b, o + j, none⟩ := fun k j hk => addr_ne (by omega)
  have nez : ∀ k, k ≠ 0 → (⟨b, o + k, none⟩ : Addr) ≠ ⟨b, o, none⟩ := fun k hk => addr_ne (by omega)
  unfold putEv; obtain ⟨v0, h0⟩ := h 0 (by omega); obtain ⟨v1, h1⟩ := h 1 (by omega); obtain ⟨v2, h2⟩ := h 2 (by omega); obtain ⟨v3, h3⟩ := h 3 (by omega); obtain ⟨v4, h4⟩ := h 4 (by omega); obtain ⟨v5, h5⟩ := h 5 (by omega)
  have s0 := World.cell?_setCell_same _ _ (.int .i64 e.t) h0
  have s0 : (w.setCell ⟨b, o, none⟩ (.int .i64 e.t)).cell? ⟨b, o, none⟩ = some (.int .i64 e.t) := s0
  have ne0 : ∀ j, 0 ≠ j → (⟨b, o, none⟩ : Addr) ≠ ⟨b, o + j, none⟩ := fun j hj => addr_ne (by omega)
  generalize hw0 : w.setCell ⟨b, o, none⟩ (.int .i64 e.t) = w0 at s0 ⊢
  have g1 : w0.cell? ⟨b, o + 1, none⟩ = some v1 := by rw [← hw0, World.cell?_setCell_other _ _ _ _ (ne0 1 (by omega))]; exact h1
  have g2 : w0.cell? ⟨b, o + 2, none⟩ = some v2 := by rw [← hw0, World.cell?_setCell_other _ _ _ _ (ne0 2 (by omega))]; exact h2
  have g3 : w0.cell? ⟨b, o + 3, none⟩ = some v3 := by rw [← hw0, World.cell?_setCell_other _ _ _ _ (ne0 3 (by omega))]; exact h3
  have g4 : w0.cell? ⟨b, o + 4, none⟩ = some v4 := by rw [← hw0, World.cell?_setCell_other _ _ _ _ (ne0 4 (by omega))]; exact h4
  have g5 : w0.cell? ⟨b, o + 5, none⟩ = some v5 := by rw [← hw0, World.cell?_setCell_other _ _ _ _ (ne0 5 (by omega))]; exact h5
  simp only [EvAt]; refine ⟨?_, ?_, ?_, ?_, ?_, ?_⟩
  · rw [World.cell?_setCell_other _ _ _ _ (nez 5 (by omega)), World.cell?_setCell_other _ _ _ _ (nez 4 (by omega)), World.cell?_setCell_other _ _ _ _ (nez 3 (by omega)), World.cell?_setCell_other _ _ _ _ (nez 2 (by omega)), World.cell?_setCell_other _ _ _ _ (nez 1 (by omega))]
    exact s0
  · rw [World.cell?_setCell_other _ _ _ _ (ne 5 1 (by omega)), World.cell?_setCell_other _ _ _ _ (ne 4 1 (by omega)), World.cell?_setCell_other _ _ _ _ (ne 3 1 (by omega)), World.cell?_setCell_other _ _ _ _ (ne 2 1 (by omega))]
    exact World.cell?_setCell_same _ _ _ g1
  · rw [World.cell?_setCell_other _ _ _ _ (ne 5 2 (by omega)), World.cell?_setCell_other _ _ _ _ (ne 4 2 (by omega)), World.cell?_setCell_other _ _ _ _ (ne 3 2 (by omega))]
    exact World.cell?_setCell_same _ _ _ ((World.cell?_setCell_other _ _ _ _ (ne 1 2 (by omega))).trans g2)
  · rw [World.cell?_setCell_other _ _ _ _ (ne 5 3 (by omega)), World.cell?_setCell_other _ _ _ _ (ne 4 3 (by omega))]
    exact World.cell?_setCell_same _ _ _ ((World.cell?_setCell_other _ _ _ _ (ne 2 3 (by omega))).trans ((World.cell?_setCell_other _ _ _ _ (ne 1 3 (by omega))).trans g3))
  · rw [World.cell?_setCell_other _ _ _ _ (ne 5 4 (by omega))]
    exact World.cell?_setCell_same _ _ _ ((World.cell?_setCell_other _ _ _ _ (ne 3 4 (by omega))).trans ((World.cell?_setCell_other _ _ _ _ (ne 2 4 (by omega))).trans ((World.cell?_setCell_other _ _ _ _ (ne 1 4 (by omega))).trans g4)))
  · exact World.cell?_setCell_same _ _ _ ((World.cell?_setCell_other _ _ _ _ (ne 4 5 (by omega))).trans ((World.cell?_setCell_other _ _ _ _ (ne 3 5 (by omega))).trans ((World.cell?_setCell_other _ _ _ _ (ne 2 5 (by omega))).trans ((World.cell?_setCell_other _ _ _ _ (ne 1 5 (by omega))).trans g5))))
end Go.Proofs.Ytpainlcehgiokaa

namespace Go.Proofs.Ytpainlcehgiokaa
set_option maxRecDepth 100000
open Go.RowKit
/-- Block b holds just this event's cells, none frozen. -/
structure Box (w : World) (b : Nat) (e : Evt) : Prop where
  lt : b < w.heap.size
  c0 : w.cell? ⟨b, 0, none⟩ = some (.int .i64 e.t)
  c1 : w.cell? ⟨b, 1, none⟩ = some (.int .i64 e.to)
  c2 : w.cell? ⟨b, 2, none⟩ = some (.int .i64 e.fr)
  c3 : w.cell? ⟨b, 3, none⟩ = some (.int .i64 e.sq)
  c4 : w.cell? ⟨b, 4, none⟩ = some (.int .i64 e.kd)
  c5 : w.cell? ⟨b, 5, none⟩ = some (.int .i64 e.dt)
  f0 : w.frozen? ⟨b, 0, none⟩ = false
  f1 : w.frozen? ⟨b, 1, none⟩ = false
  f2 : w.frozen? ⟨b, 2, none⟩ = false
  f3 : w.frozen? ⟨b, 3, none⟩ = false
  f4 : w.frozen? ⟨b, 4, none⟩ = false
  f5 : w.frozen? ⟨b, 5, none⟩ = false
theorem Box.keep {w w' : World} {b : Nat} {e : Evt} (h : Box w b e) (hs : w.heap.size ≤ w'.heap.size) (hc : ∀ o, w'.cell? ⟨b, o, none⟩ = w.cell? ⟨b, o, none⟩) (hf : ∀ o, w'.frozen? ⟨b, o, none⟩ = w.frozen? ⟨b, o, none⟩) : Box w' b e :=
  ⟨Nat.lt_of_lt_of_le h.lt hs, (hc 0).trans h.c0, (hc 1).trans h.c1, (hc 2).trans h.c2, (hc 3).trans h.c3, (hc 4).trans h.c4, (hc 5).trans h.c5, (hf 0).trans h.f0, (hf 1).trans h.f1, (hf 2).trans h.f2, (hf 3).trans h.f3, (hf 4).trans h.f4, (hf 5).trans h.f5⟩
theorem Box.up {w w' : World} {b : Nat} {e : Evt} (h : Box w b e) (u : Up w w') : Box w' b e := h.keep u.size (fun _ => u.cells _ _ h.lt) (fun _ => u.frozens _ _ h.lt)
theorem Box.mv {w w' : World} {b g : Nat} {e : Evt} (h : Box w b e) (m : Mv g w w') (hb : b ≠ g) : Box w' b e := h.keep m.size (fun _ => m.cells _ _ h.lt hb) (fun _ => m.frozens _ _ h.lt hb)
theorem Box.alloc {w : World} {b : Nat} {e : Evt} (h : Box w b e) (o : Obj) : Box (w.alloc o) b e := h.up ((Up.refl w).alloc o)
theorem Box.new (w : World) (e : Evt) (t : TypeId) : Box (w.alloc (.cells #[.int .i64 e.t, .int .i64 e.to, .int .i64 e.fr, .int .i64 e.sq, .int .i64 e.kd, .int .i64 e.dt] t)) w.heap.size e := by
  have hh := heap_alloc_new w (.cells #[.int .i64 e.t, .int .i64 e.to, .int .i64 e.fr, .int .i64 e.sq, .int .i64 e.kd, .int .i64 e.dt] t)
  have ff : ∀ j, (w.alloc (.cells #[.int .i64 e.t, .int .i64 e.to, .int .i64 e.fr, .int .i64 e.sq, .int .i64 e.kd, .int .i64 e.dt] t)).frozen? ⟨w.heap.size, j, none⟩ = false := fun j => by
    unfold World.frozen?; rw [hh]; simp
  exact ⟨by simp, by rw [cell_of_row _ _ 0 _ _ _ hh]; rfl, by rw [cell_of_row _ _ 1 _ _ _ hh]; rfl, by rw [cell_of_row _ _ 2 _ _ _ hh]; rfl, by rw [cell_of_row _ _ 3 _ _ _ hh]; rfl, by rw [cell_of_row _ _ 4 _ _ _ hh]; rfl, by rw [cell_of_row _ _ 5 _ _ _ hh]; rfl, ff 0, ff 1, ff 2, ff 3, ff 4, ff 5⟩
theorem Box.setFar {w : World} {b : Nat} {e : Evt} (h : Box w b e) {p : Addr} (hp : p.block ≠ b) (u : Value) : Box (w.setCell p u) b e :=
  h.keep (by simp) (fun o => World.cell?_setCell_other _ _ _ _ (fun e => hp (by rw [e]))) (fun o => by simp [go_sem])
theorem Mv.setNew {g : Nat} {a w : World} (h : Mv g a w) {p : Addr} (hp : a.heap.size ≤ p.block) (u : Value) : Mv g a (w.setCell p u) :=
  ⟨h.os, h.tape, h.output, by simpa using h.size, fun k hk hne => (Below.heap_setCell w p u k (by omega)).trans (h.block k hk hne)⟩
theorem Rd.putEv {w : World} {g N b o : Nat} {e : Evt} (h : Rd w g N) (hb : g < b) : Rd (putEv w b o e) g N :=
  (((((h.setCell (p := ⟨b, o, none⟩) hb _).setCell (p := ⟨b, o + 1, none⟩) hb _).setCell (p := ⟨b, o + 2, none⟩) hb _).setCell (p := ⟨b, o + 3, none⟩) hb _).setCell (p := ⟨b, o + 4, none⟩) hb _).setCell (p := ⟨b, o + 5, none⟩) hb _
theorem Mv.putEv {g : Nat} {a w : World} (h : Mv g a w) {b o : Nat} {e : Evt} (hb : a.heap.size ≤ b) : Mv g a (putEv w b o e) :=
  (((((h.setNew (p := ⟨b, o, none⟩) hb _).setNew (p := ⟨b, o + 1, none⟩) hb _).setNew (p := ⟨b, o + 2, none⟩) hb _).setNew (p := ⟨b, o + 3, none⟩) hb _).setNew (p := ⟨b, o + 4, none⟩) hb _).setNew (p := ⟨b, o + 5, none⟩) hb _
theorem Box.somes {w : World} {b : Nat} {e : Evt} (h : Box w b e) : ∀ k, k < 6 → ∃ v, w.cell? ⟨b, 0 + k, none⟩ = some v := fun k hk => by
  have h6 : k = 0 ∨ k = 1 ∨ k = 2 ∨ k = 3 ∨ k = 4 ∨ k = 5 := by omega
  rcases h6 with rfl | rfl | rfl | rfl | rfl | rfl
  · exact ⟨_, h.c0⟩
  · exact ⟨_, h.c1⟩
  · exact ⟨_, h.c2⟩
  · exact ⟨_, h.c3⟩
  · exact ⟨_, h.c4⟩
  · exact ⟨_, h.c5⟩
theorem Box.mk6 {w : World} {b : Nat} {z0 z1 z2 z3 z4 z5 : Int} (h : Box w b ⟨z0, z1, z2, z3, z4, z5⟩) :
    (w.cell? ⟨b, 0, none⟩ = some (.int .i64 z0) ∧ w.cell? ⟨b, 1, none⟩ = some (.int .i64 z1) ∧ w.cell? ⟨b, 2, none⟩ = some (.int .i64 z2) ∧ w.cell? ⟨b, 3, none⟩ = some (.int .i64 z3) ∧ w.cell? ⟨b, 4, none⟩ = some (.int .i64 z4) ∧ w.cell? ⟨b, 5, none⟩ = some (.int .i64 z5)) ∧ (w.frozen? ⟨b, 0, none⟩ = false ∧ w.frozen? ⟨b, 1, none⟩ = false ∧ w.frozen? ⟨b, 2, none⟩ = false ∧ w.frozen? ⟨b, 3, none⟩ = false ∧ w.frozen? ⟨b, 4, none⟩ = false ∧ w.frozen? ⟨b, 5, none⟩ = false) :=
  ⟨⟨h.c0, h.c1, h.c2, h.c3, h.c4, h.c5⟩, ⟨h.f0, h.f1, h.f2, h.f3, h.f4, h.f5⟩⟩
end Go.Proofs.Ytpainlcehgiokaa

namespace Go.Proofs.Ytpainlcehgiokaa
set_option maxRecDepth 100000
open Go.RowKit
open Go.Maps (Keyed)
/-- A key. -/
def keyV (c k : Int) : Value := .agg #[.int .i64 c, .int .i64 k]
/-- What an element reads as: itself. -/
def valR (v : Value) : Option (DataW Value × List MemPlace) := some (.held v, [])
theorem laidOut_ : laidOutB Try.prog = true := by kernel_rfl
theorem keyLaw : Keyed Try.prog 93 :=
  Keyed.of_law (deep_law_laid laidOut_ (m := 2) (by omega) (of_decide_eq_true (by kernel_rfl)) (by kernel_rfl) (by kernel_rfl))
theorem keyCells : Try.prog.cellsOf 93 = 2 := by kernel_rfl
theorem keyType_ : Try.prog.keyType 93 = true := by kernel_rfl
theorem intCells : Try.prog.cellsOf 3 = 1 := by kernel_rfl
theorem typesMany : 2 ≤ Try.prog.types.size := of_decide_eq_true (by kernel_rfl)
theorem key_ex (c k : Int) (hc : I64 c) (hk : I64 k) : ∃ l, keyOf Try.prog 93 (keyV c k) = some l := by
  obtain ⟨n, hn⟩ := Nat.exists_eq_add_of_le typesMany
  have wc : (Lit.int .i64 c).wf = true := by unfold I64 at hc; simp [Lit.wf, IntKind.min, IntKind.max, IntKind.signed, IntKind.bits]; omega
  have wk : (Lit.int .i64 k).wf = true := by unfold I64 at hk; simp [Lit.wf, IntKind.min, IntKind.max, IntKind.signed, IntKind.bits]; omega
  have e : Try.prog.types.size + 1 = n + 1 + 1 + 1 := by omega
  unfold keyOf keyV; rw [Try.underlying93]; dsimp only; rw [keyType_, e]; simp [Value.formed, Try.underlying93, Try.underlying3, keyCells, intCells, Program.keyLits, Value.cells, wc, wk]
/-- Block b is a map of at most n entries that has the values of f. -/
def RMap (w : World) (b n : Nat) (f : Int → Int → Option Value) : Prop :=
  ∃ D : DataW Value, w.ownsMap Try.prog 93 valR b n D ∧ Maps.IsMap D ∧ ∀ c k l, keyOf Try.prog 93 (keyV c k) = some l → (∀ zd, D.atKey l zd = match f c k with | some v => .held v | none => zd) ∧ Maps.has D l = (f c k).isSome
theorem RMap.made (w : World) : RMap (w.alloc (.map #[] 0)) w.heap.size 0 (fun _ _ => none) :=
  ⟨.map [], World.ownsMap_made w _ _ _, Maps.isMap_empty, fun _ _ _ _ => ⟨fun _ => rfl, rfl⟩⟩
theorem RMap.lt {w : World} {b n : Nat} {f : Int → Int → Option Value} (h : RMap w b n f) : b < w.heap.size := by
  obtain ⟨D, h, _⟩ := h
  exact h.lt
theorem RMap.block {w w' : World} {b n : Nat} {f : Int → Int → Option Value} (h : RMap w b n f) (e : w'.heap[b]? = w.heap[b]?) : RMap w' b n f := by
  obtain ⟨D, ⟨es, cl, hb, F, hs, hD⟩, hr⟩ := h
  exact ⟨D, ⟨es, cl, e.trans hb, F, hs, hD⟩, hr⟩
theorem RMap.up {w w' : World} {b n : Nat} {f : Int → Int → Option Value} (h : RMap w b n f) (u : Up w w') : RMap w' b n f := h.block (u.below.block b h.lt)
theorem RMap.setFar {w : World} {b n : Nat} {f : Int → Int → Option Value} (h : RMap w b n f) {p : Addr} (hp : p.block ≠ b) (u : Value) : RMap (w.setCell p u) b n f := h.block (Below.heap_setCell w p u b (fun e => hp e.symm))
theorem mapTurned_mv {w w' : World} {b : Nat} (h : w.mapTurned w' b) : Mv b w w' := by
  obtain ⟨es, clock, es', clock', hb, rfl⟩ := h
  exact ⟨rfl, rfl, rfl, by simp [ChangeMaps.setBlock], fun k _ hne => ChangeMaps.heap_setBlock_other hb _ hne⟩
theorem RMap.store {w : World} {b n : Nat} {f : Int → Int → Option Value} (h : RMap w b n f) (hn : n < maxLen) (c k : Int) (hc : I64 c) (hk : I64 k) (v : Value) :
    ∃ w', (Instr.mapUpdate 57 (.map (some b)) (.agg #[.int .i64 c, .int .i64 k]) v).run Try.prog w = .ok () w' ∧ RMap w' b (n + 1) (fun c' k' => if c' = c ∧ k' = k then some v else f c' k') ∧ Mv b w w' := by
  obtain ⟨D, ho, hm, hr⟩ := h; obtain ⟨l, hl⟩ := key_ex c k hc hk; obtain ⟨w', hrun, ho', ht⟩ := ho.store keyLaw Try.underlying57 hn (val := v) (d := .held v) (ps := []) hl rfl; refine ⟨w', hrun, ⟨D.put l (.held v), ho', hm.put _ _, fun c' k' l' hl' => ?_⟩, mapTurned_mv ht⟩
  by_cases e : l' = l
  · subst e
    have hkk := keyLaw.inj hl' hl
    simp only [keyV, Value.agg.injEq] at hkk
    have h0 := congrArg (fun a => a[0]?) hkk
    have h1 := congrArg (fun a => a[1]?) hkk
    simp at h0 h1; simp only [if_pos (And.intro h0 h1)]
    exact ⟨fun zd => Maps.atKey_put_same hm (keyLaw.key hl) _ _, Maps.has_put_same hm (keyLaw.key hl) _⟩
  · have hne : ¬ (c' = c ∧ k' = k) := fun ⟨h0, h1⟩ => by
      subst h0 h1; rw [hl] at hl'
      injection hl' with hl'
      exact e hl'.symm
    simp only [if_neg hne]; obtain ⟨h1, h2⟩ := hr c' k' l' hl'
    exact ⟨fun zd => (Maps.atKey_put_other e _ _).trans (h1 zd), (Maps.has_put_other e _).trans h2⟩
end Go.Proofs.Ytpainlcehgiokaa

namespace Go.Proofs.Ytpainlcehgiokaa
set_option maxRecDepth 100000
open Go.RowKit
theorem info71 : (Try.prog.info? 71).map (fun i => (i.zero, i.size, i.bytes)) = some (some (.agg #[.int .i64 0, .int .i64 0, .int .i64 0, .int .i64 0, .int .i64 0, .int .i64 0]), 6, 48) := by kernel_rfl
end Go.Proofs.Ytpainlcehgiokaa

namespace Go.Proofs.Ytpainlcehgiokaa
set_option maxRecDepth 100000
open Go.RowKit
theorem info86 : (Try.prog.info? 86).map (fun i => (i.zero, i.size, i.bytes)) = some (some (.agg #[.int .i64 0, .int .i64 0, .int .i64 0, .int .i64 0, .int .i64 0, .int .i64 0]), 6, 48) := by kernel_rfl
end Go.Proofs.Ytpainlcehgiokaa

namespace Go.Proofs.Ytpainlcehgiokaa
set_option maxRecDepth 100000
open Go.RowKit
/-- The first rule of a kind. -/
def ruleOf (kd : Int) : List Rule → Option Rule
  | [] => none
  | r :: rs => if r.kd = kd then some r else ruleOf kd rs
end Go.Proofs.Ytpainlcehgiokaa

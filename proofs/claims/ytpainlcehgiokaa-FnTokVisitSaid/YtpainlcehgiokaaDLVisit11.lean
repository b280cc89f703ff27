/-
  What impl.TokVisit returns, in one sentence: the token, the mark and the bound behind a visit, or zero values; for every model that lies in memory.
  Heaps whose blocks are typed, in one sentence: of each block from a S on whose element type a table lists, every cell holds what the table says, and what each step keeps of it; no condition is made.
-/
import Derived.ArgAppend
import Derived.Test.YtpainlcehgiokaaDLVisit01
import Derived.Test.YtpainlcehgiokaaDLVisit05
import Derived.Test.YtpainlcehgiokaaDLVisit07
import Derived.Test.YtpainlcehgiokaaDLVisit10
namespace Go.Proofs.Ytpainlcehgiokaa
set_option maxRecDepth 100000
open Go.RowKit
set_option maxHeartbeats 8000000 in
theorem implVisit_any (A : Option Addr) (n c : Nat) (B : Option Addr) (k d : Nat) (m : Mdl) (t : Gk) (g : Gm) (least : Int) (w : World) (hM : MdlV w A n B k m) :
    Calls Try.prog 6 #[.agg #[.slice A n c, .slice B k d, .int .i64 m.til], t.v, g.v, .int .i64 least] w fun x w' => x = .returned (tokV (tokP m t g least)) ∧ Up w w' := by
  have CM := Lib.hid (fun W (u : Up w W) => newMachine_any A n c B k d m W (hM.up u))
  have LR := Lib.hid (show m.rules.length = n from hM.rules.1)
  have BIG := Lib.hid (fun (h : mdlB m = true) => (show (0 ≤ m.til ∧ m.til ≤ 99) ∧ (1 ≤ (m.rules.length : Int) ∧ (m.rules.length : Int) ≤ 4) ∧ (1 ≤ m.rules.length ∧ m.rules.length ≤ 4) from ⟨mdlB_til' h, by have := mdlB_few' h; omega, mdlB_few' h⟩))
  have CT := Lib.hid (fun mp W (h : mdlB m = true) => tokenOk_any mp m.rules.length m.til t W (BIG.out h).1 (BIG.out h).2.1)
  have CG := Lib.hid (fun mp W (h : mdlB m = true) => markOk_any mp m.rules.length m.til g W (BIG.out h).1 (BIG.out h).2.1)
  have CV := Lib.hid (fun mp W (h : mdlB m = true) (h2 : gkB m.til m.rules.length t = true) (h3 : gmB m.til g = true) => visits_any mp m.rules.length m.til t g least W (BIG.out h).1 h2 h3)
  have CW := Lib.hid (fun mp W (h : mdlB m = true) (h2 : gkB m.til m.rules.length t = true) (h3 : gmB m.til g = true) => visit_any mp m.rules.length m.til t g least W (BIG.out h).1 (BIG.out h).2.2 h2 h3)
  have TB := Lib.hid (show tokB m t g least = (mdlB m && gkB m.til m.rules.length t && gmB m.til g && mayV m.til t g least) from rfl)
  obtain ⟨bt, hbt⟩ : ∃ bt, bt = gkB m.til m.rules.length t := ⟨_, rfl⟩; obtain ⟨bg, hbg⟩ : ∃ bg, bg = gmB m.til g := ⟨_, rfl⟩; rw [← hbt, ← hbg] at TB CV CW; rw [← hbt] at CT; rw [← hbg] at CG
  generalize mayV m.til t g least = bv at CV TB
  obtain ⟨t0, ht0⟩ : ∃ t0, t0 = t := ⟨_, rfl⟩; obtain ⟨g0, hg0⟩ : ∃ g0, g0 = g := ⟨_, rfl⟩; rw [← ht0, ← hg0] at TB; rw [show tokP m t g least = tokP m t0 g0 least by rw [ht0, hg0]]; obtain ⟨r, hr⟩ : ∃ r, r = visK m.til m.rules.length t g least := ⟨_, rfl⟩; rw [← hr] at CW
  have TY := Lib.hid (fun (h : tokB m t0 g0 least = true) => (show tokP m t0 g0 least = r by rw [tokP_yes h, hr, ht0, hg0]))
  clear ht0 hg0 hbt hbg hr; obtain ⟨⟨r0, r1, r2, r3, r4⟩, ⟨s0, s1, s2, s3⟩, rb⟩ := r; unfold tokV Gk.v Gm.v at CW; obtain ⟨gr, ge, gq, gl⟩ := g; obtain ⟨ton, tr, ta, tn, tl⟩ := t; unfold Gk.v at CT CV ⊢; unfold Gm.v at CG CV ⊢; dsimp only at CT CG CV CW TB ⊢; clear hM BIG
  have X0 := Lib.hid (((((Bk.new w #[.slice A n c, .slice B k d, .int .i64 m.til] 26).alloc (.cells #[.bool ton, .int .i64 tr, .int .i64 ta, .int .i64 tn, .int .i64 tl] 28)).alloc (.cells #[.int .i64 gr, .int .i64 ge, .int .i64 gq, .int .i64 gl] 30)).alloc (.cells #[.bool false, .int .i64 0, .int .i64 0, .int .i64 0, .int .i64 0] 28)).alloc (.cells #[.int .i64 0, .int .i64 0, .int .i64 0, .int .i64 0] 30))
  have X1 := Lib.hid ((((Bk.new (w.alloc (.cells #[.slice A n c, .slice B k d, .int .i64 m.til] 26)) #[.bool ton, .int .i64 tr, .int .i64 ta, .int .i64 tn, .int .i64 tl] 28).alloc (.cells #[.int .i64 gr, .int .i64 ge, .int .i64 gq, .int .i64 gl] 30)).alloc (.cells #[.bool false, .int .i64 0, .int .i64 0, .int .i64 0, .int .i64 0] 28)).alloc (.cells #[.int .i64 0, .int .i64 0, .int .i64 0, .int .i64 0] 30))
  have X2 := Lib.hid (((Bk.new ((w.alloc (.cells #[.slice A n c, .slice B k d, .int .i64 m.til] 26)).alloc (.cells #[.bool ton, .int .i64 tr, .int .i64 ta, .int .i64 tn, .int .i64 tl] 28)) #[.int .i64 gr, .int .i64 ge, .int .i64 gq, .int .i64 gl] 30).alloc (.cells #[.bool false, .int .i64 0, .int .i64 0, .int .i64 0, .int .i64 0] 28)).alloc (.cells #[.int .i64 0, .int .i64 0, .int .i64 0, .int .i64 0] 30))
  have X3 := Lib.hid ((Bk.new (((w.alloc (.cells #[.slice A n c, .slice B k d, .int .i64 m.til] 26)).alloc (.cells #[.bool ton, .int .i64 tr, .int .i64 ta, .int .i64 tn, .int .i64 tl] 28)).alloc (.cells #[.int .i64 gr, .int .i64 ge, .int .i64 gq, .int .i64 gl] 30)) #[.bool false, .int .i64 0, .int .i64 0, .int .i64 0, .int .i64 0] 28).alloc (.cells #[.int .i64 0, .int .i64 0, .int .i64 0, .int .i64 0] 30))
  have X4 := Lib.hid (Bk.new ((((w.alloc (.cells #[.slice A n c, .slice B k d, .int .i64 m.til] 26)).alloc (.cells #[.bool ton, .int .i64 tr, .int .i64 ta, .int .i64 tn, .int .i64 tl] 28)).alloc (.cells #[.int .i64 gr, .int .i64 ge, .int .i64 gq, .int .i64 gl] 30)).alloc (.cells #[.bool false, .int .i64 0, .int .i64 0, .int .i64 0, .int .i64 0] 28)) #[.int .i64 0, .int .i64 0, .int .i64 0, .int .i64 0] 30)
  simp only [World.size_alloc] at X1 X2 X3 X4
  have U0 := Lib.hid ((((((Up.refl w).alloc (.cells #[.slice A n c, .slice B k d, .int .i64 m.til] 26)).alloc (.cells #[.bool ton, .int .i64 tr, .int .i64 ta, .int .i64 tn, .int .i64 tl] 28)).alloc (.cells #[.int .i64 gr, .int .i64 ge, .int .i64 gq, .int .i64 gl] 30)).alloc (.cells #[.bool false, .int .i64 0, .int .i64 0, .int .i64 0, .int .i64 0] 28)).alloc (.cells #[.int .i64 0, .int .i64 0, .int .i64 0, .int .i64 0] 30))
  have N34 := Lib.hid (show w.heap.size + 1 + 1 + 1 ≠ w.heap.size + 1 + 1 + 1 + 1 by omega)
  have NL := Lib.hid (show w.heap.size ≤ w.heap.size + 1 + 1 + 1 ∧ w.heap.size ≤ w.heap.size + 1 + 1 + 1 + 1 by omega)
  unfold MachPost at CM
  go_enter Try.func6, Try.ntmps6
  go_wp2_with fail
  generalize (((((w.alloc (.cells #[.slice A n c, .slice B k d, .int .i64 m.til] 26)).alloc (.cells #[.bool ton, .int .i64 tr, .int .i64 ta, .int .i64 tn, .int .i64 tl] 28)).alloc (.cells #[.int .i64 gr, .int .i64 ge, .int .i64 gq, .int .i64 gl] 30)).alloc (.cells #[.bool false, .int .i64 0, .int .i64 0, .int .i64 0, .int .i64 0] 28)).alloc (.cells #[.int .i64 0, .int .i64 0, .int .i64 0, .int .i64 0] 30)) = W at *
  generalize hb4 : w.heap.size + 1 + 1 + 1 + 1 = b4 at *
  generalize hb3 : w.heap.size + 1 + 1 + 1 = b3 at *
  generalize hb2 : w.heap.size + 1 + 1 = b2 at *
  generalize hb1 : w.heap.size + 1 = b1 at *
  clear hb1 hb2 hb3 hb4; refine (CM.out _ U0.out).mono ?_; rintro x w1 ⟨u1, h⟩
  have U := Lib.hid (U0.out.trans u1)
  replace X0 := Lib.hid (X0.out.up u1)
  replace X1 := Lib.hid (X1.out.up u1)
  replace X2 := Lib.hid (X2.out.up u1)
  replace X3 := Lib.hid (X3.out.up u1)
  replace X4 := Lib.hid (X4.out.up u1)
  clear u1 CM
  rcases h with ⟨hm, rfl⟩ | ⟨hm, b, rfl, _, _⟩
  · replace TB := Lib.hid (show tokB m t0 g0 least = (false && bt && bg && bv) by rw [TB.out, hm])
    clear hm
    have ua := (Up.refl w1).alloc (.cells #[.map none, .int .i64 0, .int .i64 0] 59)
    replace U := Lib.hid (U.out.trans ua)
    replace X0 := Lib.hid (X0.out.up ua)
    replace X1 := Lib.hid (X1.out.up ua)
    replace X2 := Lib.hid (X2.out.up ua)
    replace X3 := Lib.hid (X3.out.up ua)
    replace X4 := Lib.hid (X4.out.up ua)
    clear ua
    have RZ := Lib.hid (show tokV (tokP m t0 g0 least) = .tuple #[.agg #[.bool false, .int .i64 0, .int .i64 0, .int .i64 0, .int .i64 0], .agg #[.int .i64 0, .int .i64 0, .int .i64 0, .int .i64 0], .int .i64 (-1)] by rw [tokP_no (by rw [TB.out]; rfl)]; rfl)
    have v30 := X3.out.cell (j := 0) rfl
    have v31 := X3.out.cell (j := 1) rfl
    have v32 := X3.out.cell (j := 2) rfl
    have v33 := X3.out.cell (j := 3) rfl
    have v34 := X3.out.cell (j := 4) rfl
    have u40 := X4.out.cell (j := 0) rfl
    have u41 := X4.out.cell (j := 1) rfl
    have u42 := X4.out.cell (j := 2) rfl
    have u43 := X4.out.cell (j := 3) rfl
    have lt3 := X3.out.lt
    have lt4 := X4.out.lt
    have ff3 := fun j => X3.out.frozen j
    have ff4 := fun j => X4.out.frozen j
    have hne := N34.out
    have hne2 := N34.out.symm
    have K := Lib.hid (putTM_at X3.out X4.out N34.out (⟨false, 0, 0, 0, 0⟩) (⟨0, 0, 0, 0⟩))
    have UE := Lib.hid (putTM_up U.out NL.out.1 NL.out.2 (⟨false, 0, 0, 0, 0⟩) (⟨0, 0, 0, 0⟩))
    unfold putTM at K UE; dsimp only at K UE; clear TB; go_wp2; obtain ⟨k0, k1, k2, k3, k4, k5, k6, k7, k8⟩ := K.out
    exact bodyPost_ret (v := .tuple #[.agg #[.bool false, .int .i64 0, .int .i64 0, .int .i64 0, .int .i64 0], .agg #[.int .i64 0, .int .i64 0, .int .i64 0, .int .i64 0], .int .i64 (-1)]) (by simp [results, Try.results6, go_sem, k0, k1, k2, k3, k4, k5, k6, k7, k8]) rfl ⟨congrArg Ending.returned RZ.out.symm, UE.out⟩
  · have PM := Lib.hid hm
    replace TB := Lib.hid (show tokB m t0 g0 least = (bt && bg && bv) by rw [TB.out, hm, Bool.true_and])
    clear hm
    have ua := (Up.refl w1).alloc (.cells #[.map (some b), .int .i64 m.rules.length, .int .i64 m.til] 59)
    have X5 := Lib.hid (Bk.new w1 #[.map (some b), .int .i64 m.rules.length, .int .i64 m.til] 59)
    replace U := Lib.hid (U.out.trans ua)
    replace X0 := Lib.hid (X0.out.up ua)
    replace X1 := Lib.hid (X1.out.up ua)
    replace X2 := Lib.hid (X2.out.up ua)
    replace X3 := Lib.hid (X3.out.up ua)
    replace X4 := Lib.hid (X4.out.up ua)
    have y10 := (X1.out).cell (j := 0) rfl
    have y11 := (X1.out).cell (j := 1) rfl
    have y12 := (X1.out).cell (j := 2) rfl
    have y13 := (X1.out).cell (j := 3) rfl
    have y14 := (X1.out).cell (j := 4) rfl
    have lt1 := X1.out.lt
    have p0 := X5.out.cell (j := 0) rfl
    have p1 := X5.out.cell (j := 1) rfl
    have p2 := X5.out.cell (j := 2) rfl
    have l5 := X5.out.lt
    clear ua
    go_wp2_with fail
    generalize w1.alloc (.cells #[.map (some b), .int .i64 m.rules.length, .int .i64 m.til] 59) = W2 at *
    generalize hb5 : w1.heap.size = b5 at *
    clear hb5; refine (CT.out (some b) _ PM.out).mono ?_; rintro x w2 ⟨rfl, u2⟩; clear p0 p1 p2 l5; clear y10 y11 y12 y13 y14 lt1
    replace U := Lib.hid (U.out.trans u2)
    replace X5 := Lib.hid (X5.out.up u2)
    replace X0 := Lib.hid (X0.out.up u2)
    replace X1 := Lib.hid (X1.out.up u2)
    replace X2 := Lib.hid (X2.out.up u2)
    replace X3 := Lib.hid (X3.out.up u2)
    replace X4 := Lib.hid (X4.out.up u2)
    clear u2 CT
    cases bt
    · have RZ := Lib.hid (show tokV (tokP m t0 g0 least) = .tuple #[.agg #[.bool false, .int .i64 0, .int .i64 0, .int .i64 0, .int .i64 0], .agg #[.int .i64 0, .int .i64 0, .int .i64 0, .int .i64 0], .int .i64 (-1)] by rw [tokP_no (by rw [TB.out]; rfl)]; rfl)
      have v30 := X3.out.cell (j := 0) rfl
      have v31 := X3.out.cell (j := 1) rfl
      have v32 := X3.out.cell (j := 2) rfl
      have v33 := X3.out.cell (j := 3) rfl
      have v34 := X3.out.cell (j := 4) rfl
      have u40 := X4.out.cell (j := 0) rfl
      have u41 := X4.out.cell (j := 1) rfl
      have u42 := X4.out.cell (j := 2) rfl
      have u43 := X4.out.cell (j := 3) rfl
      have lt3 := X3.out.lt
      have lt4 := X4.out.lt
      have ff3 := fun j => X3.out.frozen j
      have ff4 := fun j => X4.out.frozen j
      have hne := N34.out
      have hne2 := N34.out.symm
      have K := Lib.hid (putTM_at X3.out X4.out N34.out (⟨false, 0, 0, 0, 0⟩) (⟨0, 0, 0, 0⟩))
      have UE := Lib.hid (putTM_up U.out NL.out.1 NL.out.2 (⟨false, 0, 0, 0, 0⟩) (⟨0, 0, 0, 0⟩))
      unfold putTM at K UE; dsimp only at K UE; clear TB; go_wp2; obtain ⟨k0, k1, k2, k3, k4, k5, k6, k7, k8⟩ := K.out
      exact bodyPost_ret (v := .tuple #[.agg #[.bool false, .int .i64 0, .int .i64 0, .int .i64 0, .int .i64 0], .agg #[.int .i64 0, .int .i64 0, .int .i64 0, .int .i64 0], .int .i64 (-1)]) (by simp [results, Try.results6, go_sem, k0, k1, k2, k3, k4, k5, k6, k7, k8]) rfl ⟨congrArg Ending.returned RZ.out.symm, UE.out⟩
    · have p0 := X5.out.cell (j := 0) rfl
      have p1 := X5.out.cell (j := 1) rfl
      have p2 := X5.out.cell (j := 2) rfl
      have l5 := X5.out.lt
      have x20 := X2.out.cell (j := 0) rfl
      have x21 := X2.out.cell (j := 1) rfl
      have x22 := X2.out.cell (j := 2) rfl
      have x23 := X2.out.cell (j := 3) rfl
      have lt2 := X2.out.lt
      go_wp2_with fail
      refine (CG.out (some b) _ PM.out).mono ?_; rintro x w3 ⟨rfl, u3⟩; clear p0 p1 p2 l5; clear x20 x21 x22 x23 lt2
      replace U := Lib.hid (U.out.trans u3)
      replace X5 := Lib.hid (X5.out.up u3)
      replace X0 := Lib.hid (X0.out.up u3)
      replace X1 := Lib.hid (X1.out.up u3)
      replace X2 := Lib.hid (X2.out.up u3)
      replace X3 := Lib.hid (X3.out.up u3)
      replace X4 := Lib.hid (X4.out.up u3)
      clear u3 CG
      cases bg
      · have RZ := Lib.hid (show tokV (tokP m t0 g0 least) = .tuple #[.agg #[.bool false, .int .i64 0, .int .i64 0, .int .i64 0, .int .i64 0], .agg #[.int .i64 0, .int .i64 0, .int .i64 0, .int .i64 0], .int .i64 (-1)] by rw [tokP_no (by rw [TB.out]; rfl)]; rfl)
        have v30 := X3.out.cell (j := 0) rfl
        have v31 := X3.out.cell (j := 1) rfl
        have v32 := X3.out.cell (j := 2) rfl
        have v33 := X3.out.cell (j := 3) rfl
        have v34 := X3.out.cell (j := 4) rfl
        have u40 := X4.out.cell (j := 0) rfl
        have u41 := X4.out.cell (j := 1) rfl
        have u42 := X4.out.cell (j := 2) rfl
        have u43 := X4.out.cell (j := 3) rfl
        have lt3 := X3.out.lt
        have lt4 := X4.out.lt
        have ff3 := fun j => X3.out.frozen j
        have ff4 := fun j => X4.out.frozen j
        have hne := N34.out
        have hne2 := N34.out.symm
        have K := Lib.hid (putTM_at X3.out X4.out N34.out (⟨false, 0, 0, 0, 0⟩) (⟨0, 0, 0, 0⟩))
        have UE := Lib.hid (putTM_up U.out NL.out.1 NL.out.2 (⟨false, 0, 0, 0, 0⟩) (⟨0, 0, 0, 0⟩))
        unfold putTM at K UE; dsimp only at K UE; clear TB; go_wp2; obtain ⟨k0, k1, k2, k3, k4, k5, k6, k7, k8⟩ := K.out
        exact bodyPost_ret (v := .tuple #[.agg #[.bool false, .int .i64 0, .int .i64 0, .int .i64 0, .int .i64 0], .agg #[.int .i64 0, .int .i64 0, .int .i64 0, .int .i64 0], .int .i64 (-1)]) (by simp [results, Try.results6, go_sem, k0, k1, k2, k3, k4, k5, k6, k7, k8]) rfl ⟨congrArg Ending.returned RZ.out.symm, UE.out⟩
      · have p0 := X5.out.cell (j := 0) rfl
        have p1 := X5.out.cell (j := 1) rfl
        have p2 := X5.out.cell (j := 2) rfl
        have l5 := X5.out.lt
        have y10 := X1.out.cell (j := 0) rfl
        have y11 := X1.out.cell (j := 1) rfl
        have y12 := X1.out.cell (j := 2) rfl
        have y13 := X1.out.cell (j := 3) rfl
        have y14 := X1.out.cell (j := 4) rfl
        have x20 := X2.out.cell (j := 0) rfl
        have x21 := X2.out.cell (j := 1) rfl
        have x22 := X2.out.cell (j := 2) rfl
        have x23 := X2.out.cell (j := 3) rfl
        have lt1 := X1.out.lt
        have lt2 := X2.out.lt
        go_wp2_with fail
        refine (CV.out (some b) _ PM.out (by first | trivial | rfl) (by first | trivial | rfl)).mono ?_; rintro x w4 ⟨rfl, u4⟩; clear p0 p1 p2 l5; clear y10 y11 y12 y13 y14 x20 x21 x22 x23 lt1 lt2
        replace U := Lib.hid (U.out.trans u4)
        replace X5 := Lib.hid (X5.out.up u4)
        replace X0 := Lib.hid (X0.out.up u4)
        replace X1 := Lib.hid (X1.out.up u4)
        replace X2 := Lib.hid (X2.out.up u4)
        replace X3 := Lib.hid (X3.out.up u4)
        replace X4 := Lib.hid (X4.out.up u4)
        clear u4 CV
        cases bv
        · have RZ := Lib.hid (show tokV (tokP m t0 g0 least) = .tuple #[.agg #[.bool false, .int .i64 0, .int .i64 0, .int .i64 0, .int .i64 0], .agg #[.int .i64 0, .int .i64 0, .int .i64 0, .int .i64 0], .int .i64 (-1)] by rw [tokP_no (by rw [TB.out]; rfl)]; rfl)
          have v30 := X3.out.cell (j := 0) rfl
          have v31 := X3.out.cell (j := 1) rfl
          have v32 := X3.out.cell (j := 2) rfl
          have v33 := X3.out.cell (j := 3) rfl
          have v34 := X3.out.cell (j := 4) rfl
          have u40 := X4.out.cell (j := 0) rfl
          have u41 := X4.out.cell (j := 1) rfl
          have u42 := X4.out.cell (j := 2) rfl
          have u43 := X4.out.cell (j := 3) rfl
          have lt3 := X3.out.lt
          have lt4 := X4.out.lt
          have ff3 := fun j => X3.out.frozen j
          have ff4 := fun j => X4.out.frozen j
          have hne := N34.out
          have hne2 := N34.out.symm
          have K := Lib.hid (putTM_at X3.out X4.out N34.out (⟨false, 0, 0, 0, 0⟩) (⟨0, 0, 0, 0⟩))
          have UE := Lib.hid (putTM_up U.out NL.out.1 NL.out.2 (⟨false, 0, 0, 0, 0⟩) (⟨0, 0, 0, 0⟩))
          unfold putTM at K UE; dsimp only at K UE; clear TB; go_wp2; obtain ⟨k0, k1, k2, k3, k4, k5, k6, k7, k8⟩ := K.out
          exact bodyPost_ret (v := .tuple #[.agg #[.bool false, .int .i64 0, .int .i64 0, .int .i64 0, .int .i64 0], .agg #[.int .i64 0, .int .i64 0, .int .i64 0, .int .i64 0], .int .i64 (-1)]) (by simp [results, Try.results6, go_sem, k0, k1, k2, k3, k4, k5, k6, k7, k8]) rfl ⟨congrArg Ending.returned RZ.out.symm, UE.out⟩
        · have RY := Lib.hid (show tokV (tokP m t0 g0 least) = .tuple #[.agg #[.bool r0, .int .i64 r1, .int .i64 r2, .int .i64 r3, .int .i64 r4], .agg #[.int .i64 s0, .int .i64 s1, .int .i64 s2, .int .i64 s3], .int .i64 rb] by rw [TY.out (by rw [TB.out]; rfl)]; rfl)
          clear TB TY
          have p0 := X5.out.cell (j := 0) rfl
          have p1 := X5.out.cell (j := 1) rfl
          have p2 := X5.out.cell (j := 2) rfl
          have l5 := X5.out.lt
          have y10 := X1.out.cell (j := 0) rfl
          have y11 := X1.out.cell (j := 1) rfl
          have y12 := X1.out.cell (j := 2) rfl
          have y13 := X1.out.cell (j := 3) rfl
          have y14 := X1.out.cell (j := 4) rfl
          have x20 := X2.out.cell (j := 0) rfl
          have x21 := X2.out.cell (j := 1) rfl
          have x22 := X2.out.cell (j := 2) rfl
          have x23 := X2.out.cell (j := 3) rfl
          have lt1 := X1.out.lt
          have lt2 := X2.out.lt
          go_wp2_with fail
          refine (CW.out (some b) _ PM.out (by first | trivial | rfl) (by first | trivial | rfl)).mono ?_; rintro x w5 ⟨rfl, u5⟩; clear p0 p1 p2 l5; clear y10 y11 y12 y13 y14 x20 x21 x22 x23 lt1 lt2
          replace U := Lib.hid (U.out.trans u5)
          replace X0 := Lib.hid (X0.out.up u5)
          replace X1 := Lib.hid (X1.out.up u5)
          replace X2 := Lib.hid (X2.out.up u5)
          replace X3 := Lib.hid (X3.out.up u5)
          replace X4 := Lib.hid (X4.out.up u5)
          clear u5 CW
          have v30 := X3.out.cell (j := 0) rfl
          have v31 := X3.out.cell (j := 1) rfl
          have v32 := X3.out.cell (j := 2) rfl
          have v33 := X3.out.cell (j := 3) rfl
          have v34 := X3.out.cell (j := 4) rfl
          have u40 := X4.out.cell (j := 0) rfl
          have u41 := X4.out.cell (j := 1) rfl
          have u42 := X4.out.cell (j := 2) rfl
          have u43 := X4.out.cell (j := 3) rfl
          have lt3 := X3.out.lt
          have lt4 := X4.out.lt
          have ff3 := fun j => X3.out.frozen j
          have ff4 := fun j => X4.out.frozen j
          have hne := N34.out
          have hne2 := N34.out.symm
          have K := Lib.hid (putTM_at X3.out X4.out N34.out (⟨r0, r1, r2, r3, r4⟩) (⟨s0, s1, s2, s3⟩))
          have UE := Lib.hid (putTM_up U.out NL.out.1 NL.out.2 (⟨r0, r1, r2, r3, r4⟩) (⟨s0, s1, s2, s3⟩))
          unfold putTM at K UE; dsimp only at K UE; go_wp2; obtain ⟨k0, k1, k2, k3, k4, k5, k6, k7, k8⟩ := K.out
          exact bodyPost_ret (v := .tuple #[.agg #[.bool r0, .int .i64 r1, .int .i64 r2, .int .i64 r3, .int .i64 r4], .agg #[.int .i64 s0, .int .i64 s1, .int .i64 s2, .int .i64 s3], .int .i64 rb]) (by simp [results, Try.results6, go_sem, k0, k1, k2, k3, k4, k5, k6, k7, k8]) rfl ⟨congrArg Ending.returned RY.out.symm, UE.out⟩
end Go.Proofs.Ytpainlcehgiokaa

namespace Go.Proofs.Ytpainlcehgiokaa
set_option maxRecDepth 100000
open Go.RowKit
/-- What a cell may hold: a number; a slice of at most mx elements of type e, of so many cells each. -/
inductive CK where
  | num
  | sl (e size mx : Nat)
/-- A slice of n elements of type e in a block of the call's own. -/
def Gs (w : World) (S : Nat → Prop) (e size n : Nat) (v : Value) : Prop :=
  (v = .slice none 0 0 ∧ n = 0) ∨ ∃ b cap arr, v = .slice (some ⟨b, 0, none⟩) n cap ∧ S b ∧ w.heap[b]? = some (.cells arr e (0, 0)) ∧ n ≤ cap ∧ cap ≤ maxLen ∧ arr.size = cap * size
def COk (w : World) (S : Nat → Prop) : CK → Value → Prop
  | .num, v => ∃ z, v = .int .i64 z
  | .sl e size mx, v => ∃ n, n ≤ mx ∧ Gs w S e size n v
abbrev Tbl := Nat → List CK
/-- The cell at j of a block of type e holds what the table says. -/
def TC (T : Tbl) (w : World) (S : Nat → Prop) (e j : Nat) (v : Value) : Prop := ∃ k, (T e)[j % (T e).length]? = some k ∧ COk w S k v
def TH (T : Tbl) (S : Nat → Prop) (w : World) : Prop :=
  ∀ (b : Nat) (arr : Array Value) (e : Nat) (fz : Nat × Nat), S b → w.heap[b]? = some (.cells arr e fz) → T e ≠ [] → fz = (0, 0) ∧ ∀ j v, arr[j]? = some v → TC T w S e j v
/-- What each step keeps. -/
structure St (T : Tbl) (S : Nat → Prop) (g : Nat) (w w' : World) : Prop where
  os : w'.os = w.os
  tape : w'.tape = w.tape
  output : w'.output = w.output
  size : w.heap.size ≤ w'.heap.size
  old : ∀ k, ¬ S k → k ≠ g → w'.heap[k]? = w.heap[k]?
  shape : ∀ (k : Nat) (arr : Array Value) (e : Nat) (fz : Nat × Nat), w.heap[k]? = some (.cells arr e fz) → ∃ arr', w'.heap[k]? = some (.cells arr' e fz) ∧ arr'.size = arr.size
  free : ∀ (k : Nat) (arr : Array Value) (e : Nat) (fz : Nat × Nat), k ≠ g → w.heap[k]? = some (.cells arr e fz) → T e = [] → w'.heap[k]? = w.heap[k]?
section
variable {T : Tbl} {S : Nat → Prop} {g : Nat} {w w' w'' : World}
theorem St.refl (w : World) : St T S g w w := ⟨rfl, rfl, rfl, Nat.le_refl _, fun _ _ _ => rfl, fun _ arr _ _ h => ⟨arr, h, rfl⟩, fun _ _ _ _ _ _ _ => rfl⟩
theorem St.trans (h : St T S g w w') (k : St T S g w' w'') : St T S g w w'' :=
  ⟨k.os.trans h.os, k.tape.trans h.tape, k.output.trans h.output, Nat.le_trans h.size k.size, fun j hj hne => (k.old j hj hne).trans (h.old j hj hne),
    fun j arr e fz ha => by
      obtain ⟨arr', h1, h2⟩ := h.shape j arr e fz ha; obtain ⟨arr'', h3, h4⟩ := k.shape j arr' e fz h1
      exact ⟨arr'', h3, h4.trans h2⟩,
    fun j arr e fz hne ha ht => by
      have h1 := h.free j arr e fz hne ha ht
      exact (k.free j arr e fz hne (h1.trans ha) ht).trans h1⟩
theorem St.drew (h : St T S g w w') : St T S g w w'.drew := ⟨h.os, h.tape, h.output, h.size, h.old, h.shape, h.free⟩
theorem TH.drew (h : TH T S w) : TH T S w.drew := h
theorem St.mv {w0 : World} (h : St T S g w w') (hs : ∀ j, j < w0.heap.size → ¬ S j) (k : Mv g w0 w) : Mv g w0 w' :=
  ⟨h.os.trans k.os, h.tape.trans k.tape, h.output.trans k.output, Nat.le_trans k.size h.size, fun j hj hne => (h.old j (hs j hj) hne).trans (k.block j hj hne)⟩
theorem Gs.st {e size n : Nat} {v : Value} (h : Gs w S e size n v) (k : St T S g w w') : Gs w' S e size n v := by
  rcases h with h | ⟨b, cap, arr, h1, h2, h3, h4, h5, h6⟩
  · exact .inl h
  · obtain ⟨arr', h7, h8⟩ := k.shape b arr e (0, 0) h3
    exact .inr ⟨b, cap, arr', h1, h2, h7, h4, h5, h8.trans h6⟩
theorem COk.st {c : CK} {v : Value} (h : COk w S c v) (k : St T S g w w') : COk w' S c v := by
  cases c with
  | num => exact h
  | sl e size mx =>
    obtain ⟨n, h1, h2⟩ := h
    exact ⟨n, h1, h2.st k⟩
theorem TC.st {e j : Nat} {v : Value} (h : TC T w S e j v) (k : St T S g w w') : TC T w' S e j v := by
  obtain ⟨c, h1, h2⟩ := h
  exact ⟨c, h1, h2.st k⟩
theorem COk.one {c : CK} {v : Value} (h : COk w S c v) : v.oneCell' = true := by
  cases c with
  | num => obtain ⟨z, rfl⟩ := h; rfl
  | sl e size mx =>
    obtain ⟨n, _, h2⟩ := h
    rcases h2 with ⟨rfl, _⟩ | ⟨b, cap, arr, rfl, _⟩
    · rfl
    · rfl
/-- What reads of a typed block. -/
theorem TH.read {b o e : Nat} {arr : Array Value} {fz : Nat × Nat} (h : TH T S w) (hb : S b) (ha : w.heap[b]? = some (.cells arr e fz)) (ht : T e ≠ []) (ho : o < arr.size) :
    ∃ v, w.cell? ⟨b, o, none⟩ = some v ∧ TC T w S e o v ∧ w.frozen? ⟨b, o, none⟩ = false := by
  obtain ⟨rfl, hc⟩ := h b arr e fz hb ha ht
  have hv : arr[o]? = some arr[o] := Array.getElem?_eq_getElem ho
  refine ⟨arr[o], ?_, hc o _ hv, ?_⟩
  · unfold World.cell?
    dsimp only; rw [ha]
    exact hv
  · unfold World.frozen?
    dsimp only; rw [ha]; simp
/-- A new block. -/
theorem St.alloc (w : World) (arr : Array Value) (e : Nat) (hB : ∀ b, w.heap.size ≤ b → S b) : St T S g w (w.alloc (.cells arr e)) :=
  ⟨rfl, rfl, rfl, by simp, fun k hk _ => heap_alloc_old w _ (Nat.lt_of_not_le fun h => hk (hB k h)), fun k a e' fz ha => ⟨a, by
      have : k < w.heap.size := (Array.getElem?_eq_some_iff.1 ha).1
      rw [heap_alloc_old w _ this]
      exact ha, rfl⟩, fun k a e' fz _ ha _ => heap_alloc_old w _ (Array.getElem?_eq_some_iff.1 ha).1⟩
theorem TH.alloc {arr : Array Value} {e : Nat} (h : TH T S w) (hB : ∀ b, w.heap.size ≤ b → S b) (hn : T e ≠ [] → ∀ j v, arr[j]? = some v → TC T w S e j v) : TH T S (w.alloc (.cells arr e)) := by
  have st : St T S 0 w (w.alloc (.cells arr e)) := St.alloc w arr e hB
  intro b a e' fz hb ha ht
  by_cases hlt : b < w.heap.size
  · rw [heap_alloc_old w _ hlt] at ha
    obtain ⟨h1, h2⟩ := h b a e' fz hb ha ht
    exact ⟨h1, fun j v hv => (h2 j v hv).st st⟩
  · have hlt2 := (Array.getElem?_eq_some_iff.1 ha).1
    have hs : b < w.heap.size + 1 := by simpa using hlt2
    obtain rfl : b = w.heap.size := by omega
    rw [heap_alloc_new] at ha
    injection ha with ha
    injection ha with ha1 ha2 ha3
    subst ha1 ha2 ha3
    exact ⟨rfl, fun j v hv => (hn ht j v hv).st st⟩
theorem heap_set (w : World) (b o : Nat) (u : Value) {arr : Array Value} {e : Nat} {fz : Nat × Nat} (ha : w.heap[b]? = some (.cells arr e fz)) :
    (w.setCell ⟨b, o, none⟩ u).heap[b]? = some (.cells (arr.setIfInBounds o u) e fz) := by
  unfold World.setCell; simp [Array.getElem?_modify, ha]
/-- A cell of a typed block is written. -/
theorem St.set {b o e : Nat} {u : Value} {arr : Array Value} {fz : Nat × Nat} (hb : S b) (ha : w.heap[b]? = some (.cells arr e fz)) (ht : T e ≠ []) : St T S g w (w.setCell ⟨b, o, none⟩ u) := by
  have other : ∀ k, k ≠ b → (w.setCell ⟨b, o, none⟩ u).heap[k]? = w.heap[k]? := fun k hk => Below.heap_setCell w ⟨b, o, none⟩ u k hk
  refine ⟨rfl, rfl, rfl, by simp, fun k hk _ => other k (fun e => hk (e ▸ hb)), fun k a e' fz' hk => ?_, fun k a e' fz' _ hk hf => ?_⟩
  · by_cases hkb : k = b
    · subst hkb
      rw [ha] at hk
      injection hk with hk
      injection hk with h1 h2 h3
      subst h1 h2 h3
      exact ⟨_, heap_set w k o u ha, by simp⟩
    · exact ⟨a, (other k hkb).trans hk, rfl⟩
  · by_cases hkb : k = b
    · subst hkb
      rw [ha] at hk
      injection hk with hk
      injection hk with h1 h2 h3
      subst h2
      exact absurd hf ht
    · exact other k hkb
theorem TH.set {b o e : Nat} {u : Value} {arr : Array Value} {fz : Nat × Nat} (h : TH T S w) (hb : S b) (ha : w.heap[b]? = some (.cells arr e fz)) (ht : T e ≠ []) (hu : TC T w S e o u) : TH T S (w.setCell ⟨b, o, none⟩ u) := by
  have st : St T S 0 w (w.setCell ⟨b, o, none⟩ u) := St.set hb ha ht
  intro b' a e' fz' hb' ha' ht'
  by_cases hkb : b' = b
  · subst hkb
    rw [heap_set w b' o u ha] at ha'
    injection ha' with ha'
    injection ha' with h1 h2 h3
    subst h1 h2 h3; obtain ⟨h4, h5⟩ := h b' arr e fz hb ha ht; refine ⟨h4, fun j v hv => ?_⟩; rw [Array.getElem?_setIfInBounds] at hv
    by_cases hj : o = j
    · subst hj
      rw [if_pos rfl] at hv
      split at hv
      · injection hv with hv
        subst hv
        exact hu.st st
      · cases hv
    · rw [if_neg hj] at hv
      exact (h5 j v hv).st st
  · rw [Below.heap_setCell w ⟨b, o, none⟩ u b' hkb] at ha'
    obtain ⟨h4, h5⟩ := h b' a e' fz' hb' ha' ht'
    exact ⟨h4, fun j v hv => (h5 j v hv).st st⟩
/-- Several cells in a row. -/
theorem set_row {b e : Nat} (hb : S b) (ht : T e ≠ []) : ∀ (us : List Value) (o : Nat) (w : World) (arr : Array Value) (fz : Nat × Nat), w.heap[b]? = some (.cells arr e fz) → TH T S w →
    (∀ j u, us[j]? = some u → TC T w S e (o + j) u) → TH T S (w.setCells b o us) ∧ St T S g w (w.setCells b o us)
  | [], _, w, _, _, _, h, _ => ⟨h, St.refl w⟩
  | u :: r, o, w, arr, fz, ha, h, hu => by
    have st : St T S g w (w.setCell ⟨b, o, none⟩ u) := St.set hb ha ht
    have h1 := h.set (o := o) (u := u) hb ha ht (by simpa using hu 0 u rfl)
    obtain ⟨h2, h3⟩ := set_row hb ht r (o + 1) (w.setCell ⟨b, o, none⟩ u) _ fz (heap_set w b o u ha) h1 (fun j v hv => by
      have := hu (j + 1) v (by simpa using hv)
      rw [show o + (j + 1) = o + 1 + j by omega] at this
      exact this.st st)
    exact ⟨h2, st.trans h3⟩
/-- The reader's block is written, no block is made. -/
structure Pk (g : Nat) (w w' : World) : Prop where
  mv : Mv g w w'
  size : w'.heap.size = w.heap.size
  shape : ∀ (arr : Array Value) (e : Nat) (fz : Nat × Nat), w.heap[g]? = some (.cells arr e fz) → ∃ arr', w'.heap[g]? = some (.cells arr' e fz) ∧ arr'.size = arr.size
theorem Pk.refl (g : Nat) (w : World) : Pk g w w := ⟨Mv.refl _ _, rfl, fun arr _ _ h => ⟨arr, h, rfl⟩⟩
theorem Pk.trans {a b c : World} (h : Pk g a b) (k : Pk g b c) : Pk g a c :=
  ⟨h.mv.trans k.mv, k.size.trans h.size, fun arr e fz ha => by
    obtain ⟨a1, h1, h2⟩ := h.shape arr e fz ha; obtain ⟨a2, h3, h4⟩ := k.shape a1 e fz h1
    exact ⟨a2, h3, h4.trans h2⟩⟩
theorem Pk.set {a b : World} (h : Pk g a b) (o : Nat) (u : Value) : Pk g a (b.setCell ⟨g, o, none⟩ u) :=
  ⟨h.mv.setCell u, by simpa using h.size, fun arr e fz ha => by
    obtain ⟨a1, h1, h2⟩ := h.shape arr e fz ha
    exact ⟨_, heap_set b g o u h1, by simpa using h2⟩⟩
theorem Pk.st (h : Pk g w w') : St T S g w w' :=
  ⟨h.mv.os, h.mv.tape, h.mv.output, h.mv.size, fun k _ hne => by
      by_cases hk : k < w.heap.size
      · exact h.mv.block k hk hne
      · rw [Array.getElem?_eq_none (by have := h.size; omega), Array.getElem?_eq_none (by omega)],
    fun k arr e fz ha => by
      by_cases hk : k = g
      · subst hk; exact h.shape arr e fz ha
      · exact ⟨arr, (h.mv.block k (Array.getElem?_eq_some_iff.1 ha).1 hk).trans ha, rfl⟩,
    fun k arr e fz hne ha _ => h.mv.block k (Array.getElem?_eq_some_iff.1 ha).1 hne⟩
theorem TH.pk (h : TH T S w) (k : Pk g w w') (hg : ¬ S g) : TH T S w' := by
  have st : St T S g w w' := k.st
  intro b arr e fz hb ha ht
  have hlt : b < w.heap.size := by have := (Array.getElem?_eq_some_iff.1 ha).1; have := k.size; omega
  rw [k.mv.block b hlt (fun e => hg (e ▸ hb))] at ha; obtain ⟨h1, h2⟩ := h b arr e fz hb ha ht
  exact ⟨h1, fun j v hv => (h2 j v hv).st st⟩
/-- What a type's zero is. -/
def ZOk : CK → Value → Prop
  | .num, v => ∃ z, v = .int .i64 z
  | .sl _ _ _, v => v = .slice none 0 0
theorem ZOk.ok {c : CK} {v : Value} (h : ZOk c v) : COk w S c v := by
  cases c with
  | num => exact h
  | sl e size mx => exact ⟨0, Nat.zero_le _, .inl ⟨h, rfl⟩⟩
theorem zeros_tc {z : Array Value} {e : Nat} (hz : z.size = (T e).length) (hp : 0 < z.size) (h : ∀ (j : Nat) (u : Value), z[j]? = some u → ∃ k, (T e)[j]? = some k ∧ ZOk k u) (N j : Nat) (v : Value) (hv : (Builtin.zeroCells z N)[j]? = some v) : TC T w S e j v := by
  have hlt := (Array.getElem?_eq_some_iff.1 hv).1
  unfold Builtin.zeroCells at hv hlt; simp only [Array.getElem?_map, Array.size_map, Array.size_range] at hv hlt; rw [Array.getElem?_range] at hv; rw [if_pos hlt] at hv
  have hm : j % z.size < z.size := Nat.mod_lt _ hp
  have e1 : z[j % z.size]? = some v := by
    have : z[j % z.size]! = v := by simpa using hv
    rw [← this, Array.getElem?_eq_getElem hm]; simp [hm]
  obtain ⟨k, h1, h2⟩ := h _ v e1
  exact ⟨k, by rw [← hz]; exact h1, h2.ok⟩
end
/-- Appending onto a typed slice. -/
theorem run_append_ty {P : Program} {T : Tbl} {S : Nat → Prop} {g : Nat} (w : World) (t ty e : Nat) (i : TypeInfo) (z : Value) (size bytes : Nat) (ht : P.underlying t = some (.slice e)) (hi : P.info? e = some i) (hz : i.zero = some z)
    (hsize : i.size = size) (hby : i.bytes = bytes) (hzs : z.cells.size = size) (hsz : 0 < size) (hT : (T e).length = size) (hzt : ∀ (j : Nat) (u : Value), z.cells[j]? = some u → ∃ k, (T e)[j]? = some k ∧ ZOk k u)
    (v : Value) (n : Nat) (hv : Gs w S e size n v) (ad : Addr) (m c : Nat) (news : List Value) (hl : news.length = m * size) (hnews : ∀ j u, news[j]? = some u → w.cell? (ad.add j) = some u)
    (hn : ∀ j u, news[j]? = some u → TC T w S e j u) (hm : 0 < m) (b1 : n + m ≤ 1000000) (b2 : (n + m) * bytes ≤ 140737488355328) (hB : ∀ b, w.heap.size ≤ b → S b) (hTH : TH T S w) :
    ∃ v' w', (Builtin.append_ #[t, t] ty #[v, .slice (some ad) m c]).run P w = .ok v' w' ∧ Gs w' S e size (n + m) v' ∧ TH T S w' ∧ St T S g w w' := by
  subst hsize; subst hby
  have hne : T e ≠ [] := fun h => by rw [h] at hT; simp at hT; omega
  have hone : ∀ u ∈ news, u.oneCell' = true := fun u hu => by
    obtain ⟨j, hj⟩ := List.getElem?_of_mem hu; obtain ⟨k, _, h2⟩ := hn j u hj
    exact h2.one
  have hcm : ∀ k, k = n + m → ∀ old, grownCap w k old e ≤ maxLen := fun k hk old => grownCap_le_maxLen w k old e (by simp only [maxLen]; omega)
  have mod_add : ∀ j, (n * i.size + j) % (T e).length = j % (T e).length := fun j => by rw [hT, Nat.mul_comm, Nat.mul_add_mod]
  rcases hv with ⟨rfl, rfl⟩ | ⟨b, cap, arr, rfl, hb, ha, hnc, hcl, hsz2⟩
  · have hr := run_append_nil (P := P) w t ty e i z ht hi hz ad m c news hl hnews hm (by omega) (by simp at b2; omega)
    have hge := grownCap_ge w m 0 e
    refine ⟨_, _, hr, .inr ⟨w.heap.size, grownCap w m 0 e, _, by simp, hB _ (Nat.le_refl _), heap_alloc_new w.drew _, by simpa using hge, hcm m (by simp) 0, ?_⟩, ?_, ?_⟩
    · simp only [Array.size_append, List.size_toArray, size_zeroCells, hzs, hl, ← Nat.add_mul]
      congr 1
      omega
    · refine TH.alloc (hTH.drew) hB fun _ j u hu => ?_
      rw [Array.getElem?_append] at hu
      split at hu
      · exact hn j u (by simpa using hu)
      · rename_i hlt
        have := zeros_tc (T := T) (w := w) (S := S) (e := e) (hzs.trans hT.symm) (by omega) hzt _ _ _ hu
        obtain ⟨k, h1, h2⟩ := this; refine ⟨k, ?_, h2⟩; rw [← h1]; simp only [List.size_toArray, hl] at hlt ⊢
        congr 1
        rw [hT]; obtain ⟨d, rfl⟩ : ∃ d, j = m * i.size + d := ⟨j - m * i.size, by omega⟩; rw [Nat.add_sub_cancel_left, Nat.mul_comm, Nat.mul_add_mod]
    · exact (St.refl w).drew.trans (St.alloc w.drew _ e hB)
  · by_cases hroom : n + m ≤ cap
    · have inb : ∀ j, j < news.length → n * i.size + j < arr.size := fun j hj => by
        rw [hsz2]
        have h7 : (n + m) * i.size ≤ cap * i.size := Nat.mul_le_mul_right _ hroom
        rw [Nat.add_mul] at h7
        omega
      have hr := run_append_room_cells (P := P) w t ty e i ht hi b 0 n cap ad m c news hl hnews hone hroom
        (fun j hj => by
          obtain ⟨u, hu, _⟩ := hTH.read hb ha hne (inb j hj)
          rw [Nat.zero_add, hu]; rfl)
        (fun j hj => by
          obtain ⟨u, _, _, hf⟩ := hTH.read hb ha hne (inb j hj)
          rw [Nat.zero_add]; exact hf)
      obtain ⟨h1, h2⟩ := set_row (T := T) (S := S) (g := g) hb hne news (0 + n * i.size) w arr (0, 0) ha hTH (fun j u hu => by
        obtain ⟨k, h3, h4⟩ := hn j u hu
        exact ⟨k, by rw [Nat.zero_add, mod_add]; exact h3, h4⟩)
      obtain ⟨arr', h3, h4⟩ := h2.shape b arr e (0, 0) ha
      exact ⟨_, _, hr, .inr ⟨b, cap, arr', rfl, hb, h3, hroom, hcl, h4.trans hsz2⟩, h1, h2⟩
    · have hle : n * i.size ≤ arr.size := by rw [hsz2]; exact Nat.mul_le_mul_right _ hnc
      have hol : (arr.toList.take (n * i.size)).length = n * i.size := by rw [List.length_take]; simp; omega
      have hat : ∀ j u, (arr.toList.take (n * i.size))[j]? = some u → arr[j]? = some u := fun j u hu => by
        rw [List.getElem?_take] at hu
        split at hu
        · simpa using hu
        · cases hu
      have hr := run_append_grow (P := P) w t ty e i z ht hi hz ⟨b, 0, none⟩ n cap (arr.toList.take (n * i.size)) hol
        (fun j u hu => by
          rw [Addr.add_lit, Nat.zero_add]; unfold World.cell?; dsimp only; rw [ha]
          exact hat j u hu) ad m c news hl hnews (by omega) (by omega) (growslice_fits (by omega) b2)
      have hge := grownCap_ge w (n + m) cap e
      refine ⟨_, _, hr, .inr ⟨w.heap.size, _, _, rfl, hB _ (Nat.le_refl _), heap_alloc_new w.drew _, hge, hcm _ rfl cap, ?_⟩, ?_, ?_⟩
      · simp only [Array.size_append, List.size_toArray, size_zeroCells, hzs, hol, hl, ← Nat.add_mul]
        congr 1
        omega
      · refine TH.alloc (hTH.drew) hB fun _ j u hu => ?_
        rw [Array.getElem?_append] at hu
        split at hu
        · rw [Array.getElem?_append] at hu
          split at hu
          · obtain ⟨_, h5⟩ := hTH b arr e (0, 0) hb ha hne
            exact h5 j u (hat j u (by simpa using hu))
          · rename_i hlt
            simp only [List.size_toArray, hol] at hlt hu; obtain ⟨k, h1, h2⟩ := hn (j - n * i.size) u (by simpa using hu); refine ⟨k, ?_, h2⟩; rw [← h1, ← mod_add (j - n * i.size), show n * i.size + (j - n * i.size) = j by omega]
        · rename_i hlt
          have := zeros_tc (T := T) (w := w) (S := S) (e := e) (hzs.trans hT.symm) (by omega) hzt _ _ _ hu
          obtain ⟨k, h1, h2⟩ := this; refine ⟨k, ?_, h2⟩; rw [← h1]; simp only [Array.size_append, List.size_toArray, hol, hl] at hlt ⊢
          congr 1
          rw [hT]; obtain ⟨d, rfl⟩ : ∃ d, j = n * i.size + m * i.size + d := ⟨j - (n * i.size + m * i.size), by omega⟩; rw [Nat.add_sub_cancel_left, ← Nat.add_mul, Nat.mul_comm, Nat.mul_add_mod]
      · exact (St.refl w).drew.trans (St.alloc w.drew _ e hB)
/-- The same for one operation. -/
theorem wp_append_ty {P : Program} {T : Tbl} {S : Nat → Prop} {g : Nat} (w : World) {o : Oper} {a : Act} {K : Act → World → Prop} {Q : Exit → Act → World → Prop} (s x : Operand) (t : Nat)
    (ho : o.op = .call { callee := .builtin .append, args := #[s, x], argTypes := #[t, t] })
    (e : Nat) (i : TypeInfo) (z : Value) (size bytes : Nat) (ht : P.underlying t = some (.slice e)) (hi : P.info? e = some i) (hz : i.zero = some z)
    (hsize : i.size = size) (hby : i.bytes = bytes) (hzs : z.cells.size = size) (hsz : 0 < size) (hT : (T e).length = size) (hzt : ∀ (j : Nat) (u : Value), z.cells[j]? = some u → ∃ k, (T e)[j]? = some k ∧ ZOk k u)
    (v : Value) (n : Nat) (hs : a.eval s = v) (hv : Gs w S e size n v) (ad : Addr) (m c : Nat) (news : List Value) (hx : a.eval x = .slice (some ad) m c) (hl : news.length = m * size) (hnews : ∀ j u, news[j]? = some u → w.cell? (ad.add j) = some u)
    (hn : ∀ j u, news[j]? = some u → TC T w S e j u) (hm : 0 < m) (b1 : n + m ≤ 1000000) (b2 : (n + m) * bytes ≤ 140737488355328) (hB : ∀ b, w.heap.size ≤ b → S b) (hTH : TH T S w)
    (h : ∀ v' w', Gs w' S e size (n + m) v' → TH T S w' → St T S g w w' → K (a.put o.dst v') w') : o.wp P a w K Q := by
  obtain ⟨v', w', hrun, h2, h3, h4⟩ := run_append_ty (P := P) (g := g) w t o.type e i z size bytes ht hi hz hsize hby hzs hsz hT hzt v n hv ad m c news hl hnews hn hm b1 b2 hB hTH; unfold Oper.wp execOp; simp only [ho, resolve, invoke, builtin, Sem.run_bind, Sem.run_pure, Result.andThen_ok, List.map_toArray, List.map_cons, List.map_nil, hs, hx, hrun]
  exact h v' w' h2 h3 h4
end Go.Proofs.Ytpainlcehgiokaa

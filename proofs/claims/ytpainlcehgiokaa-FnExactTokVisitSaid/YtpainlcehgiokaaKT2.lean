/-
  What (machine).visit returns, in one sentence: the token, the mark and the bound behind a visit; for every valid token and mark.
  What visits returns, in one sentence: whether a valid token may visit a host with this mark; for every valid token and mark.
  What impl.TokVisit returns, in one sentence: the token, the mark and the bound behind a visit, or zero values; for every model that lies in memory.
-/
import Derived.Test.YtpainlcehgiokaaKIVisA
import Derived.Test.YtpainlcehgiokaaKIVisB
import Derived.Test.YtpainlcehgiokaaKIVisC
import Derived.Test.YtpainlcehgiokaaKIVisD
import Derived.Test.YtpainlcehgiokaaKT1
namespace Go.Proofs.Ytpainlcehgiokaa
set_option maxRecDepth 100000
open Go.RowKit

theorem visit_any (mb : Option Nat) (n : Nat) (til : Int) (t : Gk) (g : Gm) (least : Int) (w : World) (h0 : 0 ≤ til ∧ til ≤ 99) (h1 : 1 ≤ n ∧ n ≤ 4) (hk : gkB til n t = true) (hm : gmB til g = true) :
    Calls Try.prog 25 #[.agg #[.map mb, .int .i64 (n : Int), .int .i64 til], t.v, g.v, .int .i64 least] w fun x w' => x = .returned (tokV (visK til n t g least)) ∧ Up w w' := by
  by_cases j1 : g.r < t.r
  · by_cases j2 : t.r % 2 = 1
    · exact visit_lt_odd mb n til t g least w h0 h1 hk hm j1 j2
    · exact visit_lt_ev mb n til t g least w h0 h1 hk hm j1 j2
  · by_cases j2 : t.r % 2 = 1
    · exact visit_ge_odd mb n til t g least w h0 h1 hk hm j1 j2
    · exact visit_ge_ev mb n til t g least w h0 h1 hk hm j1 j2

end Go.Proofs.Ytpainlcehgiokaa

namespace Go.Proofs.Ytpainlcehgiokaa
set_option maxRecDepth 100000
open Go.RowKit

set_option maxHeartbeats 8000000 in
theorem visits_any (mb : Option Nat) (many til : Int) (t : Gk) (g : Gm) (least : Int) (w : World) (h0 : 0 ≤ til ∧ til ≤ 99) (hk : gkB til many t = true) (hm : gmB til g = true) :
    Calls Try.prog 24 #[.agg #[.map mb, .int .i64 many, .int .i64 til], t.v, g.v, .int .i64 least] w fun x w' => x = .returned (.bool (mayV til t g least)) ∧ Up w w' := by
  obtain ⟨gr, ge, gq, gl⟩ := g
  obtain ⟨ton, tr, ta, tn, tl⟩ := t
  simp only [gkB, gmB, Bool.and_eq_true, inB_iff] at hk hm
  have i1 : IntKind.i64.wrap (til + 1) = til + 1 := IntWalk.i64_in _ (by omega)
  have i2 : IntKind.i64.wrap (tr - gr) = tr - gr := IntWalk.i64_in _ (by omega)
  unfold mayV Gk.v Gm.v
  dsimp only
  have C0 := Lib.hid (fun W => within_any least 0 (til + 1) W)
  have C1 := Lib.hid (fun W => within_any (tr - gr) 0 1 W)
  generalize inB least 0 (til + 1) = b0 at C0 ⊢
  generalize inB (tr - gr) 0 1 = b1 at C1 ⊢
  have CN := Lib.hid (fun W => never_any mb many til W h0)
  have X0 := Lib.hid (((Bk.new w #[.map mb, .int .i64 many, .int .i64 til] 59).alloc (.cells #[.bool ton, .int .i64 tr, .int .i64 ta, .int .i64 tn, .int .i64 tl] 28)).alloc (.cells #[.int .i64 gr, .int .i64 ge, .int .i64 gq, .int .i64 gl] 30))
  have X1 := Lib.hid ((Bk.new (w.alloc (.cells #[.map mb, .int .i64 many, .int .i64 til] 59)) #[.bool ton, .int .i64 tr, .int .i64 ta, .int .i64 tn, .int .i64 tl] 28).alloc (.cells #[.int .i64 gr, .int .i64 ge, .int .i64 gq, .int .i64 gl] 30))
  have X2 := Lib.hid (Bk.new ((w.alloc (.cells #[.map mb, .int .i64 many, .int .i64 til] 59)).alloc (.cells #[.bool ton, .int .i64 tr, .int .i64 ta, .int .i64 tn, .int .i64 tl] 28)) #[.int .i64 gr, .int .i64 ge, .int .i64 gq, .int .i64 gl] 30)
  simp only [World.size_alloc] at X1 X2
  have U := Lib.hid ((((Up.refl w).alloc (.cells #[.map mb, .int .i64 many, .int .i64 til] 59)).alloc (.cells #[.bool ton, .int .i64 tr, .int .i64 ta, .int .i64 tn, .int .i64 tl] 28)).alloc (.cells #[.int .i64 gr, .int .i64 ge, .int .i64 gq, .int .i64 gl] 30))
  clear hk hm h0 i1
  cases ton
  · simp only [Bool.false_and]
    go_enter Try.func24, Try.ntmps24
    go_wp2
    go_ret
    exact ⟨rfl, U.out⟩
  · simp only [Bool.true_and]
    go_enter Try.func24, Try.ntmps24
    go_wp2_with fail
    refine (CN.out _).mono ?_
    rintro x w1 ⟨rfl, u1⟩
    replace U := Lib.hid (U.out.trans u1)
    replace X1 := Lib.hid (X1.out.up u1)
    replace X2 := Lib.hid (X2.out.up u1)
    clear u1 X0
    go_wp2_with fail
    refine (C0.out _).mono ?_
    rintro x wz ⟨rfl, rfl⟩
    cases b0
    · go_wp2
      go_ret
      exact ⟨rfl, U.out⟩
    · have y1 := X1.out.cell (j := 1) rfl
      have x0 := X2.out.cell (j := 0) rfl
      have ly := X1.out.lt
      have lx := X2.out.lt
      go_wp2_with fail
      refine (C1.out _).mono ?_
      rintro x wz ⟨rfl, rfl⟩
      go_wp2
      go_ret
      exact ⟨rfl, U.out⟩

end Go.Proofs.Ytpainlcehgiokaa

namespace Go.Proofs.Ytpainlcehgiokaa
set_option maxRecDepth 100000
open Go.RowKit

set_option maxHeartbeats 8000000 in
theorem implVisit_any (A : Option Addr) (n c : Nat) (B : Option Addr) (k d : Nat) (m : Mdl) (t : Gk) (g : Gm) (least : Int) (w : World) (hM : MdlV w A n B k m) :
    Calls Try.prog 6 #[.agg #[.slice A n c, .slice B k d, .int .i64 m.til], t.v, g.v, .int .i64 least] w fun x w' => x = .returned (tokV (tokP m t g least)) ∧ Up w w' := by
  have CM := Lib.hid (fun W (u : Up w W) => newMachine_any A n c B k d m W (hM.up u))
  have LR := Lib.hid (show m.rules.length = n from hM.rules.1)
  have BIG := Lib.hid (fun (h : mdlB m = true) => (show (0 ≤ m.til ∧ m.til ≤ 99) ∧ (1 ≤ (m.rules.length : Int) ∧ (m.rules.length : Int) ≤ 4) ∧ (1 ≤ m.rules.length ∧ m.rules.length ≤ 4) from ⟨mdlB_til' h, by have := mdlB_few' h; omega, mdlB_few' h⟩))
  have CT := Lib.hid (fun mp W (h : mdlB m = true) => tokenOk_any mp m.rules.length m.til t W (BIG.out h).1 (BIG.out h).2.1)
  have CG := Lib.hid (fun mp W (h : mdlB m = true) => markOk_any mp m.rules.length m.til g W (BIG.out h).1 (BIG.out h).2.1)
  have CV := Lib.hid (fun mp W (h : mdlB m = true) (h2 : gkB m.til m.rules.length t = true) (h3 : gmB m.til g = true) => visits_any mp m.rules.length m.til t g least W (BIG.out h).1 h2 h3)
  have CW := Lib.hid (fun mp W (h : mdlB m = true) (h2 : gkB m.til m.rules.length t = true) (h3 : gmB m.til g = true) => visit_any mp m.rules.length m.til t g least W (BIG.out h).1 (BIG.out h).2.2 h2 h3)
  have TB := Lib.hid (show tokB m t g least = (mdlB m && gkB m.til m.rules.length t && gmB m.til g && mayV m.til t g least) from rfl)
  obtain ⟨bt, hbt⟩ : ∃ bt, bt = gkB m.til m.rules.length t := ⟨_, rfl⟩
  obtain ⟨bg, hbg⟩ : ∃ bg, bg = gmB m.til g := ⟨_, rfl⟩
  rw [← hbt, ← hbg] at TB CV CW
  rw [← hbt] at CT
  rw [← hbg] at CG
  generalize mayV m.til t g least = bv at CV TB
  obtain ⟨t0, ht0⟩ : ∃ t0, t0 = t := ⟨_, rfl⟩
  obtain ⟨g0, hg0⟩ : ∃ g0, g0 = g := ⟨_, rfl⟩
  rw [← ht0, ← hg0] at TB
  rw [show tokP m t g least = tokP m t0 g0 least by rw [ht0, hg0]]
  obtain ⟨r, hr⟩ : ∃ r, r = visK m.til m.rules.length t g least := ⟨_, rfl⟩
  rw [← hr] at CW
  have TY := Lib.hid (fun (h : tokB m t0 g0 least = true) => (show tokP m t0 g0 least = r by rw [tokP_yes h, hr, ht0, hg0]))
  clear ht0 hg0 hbt hbg hr
  obtain ⟨⟨r0, r1, r2, r3, r4⟩, ⟨s0, s1, s2, s3⟩, rb⟩ := r
  unfold tokV Gk.v Gm.v at CW
  obtain ⟨gr, ge, gq, gl⟩ := g
  obtain ⟨ton, tr, ta, tn, tl⟩ := t
  unfold Gk.v at CT CV ⊢
  unfold Gm.v at CG CV ⊢
  dsimp only at CT CG CV CW TB ⊢
  clear hM BIG
  have X0 := Lib.hid (((((Bk.new w #[.slice A n c, .slice B k d, .int .i64 m.til] 26).alloc (.cells #[.bool ton, .int .i64 tr, .int .i64 ta, .int .i64 tn, .int .i64 tl] 28)).alloc (.cells #[.int .i64 gr, .int .i64 ge, .int .i64 gq, .int .i64 gl] 30)).alloc (.cells #[.bool false, .int .i64 0, .int .i64 0, .int .i64 0, .int .i64 0] 28)).alloc (.cells #[.int .i64 0, .int .i64 0, .int .i64 0, .int .i64 0] 30))
  have X1 := Lib.hid ((((Bk.new (w.alloc (.cells #[.slice A n c, .slice B k d, .int .i64 m.til] 26)) #[.bool ton, .int .i64 tr, .int .i64 ta, .int .i64 tn, .int .i64 tl] 28).alloc (.cells #[.int .i64 gr, .int .i64 ge, .int .i64 gq, .int .i64 gl] 30)).alloc (.cells #[.bool false, .int .i64 0, .int .i64 0, .int .i64 0, .int .i64 0] 28)).alloc (.cells #[.int .i64 0, .int .i64 0, .int .i64 0, .int .i64 0] 30))
  have X2 := Lib.hid (((Bk.new ((w.alloc (.cells #[.slice A n c, .slice B k d, .int .i64 m.til] 26)).alloc (.cells #[.bool ton, .int .i64 tr, .int .i64 ta, .int .i64 tn, .int .i64 tl] 28)) #[.int .i64 gr, .int .i64 ge, .int .i64 gq, .int .i64 gl] 30).alloc (.cells #[.bool false, .int .i64 0, .int .i64 0, .int .i64 0, .int .i64 0] 28)).alloc (.cells #[.int .i64 0, .int .i64 0, .int .i64 0, .int .i64 0] 30))
  have X3 := Lib.hid ((Bk.new (((w.alloc (.cells #[.slice A n c, .slice B k d, .int .i64 m.til] 26)).alloc (.cells #[.bool ton, .int .i64 tr, .int .i64 ta, .int .i64 tn, .int .i64 tl] 28)).alloc (.cells #[.int .i64 gr, .int .i64 ge, .int .i64 gq, .int .i64 gl] 30)) #[.bool false, .int .i64 0, .int .i64 0, .int .i64 0, .int .i64 0] 28).alloc (.cells #[.int .i64 0, .int .i64 0, .int .i64 0, .int .i64 0] 30))
  have X4 := Lib.hid (Bk.new ((((w.alloc (.cells #[.slice A n c, .slice B k d, .int .i64 m.til] 26)).alloc (.cells #[.bool ton, .int .i64 tr, .int .i64 ta, .int .i64 tn, .int .i64 tl] 28)).alloc (.cells #[.int .i64 gr, .int .i64 ge, .int .i64 gq, .int .i64 gl] 30)).alloc (.cells #[.bool false, .int .i64 0, .int .i64 0, .int .i64 0, .int .i64 0] 28)) #[.int .i64 0, .int .i64 0, .int .i64 0, .int .i64 0] 30)
  simp only [World.size_alloc] at X1 X2 X3 X4
  have U0 := Lib.hid ((((((Up.refl w).alloc (.cells #[.slice A n c, .slice B k d, .int .i64 m.til] 26)).alloc (.cells #[.bool ton, .int .i64 tr, .int .i64 ta, .int .i64 tn, .int .i64 tl] 28)).alloc (.cells #[.int .i64 gr, .int .i64 ge, .int .i64 gq, .int .i64 gl] 30)).alloc (.cells #[.bool false, .int .i64 0, .int .i64 0, .int .i64 0, .int .i64 0] 28)).alloc (.cells #[.int .i64 0, .int .i64 0, .int .i64 0, .int .i64 0] 30))
  have N34 := Lib.hid (show w.heap.size + 1 + 1 + 1 ≠ w.heap.size + 1 + 1 + 1 + 1 by omega)
  have NL := Lib.hid (show w.heap.size ≤ w.heap.size + 1 + 1 + 1 ∧ w.heap.size ≤ w.heap.size + 1 + 1 + 1 + 1 by omega)
  unfold MachPost at CM
  go_enter Try.func6, Try.ntmps6
  go_wp2_with fail
  generalize (((((w.alloc (.cells #[.slice A n c, .slice B k d, .int .i64 m.til] 26)).alloc (.cells #[.bool ton, .int .i64 tr, .int .i64 ta, .int .i64 tn, .int .i64 tl] 28)).alloc (.cells #[.int .i64 gr, .int .i64 ge, .int .i64 gq, .int .i64 gl] 30)).alloc (.cells #[.bool false, .int .i64 0, .int .i64 0, .int .i64 0, .int .i64 0] 28)).alloc (.cells #[.int .i64 0, .int .i64 0, .int .i64 0, .int .i64 0] 30)) = W at *
  generalize hb4 : w.heap.size + 1 + 1 + 1 + 1 = b4 at *
  generalize hb3 : w.heap.size + 1 + 1 + 1 = b3 at *
  generalize hb2 : w.heap.size + 1 + 1 = b2 at *
  generalize hb1 : w.heap.size + 1 = b1 at *
  clear hb1 hb2 hb3 hb4
  refine (CM.out _ U0.out).mono ?_
  rintro x w1 ⟨u1, h⟩
  have U := Lib.hid (U0.out.trans u1)
  replace X0 := Lib.hid (X0.out.up u1)
  replace X1 := Lib.hid (X1.out.up u1)
  replace X2 := Lib.hid (X2.out.up u1)
  replace X3 := Lib.hid (X3.out.up u1)
  replace X4 := Lib.hid (X4.out.up u1)
  clear u1 CM
  rcases h with ⟨hm, rfl⟩ | ⟨hm, b, rfl, _, _⟩
  · replace TB := Lib.hid (show tokB m t0 g0 least = (false && bt && bg && bv) by rw [TB.out, hm])
    clear hm
    have ua := (Up.refl w1).alloc (.cells #[.map none, .int .i64 0, .int .i64 0] 59)
    replace U := Lib.hid (U.out.trans ua)
    replace X0 := Lib.hid (X0.out.up ua)
    replace X1 := Lib.hid (X1.out.up ua)
    replace X2 := Lib.hid (X2.out.up ua)
    replace X3 := Lib.hid (X3.out.up ua)
    replace X4 := Lib.hid (X4.out.up ua)
    clear ua
    have RZ := Lib.hid (show tokV (tokP m t0 g0 least) = .tuple #[.agg #[.bool false, .int .i64 0, .int .i64 0, .int .i64 0, .int .i64 0], .agg #[.int .i64 0, .int .i64 0, .int .i64 0, .int .i64 0], .int .i64 (-1)] by rw [tokP_no (by rw [TB.out]; rfl)]; rfl)
    have v30 := X3.out.cell (j := 0) rfl
    have v31 := X3.out.cell (j := 1) rfl
    have v32 := X3.out.cell (j := 2) rfl
    have v33 := X3.out.cell (j := 3) rfl
    have v34 := X3.out.cell (j := 4) rfl
    have u40 := X4.out.cell (j := 0) rfl
    have u41 := X4.out.cell (j := 1) rfl
    have u42 := X4.out.cell (j := 2) rfl
    have u43 := X4.out.cell (j := 3) rfl
    have lt3 := X3.out.lt
    have lt4 := X4.out.lt
    have ff3 := fun j => X3.out.frozen j
    have ff4 := fun j => X4.out.frozen j
    have hne := N34.out
    have hne2 := N34.out.symm
    have K := Lib.hid (putTM_at X3.out X4.out N34.out (⟨false, 0, 0, 0, 0⟩) (⟨0, 0, 0, 0⟩))
    have UE := Lib.hid (putTM_up U.out NL.out.1 NL.out.2 (⟨false, 0, 0, 0, 0⟩) (⟨0, 0, 0, 0⟩))
    unfold putTM at K UE
    dsimp only at K UE
    clear TB
    go_wp2
    obtain ⟨k0, k1, k2, k3, k4, k5, k6, k7, k8⟩ := K.out
    exact bodyPost_ret (v := .tuple #[.agg #[.bool false, .int .i64 0, .int .i64 0, .int .i64 0, .int .i64 0], .agg #[.int .i64 0, .int .i64 0, .int .i64 0, .int .i64 0], .int .i64 (-1)]) (by simp [results, Try.results6, go_sem, k0, k1, k2, k3, k4, k5, k6, k7, k8]) rfl ⟨congrArg Ending.returned RZ.out.symm, UE.out⟩
  · have PM := Lib.hid hm
    replace TB := Lib.hid (show tokB m t0 g0 least = (bt && bg && bv) by rw [TB.out, hm, Bool.true_and])
    clear hm
    have ua := (Up.refl w1).alloc (.cells #[.map (some b), .int .i64 m.rules.length, .int .i64 m.til] 59)
    have X5 := Lib.hid (Bk.new w1 #[.map (some b), .int .i64 m.rules.length, .int .i64 m.til] 59)
    replace U := Lib.hid (U.out.trans ua)
    replace X0 := Lib.hid (X0.out.up ua)
    replace X1 := Lib.hid (X1.out.up ua)
    replace X2 := Lib.hid (X2.out.up ua)
    replace X3 := Lib.hid (X3.out.up ua)
    replace X4 := Lib.hid (X4.out.up ua)
    have y10 := (X1.out).cell (j := 0) rfl
    have y11 := (X1.out).cell (j := 1) rfl
    have y12 := (X1.out).cell (j := 2) rfl
    have y13 := (X1.out).cell (j := 3) rfl
    have y14 := (X1.out).cell (j := 4) rfl
    have lt1 := X1.out.lt
    have p0 := X5.out.cell (j := 0) rfl
    have p1 := X5.out.cell (j := 1) rfl
    have p2 := X5.out.cell (j := 2) rfl
    have l5 := X5.out.lt
    clear ua
    go_wp2_with fail
    generalize w1.alloc (.cells #[.map (some b), .int .i64 m.rules.length, .int .i64 m.til] 59) = W2 at *
    generalize hb5 : w1.heap.size = b5 at *
    clear hb5
    refine (CT.out (some b) _ PM.out).mono ?_
    rintro x w2 ⟨rfl, u2⟩
    clear p0 p1 p2 l5
    clear y10 y11 y12 y13 y14 lt1
    replace U := Lib.hid (U.out.trans u2)
    replace X5 := Lib.hid (X5.out.up u2)
    replace X0 := Lib.hid (X0.out.up u2)
    replace X1 := Lib.hid (X1.out.up u2)
    replace X2 := Lib.hid (X2.out.up u2)
    replace X3 := Lib.hid (X3.out.up u2)
    replace X4 := Lib.hid (X4.out.up u2)
    clear u2 CT
    cases bt
    · have RZ := Lib.hid (show tokV (tokP m t0 g0 least) = .tuple #[.agg #[.bool false, .int .i64 0, .int .i64 0, .int .i64 0, .int .i64 0], .agg #[.int .i64 0, .int .i64 0, .int .i64 0, .int .i64 0], .int .i64 (-1)] by rw [tokP_no (by rw [TB.out]; rfl)]; rfl)
      have v30 := X3.out.cell (j := 0) rfl
      have v31 := X3.out.cell (j := 1) rfl
      have v32 := X3.out.cell (j := 2) rfl
      have v33 := X3.out.cell (j := 3) rfl
      have v34 := X3.out.cell (j := 4) rfl
      have u40 := X4.out.cell (j := 0) rfl
      have u41 := X4.out.cell (j := 1) rfl
      have u42 := X4.out.cell (j := 2) rfl
      have u43 := X4.out.cell (j := 3) rfl
      have lt3 := X3.out.lt
      have lt4 := X4.out.lt
      have ff3 := fun j => X3.out.frozen j
      have ff4 := fun j => X4.out.frozen j
      have hne := N34.out
      have hne2 := N34.out.symm
      have K := Lib.hid (putTM_at X3.out X4.out N34.out (⟨false, 0, 0, 0, 0⟩) (⟨0, 0, 0, 0⟩))
      have UE := Lib.hid (putTM_up U.out NL.out.1 NL.out.2 (⟨false, 0, 0, 0, 0⟩) (⟨0, 0, 0, 0⟩))
      unfold putTM at K UE
      dsimp only at K UE
      clear TB
      go_wp2
      obtain ⟨k0, k1, k2, k3, k4, k5, k6, k7, k8⟩ := K.out
      exact bodyPost_ret (v := .tuple #[.agg #[.bool false, .int .i64 0, .int .i64 0, .int .i64 0, .int .i64 0], .agg #[.int .i64 0, .int .i64 0, .int .i64 0, .int .i64 0], .int .i64 (-1)]) (by simp [results, Try.results6, go_sem, k0, k1, k2, k3, k4, k5, k6, k7, k8]) rfl ⟨congrArg Ending.returned RZ.out.symm, UE.out⟩
    · have p0 := X5.out.cell (j := 0) rfl
      have p1 := X5.out.cell (j := 1) rfl
      have p2 := X5.out.cell (j := 2) rfl
      have l5 := X5.out.lt
      have x20 := X2.out.cell (j := 0) rfl
      have x21 := X2.out.cell (j := 1) rfl
      have x22 := X2.out.cell (j := 2) rfl
      have x23 := X2.out.cell (j := 3) rfl
      have lt2 := X2.out.lt
      go_wp2_with fail
      refine (CG.out (some b) _ PM.out).mono ?_
      rintro x w3 ⟨rfl, u3⟩
      clear p0 p1 p2 l5
      clear x20 x21 x22 x23 lt2
      replace U := Lib.hid (U.out.trans u3)
      replace X5 := Lib.hid (X5.out.up u3)
      replace X0 := Lib.hid (X0.out.up u3)
      replace X1 := Lib.hid (X1.out.up u3)
      replace X2 := Lib.hid (X2.out.up u3)
      replace X3 := Lib.hid (X3.out.up u3)
      replace X4 := Lib.hid (X4.out.up u3)
      clear u3 CG
      cases bg
      · have RZ := Lib.hid (show tokV (tokP m t0 g0 least) = .tuple #[.agg #[.bool false, .int .i64 0, .int .i64 0, .int .i64 0, .int .i64 0], .agg #[.int .i64 0, .int .i64 0, .int .i64 0, .int .i64 0], .int .i64 (-1)] by rw [tokP_no (by rw [TB.out]; rfl)]; rfl)
        have v30 := X3.out.cell (j := 0) rfl
        have v31 := X3.out.cell (j := 1) rfl
        have v32 := X3.out.cell (j := 2) rfl
        have v33 := X3.out.cell (j := 3) rfl
        have v34 := X3.out.cell (j := 4) rfl
        have u40 := X4.out.cell (j := 0) rfl
        have u41 := X4.out.cell (j := 1) rfl
        have u42 := X4.out.cell (j := 2) rfl
        have u43 := X4.out.cell (j := 3) rfl
        have lt3 := X3.out.lt
        have lt4 := X4.out.lt
        have ff3 := fun j => X3.out.frozen j
        have ff4 := fun j => X4.out.frozen j
        have hne := N34.out
        have hne2 := N34.out.symm
        have K := Lib.hid (putTM_at X3.out X4.out N34.out (⟨false, 0, 0, 0, 0⟩) (⟨0, 0, 0, 0⟩))
        have UE := Lib.hid (putTM_up U.out NL.out.1 NL.out.2 (⟨false, 0, 0, 0, 0⟩) (⟨0, 0, 0, 0⟩))
        unfold putTM at K UE
        dsimp only at K UE
        clear TB
        go_wp2
        obtain ⟨k0, k1, k2, k3, k4, k5, k6, k7, k8⟩ := K.out
        exact bodyPost_ret (v := .tuple #[.agg #[.bool false, .int .i64 0, .int .i64 0, .int .i64 0, .int .i64 0], .agg #[.int .i64 0, .int .i64 0, .int .i64 0, .int .i64 0], .int .i64 (-1)]) (by simp [results, Try.results6, go_sem, k0, k1, k2, k3, k4, k5, k6, k7, k8]) rfl ⟨congrArg Ending.returned RZ.out.symm, UE.out⟩
      · have p0 := X5.out.cell (j := 0) rfl
        have p1 := X5.out.cell (j := 1) rfl
        have p2 := X5.out.cell (j := 2) rfl
        have l5 := X5.out.lt
        have y10 := X1.out.cell (j := 0) rfl
        have y11 := X1.out.cell (j := 1) rfl
        have y12 := X1.out.cell (j := 2) rfl
        have y13 := X1.out.cell (j := 3) rfl
        have y14 := X1.out.cell (j := 4) rfl
        have x20 := X2.out.cell (j := 0) rfl
        have x21 := X2.out.cell (j := 1) rfl
        have x22 := X2.out.cell (j := 2) rfl
        have x23 := X2.out.cell (j := 3) rfl
        have lt1 := X1.out.lt
        have lt2 := X2.out.lt
        go_wp2_with fail
        refine (CV.out (some b) _ PM.out (by first | trivial | rfl) (by first | trivial | rfl)).mono ?_
        rintro x w4 ⟨rfl, u4⟩
        clear p0 p1 p2 l5
        clear y10 y11 y12 y13 y14 x20 x21 x22 x23 lt1 lt2
        replace U := Lib.hid (U.out.trans u4)
        replace X5 := Lib.hid (X5.out.up u4)
        replace X0 := Lib.hid (X0.out.up u4)
        replace X1 := Lib.hid (X1.out.up u4)
        replace X2 := Lib.hid (X2.out.up u4)
        replace X3 := Lib.hid (X3.out.up u4)
        replace X4 := Lib.hid (X4.out.up u4)
        clear u4 CV
        cases bv
        · have RZ := Lib.hid (show tokV (tokP m t0 g0 least) = .tuple #[.agg #[.bool false, .int .i64 0, .int .i64 0, .int .i64 0, .int .i64 0], .agg #[.int .i64 0, .int .i64 0, .int .i64 0, .int .i64 0], .int .i64 (-1)] by rw [tokP_no (by rw [TB.out]; rfl)]; rfl)
          have v30 := X3.out.cell (j := 0) rfl
          have v31 := X3.out.cell (j := 1) rfl
          have v32 := X3.out.cell (j := 2) rfl
          have v33 := X3.out.cell (j := 3) rfl
          have v34 := X3.out.cell (j := 4) rfl
          have u40 := X4.out.cell (j := 0) rfl
          have u41 := X4.out.cell (j := 1) rfl
          have u42 := X4.out.cell (j := 2) rfl
          have u43 := X4.out.cell (j := 3) rfl
          have lt3 := X3.out.lt
          have lt4 := X4.out.lt
          have ff3 := fun j => X3.out.frozen j
          have ff4 := fun j => X4.out.frozen j
          have hne := N34.out
          have hne2 := N34.out.symm
          have K := Lib.hid (putTM_at X3.out X4.out N34.out (⟨false, 0, 0, 0, 0⟩) (⟨0, 0, 0, 0⟩))
          have UE := Lib.hid (putTM_up U.out NL.out.1 NL.out.2 (⟨false, 0, 0, 0, 0⟩) (⟨0, 0, 0, 0⟩))
          unfold putTM at K UE
          dsimp only at K UE
          clear TB
          go_wp2
          obtain ⟨k0, k1, k2, k3, k4, k5, k6, k7, k8⟩ := K.out
          exact bodyPost_ret (v := .tuple #[.agg #[.bool false, .int .i64 0, .int .i64 0, .int .i64 0, .int .i64 0], .agg #[.int .i64 0, .int .i64 0, .int .i64 0, .int .i64 0], .int .i64 (-1)]) (by simp [results, Try.results6, go_sem, k0, k1, k2, k3, k4, k5, k6, k7, k8]) rfl ⟨congrArg Ending.returned RZ.out.symm, UE.out⟩
        · have RY := Lib.hid (show tokV (tokP m t0 g0 least) = .tuple #[.agg #[.bool r0, .int .i64 r1, .int .i64 r2, .int .i64 r3, .int .i64 r4], .agg #[.int .i64 s0, .int .i64 s1, .int .i64 s2, .int .i64 s3], .int .i64 rb] by rw [TY.out (by rw [TB.out]; rfl)]; rfl)
          clear TB TY
          have p0 := X5.out.cell (j := 0) rfl
          have p1 := X5.out.cell (j := 1) rfl
          have p2 := X5.out.cell (j := 2) rfl
          have l5 := X5.out.lt
          have y10 := X1.out.cell (j := 0) rfl
          have y11 := X1.out.cell (j := 1) rfl
          have y12 := X1.out.cell (j := 2) rfl
          have y13 := X1.out.cell (j := 3) rfl
          have y14 := X1.out.cell (j := 4) rfl
          have x20 := X2.out.cell (j := 0) rfl
          have x21 := X2.out.cell (j := 1) rfl
          have x22 := X2.out.cell (j := 2) rfl
          have x23 := X2.out.cell (j := 3) rfl
          have lt1 := X1.out.lt
          have lt2 := X2.out.lt
          go_wp2_with fail
          refine (CW.out (some b) _ PM.out (by first | trivial | rfl) (by first | trivial | rfl)).mono ?_
          rintro x w5 ⟨rfl, u5⟩
          clear p0 p1 p2 l5
          clear y10 y11 y12 y13 y14 x20 x21 x22 x23 lt1 lt2
          replace U := Lib.hid (U.out.trans u5)
          replace X0 := Lib.hid (X0.out.up u5)
          replace X1 := Lib.hid (X1.out.up u5)
          replace X2 := Lib.hid (X2.out.up u5)
          replace X3 := Lib.hid (X3.out.up u5)
          replace X4 := Lib.hid (X4.out.up u5)
          clear u5 CW
          have v30 := X3.out.cell (j := 0) rfl
          have v31 := X3.out.cell (j := 1) rfl
          have v32 := X3.out.cell (j := 2) rfl
          have v33 := X3.out.cell (j := 3) rfl
          have v34 := X3.out.cell (j := 4) rfl
          have u40 := X4.out.cell (j := 0) rfl
          have u41 := X4.out.cell (j := 1) rfl
          have u42 := X4.out.cell (j := 2) rfl
          have u43 := X4.out.cell (j := 3) rfl
          have lt3 := X3.out.lt
          have lt4 := X4.out.lt
          have ff3 := fun j => X3.out.frozen j
          have ff4 := fun j => X4.out.frozen j
          have hne := N34.out
          have hne2 := N34.out.symm
          have K := Lib.hid (putTM_at X3.out X4.out N34.out (⟨r0, r1, r2, r3, r4⟩) (⟨s0, s1, s2, s3⟩))
          have UE := Lib.hid (putTM_up U.out NL.out.1 NL.out.2 (⟨r0, r1, r2, r3, r4⟩) (⟨s0, s1, s2, s3⟩))
          unfold putTM at K UE
          dsimp only at K UE
          go_wp2
          obtain ⟨k0, k1, k2, k3, k4, k5, k6, k7, k8⟩ := K.out
          exact bodyPost_ret (v := .tuple #[.agg #[.bool r0, .int .i64 r1, .int .i64 r2, .int .i64 r3, .int .i64 r4], .agg #[.int .i64 s0, .int .i64 s1, .int .i64 s2, .int .i64 s3], .int .i64 rb]) (by simp [results, Try.results6, go_sem, k0, k1, k2, k3, k4, k5, k6, k7, k8]) rfl ⟨congrArg Ending.returned RY.out.symm, UE.out⟩

end Go.Proofs.Ytpainlcehgiokaa

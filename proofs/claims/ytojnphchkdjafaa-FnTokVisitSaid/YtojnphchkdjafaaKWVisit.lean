/-
  What FnTokVisit returns, in one sentence: true, with new blocks alone; for every code.
-/
import Derived.Test.YtojnphchkdjafaaKA
import Derived.Test.YtojnphchkdjafaaKSVisit
import Derived.Test.YtojnphchkdjafaaKT2
import Derived.Test.YtojnphchkdjafaaKT3
import Derived.Test.YtojnphchkdjafaaKGkNe
import Derived.Test.YtojnphchkdjafaaKVisForm
namespace Go.Proofs.Ytojnphchkdjafaa
set_option maxRecDepth 100000
open Go.RowKit
set_option linter.unusedVariables false

set_option maxHeartbeats 40000000 in
theorem walkVisit {w : World} (A0 : Option Addr) (n0 cap0 : Nat) (hc0 : n0 ≤ cap0) (hmax0 : cap0 ≤ 9223372036854775807) (hB0 : Bys w A0 n0 w.heap.size) :
    Calls Try.prog 4 #[.slice A0 n0 cap0] w fun x w' => x = .returned (.bool true) ∧ Up w w' := by
  have HB0 := Lib.hid hB0
  clear hB0
  by_cases h : 1048576 < n0
  · have h' : (1048576 : Int) < n0 := by omega
    go_enter Try.func4, Try.ntmps4
    go_wp2
    go_ret
    exact ⟨rfl, Up.refl _⟩
  have h' : ¬ (1048576 : Int) < n0 := by omega
  go_enter Try.func4, Try.ntmps4
  go_wp2_with fail
  refine (drawVis_any A0 n0 cap0 _ hc0 hmax0 HB0.out).mono ?_
  rintro x w1 ⟨A, n, c, B, k, d, m, t, g, least, rfl, mv1, ⟨hn, _, _⟩, _, u1⟩
  have CI := Lib.hid (fun W (hM : MdlV W A n B k m) => implVisit_any A n c B k d m t g least W hM)
  have CS := Lib.hid (fun W (hM : MdlV W A n B k m) => specVisit_any A n c B k d m t g least W hM)
  have LR := Lib.hid (show m.rules.length = n from mv1.rules.1)
  obtain ⟨r, hr⟩ : ∃ r, tokP m t g least = r := ⟨_, rfl⟩
  rw [hr] at CI CS
  have HR := Lib.hid hr
  have HF := Lib.hid (fun h : tokB m t g least = true => vis_form h LR.out)
  have HZ := Lib.hid (fun h : tokB m t g least = false => tokP_no h)
  rw [hr] at HF HZ
  clear hr HR LR
  generalize tokB m t g least = tb at HF HZ
  obtain ⟨⟨r0, r1, r2, r3, r4⟩, ⟨s0, s1, s2, s3⟩, rb⟩ := r
  obtain ⟨gr, ge, gq, gl⟩ := g
  obtain ⟨ton, tr, ta, tn, tl⟩ := t
  unfold tokV at CI CS
  unfold Gk.v Gm.v at CI CS ⊢
  dsimp only at CI CS HF HZ ⊢
  have X3 := Lib.hid (((Bk.new w1 #[.slice A n c, .slice B k d, .int .i64 m.til] 26).alloc (.cells #[.bool ton, .int .i64 tr, .int .i64 ta, .int .i64 tn, .int .i64 tl] 32)).alloc (.cells #[.int .i64 gr, .int .i64 ge, .int .i64 gq, .int .i64 gl] 28))
  have X4 := Lib.hid ((Bk.new (w1.alloc (.cells #[.slice A n c, .slice B k d, .int .i64 m.til] 26)) #[.bool ton, .int .i64 tr, .int .i64 ta, .int .i64 tn, .int .i64 tl] 32).alloc (.cells #[.int .i64 gr, .int .i64 ge, .int .i64 gq, .int .i64 gl] 28))
  have X5 := Lib.hid (Bk.new ((w1.alloc (.cells #[.slice A n c, .slice B k d, .int .i64 m.til] 26)).alloc (.cells #[.bool ton, .int .i64 tr, .int .i64 ta, .int .i64 tn, .int .i64 tl] 32)) #[.int .i64 gr, .int .i64 ge, .int .i64 gq, .int .i64 gl] 28)
  simp only [World.size_alloc] at X4 X5
  have ua := ((((Up.refl w1).alloc (.cells #[.slice A n c, .slice B k d, .int .i64 m.til] 26)).alloc (.cells #[.bool ton, .int .i64 tr, .int .i64 ta, .int .i64 tn, .int .i64 tl] 32)).alloc (.cells #[.int .i64 gr, .int .i64 ge, .int .i64 gq, .int .i64 gl] 28))
  have MV := Lib.hid (mv1.up ua)
  have UM := Lib.hid (u1.trans ua)
  clear mv1 u1 ua HB0 h
  go_wp2_with fail
  generalize (((w1.alloc (.cells #[.slice A n c, .slice B k d, .int .i64 m.til] 26)).alloc (.cells #[.bool ton, .int .i64 tr, .int .i64 ta, .int .i64 tn, .int .i64 tl] 32)).alloc (.cells #[.int .i64 gr, .int .i64 ge, .int .i64 gq, .int .i64 gl] 28)) = W1 at *
  generalize w1.heap.size + 1 + 1 = b5 at *
  generalize w1.heap.size + 1 = b4 at *
  generalize w1.heap.size = b3 at *
  refine (CI.out _ MV.out).mono ?_
  rintro x w2 ⟨rfl, u9⟩
  replace UM := Lib.hid (UM.out.trans u9)
  replace MV := Lib.hid (MV.out.up u9)
  replace X3 := Lib.hid (X3.out.up u9)
  replace X4 := Lib.hid (X4.out.up u9)
  replace X5 := Lib.hid (X5.out.up u9)
  clear u9
  have X7 := Lib.hid ((Bk.new w2 #[.bool r0, .int .i64 r1, .int .i64 r2, .int .i64 r3, .int .i64 r4] 32).alloc (.cells #[.int .i64 s0, .int .i64 s1, .int .i64 s2, .int .i64 s3] 28))
  have X8 := Lib.hid (Bk.new (w2.alloc (.cells #[.bool r0, .int .i64 r1, .int .i64 r2, .int .i64 r3, .int .i64 r4] 32)) #[.int .i64 s0, .int .i64 s1, .int .i64 s2, .int .i64 s3] 28)
  simp only [World.size_alloc] at X8
  have ua := (((Up.refl w2).alloc (.cells #[.bool r0, .int .i64 r1, .int .i64 r2, .int .i64 r3, .int .i64 r4] 32)).alloc (.cells #[.int .i64 s0, .int .i64 s1, .int .i64 s2, .int .i64 s3] 28))
  replace UM := Lib.hid (UM.out.trans ua)
  replace MV := Lib.hid (MV.out.up ua)
  replace X3 := Lib.hid (X3.out.up ua)
  replace X4 := Lib.hid (X4.out.up ua)
  replace X5 := Lib.hid (X5.out.up ua)
  clear ua
  have x3_0 := X3.out.cell (j := 0) rfl
  have x3_1 := X3.out.cell (j := 1) rfl
  have x3_2 := X3.out.cell (j := 2) rfl
  have x4_0 := X4.out.cell (j := 0) rfl
  have x4_1 := X4.out.cell (j := 1) rfl
  have x4_2 := X4.out.cell (j := 2) rfl
  have x4_3 := X4.out.cell (j := 3) rfl
  have x4_4 := X4.out.cell (j := 4) rfl
  have x5_0 := X5.out.cell (j := 0) rfl
  have x5_1 := X5.out.cell (j := 1) rfl
  have x5_2 := X5.out.cell (j := 2) rfl
  have x5_3 := X5.out.cell (j := 3) rfl
  have lx3 := X3.out.lt
  have lx4 := X4.out.lt
  have lx5 := X5.out.lt
  go_wp2_with fail
  generalize ((w2.alloc (.cells #[.bool r0, .int .i64 r1, .int .i64 r2, .int .i64 r3, .int .i64 r4] 32)).alloc (.cells #[.int .i64 s0, .int .i64 s1, .int .i64 s2, .int .i64 s3] 28)) = W2 at *
  generalize w2.heap.size + 1 = b8 at *
  generalize w2.heap.size = b7 at *
  refine (CS.out _ MV.out).mono ?_
  rintro x w3 ⟨rfl, u9⟩
  clear x3_0 x3_1 x3_2 x4_0 x4_1 x4_2 x4_3 x4_4 x5_0 x5_1 x5_2 x5_3 lx3 lx4 lx5
  replace UM := Lib.hid (UM.out.trans u9)
  replace MV := Lib.hid (MV.out.up u9)
  replace X3 := Lib.hid (X3.out.up u9)
  replace X4 := Lib.hid (X4.out.up u9)
  replace X5 := Lib.hid (X5.out.up u9)
  replace X7 := Lib.hid (X7.out.up u9)
  replace X8 := Lib.hid (X8.out.up u9)
  clear u9 CI CS
  have X10 := Lib.hid ((Bk.new w3 #[.bool r0, .int .i64 r1, .int .i64 r2, .int .i64 r3, .int .i64 r4] 32).alloc (.cells #[.int .i64 s0, .int .i64 s1, .int .i64 s2, .int .i64 s3] 28))
  have X11 := Lib.hid (Bk.new (w3.alloc (.cells #[.bool r0, .int .i64 r1, .int .i64 r2, .int .i64 r3, .int .i64 r4] 32)) #[.int .i64 s0, .int .i64 s1, .int .i64 s2, .int .i64 s3] 28)
  simp only [World.size_alloc] at X11
  have ua := (((Up.refl w3).alloc (.cells #[.bool r0, .int .i64 r1, .int .i64 r2, .int .i64 r3, .int .i64 r4] 32)).alloc (.cells #[.int .i64 s0, .int .i64 s1, .int .i64 s2, .int .i64 s3] 28))
  replace UM := Lib.hid (UM.out.trans ua)
  replace MV := Lib.hid (MV.out.up ua)
  replace X3 := Lib.hid (X3.out.up ua)
  replace X4 := Lib.hid (X4.out.up ua)
  replace X5 := Lib.hid (X5.out.up ua)
  replace X7 := Lib.hid (X7.out.up ua)
  replace X8 := Lib.hid (X8.out.up ua)
  clear ua
  have j9 : (rb != rb) = false := by simp
  have GK := guard_gk
  have GM := guard_gm
  have NK := fun W => eqK_refl ⟨r0, r1, r2, r3, r4⟩ ▸ neq_gk ⟨r0, r1, r2, r3, r4⟩ ⟨r0, r1, r2, r3, r4⟩ W
  have NM := fun W => eqG_refl ⟨s0, s1, s2, s3⟩ ▸ neq_gm ⟨s0, s1, s2, s3⟩ ⟨s0, s1, s2, s3⟩ W
  unfold Gk.v at NK
  unfold Gm.v at NM
  dsimp only [Bool.not_true] at NK NM
  cases tb
  · have hz := HZ.out rfl
    injection hz with z1 z2
    injection z2 with z2 z3
    injection z1 with a0 a1 a2 a3 a4
    injection z2 with b0 b1 b2 b3
    subst a0 a1 a2 a3 a4 b0 b1 b2 b3 z3
    clear HF HZ
    have EZ := fun W => eqK_refl ⟨false, 0, 0, 0, 0⟩ ▸ eql_gk ⟨false, 0, 0, 0, 0⟩ ⟨false, 0, 0, 0, 0⟩ W
    unfold Gk.v at EZ
    dsimp only at EZ
    have x7_0 := X7.out.cell (j := 0) rfl
    have x7_1 := X7.out.cell (j := 1) rfl
    have x7_2 := X7.out.cell (j := 2) rfl
    have x7_3 := X7.out.cell (j := 3) rfl
    have x7_4 := X7.out.cell (j := 4) rfl
    have x8_0 := X8.out.cell (j := 0) rfl
    have x8_1 := X8.out.cell (j := 1) rfl
    have x8_2 := X8.out.cell (j := 2) rfl
    have x8_3 := X8.out.cell (j := 3) rfl
    have x10_0 := X10.out.cell (j := 0) rfl
    have x10_1 := X10.out.cell (j := 1) rfl
    have x10_2 := X10.out.cell (j := 2) rfl
    have x10_3 := X10.out.cell (j := 3) rfl
    have x10_4 := X10.out.cell (j := 4) rfl
    have x11_0 := X11.out.cell (j := 0) rfl
    have x11_1 := X11.out.cell (j := 1) rfl
    have x11_2 := X11.out.cell (j := 2) rfl
    have x11_3 := X11.out.cell (j := 3) rfl
    have lx7 := X7.out.lt
    have lx8 := X8.out.lt
    have lx10 := X10.out.lt
    have lx11 := X11.out.lt
    go_wp2_with fail
    refine (tbOk_any _).mono ?_
    rintro x w9 ⟨rfl, u9⟩
    go_wp2
    go_ret
    exact ⟨rfl, UM.out.trans u9⟩
  · obtain ⟨hon, hr9, ha9, hn9, he9, hq9, h4, ml, nn, y1, y2, hpar, hform⟩ := HF.out rfl
    try dsimp only at hon
    subst hon
    clear HF HZ
    have i3 : IntKind.i64.wrap (tn + ge) = tn + ge := IntWalk.i64_in _ (by omega)
    have i4 : IntKind.i64.wrap (tn + gq) = tn + gq := IntWalk.i64_in _ (by omega)
    have i5 : Int.tmod tr 2 = tr % 2 := Int.tmod_eq_emod_of_nonneg (by omega)
    have i7 : IntKind.i64.wrap ((n : Int) - 1) = (n : Int) - 1 := IntWalk.i64_in _ (by omega)
    rcases hpar with ⟨j2, e1, e2, e3⟩ | ⟨j2, e1, e2, e3⟩
    · try dsimp only at e1 e2 e3
      subst e1 e2 e3
      rcases hform with ⟨j3, l, hp⟩ | ⟨hlast, hnn, q, l, hqq, hl1, hp⟩ | ⟨hlast, hnn, l, hp⟩
      · injection hp with z1 z2
        injection z2 with z2 z3
        injection z1 with a0 a1 a2 a3 a4
        injection z2 with b0 b1 b2 b3
        replace a0 := a0.symm
        replace a1 := a1.symm
        replace a2 := a2.symm
        replace a3 := a3.symm
        replace a4 := a4.symm
        replace b0 := b0.symm
        replace b1 := b1.symm
        replace b2 := b2.symm
        replace b3 := b3.symm
        replace z3 := z3.symm
        subst a0 a1 a2 a3 a4 b0 b1 b2 b3 z3
        have k1 : (ta == (n : Int) - 1) = false := by simp; omega
        have k2 : (ta + 1 == 0) = false := by simp; omega
        have EZ := fun W => (show eqK ⟨true, tr, ta + 1, (tn + ge), l⟩ ⟨false, 0, 0, 0, 0⟩ = false from by simp [eqK]) ▸ eql_gk ⟨true, tr, ta + 1, (tn + ge), l⟩ ⟨false, 0, 0, 0, 0⟩ W
        unfold Gk.v at EZ
        dsimp only at EZ
        have x3_0 := X3.out.cell (j := 0) rfl
        have x3_1 := X3.out.cell (j := 1) rfl
        have x3_2 := X3.out.cell (j := 2) rfl
        have x4_0 := X4.out.cell (j := 0) rfl
        have x4_1 := X4.out.cell (j := 1) rfl
        have x4_2 := X4.out.cell (j := 2) rfl
        have x4_3 := X4.out.cell (j := 3) rfl
        have x4_4 := X4.out.cell (j := 4) rfl
        have x5_0 := X5.out.cell (j := 0) rfl
        have x5_1 := X5.out.cell (j := 1) rfl
        have x5_2 := X5.out.cell (j := 2) rfl
        have x5_3 := X5.out.cell (j := 3) rfl
        have x7_0 := X7.out.cell (j := 0) rfl
        have x7_1 := X7.out.cell (j := 1) rfl
        have x7_2 := X7.out.cell (j := 2) rfl
        have x7_3 := X7.out.cell (j := 3) rfl
        have x7_4 := X7.out.cell (j := 4) rfl
        have x8_0 := X8.out.cell (j := 0) rfl
        have x8_1 := X8.out.cell (j := 1) rfl
        have x8_2 := X8.out.cell (j := 2) rfl
        have x8_3 := X8.out.cell (j := 3) rfl
        have x10_0 := X10.out.cell (j := 0) rfl
        have x10_1 := X10.out.cell (j := 1) rfl
        have x10_2 := X10.out.cell (j := 2) rfl
        have x10_3 := X10.out.cell (j := 3) rfl
        have x10_4 := X10.out.cell (j := 4) rfl
        have x11_0 := X11.out.cell (j := 0) rfl
        have x11_1 := X11.out.cell (j := 1) rfl
        have x11_2 := X11.out.cell (j := 2) rfl
        have x11_3 := X11.out.cell (j := 3) rfl
        have lx3 := X3.out.lt
        have lx4 := X4.out.lt
        have lx5 := X5.out.lt
        have lx7 := X7.out.lt
        have lx8 := X8.out.lt
        have lx10 := X10.out.lt
        have lx11 := X11.out.lt
        go_wp2
        go_ret
        exact ⟨by first | rfl | exact ret_bool (by simp [*]), UM.out⟩
      · injection hp with z1 z2
        injection z2 with z2 z3
        injection z1 with a0 a1 a2 a3 a4
        injection z2 with b0 b1 b2 b3
        replace a0 := a0.symm
        replace a1 := a1.symm
        replace a2 := a2.symm
        replace a3 := a3.symm
        replace a4 := a4.symm
        replace b0 := b0.symm
        replace b1 := b1.symm
        replace b2 := b2.symm
        replace b3 := b3.symm
        replace z3 := z3.symm
        subst a0 a1 a2 a3 a4 b0 b1 b2 b3 z3
        subst hlast
        obtain ⟨kq0, kq1, kq2⟩ := hqq
        have k3 : ¬ least < q := by omega
        have k4 : ¬ tl < q := by omega
        have k5 : ¬ q < 0 := by omega
        have k6 : ¬ l = 0 := by omega
        have k7 : q ≥ 0 := by omega
        have EZ := fun W => (show eqK ⟨false, tr, 0, 0, l⟩ ⟨false, 0, 0, 0, 0⟩ = false from by simp [eqK, k6]) ▸ eql_gk ⟨false, tr, 0, 0, l⟩ ⟨false, 0, 0, 0, 0⟩ W
        unfold Gk.v at EZ
        dsimp only at EZ
        have x3_0 := X3.out.cell (j := 0) rfl
        have x3_1 := X3.out.cell (j := 1) rfl
        have x3_2 := X3.out.cell (j := 2) rfl
        have x4_0 := X4.out.cell (j := 0) rfl
        have x4_1 := X4.out.cell (j := 1) rfl
        have x4_2 := X4.out.cell (j := 2) rfl
        have x4_3 := X4.out.cell (j := 3) rfl
        have x4_4 := X4.out.cell (j := 4) rfl
        have x5_0 := X5.out.cell (j := 0) rfl
        have x5_1 := X5.out.cell (j := 1) rfl
        have x5_2 := X5.out.cell (j := 2) rfl
        have x5_3 := X5.out.cell (j := 3) rfl
        have x7_0 := X7.out.cell (j := 0) rfl
        have x7_1 := X7.out.cell (j := 1) rfl
        have x7_2 := X7.out.cell (j := 2) rfl
        have x7_3 := X7.out.cell (j := 3) rfl
        have x7_4 := X7.out.cell (j := 4) rfl
        have x8_0 := X8.out.cell (j := 0) rfl
        have x8_1 := X8.out.cell (j := 1) rfl
        have x8_2 := X8.out.cell (j := 2) rfl
        have x8_3 := X8.out.cell (j := 3) rfl
        have x10_0 := X10.out.cell (j := 0) rfl
        have x10_1 := X10.out.cell (j := 1) rfl
        have x10_2 := X10.out.cell (j := 2) rfl
        have x10_3 := X10.out.cell (j := 3) rfl
        have x10_4 := X10.out.cell (j := 4) rfl
        have x11_0 := X11.out.cell (j := 0) rfl
        have x11_1 := X11.out.cell (j := 1) rfl
        have x11_2 := X11.out.cell (j := 2) rfl
        have x11_3 := X11.out.cell (j := 3) rfl
        have lx3 := X3.out.lt
        have lx4 := X4.out.lt
        have lx5 := X5.out.lt
        have lx7 := X7.out.lt
        have lx8 := X8.out.lt
        have lx10 := X10.out.lt
        have lx11 := X11.out.lt
        go_wp2
        go_ret
        exact ⟨by first | rfl | exact ret_bool (by simp [*]), UM.out⟩
      · injection hp with z1 z2
        injection z2 with z2 z3
        injection z1 with a0 a1 a2 a3 a4
        injection z2 with b0 b1 b2 b3
        replace a0 := a0.symm
        replace a1 := a1.symm
        replace a2 := a2.symm
        replace a3 := a3.symm
        replace a4 := a4.symm
        replace b0 := b0.symm
        replace b1 := b1.symm
        replace b2 := b2.symm
        replace b3 := b3.symm
        replace z3 := z3.symm
        subst a0 a1 a2 a3 a4 b0 b1 b2 b3 z3
        subst hlast
        have EZ := fun W => (show eqK ⟨true, tr, 0, (tn + ge), l⟩ ⟨false, 0, 0, 0, 0⟩ = false from by simp [eqK]) ▸ eql_gk ⟨true, tr, 0, (tn + ge), l⟩ ⟨false, 0, 0, 0, 0⟩ W
        unfold Gk.v at EZ
        dsimp only at EZ
        have x3_0 := X3.out.cell (j := 0) rfl
        have x3_1 := X3.out.cell (j := 1) rfl
        have x3_2 := X3.out.cell (j := 2) rfl
        have x4_0 := X4.out.cell (j := 0) rfl
        have x4_1 := X4.out.cell (j := 1) rfl
        have x4_2 := X4.out.cell (j := 2) rfl
        have x4_3 := X4.out.cell (j := 3) rfl
        have x4_4 := X4.out.cell (j := 4) rfl
        have x5_0 := X5.out.cell (j := 0) rfl
        have x5_1 := X5.out.cell (j := 1) rfl
        have x5_2 := X5.out.cell (j := 2) rfl
        have x5_3 := X5.out.cell (j := 3) rfl
        have x7_0 := X7.out.cell (j := 0) rfl
        have x7_1 := X7.out.cell (j := 1) rfl
        have x7_2 := X7.out.cell (j := 2) rfl
        have x7_3 := X7.out.cell (j := 3) rfl
        have x7_4 := X7.out.cell (j := 4) rfl
        have x8_0 := X8.out.cell (j := 0) rfl
        have x8_1 := X8.out.cell (j := 1) rfl
        have x8_2 := X8.out.cell (j := 2) rfl
        have x8_3 := X8.out.cell (j := 3) rfl
        have x10_0 := X10.out.cell (j := 0) rfl
        have x10_1 := X10.out.cell (j := 1) rfl
        have x10_2 := X10.out.cell (j := 2) rfl
        have x10_3 := X10.out.cell (j := 3) rfl
        have x10_4 := X10.out.cell (j := 4) rfl
        have x11_0 := X11.out.cell (j := 0) rfl
        have x11_1 := X11.out.cell (j := 1) rfl
        have x11_2 := X11.out.cell (j := 2) rfl
        have x11_3 := X11.out.cell (j := 3) rfl
        have lx3 := X3.out.lt
        have lx4 := X4.out.lt
        have lx5 := X5.out.lt
        have lx7 := X7.out.lt
        have lx8 := X8.out.lt
        have lx10 := X10.out.lt
        have lx11 := X11.out.lt
        go_wp2
        go_ret
        exact ⟨by first | rfl | exact ret_bool (by simp [*]), UM.out⟩
    · try dsimp only at e1 e2 e3
      subst e1 e2 e3
      rcases hform with ⟨j3, l, hp⟩ | ⟨hlast, hnn, q, l, hqq, hl1, hp⟩ | ⟨hlast, hnn, l, hp⟩
      · injection hp with z1 z2
        injection z2 with z2 z3
        injection z1 with a0 a1 a2 a3 a4
        injection z2 with b0 b1 b2 b3
        replace a0 := a0.symm
        replace a1 := a1.symm
        replace a2 := a2.symm
        replace a3 := a3.symm
        replace a4 := a4.symm
        replace b0 := b0.symm
        replace b1 := b1.symm
        replace b2 := b2.symm
        replace b3 := b3.symm
        replace z3 := z3.symm
        subst a0 a1 a2 a3 a4 b0 b1 b2 b3 z3
        have k1 : (ta == (n : Int) - 1) = false := by simp; omega
        have k2 : (ta + 1 == 0) = false := by simp; omega
        have EZ := fun W => (show eqK ⟨true, tr, ta + 1, (tn + gq), l⟩ ⟨false, 0, 0, 0, 0⟩ = false from by simp [eqK]) ▸ eql_gk ⟨true, tr, ta + 1, (tn + gq), l⟩ ⟨false, 0, 0, 0, 0⟩ W
        unfold Gk.v at EZ
        dsimp only at EZ
        have x3_0 := X3.out.cell (j := 0) rfl
        have x3_1 := X3.out.cell (j := 1) rfl
        have x3_2 := X3.out.cell (j := 2) rfl
        have x4_0 := X4.out.cell (j := 0) rfl
        have x4_1 := X4.out.cell (j := 1) rfl
        have x4_2 := X4.out.cell (j := 2) rfl
        have x4_3 := X4.out.cell (j := 3) rfl
        have x4_4 := X4.out.cell (j := 4) rfl
        have x5_0 := X5.out.cell (j := 0) rfl
        have x5_1 := X5.out.cell (j := 1) rfl
        have x5_2 := X5.out.cell (j := 2) rfl
        have x5_3 := X5.out.cell (j := 3) rfl
        have x7_0 := X7.out.cell (j := 0) rfl
        have x7_1 := X7.out.cell (j := 1) rfl
        have x7_2 := X7.out.cell (j := 2) rfl
        have x7_3 := X7.out.cell (j := 3) rfl
        have x7_4 := X7.out.cell (j := 4) rfl
        have x8_0 := X8.out.cell (j := 0) rfl
        have x8_1 := X8.out.cell (j := 1) rfl
        have x8_2 := X8.out.cell (j := 2) rfl
        have x8_3 := X8.out.cell (j := 3) rfl
        have x10_0 := X10.out.cell (j := 0) rfl
        have x10_1 := X10.out.cell (j := 1) rfl
        have x10_2 := X10.out.cell (j := 2) rfl
        have x10_3 := X10.out.cell (j := 3) rfl
        have x10_4 := X10.out.cell (j := 4) rfl
        have x11_0 := X11.out.cell (j := 0) rfl
        have x11_1 := X11.out.cell (j := 1) rfl
        have x11_2 := X11.out.cell (j := 2) rfl
        have x11_3 := X11.out.cell (j := 3) rfl
        have lx3 := X3.out.lt
        have lx4 := X4.out.lt
        have lx5 := X5.out.lt
        have lx7 := X7.out.lt
        have lx8 := X8.out.lt
        have lx10 := X10.out.lt
        have lx11 := X11.out.lt
        go_wp2
        go_ret
        exact ⟨by first | rfl | exact ret_bool (by simp [*]), UM.out⟩
      · injection hp with z1 z2
        injection z2 with z2 z3
        injection z1 with a0 a1 a2 a3 a4
        injection z2 with b0 b1 b2 b3
        replace a0 := a0.symm
        replace a1 := a1.symm
        replace a2 := a2.symm
        replace a3 := a3.symm
        replace a4 := a4.symm
        replace b0 := b0.symm
        replace b1 := b1.symm
        replace b2 := b2.symm
        replace b3 := b3.symm
        replace z3 := z3.symm
        subst a0 a1 a2 a3 a4 b0 b1 b2 b3 z3
        subst hlast
        obtain ⟨kq0, kq1, kq2⟩ := hqq
        have k3 : ¬ least < q := by omega
        have k4 : ¬ tl < q := by omega
        have k5 : ¬ q < 0 := by omega
        have k6 : ¬ l = 0 := by omega
        have k7 : q ≥ 0 := by omega
        have EZ := fun W => (show eqK ⟨false, tr, 0, 0, l⟩ ⟨false, 0, 0, 0, 0⟩ = false from by simp [eqK, k6]) ▸ eql_gk ⟨false, tr, 0, 0, l⟩ ⟨false, 0, 0, 0, 0⟩ W
        unfold Gk.v at EZ
        dsimp only at EZ
        have x3_0 := X3.out.cell (j := 0) rfl
        have x3_1 := X3.out.cell (j := 1) rfl
        have x3_2 := X3.out.cell (j := 2) rfl
        have x4_0 := X4.out.cell (j := 0) rfl
        have x4_1 := X4.out.cell (j := 1) rfl
        have x4_2 := X4.out.cell (j := 2) rfl
        have x4_3 := X4.out.cell (j := 3) rfl
        have x4_4 := X4.out.cell (j := 4) rfl
        have x5_0 := X5.out.cell (j := 0) rfl
        have x5_1 := X5.out.cell (j := 1) rfl
        have x5_2 := X5.out.cell (j := 2) rfl
        have x5_3 := X5.out.cell (j := 3) rfl
        have x7_0 := X7.out.cell (j := 0) rfl
        have x7_1 := X7.out.cell (j := 1) rfl
        have x7_2 := X7.out.cell (j := 2) rfl
        have x7_3 := X7.out.cell (j := 3) rfl
        have x7_4 := X7.out.cell (j := 4) rfl
        have x8_0 := X8.out.cell (j := 0) rfl
        have x8_1 := X8.out.cell (j := 1) rfl
        have x8_2 := X8.out.cell (j := 2) rfl
        have x8_3 := X8.out.cell (j := 3) rfl
        have x10_0 := X10.out.cell (j := 0) rfl
        have x10_1 := X10.out.cell (j := 1) rfl
        have x10_2 := X10.out.cell (j := 2) rfl
        have x10_3 := X10.out.cell (j := 3) rfl
        have x10_4 := X10.out.cell (j := 4) rfl
        have x11_0 := X11.out.cell (j := 0) rfl
        have x11_1 := X11.out.cell (j := 1) rfl
        have x11_2 := X11.out.cell (j := 2) rfl
        have x11_3 := X11.out.cell (j := 3) rfl
        have lx3 := X3.out.lt
        have lx4 := X4.out.lt
        have lx5 := X5.out.lt
        have lx7 := X7.out.lt
        have lx8 := X8.out.lt
        have lx10 := X10.out.lt
        have lx11 := X11.out.lt
        go_wp2
        go_ret
        exact ⟨by first | rfl | exact ret_bool (by simp [*]), UM.out⟩
      · injection hp with z1 z2
        injection z2 with z2 z3
        injection z1 with a0 a1 a2 a3 a4
        injection z2 with b0 b1 b2 b3
        replace a0 := a0.symm
        replace a1 := a1.symm
        replace a2 := a2.symm
        replace a3 := a3.symm
        replace a4 := a4.symm
        replace b0 := b0.symm
        replace b1 := b1.symm
        replace b2 := b2.symm
        replace b3 := b3.symm
        replace z3 := z3.symm
        subst a0 a1 a2 a3 a4 b0 b1 b2 b3 z3
        subst hlast
        have EZ := fun W => (show eqK ⟨true, tr, 0, (tn + gq), l⟩ ⟨false, 0, 0, 0, 0⟩ = false from by simp [eqK]) ▸ eql_gk ⟨true, tr, 0, (tn + gq), l⟩ ⟨false, 0, 0, 0, 0⟩ W
        unfold Gk.v at EZ
        dsimp only at EZ
        have x3_0 := X3.out.cell (j := 0) rfl
        have x3_1 := X3.out.cell (j := 1) rfl
        have x3_2 := X3.out.cell (j := 2) rfl
        have x4_0 := X4.out.cell (j := 0) rfl
        have x4_1 := X4.out.cell (j := 1) rfl
        have x4_2 := X4.out.cell (j := 2) rfl
        have x4_3 := X4.out.cell (j := 3) rfl
        have x4_4 := X4.out.cell (j := 4) rfl
        have x5_0 := X5.out.cell (j := 0) rfl
        have x5_1 := X5.out.cell (j := 1) rfl
        have x5_2 := X5.out.cell (j := 2) rfl
        have x5_3 := X5.out.cell (j := 3) rfl
        have x7_0 := X7.out.cell (j := 0) rfl
        have x7_1 := X7.out.cell (j := 1) rfl
        have x7_2 := X7.out.cell (j := 2) rfl
        have x7_3 := X7.out.cell (j := 3) rfl
        have x7_4 := X7.out.cell (j := 4) rfl
        have x8_0 := X8.out.cell (j := 0) rfl
        have x8_1 := X8.out.cell (j := 1) rfl
        have x8_2 := X8.out.cell (j := 2) rfl
        have x8_3 := X8.out.cell (j := 3) rfl
        have x10_0 := X10.out.cell (j := 0) rfl
        have x10_1 := X10.out.cell (j := 1) rfl
        have x10_2 := X10.out.cell (j := 2) rfl
        have x10_3 := X10.out.cell (j := 3) rfl
        have x10_4 := X10.out.cell (j := 4) rfl
        have x11_0 := X11.out.cell (j := 0) rfl
        have x11_1 := X11.out.cell (j := 1) rfl
        have x11_2 := X11.out.cell (j := 2) rfl
        have x11_3 := X11.out.cell (j := 3) rfl
        have lx3 := X3.out.lt
        have lx4 := X4.out.lt
        have lx5 := X5.out.lt
        have lx7 := X7.out.lt
        have lx8 := X8.out.lt
        have lx10 := X10.out.lt
        have lx11 := X11.out.lt
        go_wp2
        go_ret
        exact ⟨by first | rfl | exact ret_bool (by simp [*]), UM.out⟩

end Go.Proofs.Ytojnphchkdjafaa

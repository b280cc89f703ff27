/-
  What l20Mark gives, in one sentence: a mark of some numbers, and the reader some steps further; for every reader.
-/
import Derived.Test.YtpainlcehgiokaaDLVisit21
namespace Go.Proofs.Ytpainlcehgiokaa
set_option maxRecDepth 100000
open Go.RowKit
set_option linter.unusedVariables false
set_option maxHeartbeats 8000000 in
theorem mark_any (g N : Nat) (A : Option Addr) (n c : Nat) (B : Option Addr) (k d : Nat) (til : Int) (num : Int) (w : World) (hnum : I64 num) (hN : N ≤ 900000) (hn : n ≤ 1000) (ht : -1 ≤ til ∧ til ≤ 100) (hR : Rd w g N) :
    Calls Try.prog 19 #[.pointer (some ⟨g, 0, none⟩), .agg #[.slice A n c, .slice B k d, .int .i64 til], .int .i64 num] w (GmDrawn g (N + 60) w) := by
  have hgw : g < w.heap.size := hR.lt'
  have HN := Lib.hid hnum
  have MM := Lib.hid (((Mv.refl g w).alloc (.cells #[.slice A n c, .slice B k d, .int .i64 til] 26)).alloc (.cells #[.int .i64 0, .int .i64 0, .int .i64 0, .int .i64 0] 30))
  have RR := Lib.hid ((hR.alloc (.cells #[.slice A n c, .slice B k d, .int .i64 til] 26)).alloc (.cells #[.int .i64 0, .int .i64 0, .int .i64 0, .int .i64 0] 30))
  have X4 := Lib.hid ((Bk.new w #[.slice A n c, .slice B k d, .int .i64 til] 26).alloc (.cells #[.int .i64 0, .int .i64 0, .int .i64 0, .int .i64 0] 30))
  have X6 := Lib.hid (Bk.new (w.alloc (.cells #[.slice A n c, .slice B k d, .int .i64 til] 26)) #[.int .i64 0, .int .i64 0, .int .i64 0, .int .i64 0] 30)
  simp only [World.size_alloc] at X6
  have hs1 := Lib.hid (show w.heap.size + 1 + 1 = ((w.alloc (.cells #[.slice A n c, .slice B k d, .int .i64 til] 26)).alloc (.cells #[.int .i64 0, .int .i64 0, .int .i64 0, .int .i64 0] 30)).heap.size by simp)
  obtain ⟨q19, h19⟩ : ∃ q, IntKind.i64.wrap (til + 2) = q := ⟨_, rfl⟩
  have v19 : q19 = til + 2 := h19.symm.trans (IntWalk.i64_in _ (by omega))
  obtain ⟨q20, h20⟩ : ∃ q, (if q19 > 1 then q19 else 1) = q := ⟨_, rfl⟩
  have hq20 : I64 q20 := by rw [← h20]; split <;> exact ⟨by omega, by omega⟩
  have V19 := Lib.hid v19
  clear v19; clear hR hnum
  go_enter Try.func19, Try.ntmps19
  go_wp2_with fail
  generalize (w.alloc (.cells #[.slice A n c, .slice B k d, .int .i64 til] 26)).alloc (.cells #[.int .i64 0, .int .i64 0, .int .i64 0, .int .i64 0] 30) = W0 at *
  generalize hb6 : w.heap.size + 1 = b6 at *
  generalize hb4 : w.heap.size = b4 at *
  have nb4 := Lib.hid (show b4 ≠ g by omega)
  have nb6 := Lib.hid (show b6 ≠ g by omega)
  have HG := Lib.hid (show Left g (N + 16) W0 16 W0.drew from ⟨⟨N, Nat.le_refl _, RR.out.up (Up.refl _).drew⟩, (Up.refl _).drew.mv g⟩)
  refine region_relyT 16 [] [(16, false)] [8, 9, 10, 11, 12, 13, 14, 15, 16, 17, 18, 19, 20, 21, 22, 7] 16 (Left g (N + 16) W0) (Mv g) (fun i v w => mrkR g b4 W0.heap.size n til q19 q20 i v w) (by kernel_rfl) (by kernel_rfl) (by kernel_rfl) (by kernel_rfl) HG.out (fun slot_ _ _ _ h u => mrkR_mv g b4 W0.heap.size n til q19 q20 slot_ h u) ?_ ?_ ?_
  · simp only [List.take_succ_cons, List.take_zero]
    refine stepsT_op (by kernel_rfl) ?_ ?_
    · intro X w1 k1 hG hdep
      simp only [opW_def, mixT]; go_simp
      exact ⟨⟨.pointer (some ⟨g, 0, none⟩), by first | rfl | simp [Act.put], Mv.refl _ _, hG.less, (show mrkR g b4 W0.heap.size n til q19 q20 8 _ _ from by first | (rw [mrkR_8]; exact rfl) | rw [mrkR_8])⟩⟩
    refine stepsT_op (by kernel_rfl) ?_ ?_
    · intro X w1 k1 hG hdep
      have e8 : mrkR g b4 W0.heap.size n til q19 q20 8 (X 8) w1 := hdep 8 (by decide +kernel)
      rw [mrkR_8] at e8; simp only [opW_def, mixT, e8]; go_simp; refine (Left.pickI hG (by omega) 4 ⟨by omega, by omega⟩).mono ?_; rintro x w2 ⟨z, rfl, hz, m9, hl⟩
      exact ⟨⟨.int .i64 z, by first | rfl | simp [Act.put], m9, hl, (show mrkR g b4 W0.heap.size n til q19 q20 9 _ _ from by first | (rw [mrkR_9]; exact ⟨z, rfl⟩) | rw [mrkR_9])⟩⟩
    refine stepsT_op (by kernel_rfl) ?_ ?_
    · intro X w1 k1 hG hdep
      simp only [opW_def, mixT]; go_simp
      exact ⟨⟨.pointer (some ⟨g, 0, none⟩), by first | rfl | simp [Act.put], Mv.refl _ _, hG.less, (show mrkR g b4 W0.heap.size n til q19 q20 10 _ _ from by first | (rw [mrkR_10]; exact rfl) | rw [mrkR_10])⟩⟩
    refine stepsT_op (by kernel_rfl) ?_ ?_
    · intro X w1 k1 hG hdep
      have e10 : mrkR g b4 W0.heap.size n til q19 q20 10 (X 10) w1 := hdep 10 (by decide +kernel)
      rw [mrkR_10] at e10; simp only [opW_def, mixT, e10]; go_simp; refine (Left.pickI hG (by omega) 5 ⟨by omega, by omega⟩).mono ?_; rintro x w2 ⟨z, rfl, hz, m9, hl⟩
      exact ⟨⟨.int .i64 z, by first | rfl | simp [Act.put], m9, hl, (show mrkR g b4 W0.heap.size n til q19 q20 11 _ _ from by first | (rw [mrkR_11]; exact ⟨z, rfl⟩) | rw [mrkR_11])⟩⟩
    refine stepsT_op (by kernel_rfl) ?_ ?_
    · intro X w1 k1 hG hdep
      have e11 : mrkR g b4 W0.heap.size n til q19 q20 11 (X 11) w1 := hdep 11 (by decide +kernel)
      rw [mrkR_11] at e11; obtain ⟨z11, e11⟩ := e11; simp only [opW_def, mixT, e11]; go_simp
      exact ⟨⟨_, by first | rfl | simp [Act.put], Mv.refl _ _, hG.less, (show mrkR g b4 W0.heap.size n til q19 q20 12 _ _ from by first | (rw [mrkR_12]; exact ⟨_, rfl⟩) | rw [mrkR_12])⟩⟩
    refine stepsT_op (by kernel_rfl) ?_ ?_
    · intro X w1 k1 hG hdep
      simp only [opW_def, mixT]; go_simp
      exact ⟨⟨.pointer (some ⟨g, 0, none⟩), by first | rfl | simp [Act.put], Mv.refl _ _, hG.less, (show mrkR g b4 W0.heap.size n til q19 q20 13 _ _ from by first | (rw [mrkR_13]; exact rfl) | rw [mrkR_13])⟩⟩
    refine stepsT_op (by kernel_rfl) ?_ ?_
    · intro X w1 k1 hG hdep
      have e13 : mrkR g b4 W0.heap.size n til q19 q20 13 (X 13) w1 := hdep 13 (by decide +kernel)
      rw [mrkR_13] at e13; simp only [opW_def, mixT, e13]; go_simp; refine (Left.pickI hG (by omega) 5 ⟨by omega, by omega⟩).mono ?_; rintro x w2 ⟨z, rfl, hz, m9, hl⟩
      exact ⟨⟨.int .i64 z, by first | rfl | simp [Act.put], m9, hl, (show mrkR g b4 W0.heap.size n til q19 q20 14 _ _ from by first | (rw [mrkR_14]; exact ⟨z, rfl⟩) | rw [mrkR_14])⟩⟩
    refine stepsT_op (by kernel_rfl) ?_ ?_
    · intro X w1 k1 hG hdep
      have e14 : mrkR g b4 W0.heap.size n til q19 q20 14 (X 14) w1 := hdep 14 (by decide +kernel)
      rw [mrkR_14] at e14; obtain ⟨z14, e14⟩ := e14; simp only [opW_def, mixT, e14]; go_simp
      exact ⟨⟨_, by first | rfl | simp [Act.put], Mv.refl _ _, hG.less, (show mrkR g b4 W0.heap.size n til q19 q20 15 _ _ from by first | (rw [mrkR_15]; exact ⟨_, rfl⟩) | rw [mrkR_15])⟩⟩
    refine stepsT_op (by kernel_rfl) ?_ ?_
    · intro X w1 k1 hG hdep
      simp only [opW_def, mixT]; go_simp
      exact ⟨⟨.pointer (some ⟨g, 0, none⟩), by first | rfl | simp [Act.put], Mv.refl _ _, hG.less, (show mrkR g b4 W0.heap.size n til q19 q20 16 _ _ from by first | (rw [mrkR_16]; exact rfl) | rw [mrkR_16])⟩⟩
    refine stepsT_op (by kernel_rfl) ?_ ?_
    · intro X w1 k1 hG hdep
      have lp := (X4.out.mv hG.2 nb4.out).lt
      simp only [opW_def, mixT]; go_simp
      exact ⟨⟨.pointer (some ⟨b4, 2, none⟩), by first | rfl | simp [Act.put], Mv.refl _ _, hG.less, (show mrkR g b4 W0.heap.size n til q19 q20 17 _ _ from by first | (rw [mrkR_17]; exact rfl) | rw [mrkR_17])⟩⟩
    refine stepsT_op (by kernel_rfl) ?_ ?_
    · intro X w1 k1 hG hdep
      have e17 : mrkR g b4 W0.heap.size n til q19 q20 17 (X 17) w1 := hdep 17 (by decide +kernel)
      rw [mrkR_17] at e17
      have p2 := (X4.out.mv hG.2 nb4.out).cell (j := 2) rfl
      have lp := (X4.out.mv hG.2 nb4.out).lt
      simp only [opW_def, mixT, e17]; go_simp
      exact ⟨⟨.int .i64 til, by first | rfl | simp [Act.put], Mv.refl _ _, hG.less, (show mrkR g b4 W0.heap.size n til q19 q20 18 _ _ from by first | (rw [mrkR_18]; exact rfl) | rw [mrkR_18])⟩⟩
    refine stepsT_op (by kernel_rfl) ?_ ?_
    · intro X w1 k1 hG hdep
      have e18 : mrkR g b4 W0.heap.size n til q19 q20 18 (X 18) w1 := hdep 18 (by decide +kernel)
      rw [mrkR_18] at e18; simp only [opW_def, mixT, e18]; go_simp
      exact ⟨⟨.int .i64 q19, by first | rfl | simp [Act.put], Mv.refl _ _, hG.less, (show mrkR g b4 W0.heap.size n til q19 q20 19 _ _ from by first | (rw [mrkR_19]; exact rfl) | rw [mrkR_19])⟩⟩
    refine stepsT_op (by kernel_rfl) ?_ ?_
    · intro X w1 k1 hG hdep
      have e19 : mrkR g b4 W0.heap.size n til q19 q20 19 (X 19) w1 := hdep 19 (by decide +kernel)
      rw [mrkR_19] at e19; simp only [opW_def, mixT, e19]; go_simp
      exact ⟨⟨.int .i64 q20, by first | rfl | simp [Act.put], Mv.refl _ _, hG.less, (show mrkR g b4 W0.heap.size n til q19 q20 20 _ _ from by first | (rw [mrkR_20]; exact rfl) | rw [mrkR_20])⟩⟩
    refine stepsT_op (by kernel_rfl) ?_ ?_
    · intro X w1 k1 hG hdep
      have e16 : mrkR g b4 W0.heap.size n til q19 q20 16 (X 16) w1 := hdep 16 (by decide +kernel)
      rw [mrkR_16] at e16
      have e20 : mrkR g b4 W0.heap.size n til q19 q20 20 (X 20) w1 := hdep 20 (by decide +kernel)
      rw [mrkR_20] at e20; simp only [opW_def, mixT, e16, e20]; go_simp; refine (Left.pickI hG (by omega) q20 hq20).mono ?_; rintro x w2 ⟨z, rfl, hz, m9, hl⟩
      exact ⟨⟨.int .i64 z, by first | rfl | simp [Act.put], m9, hl, (show mrkR g b4 W0.heap.size n til q19 q20 21 _ _ from by first | (rw [mrkR_21]; exact ⟨z, rfl⟩) | rw [mrkR_21])⟩⟩
    refine stepsT_op (by kernel_rfl) ?_ ?_
    · intro X w1 k1 hG hdep
      have e9 : mrkR g b4 W0.heap.size n til q19 q20 9 (X 9) w1 := hdep 9 (by decide +kernel)
      rw [mrkR_9] at e9; obtain ⟨z9, e9⟩ := e9
      have e12 : mrkR g b4 W0.heap.size n til q19 q20 12 (X 12) w1 := hdep 12 (by decide +kernel)
      rw [mrkR_12] at e12; obtain ⟨z12, e12⟩ := e12
      have e15 : mrkR g b4 W0.heap.size n til q19 q20 15 (X 15) w1 := hdep 15 (by decide +kernel)
      rw [mrkR_15] at e15; obtain ⟨z15, e15⟩ := e15
      have e21 : mrkR g b4 W0.heap.size n til q19 q20 21 (X 21) w1 := hdep 21 (by decide +kernel)
      rw [mrkR_21] at e21; obtain ⟨z21, e21⟩ := e21; simp only [opW_def, mixT, e9, e12, e15, e21]; go_simp
      exact ⟨⟨_, by first | rfl | simp [Act.put], Mv.refl _ _, hG.less, (show mrkR g b4 W0.heap.size n til q19 q20 22 _ _ from by first | (rw [mrkR_22]; exact ⟨_, _, _, _, rfl⟩) | rw [mrkR_22])⟩⟩
    refine stepsT_op (by kernel_rfl) ?_ ?_
    · intro X w1 k1 hG hdep
      have hg := hG.lt
      have hlo := hG.base
      simp only [opW_def, mixT]; go_simp
      exact ⟨⟨_, by first | rfl | simp [Act.put], (Mv.refl _ _).alloc _, hG.mv ((Up.refl _).alloc _), (show mrkR g b4 W0.heap.size n til q19 q20 7 _ _ from by first | (rw [mrkR_7]; exact IsNewN.new w1 _ _ rfl hg hlo) | rw [mrkR_7])⟩⟩
    exact trivial
  · intro h p _ hp
    cases hp
  · intro X w1 hG hR
    have e22 : mrkR g b4 W0.heap.size n til q19 q20 22 (X 22) w1 := hR 14 (by omega)
    rw [mrkR_22] at e22; obtain ⟨q0, q1, q2, q3, e22⟩ := e22
    have e7 : mrkR g b4 W0.heap.size n til q19 q20 7 (X 7) w1 := hR 15 (by omega)
    rw [mrkR_7] at e7; obtain ⟨b7, xs, e7, h7g, h7b, h7, h7s⟩ := e7; obtain ⟨x0, x1, x2, x3, rfl⟩ := arr_four h7s
    have B7 : Bk w1 b7 _ := ⟨_, h7⟩
    obtain ⟨⟨N1, hN1, rd1⟩, mv1⟩ := hG
    have n67 : b6 ≠ b7 := by have := hs1.out; omega
    have n47 : b4 ≠ b7 := by have := hs1.out; omega
    have h7w : b4 ≤ b7 := by have := hs1.out; omega
    have X7 := Lib.hid (putG_bk B7 q0 q1 q2 q3)
    replace X6 := Lib.hid (putG_far (X6.out.mv mv1 nb6.out) n67 q0 q1 q2 q3)
    replace X4 := Lib.hid (putG_far (X4.out.mv mv1 nb4.out) n47 q0 q1 q2 q3)
    replace RR := Lib.hid (putG_rd (b := b7) rd1 (by have := hs1.out; omega) q0 q1 q2 q3)
    replace MM := Lib.hid (putG_mv (b := b7) (MM.out.trans mv1) (by have := hs1.out; omega) q0 q1 q2 q3)
    unfold putG at X7 X6 X4 RR MM
    have c0 := B7.cell (j := 0) rfl
    have c1 := B7.cell (j := 1) rfl
    have c2 := B7.cell (j := 2) rfl
    have c3 := B7.cell (j := 3) rfl
    have f7 := fun j => B7.frozen j
    have l7 := B7.lt
    clear hR B7 h7 mv1 rd1 HG; simp only [mixT, e22, e7]; refine mix_go rfl (by rfl) (fun K hK => ?_); go_simp; refine hK _ _ ?_; clear hK K; refine mix_nil ?_; clear c0 c1 c2 c3 f7 l7 e22 e7
    generalize (((w1.setCell ⟨b7, 0, none⟩ (.int .i64 q0)).setCell ⟨b7, 1, none⟩ (.int .i64 q1)).setCell ⟨b7, 2, none⟩ (.int .i64 q2)).setCell ⟨b7, 3, none⟩ (.int .i64 q3) = W1 at *
    have n7g := Lib.hid h7g
    have h7g2 : g < b7 := by omega
    clear h7g
    go_wp2_with fail
    refine (odd_any g N1 num _ HN.out (by omega) RR.out).mono ?_; rintro x w5 ⟨bb, rfl, r5, m5⟩
    replace X4 := Lib.hid (X4.out.mv m5 nb4.out)
    replace X6 := Lib.hid (X6.out.mv m5 nb6.out)
    replace X7 := Lib.hid (X7.out.mv m5 n7g.out)
    replace RR := Lib.hid r5
    replace MM := Lib.hid (MM.out.trans m5)
    clear r5 m5
    cases bb
    · have K6 := Lib.hid (putG_bk X6.out (q0) (q1) (q2) (q3))
      have RE := Lib.hid (putG_rd RR.out (show g < b6 by omega) (q0) (q1) (q2) (q3))
      have ME := Lib.hid (putG_mv (b := b6) MM.out (by omega) (q0) (q1) (q2) (q3))
      unfold putG at K6 RE ME
      have c0 := X7.out.cell (j := 0) rfl
      have c1 := X7.out.cell (j := 1) rfl
      have c2 := X7.out.cell (j := 2) rfl
      have c3 := X7.out.cell (j := 3) rfl
      have y0 := X6.out.cell (j := 0) rfl
      have y1 := X6.out.cell (j := 1) rfl
      have y2 := X6.out.cell (j := 2) rfl
      have y3 := X6.out.cell (j := 3) rfl
      have f6 := fun j => X6.out.frozen j
      have l7 := X7.out.lt
      have l6 := X6.out.lt
      go_wp2
      have k0 := K6.out.cell (j := 0) rfl
      have k1 := K6.out.cell (j := 1) rfl
      have k2 := K6.out.cell (j := 2) rfl
      have k3 := K6.out.cell (j := 3) rfl
      exact bodyPost_ret (v := .agg #[.int .i64 q0, .int .i64 q1, .int .i64 q2, .int .i64 q3]) (by simp [results, Try.results19, go_sem, k0, k1, k2, k3]) rfl ⟨⟨q0, q1, q2, q3⟩, rfl, RE.out.mono (by omega), ME.out⟩

    · go_wp2_with fail
      refine (pick_any g (N1 + 1) 3 _ ⟨by omega, by omega⟩ (by omega) RR.out).mono ?_; intro x w6 pk; obtain ⟨v6, rfl, a6, b6', c6', r6, m6⟩ := pk.cases (by omega)
      replace X4 := Lib.hid (X4.out.mv m6 nb4.out)
      replace X6 := Lib.hid (X6.out.mv m6 nb6.out)
      replace X7 := Lib.hid (X7.out.mv m6 n7g.out)
      replace RR := Lib.hid r6
      replace MM := Lib.hid (MM.out.trans m6)
      clear pk r6 m6 c6'
      by_cases jv0 : v6 = 0
      · subst jv0
        go_wp2_with fail
        refine (pick_any g (N1 + 2) 2 _ ⟨by omega, by omega⟩ (by omega) (RR.out.alloc _)).mono ?_; intro x w8 pk; obtain ⟨v7, rfl, a7, b7', c7', r7, m7⟩ := pk.cases (by omega); obtain ⟨v8, hv8, hl8⟩ := two_num m7 (show g < w6.heap.size by have := X7.out.lt; omega) a7 (by omega)
        have l8 : v7 < 2 := by omega
        replace X4 := Lib.hid ((X4.out.alloc (.cells #[.int .i64 (-1), .int .i64 (1000)] 3)).mv m7 nb4.out)
        replace X6 := Lib.hid ((X6.out.alloc (.cells #[.int .i64 (-1), .int .i64 (1000)] 3)).mv m7 nb6.out)
        replace X7 := Lib.hid ((X7.out.alloc (.cells #[.int .i64 (-1), .int .i64 (1000)] 3)).mv m7 n7g.out)
        replace RR := Lib.hid r7
        replace MM := Lib.hid ((MM.out.alloc _).trans m7)
        have hw8 : w6.heap.size < w8.heap.size := by have := m7.size; simp at this; omega
        clear pk r7 m7 c7' hv8
        have c0 := X7.out.cell (j := 0) rfl
        have c1 := X7.out.cell (j := 1) rfl
        have c2 := X7.out.cell (j := 2) rfl
        have c3 := X7.out.cell (j := 3) rfl
        have f7 := fun j => X7.out.frozen j
        have l7 := X7.out.lt

        have hs8 := hl8
        have X6s := bk_far _ (o := 0) (.int .i64 v8) X6.out n67
        have RRs := Lib.hid (RR.out.setCell (p := ⟨b7, 0, none⟩) h7g2 (.int .i64 v8))
        have MMs := Lib.hid (MM.out.setNew (p := ⟨b7, 0, none⟩) (show w.heap.size ≤ b7 by omega) (.int .i64 v8))
        have X6s := Lib.hid X6s

        have K6 := Lib.hid (putG_bk X6s.out (v8) (q1) (q2) (q3))
        have RE := Lib.hid (putG_rd RRs.out (show g < b6 by omega) (v8) (q1) (q2) (q3))
        have ME := Lib.hid (putG_mv (b := b6) MMs.out (by omega) (v8) (q1) (q2) (q3))
        unfold putG at K6 RE ME
        have y0 := X6.out.cell (j := 0) rfl
        have y1 := X6.out.cell (j := 1) rfl
        have y2 := X6.out.cell (j := 2) rfl
        have y3 := X6.out.cell (j := 3) rfl
        have f6 := fun j => X6.out.frozen j
        have l6 := X6.out.lt
        go_wp2
        have k0 := K6.out.cell (j := 0) rfl
        have k1 := K6.out.cell (j := 1) rfl
        have k2 := K6.out.cell (j := 2) rfl
        have k3 := K6.out.cell (j := 3) rfl
        exact bodyPost_ret (v := .agg #[.int .i64 v8, .int .i64 q1, .int .i64 q2, .int .i64 q3]) (by simp [results, Try.results19, go_sem, k0, k1, k2, k3]) rfl ⟨⟨v8, q1, q2, q3⟩, rfl, RE.out.mono (by omega), ME.out⟩

      · have jn0 : ((v6 : Int) == 0) = false := by simp; omega
        by_cases jv1 : v6 = 1
        · subst jv1
          go_wp2_with fail
          refine (pick_any g (N1 + 2) 2 _ ⟨by omega, by omega⟩ (by omega) (RR.out.alloc _)).mono ?_; intro x w8 pk; obtain ⟨v7, rfl, a7, b7', c7', r7, m7⟩ := pk.cases (by omega); obtain ⟨v8, hv8, hl8⟩ := two_num m7 (show g < w6.heap.size by have := X7.out.lt; omega) a7 (by omega)
          have l8 : v7 < 2 := by omega
          replace X4 := Lib.hid ((X4.out.alloc (.cells #[.int .i64 (-10000), .int .i64 (10000)] 3)).mv m7 nb4.out)
          replace X6 := Lib.hid ((X6.out.alloc (.cells #[.int .i64 (-10000), .int .i64 (10000)] 3)).mv m7 nb6.out)
          replace X7 := Lib.hid ((X7.out.alloc (.cells #[.int .i64 (-10000), .int .i64 (10000)] 3)).mv m7 n7g.out)
          replace RR := Lib.hid r7
          replace MM := Lib.hid ((MM.out.alloc _).trans m7)
          have hw8 : w6.heap.size < w8.heap.size := by have := m7.size; simp at this; omega
          clear pk r7 m7 c7' hv8
          have c0 := X7.out.cell (j := 0) rfl
          have c1 := X7.out.cell (j := 1) rfl
          have c2 := X7.out.cell (j := 2) rfl
          have c3 := X7.out.cell (j := 3) rfl
          have f7 := fun j => X7.out.frozen j
          have l7 := X7.out.lt

          have hs8 := hl8
          have X6s := bk_far _ (o := 1) (.int .i64 v8) X6.out n67
          have RRs := Lib.hid (RR.out.setCell (p := ⟨b7, 1, none⟩) h7g2 (.int .i64 v8))
          have MMs := Lib.hid (MM.out.setNew (p := ⟨b7, 1, none⟩) (show w.heap.size ≤ b7 by omega) (.int .i64 v8))
          have X6s := Lib.hid X6s

          have K6 := Lib.hid (putG_bk X6s.out (q0) (v8) (q2) (q3))
          have RE := Lib.hid (putG_rd RRs.out (show g < b6 by omega) (q0) (v8) (q2) (q3))
          have ME := Lib.hid (putG_mv (b := b6) MMs.out (by omega) (q0) (v8) (q2) (q3))
          unfold putG at K6 RE ME
          have y0 := X6.out.cell (j := 0) rfl
          have y1 := X6.out.cell (j := 1) rfl
          have y2 := X6.out.cell (j := 2) rfl
          have y3 := X6.out.cell (j := 3) rfl
          have f6 := fun j => X6.out.frozen j
          have l6 := X6.out.lt
          go_wp2
          have k0 := K6.out.cell (j := 0) rfl
          have k1 := K6.out.cell (j := 1) rfl
          have k2 := K6.out.cell (j := 2) rfl
          have k3 := K6.out.cell (j := 3) rfl
          exact bodyPost_ret (v := .agg #[.int .i64 q0, .int .i64 v8, .int .i64 q2, .int .i64 q3]) (by simp [results, Try.results19, go_sem, k0, k1, k2, k3]) rfl ⟨⟨q0, v8, q2, q3⟩, rfl, RE.out.mono (by omega), ME.out⟩

        · have jn1 : ((v6 : Int) == 1) = false := by simp; omega
          go_wp2_with fail
          have HG := Lib.hid (show Left g (N1 + 2 + 9) w6 9 w6.drew from ⟨⟨N1 + 2, Nat.le_refl _, RR.out.up (Up.refl _).drew⟩, (Up.refl _).drew.mv g⟩)
          have hlo7 := X7.out.lt
          refine region_relyT 9 [] [(9, false)] [28, 29, 30, 31, 32, 33, 34, 35, 36] 9 (Left g (N1 + 2 + 9) w6) (Mv g) (fun i v w => mrkF g b4 w6.heap.size b7 n til q19 q20 i v w) (by kernel_rfl) (by kernel_rfl) (by kernel_rfl) (by kernel_rfl) HG.out (fun slot_ _ _ _ h u => mrkF_mv g b4 w6.heap.size b7 n til q19 q20 slot_ h u) ?_ ?_ ?_
          · simp only [List.take_succ_cons, List.take_zero]
            refine stepsT_op (by kernel_rfl) ?_ ?_
            · intro X w1 k1 hG hdep
              have lp := (X4.out.mv hG.2 nb4.out).lt
              simp only [opW_def, mixT]; go_simp
              exact ⟨⟨.pointer (some ⟨b4, 2, none⟩), by first | rfl | simp [Act.put], Mv.refl _ _, hG.less, (show mrkF g b4 w6.heap.size b7 n til q19 q20 28 _ _ from by first | (rw [mrkF_28]; exact rfl) | rw [mrkF_28])⟩⟩
            refine stepsT_op (by kernel_rfl) ?_ ?_
            · intro X w1 k1 hG hdep
              have e28 : mrkF g b4 w6.heap.size b7 n til q19 q20 28 (X 28) w1 := hdep 28 (by decide +kernel)
              rw [mrkF_28] at e28
              have p2 := (X4.out.mv hG.2 nb4.out).cell (j := 2) rfl
              have lp := (X4.out.mv hG.2 nb4.out).lt
              simp only [opW_def, mixT, e28]; go_simp
              exact ⟨⟨.int .i64 til, by first | rfl | simp [Act.put], Mv.refl _ _, hG.less, (show mrkF g b4 w6.heap.size b7 n til q19 q20 29 _ _ from by first | (rw [mrkF_29]; exact rfl) | rw [mrkF_29])⟩⟩
            refine stepsT_op (by kernel_rfl) ?_ ?_
            · intro X w1 k1 hG hdep
              have e29 : mrkF g b4 w6.heap.size b7 n til q19 q20 29 (X 29) w1 := hdep 29 (by decide +kernel)
              rw [mrkF_29] at e29; simp only [opW_def, mixT, e29]; go_simp
              exact ⟨⟨.int .i64 q19, by first | rfl | simp [Act.put], Mv.refl _ _, hG.less, (show mrkF g b4 w6.heap.size b7 n til q19 q20 30 _ _ from by first | (rw [mrkF_30]; exact rfl) | rw [mrkF_30])⟩⟩
            refine stepsT_op (by kernel_rfl) ?_ ?_
            · intro X w1 k1 hG hdep
              have e30 : mrkF g b4 w6.heap.size b7 n til q19 q20 30 (X 30) w1 := hdep 30 (by decide +kernel)
              rw [mrkF_30] at e30
              have hg := hG.lt
              have hlo := hG.base
              simp only [opW_def, mixT, e30]; go_simp
              exact ⟨⟨.slice (some ⟨w1.heap.size, 0, none⟩) 2 2, by first | rfl | simp [Act.put], (Mv.refl _ _).alloc _, hG.mv ((Up.refl _).alloc _), (show mrkF g b4 w6.heap.size b7 n til q19 q20 31 _ _ from by first | (rw [mrkF_31]; exact IsTwo.new w1 (-1) (q19) _ hg hlo (by omega) (by have := V19.out; omega)) | rw [mrkF_31])⟩⟩
            refine stepsT_op (by kernel_rfl) ?_ ?_
            · intro X w1 k1 hG hdep
              simp only [opW_def, mixT]; go_simp
              exact ⟨⟨.pointer (some ⟨g, 0, none⟩), by first | rfl | simp [Act.put], Mv.refl _ _, hG.less, (show mrkF g b4 w6.heap.size b7 n til q19 q20 32 _ _ from by first | (rw [mrkF_32]; exact rfl) | rw [mrkF_32])⟩⟩
            refine stepsT_op (by kernel_rfl) ?_ ?_
            · intro X w1 k1 hG hdep
              have e32 : mrkF g b4 w6.heap.size b7 n til q19 q20 32 (X 32) w1 := hdep 32 (by decide +kernel)
              rw [mrkF_32] at e32; simp only [opW_def, mixT, e32]; go_simp; refine (Left.pick hG (by omega) 2 (by omega) (by omega)).mono ?_; rintro x w2 ⟨z, rfl, hz, m9, hl⟩
              exact ⟨⟨.int .i64 z, by first | rfl | simp [Act.put], m9, hl, (show mrkF g b4 w6.heap.size b7 n til q19 q20 33 _ _ from by first | (rw [mrkF_33]; exact ⟨z, rfl, by omega, by omega⟩) | rw [mrkF_33])⟩⟩
            refine stepsT_op (by kernel_rfl) ?_ ?_
            · intro X w1 k1 hG hdep
              have e31 : mrkF g b4 w6.heap.size b7 n til q19 q20 31 (X 31) w1 := hdep 31 (by decide +kernel)
              rw [mrkF_31] at e31; obtain ⟨b, x, y, e31, h1, h2, h3, h4, h5, h6, h7⟩ := e31
              have e33 : mrkF g b4 w6.heap.size b7 n til q19 q20 33 (X 33) w1 := hdep 33 (by decide +kernel)
              rw [mrkF_33] at e33; obtain ⟨z33, e33, h33⟩ := e33
              have h34 : z33 = 0 ∨ z33 = 1 := by omega
              rcases h34 with rfl | rfl
              · simp only [opW_def, mixT, e31, e33]
                go_simp
                exact ⟨⟨.pointer (some ⟨b, 0, none⟩), by first | rfl | simp [Act.put], Mv.refl _ _, hG.less, (show mrkF g b4 w6.heap.size b7 n til q19 q20 34 _ _ from by rw [mrkF_34]; exact ⟨b, 0, x, rfl, h1, h3, h4, h6.1, h6.2⟩)⟩⟩
              · simp only [opW_def, mixT, e31, e33]
                go_simp
                exact ⟨⟨.pointer (some ⟨b, 1, none⟩), by first | rfl | simp [Act.put], Mv.refl _ _, hG.less, (show mrkF g b4 w6.heap.size b7 n til q19 q20 34 _ _ from by rw [mrkF_34]; exact ⟨b, 1, y, rfl, h1, h3, h5, h7.1, h7.2⟩)⟩⟩
            refine stepsT_op (by kernel_rfl) ?_ ?_
            · intro X w1 k1 hG hdep
              have e34 : mrkF g b4 w6.heap.size b7 n til q19 q20 34 (X 34) w1 := hdep 34 (by decide +kernel)
              rw [mrkF_34] at e34; obtain ⟨b, j, x, e34, h1, h2, h3, h4, h5⟩ := e34; simp only [opW_def, mixT, e34]; go_simp
              exact ⟨⟨.int .i64 x, by first | rfl | simp [Act.put], Mv.refl _ _, hG.less, (show mrkF g b4 w6.heap.size b7 n til q19 q20 35 _ _ from by first | (rw [mrkF_35]; exact ⟨x, rfl⟩) | rw [mrkF_35])⟩⟩
            refine stepsT_op (by kernel_rfl) ?_ ?_
            · intro X w1 k1 hG hdep
              have lp := (X7.out.mv hG.2 n7g.out).lt
              simp only [opW_def, mixT]; go_simp
              exact ⟨⟨.pointer (some ⟨b7, 3, none⟩), by first | rfl | simp [Act.put], Mv.refl _ _, hG.less, (show mrkF g b4 w6.heap.size b7 n til q19 q20 36 _ _ from by first | (rw [mrkF_36]; exact rfl) | rw [mrkF_36])⟩⟩
            exact trivial
          · intro h p _ hp
            cases hp
          · intro X w8 hG hR
            have e35 : mrkF g b4 w6.heap.size b7 n til q19 q20 35 (X 35) w8 := hR 7 (by omega)
            rw [mrkF_35] at e35; obtain ⟨v8, e35⟩ := e35
            have e36 : mrkF g b4 w6.heap.size b7 n til q19 q20 36 (X 36) w8 := hR 8 (by omega)
            rw [mrkF_36] at e36; obtain ⟨⟨N2, hN2, rd2⟩, mv2⟩ := hG
            replace X4 := Lib.hid (X4.out.mv mv2 nb4.out)
            replace X6 := Lib.hid (X6.out.mv mv2 nb6.out)
            replace X7 := Lib.hid (X7.out.mv mv2 n7g.out)
            replace RR := Lib.hid rd2
            replace MM := Lib.hid (MM.out.trans mv2)
            clear hR HG rd2 mv2 hlo7
            have c0 := X7.out.cell (j := 0) rfl
            have c1 := X7.out.cell (j := 1) rfl
            have c2 := X7.out.cell (j := 2) rfl
            have c3 := X7.out.cell (j := 3) rfl
            have f7 := fun j => X7.out.frozen j
            have l7 := X7.out.lt
            simp only [mixT, e35, e36]; refine mix_go rfl (by rfl) (fun K hK => ?_); go_simp; refine hK _ _ ?_; clear hK K; refine mix_nil ?_; clear c0 c1 c2 c3 f7 l7 e35 e36

            replace X7 := Lib.hid (bk_setC _ _ 3 (.int .i64 v8) X7.out)
            replace X6 := Lib.hid (bk_far _ (o := 3) (.int .i64 v8) X6.out n67)
            replace X4 := Lib.hid (bk_far _ (o := 3) (.int .i64 v8) X4.out n47)
            replace RR := Lib.hid (RR.out.setCell (p := ⟨b7, 3, none⟩) h7g2 (.int .i64 v8))
            replace MM := Lib.hid (MM.out.setNew (p := ⟨b7, 3, none⟩) (show w.heap.size ≤ b7 by omega) (.int .i64 v8))

            generalize w8.setCell ⟨b7, 3, none⟩ (.int .i64 v8) = W8 at *
            have K6 := Lib.hid (putG_bk X6.out (q0) (q1) (q2) (v8))
            have RE := Lib.hid (putG_rd RR.out (show g < b6 by omega) (q0) (q1) (q2) (v8))
            have ME := Lib.hid (putG_mv (b := b6) MM.out (by omega) (q0) (q1) (q2) (v8))
            unfold putG at K6 RE ME
            have c0 := X7.out.cell (j := 0) rfl
            have c1 := X7.out.cell (j := 1) rfl
            have c2 := X7.out.cell (j := 2) rfl
            have c3 := X7.out.cell (j := 3) rfl
            have y0 := X6.out.cell (j := 0) rfl
            have y1 := X6.out.cell (j := 1) rfl
            have y2 := X6.out.cell (j := 2) rfl
            have y3 := X6.out.cell (j := 3) rfl
            have f6 := fun j => X6.out.frozen j
            have l7 := X7.out.lt
            have l6 := X6.out.lt
            go_wp2
            have k0 := K6.out.cell (j := 0) rfl
            have k1 := K6.out.cell (j := 1) rfl
            have k2 := K6.out.cell (j := 2) rfl
            have k3 := K6.out.cell (j := 3) rfl
            exact bodyPost_ret (v := .agg #[.int .i64 q0, .int .i64 q1, .int .i64 q2, .int .i64 v8]) (by simp [results, Try.results19, go_sem, k0, k1, k2, k3]) rfl ⟨⟨q0, q1, q2, v8⟩, rfl, RE.out.mono (by omega), ME.out⟩
end Go.Proofs.Ytpainlcehgiokaa

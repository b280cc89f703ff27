/-
  What l20Tok gives, in one sentence: a token of some numbers, and the reader some steps further; for every reader.
-/
import Derived.Test.YtpainlcehgiokaaDLVisit21
namespace Go.Proofs.Ytpainlcehgiokaa
set_option maxRecDepth 100000
open Go.RowKit
set_option linter.unusedVariables false
set_option maxHeartbeats 8000000 in
theorem tok_any (g N : Nat) (A : Option Addr) (n c : Nat) (B : Option Addr) (k d : Nat) (til : Int) (num : Int) (w : World) (hnum : I64 num) (hN : N ≤ 900000) (hn : n ≤ 1000) (ht : -1 ≤ til ∧ til ≤ 100) (hR : Rd w g N) :
    Calls Try.prog 18 #[.pointer (some ⟨g, 0, none⟩), .agg #[.slice A n c, .slice B k d, .int .i64 til], .int .i64 num] w (GkDrawn g (N + 60) w) := by
  have hgw : g < w.heap.size := hR.lt'
  have HN := Lib.hid hnum
  have MM := Lib.hid (((Mv.refl g w).alloc (.cells #[.slice A n c, .slice B k d, .int .i64 til] 26)).alloc (.cells #[.bool false, .int .i64 0, .int .i64 0, .int .i64 0, .int .i64 0] 28))
  have RR := Lib.hid ((hR.alloc (.cells #[.slice A n c, .slice B k d, .int .i64 til] 26)).alloc (.cells #[.bool false, .int .i64 0, .int .i64 0, .int .i64 0, .int .i64 0] 28))
  have X4 := Lib.hid ((Bk.new w #[.slice A n c, .slice B k d, .int .i64 til] 26).alloc (.cells #[.bool false, .int .i64 0, .int .i64 0, .int .i64 0, .int .i64 0] 28))
  have X6 := Lib.hid (Bk.new (w.alloc (.cells #[.slice A n c, .slice B k d, .int .i64 til] 26)) #[.bool false, .int .i64 0, .int .i64 0, .int .i64 0, .int .i64 0] 28)
  simp only [World.size_alloc] at X6
  have hs1 := Lib.hid (show w.heap.size + 1 + 1 = ((w.alloc (.cells #[.slice A n c, .slice B k d, .int .i64 til] 26)).alloc (.cells #[.bool false, .int .i64 0, .int .i64 0, .int .i64 0, .int .i64 0] 28)).heap.size by simp)
  obtain ⟨q25, h25⟩ : ∃ q, IntKind.i64.wrap (til + 2) = q := ⟨_, rfl⟩
  have v25 : q25 = til + 2 := h25.symm.trans (IntWalk.i64_in _ (by omega))
  obtain ⟨q26, h26⟩ : ∃ q, (if q25 > 1 then q25 else 1) = q := ⟨_, rfl⟩
  have hq26 : I64 q26 := by rw [← h26]; split <;> exact ⟨by omega, by omega⟩
  obtain ⟨q17, h17⟩ : ∃ q, (if (n : Int) > 1 then (n : Int) else 1) = q := ⟨_, rfl⟩
  have hq17 : I64 q17 := by rw [← h17]; split <;> exact ⟨by omega, by omega⟩
  have V25 := Lib.hid v25
  clear v25; clear hR hnum
  go_enter Try.func18, Try.ntmps18
  go_wp2_with fail
  generalize (w.alloc (.cells #[.slice A n c, .slice B k d, .int .i64 til] 26)).alloc (.cells #[.bool false, .int .i64 0, .int .i64 0, .int .i64 0, .int .i64 0] 28) = W0 at *
  generalize hb6 : w.heap.size + 1 = b6 at *
  generalize hb4 : w.heap.size = b4 at *
  have nb4 := Lib.hid (show b4 ≠ g by omega)
  have nb6 := Lib.hid (show b6 ≠ g by omega)
  have HG := Lib.hid (show Left g (N + 22) W0 22 W0.drew from ⟨⟨N, Nat.le_refl _, RR.out.up (Up.refl _).drew⟩, (Up.refl _).drew.mv g⟩)
  refine region_relyT 22 [] [(22, false)] [8, 9, 10, 11, 12, 13, 14, 15, 16, 17, 18, 19, 20, 21, 22, 23, 24, 25, 26, 27, 28, 7] 22 (Left g (N + 22) W0) (Mv g) (fun i v w => tokR g b4 W0.heap.size n til (.slice A n c) q17 q25 q26 i v w) (by kernel_rfl) (by kernel_rfl) (by kernel_rfl) (by kernel_rfl) HG.out (fun slot_ _ _ _ h u => tokR_mv g b4 W0.heap.size n til (.slice A n c) q17 q25 q26 slot_ h u) ?_ ?_ ?_
  · simp only [List.take_succ_cons, List.take_zero]
    refine stepsT_op (by kernel_rfl) ?_ ?_
    · intro X w1 k1 hG hdep
      simp only [opW_def, mixT]; go_simp
      exact ⟨⟨.pointer (some ⟨g, 0, none⟩), by first | rfl | simp [Act.put], Mv.refl _ _, hG.less, (show tokR g b4 W0.heap.size n til (.slice A n c) q17 q25 q26 8 _ _ from by first | (rw [tokR_8]; exact rfl) | rw [tokR_8])⟩⟩
    refine stepsT_op (by kernel_rfl) ?_ ?_
    · intro X w1 k1 hG hdep
      have e8 : tokR g b4 W0.heap.size n til (.slice A n c) q17 q25 q26 8 (X 8) w1 := hdep 8 (by decide +kernel)
      rw [tokR_8] at e8; simp only [opW_def, mixT, e8]; go_simp; refine (Left.pickI hG (by omega) 5 ⟨by omega, by omega⟩).mono ?_; rintro x w2 ⟨z, rfl, hz, m9, hl⟩
      exact ⟨⟨.int .i64 z, by first | rfl | simp [Act.put], m9, hl, (show tokR g b4 W0.heap.size n til (.slice A n c) q17 q25 q26 9 _ _ from by first | (rw [tokR_9]; exact ⟨z, rfl⟩) | rw [tokR_9])⟩⟩
    refine stepsT_op (by kernel_rfl) ?_ ?_
    · intro X w1 k1 hG hdep
      have e9 : tokR g b4 W0.heap.size n til (.slice A n c) q17 q25 q26 9 (X 9) w1 := hdep 9 (by decide +kernel)
      rw [tokR_9] at e9; obtain ⟨z9, e9⟩ := e9; simp only [opW_def, mixT, e9]; go_simp
      exact ⟨⟨_, by first | rfl | simp [Act.put], Mv.refl _ _, hG.less, (show tokR g b4 W0.heap.size n til (.slice A n c) q17 q25 q26 10 _ _ from by first | (rw [tokR_10]; exact ⟨_, rfl⟩) | rw [tokR_10])⟩⟩
    refine stepsT_op (by kernel_rfl) ?_ ?_
    · intro X w1 k1 hG hdep
      simp only [opW_def, mixT]; go_simp
      exact ⟨⟨.pointer (some ⟨g, 0, none⟩), by first | rfl | simp [Act.put], Mv.refl _ _, hG.less, (show tokR g b4 W0.heap.size n til (.slice A n c) q17 q25 q26 11 _ _ from by first | (rw [tokR_11]; exact rfl) | rw [tokR_11])⟩⟩
    refine stepsT_op (by kernel_rfl) ?_ ?_
    · intro X w1 k1 hG hdep
      have e11 : tokR g b4 W0.heap.size n til (.slice A n c) q17 q25 q26 11 (X 11) w1 := hdep 11 (by decide +kernel)
      rw [tokR_11] at e11; simp only [opW_def, mixT, e11]; go_simp; refine (Left.pickI hG (by omega) 5 ⟨by omega, by omega⟩).mono ?_; rintro x w2 ⟨z, rfl, hz, m9, hl⟩
      exact ⟨⟨.int .i64 z, by first | rfl | simp [Act.put], m9, hl, (show tokR g b4 W0.heap.size n til (.slice A n c) q17 q25 q26 12 _ _ from by first | (rw [tokR_12]; exact ⟨z, rfl⟩) | rw [tokR_12])⟩⟩
    refine stepsT_op (by kernel_rfl) ?_ ?_
    · intro X w1 k1 hG hdep
      simp only [opW_def, mixT]; go_simp
      exact ⟨⟨.pointer (some ⟨g, 0, none⟩), by first | rfl | simp [Act.put], Mv.refl _ _, hG.less, (show tokR g b4 W0.heap.size n til (.slice A n c) q17 q25 q26 13 _ _ from by first | (rw [tokR_13]; exact rfl) | rw [tokR_13])⟩⟩
    refine stepsT_op (by kernel_rfl) ?_ ?_
    · intro X w1 k1 hG hdep
      have lp := (X4.out.mv hG.2 nb4.out).lt
      simp only [opW_def, mixT]; go_simp
      exact ⟨⟨.pointer (some ⟨b4, 0, none⟩), by first | rfl | simp [Act.put], Mv.refl _ _, hG.less, (show tokR g b4 W0.heap.size n til (.slice A n c) q17 q25 q26 14 _ _ from by first | (rw [tokR_14]; exact rfl) | rw [tokR_14])⟩⟩
    refine stepsT_op (by kernel_rfl) ?_ ?_
    · intro X w1 k1 hG hdep
      have e14 : tokR g b4 W0.heap.size n til (.slice A n c) q17 q25 q26 14 (X 14) w1 := hdep 14 (by decide +kernel)
      rw [tokR_14] at e14
      have p0 := (X4.out.mv hG.2 nb4.out).cell (j := 0) rfl
      have lp := (X4.out.mv hG.2 nb4.out).lt
      simp only [opW_def, mixT, e14]; go_simp
      exact ⟨⟨.slice A n c, by first | rfl | simp [Act.put], Mv.refl _ _, hG.less, (show tokR g b4 W0.heap.size n til (.slice A n c) q17 q25 q26 15 _ _ from by first | (rw [tokR_15]; exact rfl) | rw [tokR_15])⟩⟩
    refine stepsT_op (by kernel_rfl) ?_ ?_
    · intro X w1 k1 hG hdep
      have e15 : tokR g b4 W0.heap.size n til (.slice A n c) q17 q25 q26 15 (X 15) w1 := hdep 15 (by decide +kernel)
      rw [tokR_15] at e15; simp only [opW_def, mixT, e15]; go_simp
      exact ⟨⟨.int .i64 (n : Int), by first | rfl | simp [Act.put], Mv.refl _ _, hG.less, (show tokR g b4 W0.heap.size n til (.slice A n c) q17 q25 q26 16 _ _ from by first | (rw [tokR_16]; exact rfl) | rw [tokR_16])⟩⟩
    refine stepsT_op (by kernel_rfl) ?_ ?_
    · intro X w1 k1 hG hdep
      have e16 : tokR g b4 W0.heap.size n til (.slice A n c) q17 q25 q26 16 (X 16) w1 := hdep 16 (by decide +kernel)
      rw [tokR_16] at e16; simp only [opW_def, mixT, e16]; go_simp
      exact ⟨⟨.int .i64 q17, by first | rfl | simp [Act.put], Mv.refl _ _, hG.less, (show tokR g b4 W0.heap.size n til (.slice A n c) q17 q25 q26 17 _ _ from by first | (rw [tokR_17]; exact rfl) | rw [tokR_17])⟩⟩
    refine stepsT_op (by kernel_rfl) ?_ ?_
    · intro X w1 k1 hG hdep
      have e13 : tokR g b4 W0.heap.size n til (.slice A n c) q17 q25 q26 13 (X 13) w1 := hdep 13 (by decide +kernel)
      rw [tokR_13] at e13
      have e17 : tokR g b4 W0.heap.size n til (.slice A n c) q17 q25 q26 17 (X 17) w1 := hdep 17 (by decide +kernel)
      rw [tokR_17] at e17; simp only [opW_def, mixT, e13, e17]; go_simp; refine (Left.pickI hG (by omega) q17 hq17).mono ?_; rintro x w2 ⟨z, rfl, hz, m9, hl⟩
      exact ⟨⟨.int .i64 z, by first | rfl | simp [Act.put], m9, hl, (show tokR g b4 W0.heap.size n til (.slice A n c) q17 q25 q26 18 _ _ from by first | (rw [tokR_18]; exact ⟨z, rfl⟩) | rw [tokR_18])⟩⟩
    refine stepsT_op (by kernel_rfl) ?_ ?_
    · intro X w1 k1 hG hdep
      simp only [opW_def, mixT]; go_simp
      exact ⟨⟨.pointer (some ⟨g, 0, none⟩), by first | rfl | simp [Act.put], Mv.refl _ _, hG.less, (show tokR g b4 W0.heap.size n til (.slice A n c) q17 q25 q26 19 _ _ from by first | (rw [tokR_19]; exact rfl) | rw [tokR_19])⟩⟩
    refine stepsT_op (by kernel_rfl) ?_ ?_
    · intro X w1 k1 hG hdep
      have e19 : tokR g b4 W0.heap.size n til (.slice A n c) q17 q25 q26 19 (X 19) w1 := hdep 19 (by decide +kernel)
      rw [tokR_19] at e19; simp only [opW_def, mixT, e19]; go_simp; refine (Left.pickI hG (by omega) 5 ⟨by omega, by omega⟩).mono ?_; rintro x w2 ⟨z, rfl, hz, m9, hl⟩
      exact ⟨⟨.int .i64 z, by first | rfl | simp [Act.put], m9, hl, (show tokR g b4 W0.heap.size n til (.slice A n c) q17 q25 q26 20 _ _ from by first | (rw [tokR_20]; exact ⟨z, rfl⟩) | rw [tokR_20])⟩⟩
    refine stepsT_op (by kernel_rfl) ?_ ?_
    · intro X w1 k1 hG hdep
      have e20 : tokR g b4 W0.heap.size n til (.slice A n c) q17 q25 q26 20 (X 20) w1 := hdep 20 (by decide +kernel)
      rw [tokR_20] at e20; obtain ⟨z20, e20⟩ := e20; simp only [opW_def, mixT, e20]; go_simp
      exact ⟨⟨_, by first | rfl | simp [Act.put], Mv.refl _ _, hG.less, (show tokR g b4 W0.heap.size n til (.slice A n c) q17 q25 q26 21 _ _ from by first | (rw [tokR_21]; exact ⟨_, rfl⟩) | rw [tokR_21])⟩⟩
    refine stepsT_op (by kernel_rfl) ?_ ?_
    · intro X w1 k1 hG hdep
      simp only [opW_def, mixT]; go_simp
      exact ⟨⟨.pointer (some ⟨g, 0, none⟩), by first | rfl | simp [Act.put], Mv.refl _ _, hG.less, (show tokR g b4 W0.heap.size n til (.slice A n c) q17 q25 q26 22 _ _ from by first | (rw [tokR_22]; exact rfl) | rw [tokR_22])⟩⟩
    refine stepsT_op (by kernel_rfl) ?_ ?_
    · intro X w1 k1 hG hdep
      have lp := (X4.out.mv hG.2 nb4.out).lt
      simp only [opW_def, mixT]; go_simp
      exact ⟨⟨.pointer (some ⟨b4, 2, none⟩), by first | rfl | simp [Act.put], Mv.refl _ _, hG.less, (show tokR g b4 W0.heap.size n til (.slice A n c) q17 q25 q26 23 _ _ from by first | (rw [tokR_23]; exact rfl) | rw [tokR_23])⟩⟩
    refine stepsT_op (by kernel_rfl) ?_ ?_
    · intro X w1 k1 hG hdep
      have e23 : tokR g b4 W0.heap.size n til (.slice A n c) q17 q25 q26 23 (X 23) w1 := hdep 23 (by decide +kernel)
      rw [tokR_23] at e23
      have p2 := (X4.out.mv hG.2 nb4.out).cell (j := 2) rfl
      have lp := (X4.out.mv hG.2 nb4.out).lt
      simp only [opW_def, mixT, e23]; go_simp
      exact ⟨⟨.int .i64 til, by first | rfl | simp [Act.put], Mv.refl _ _, hG.less, (show tokR g b4 W0.heap.size n til (.slice A n c) q17 q25 q26 24 _ _ from by first | (rw [tokR_24]; exact rfl) | rw [tokR_24])⟩⟩
    refine stepsT_op (by kernel_rfl) ?_ ?_
    · intro X w1 k1 hG hdep
      have e24 : tokR g b4 W0.heap.size n til (.slice A n c) q17 q25 q26 24 (X 24) w1 := hdep 24 (by decide +kernel)
      rw [tokR_24] at e24; simp only [opW_def, mixT, e24]; go_simp
      exact ⟨⟨.int .i64 q25, by first | rfl | simp [Act.put], Mv.refl _ _, hG.less, (show tokR g b4 W0.heap.size n til (.slice A n c) q17 q25 q26 25 _ _ from by first | (rw [tokR_25]; exact rfl) | rw [tokR_25])⟩⟩
    refine stepsT_op (by kernel_rfl) ?_ ?_
    · intro X w1 k1 hG hdep
      have e25 : tokR g b4 W0.heap.size n til (.slice A n c) q17 q25 q26 25 (X 25) w1 := hdep 25 (by decide +kernel)
      rw [tokR_25] at e25; simp only [opW_def, mixT, e25]; go_simp
      exact ⟨⟨.int .i64 q26, by first | rfl | simp [Act.put], Mv.refl _ _, hG.less, (show tokR g b4 W0.heap.size n til (.slice A n c) q17 q25 q26 26 _ _ from by first | (rw [tokR_26]; exact rfl) | rw [tokR_26])⟩⟩
    refine stepsT_op (by kernel_rfl) ?_ ?_
    · intro X w1 k1 hG hdep
      have e22 : tokR g b4 W0.heap.size n til (.slice A n c) q17 q25 q26 22 (X 22) w1 := hdep 22 (by decide +kernel)
      rw [tokR_22] at e22
      have e26 : tokR g b4 W0.heap.size n til (.slice A n c) q17 q25 q26 26 (X 26) w1 := hdep 26 (by decide +kernel)
      rw [tokR_26] at e26; simp only [opW_def, mixT, e22, e26]; go_simp; refine (Left.pickI hG (by omega) q26 hq26).mono ?_; rintro x w2 ⟨z, rfl, hz, m9, hl⟩
      exact ⟨⟨.int .i64 z, by first | rfl | simp [Act.put], m9, hl, (show tokR g b4 W0.heap.size n til (.slice A n c) q17 q25 q26 27 _ _ from by first | (rw [tokR_27]; exact ⟨z, rfl⟩) | rw [tokR_27])⟩⟩
    refine stepsT_op (by kernel_rfl) ?_ ?_
    · intro X w1 k1 hG hdep
      have e10 : tokR g b4 W0.heap.size n til (.slice A n c) q17 q25 q26 10 (X 10) w1 := hdep 10 (by decide +kernel)
      rw [tokR_10] at e10; obtain ⟨z10, e10⟩ := e10
      have e12 : tokR g b4 W0.heap.size n til (.slice A n c) q17 q25 q26 12 (X 12) w1 := hdep 12 (by decide +kernel)
      rw [tokR_12] at e12; obtain ⟨z12, e12⟩ := e12
      have e18 : tokR g b4 W0.heap.size n til (.slice A n c) q17 q25 q26 18 (X 18) w1 := hdep 18 (by decide +kernel)
      rw [tokR_18] at e18; obtain ⟨z18, e18⟩ := e18
      have e21 : tokR g b4 W0.heap.size n til (.slice A n c) q17 q25 q26 21 (X 21) w1 := hdep 21 (by decide +kernel)
      rw [tokR_21] at e21; obtain ⟨z21, e21⟩ := e21
      have e27 : tokR g b4 W0.heap.size n til (.slice A n c) q17 q25 q26 27 (X 27) w1 := hdep 27 (by decide +kernel)
      rw [tokR_27] at e27; obtain ⟨z27, e27⟩ := e27; simp only [opW_def, mixT, e10, e12, e18, e21, e27]; go_simp
      exact ⟨⟨_, by first | rfl | simp [Act.put], Mv.refl _ _, hG.less, (show tokR g b4 W0.heap.size n til (.slice A n c) q17 q25 q26 28 _ _ from by first | (rw [tokR_28]; exact ⟨_, _, _, _, _, rfl⟩) | rw [tokR_28])⟩⟩
    refine stepsT_op (by kernel_rfl) ?_ ?_
    · intro X w1 k1 hG hdep
      have hg := hG.lt
      have hlo := hG.base
      simp only [opW_def, mixT]; go_simp
      exact ⟨⟨_, by first | rfl | simp [Act.put], (Mv.refl _ _).alloc _, hG.mv ((Up.refl _).alloc _), (show tokR g b4 W0.heap.size n til (.slice A n c) q17 q25 q26 7 _ _ from by first | (rw [tokR_7]; exact IsNewN.new w1 _ _ rfl hg hlo) | rw [tokR_7])⟩⟩
    exact trivial
  · intro h p _ hp
    cases hp
  · intro X w1 hG hR
    have e28 : tokR g b4 W0.heap.size n til (.slice A n c) q17 q25 q26 28 (X 28) w1 := hR 20 (by omega)
    rw [tokR_28] at e28; obtain ⟨q0, q1, q2, q3, q4, e28⟩ := e28
    have e7 : tokR g b4 W0.heap.size n til (.slice A n c) q17 q25 q26 7 (X 7) w1 := hR 21 (by omega)
    rw [tokR_7] at e7; obtain ⟨b7, xs, e7, h7g, h7b, h7, h7s⟩ := e7; obtain ⟨x0, x1, x2, x3, x4, rfl⟩ := arr_five h7s
    have B7 : Bk w1 b7 _ := ⟨_, h7⟩
    obtain ⟨⟨N1, hN1, rd1⟩, mv1⟩ := hG
    have n67 : b6 ≠ b7 := by have := hs1.out; omega
    have n47 : b4 ≠ b7 := by have := hs1.out; omega
    have h7w : b4 ≤ b7 := by have := hs1.out; omega
    have X7 := Lib.hid (putK_bk B7 q0 q1 q2 q3 q4)
    replace X6 := Lib.hid (putK_far (X6.out.mv mv1 nb6.out) n67 q0 q1 q2 q3 q4)
    replace X4 := Lib.hid (putK_far (X4.out.mv mv1 nb4.out) n47 q0 q1 q2 q3 q4)
    replace RR := Lib.hid (putK_rd (b := b7) rd1 (by have := hs1.out; omega) q0 q1 q2 q3 q4)
    replace MM := Lib.hid (putK_mv (b := b7) (MM.out.trans mv1) (by have := hs1.out; omega) q0 q1 q2 q3 q4)
    unfold putK at X7 X6 X4 RR MM
    have c0 := B7.cell (j := 0) rfl
    have c1 := B7.cell (j := 1) rfl
    have c2 := B7.cell (j := 2) rfl
    have c3 := B7.cell (j := 3) rfl
    have c4 := B7.cell (j := 4) rfl
    have f7 := fun j => B7.frozen j
    have l7 := B7.lt
    clear hR B7 h7 mv1 rd1 HG; simp only [mixT, e28, e7]; refine mix_go rfl (by rfl) (fun K hK => ?_); go_simp; refine hK _ _ ?_; clear hK K; refine mix_nil ?_; clear c0 c1 c2 c3 c4 f7 l7 e28 e7
    generalize ((((w1.setCell ⟨b7, 0, none⟩ (.bool q0)).setCell ⟨b7, 1, none⟩ (.int .i64 q1)).setCell ⟨b7, 2, none⟩ (.int .i64 q2)).setCell ⟨b7, 3, none⟩ (.int .i64 q3)).setCell ⟨b7, 4, none⟩ (.int .i64 q4) = W1 at *
    have n7g := Lib.hid h7g
    have h7g2 : g < b7 := by omega
    clear h7g
    go_wp2_with fail
    refine (odd_any g N1 num _ HN.out (by omega) RR.out).mono ?_; rintro x w5 ⟨bb, rfl, r5, m5⟩
    replace X4 := Lib.hid (X4.out.mv m5 nb4.out)
    replace X6 := Lib.hid (X6.out.mv m5 nb6.out)
    replace X7 := Lib.hid (X7.out.mv m5 n7g.out)
    replace RR := Lib.hid r5
    replace MM := Lib.hid (MM.out.trans m5)
    clear r5 m5
    cases bb
    · have K6 := Lib.hid (putK_bk X6.out (q0) (q1) (q2) (q3) (q4))
      have RE := Lib.hid (putK_rd RR.out (show g < b6 by omega) (q0) (q1) (q2) (q3) (q4))
      have ME := Lib.hid (putK_mv (b := b6) MM.out (by omega) (q0) (q1) (q2) (q3) (q4))
      unfold putK at K6 RE ME
      have c0 := X7.out.cell (j := 0) rfl
      have c1 := X7.out.cell (j := 1) rfl
      have c2 := X7.out.cell (j := 2) rfl
      have c3 := X7.out.cell (j := 3) rfl
      have c4 := X7.out.cell (j := 4) rfl
      have y0 := X6.out.cell (j := 0) rfl
      have y1 := X6.out.cell (j := 1) rfl
      have y2 := X6.out.cell (j := 2) rfl
      have y3 := X6.out.cell (j := 3) rfl
      have y4 := X6.out.cell (j := 4) rfl
      have f6 := fun j => X6.out.frozen j
      have l7 := X7.out.lt
      have l6 := X6.out.lt
      go_wp2
      have k0 := K6.out.cell (j := 0) rfl
      have k1 := K6.out.cell (j := 1) rfl
      have k2 := K6.out.cell (j := 2) rfl
      have k3 := K6.out.cell (j := 3) rfl
      have k4 := K6.out.cell (j := 4) rfl
      exact bodyPost_ret (v := .agg #[.bool q0, .int .i64 q1, .int .i64 q2, .int .i64 q3, .int .i64 q4]) (by simp [results, Try.results18, go_sem, k0, k1, k2, k3, k4]) rfl ⟨⟨q0, q1, q2, q3, q4⟩, rfl, RE.out.mono (by omega), ME.out⟩

    · go_wp2_with fail
      refine (pick_any g (N1 + 1) 3 _ ⟨by omega, by omega⟩ (by omega) RR.out).mono ?_; intro x w6 pk; obtain ⟨v6, rfl, a6, b6', c6', r6, m6⟩ := pk.cases (by omega)
      replace X4 := Lib.hid (X4.out.mv m6 nb4.out)
      replace X6 := Lib.hid (X6.out.mv m6 nb6.out)
      replace X7 := Lib.hid (X7.out.mv m6 n7g.out)
      replace RR := Lib.hid r6
      replace MM := Lib.hid (MM.out.trans m6)
      clear pk r6 m6 c6'
      by_cases jv0 : v6 = 0
      · subst jv0
        go_wp2_with fail
        refine (pick_any g (N1 + 2) 2 _ ⟨by omega, by omega⟩ (by omega) (RR.out.alloc _)).mono ?_; intro x w8 pk; obtain ⟨v7, rfl, a7, b7', c7', r7, m7⟩ := pk.cases (by omega); obtain ⟨v8, hv8, hl8⟩ := two_num m7 (show g < w6.heap.size by have := X7.out.lt; omega) a7 (by omega)
        have l8 : v7 < 2 := by omega
        replace X4 := Lib.hid ((X4.out.alloc (.cells #[.int .i64 (-1), .int .i64 (1000)] 3)).mv m7 nb4.out)
        replace X6 := Lib.hid ((X6.out.alloc (.cells #[.int .i64 (-1), .int .i64 (1000)] 3)).mv m7 nb6.out)
        replace X7 := Lib.hid ((X7.out.alloc (.cells #[.int .i64 (-1), .int .i64 (1000)] 3)).mv m7 n7g.out)
        replace RR := Lib.hid r7
        replace MM := Lib.hid ((MM.out.alloc _).trans m7)
        have hw8 : w6.heap.size < w8.heap.size := by have := m7.size; simp at this; omega
        clear pk r7 m7 c7' hv8
        have c0 := X7.out.cell (j := 0) rfl
        have c1 := X7.out.cell (j := 1) rfl
        have c2 := X7.out.cell (j := 2) rfl
        have c3 := X7.out.cell (j := 3) rfl
        have c4 := X7.out.cell (j := 4) rfl
        have f7 := fun j => X7.out.frozen j
        have l7 := X7.out.lt

        have hs8 := hl8
        have X6s := bk_far _ (o := 1) (.int .i64 v8) X6.out n67
        have RRs := Lib.hid (RR.out.setCell (p := ⟨b7, 1, none⟩) h7g2 (.int .i64 v8))
        have MMs := Lib.hid (MM.out.setNew (p := ⟨b7, 1, none⟩) (show w.heap.size ≤ b7 by omega) (.int .i64 v8))
        have X6s := Lib.hid X6s

        have K6 := Lib.hid (putK_bk X6s.out (q0) (v8) (q2) (q3) (q4))
        have RE := Lib.hid (putK_rd RRs.out (show g < b6 by omega) (q0) (v8) (q2) (q3) (q4))
        have ME := Lib.hid (putK_mv (b := b6) MMs.out (by omega) (q0) (v8) (q2) (q3) (q4))
        unfold putK at K6 RE ME
        have y0 := X6.out.cell (j := 0) rfl
        have y1 := X6.out.cell (j := 1) rfl
        have y2 := X6.out.cell (j := 2) rfl
        have y3 := X6.out.cell (j := 3) rfl
        have y4 := X6.out.cell (j := 4) rfl
        have f6 := fun j => X6.out.frozen j
        have l6 := X6.out.lt
        go_wp2
        have k0 := K6.out.cell (j := 0) rfl
        have k1 := K6.out.cell (j := 1) rfl
        have k2 := K6.out.cell (j := 2) rfl
        have k3 := K6.out.cell (j := 3) rfl
        have k4 := K6.out.cell (j := 4) rfl
        exact bodyPost_ret (v := .agg #[.bool q0, .int .i64 v8, .int .i64 q2, .int .i64 q3, .int .i64 q4]) (by simp [results, Try.results18, go_sem, k0, k1, k2, k3, k4]) rfl ⟨⟨q0, v8, q2, q3, q4⟩, rfl, RE.out.mono (by omega), ME.out⟩

      · have jn0 : ((v6 : Int) == 0) = false := by simp; omega
        by_cases jv1 : v6 = 1
        · subst jv1
          go_wp2_with fail
          have HG := Lib.hid (show Left g (N1 + 2 + 9) w6 9 w6.drew from ⟨⟨N1 + 2, Nat.le_refl _, RR.out.up (Up.refl _).drew⟩, (Up.refl _).drew.mv g⟩)
          have hlo7 := X7.out.lt
          refine region_relyT 9 [] [(9, false)] [53, 54, 55, 56, 57, 58, 59, 60, 61] 9 (Left g (N1 + 2 + 9) w6) (Mv g) (fun i v w => tokE g b4 w6.heap.size b7 n til (.slice A n c) q17 q25 q26 i v w) (by kernel_rfl) (by kernel_rfl) (by kernel_rfl) (by kernel_rfl) HG.out (fun slot_ _ _ _ h u => tokE_mv g b4 w6.heap.size b7 n til (.slice A n c) q17 q25 q26 slot_ h u) ?_ ?_ ?_
          · simp only [List.take_succ_cons, List.take_zero]
            refine stepsT_op (by kernel_rfl) ?_ ?_
            · intro X w1 k1 hG hdep
              have lp := (X4.out.mv hG.2 nb4.out).lt
              simp only [opW_def, mixT]; go_simp
              exact ⟨⟨.pointer (some ⟨b4, 0, none⟩), by first | rfl | simp [Act.put], Mv.refl _ _, hG.less, (show tokE g b4 w6.heap.size b7 n til (.slice A n c) q17 q25 q26 53 _ _ from by first | (rw [tokE_53]; exact rfl) | rw [tokE_53])⟩⟩
            refine stepsT_op (by kernel_rfl) ?_ ?_
            · intro X w1 k1 hG hdep
              have e53 : tokE g b4 w6.heap.size b7 n til (.slice A n c) q17 q25 q26 53 (X 53) w1 := hdep 53 (by decide +kernel)
              rw [tokE_53] at e53
              have p0 := (X4.out.mv hG.2 nb4.out).cell (j := 0) rfl
              have lp := (X4.out.mv hG.2 nb4.out).lt
              simp only [opW_def, mixT, e53]; go_simp
              exact ⟨⟨.slice A n c, by first | rfl | simp [Act.put], Mv.refl _ _, hG.less, (show tokE g b4 w6.heap.size b7 n til (.slice A n c) q17 q25 q26 54 _ _ from by first | (rw [tokE_54]; exact rfl) | rw [tokE_54])⟩⟩
            refine stepsT_op (by kernel_rfl) ?_ ?_
            · intro X w1 k1 hG hdep
              have e54 : tokE g b4 w6.heap.size b7 n til (.slice A n c) q17 q25 q26 54 (X 54) w1 := hdep 54 (by decide +kernel)
              rw [tokE_54] at e54; simp only [opW_def, mixT, e54]; go_simp
              exact ⟨⟨.int .i64 (n : Int), by first | rfl | simp [Act.put], Mv.refl _ _, hG.less, (show tokE g b4 w6.heap.size b7 n til (.slice A n c) q17 q25 q26 55 _ _ from by first | (rw [tokE_55]; exact rfl) | rw [tokE_55])⟩⟩
            refine stepsT_op (by kernel_rfl) ?_ ?_
            · intro X w1 k1 hG hdep
              have e55 : tokE g b4 w6.heap.size b7 n til (.slice A n c) q17 q25 q26 55 (X 55) w1 := hdep 55 (by decide +kernel)
              rw [tokE_55] at e55
              have hg := hG.lt
              have hlo := hG.base
              simp only [opW_def, mixT, e55]; go_simp
              exact ⟨⟨.slice (some ⟨w1.heap.size, 0, none⟩) 2 2, by first | rfl | simp [Act.put], (Mv.refl _ _).alloc _, hG.mv ((Up.refl _).alloc _), (show tokE g b4 w6.heap.size b7 n til (.slice A n c) q17 q25 q26 56 _ _ from by first | (rw [tokE_56]; exact IsTwo.new w1 (-1) ((n : Int)) _ hg hlo (by omega) (by omega)) | rw [tokE_56])⟩⟩
            refine stepsT_op (by kernel_rfl) ?_ ?_
            · intro X w1 k1 hG hdep
              simp only [opW_def, mixT]; go_simp
              exact ⟨⟨.pointer (some ⟨g, 0, none⟩), by first | rfl | simp [Act.put], Mv.refl _ _, hG.less, (show tokE g b4 w6.heap.size b7 n til (.slice A n c) q17 q25 q26 57 _ _ from by first | (rw [tokE_57]; exact rfl) | rw [tokE_57])⟩⟩
            refine stepsT_op (by kernel_rfl) ?_ ?_
            · intro X w1 k1 hG hdep
              have e57 : tokE g b4 w6.heap.size b7 n til (.slice A n c) q17 q25 q26 57 (X 57) w1 := hdep 57 (by decide +kernel)
              rw [tokE_57] at e57; simp only [opW_def, mixT, e57]; go_simp; refine (Left.pick hG (by omega) 2 (by omega) (by omega)).mono ?_; rintro x w2 ⟨z, rfl, hz, m9, hl⟩
              exact ⟨⟨.int .i64 z, by first | rfl | simp [Act.put], m9, hl, (show tokE g b4 w6.heap.size b7 n til (.slice A n c) q17 q25 q26 58 _ _ from by first | (rw [tokE_58]; exact ⟨z, rfl, by omega, by omega⟩) | rw [tokE_58])⟩⟩
            refine stepsT_op (by kernel_rfl) ?_ ?_
            · intro X w1 k1 hG hdep
              have e56 : tokE g b4 w6.heap.size b7 n til (.slice A n c) q17 q25 q26 56 (X 56) w1 := hdep 56 (by decide +kernel)
              rw [tokE_56] at e56; obtain ⟨b, x, y, e56, h1, h2, h3, h4, h5, h6, h7⟩ := e56
              have e58 : tokE g b4 w6.heap.size b7 n til (.slice A n c) q17 q25 q26 58 (X 58) w1 := hdep 58 (by decide +kernel)
              rw [tokE_58] at e58; obtain ⟨z33, e58, h33⟩ := e58
              have h34 : z33 = 0 ∨ z33 = 1 := by omega
              rcases h34 with rfl | rfl
              · simp only [opW_def, mixT, e56, e58]
                go_simp
                exact ⟨⟨.pointer (some ⟨b, 0, none⟩), by first | rfl | simp [Act.put], Mv.refl _ _, hG.less, (show tokE g b4 w6.heap.size b7 n til (.slice A n c) q17 q25 q26 59 _ _ from by rw [tokE_59]; exact ⟨b, 0, x, rfl, h1, h3, h4, h6.1, h6.2⟩)⟩⟩
              · simp only [opW_def, mixT, e56, e58]
                go_simp
                exact ⟨⟨.pointer (some ⟨b, 1, none⟩), by first | rfl | simp [Act.put], Mv.refl _ _, hG.less, (show tokE g b4 w6.heap.size b7 n til (.slice A n c) q17 q25 q26 59 _ _ from by rw [tokE_59]; exact ⟨b, 1, y, rfl, h1, h3, h5, h7.1, h7.2⟩)⟩⟩
            refine stepsT_op (by kernel_rfl) ?_ ?_
            · intro X w1 k1 hG hdep
              have e59 : tokE g b4 w6.heap.size b7 n til (.slice A n c) q17 q25 q26 59 (X 59) w1 := hdep 59 (by decide +kernel)
              rw [tokE_59] at e59; obtain ⟨b, j, x, e59, h1, h2, h3, h4, h5⟩ := e59; simp only [opW_def, mixT, e59]; go_simp
              exact ⟨⟨.int .i64 x, by first | rfl | simp [Act.put], Mv.refl _ _, hG.less, (show tokE g b4 w6.heap.size b7 n til (.slice A n c) q17 q25 q26 60 _ _ from by first | (rw [tokE_60]; exact ⟨x, rfl⟩) | rw [tokE_60])⟩⟩
            refine stepsT_op (by kernel_rfl) ?_ ?_
            · intro X w1 k1 hG hdep
              have lp := (X7.out.mv hG.2 n7g.out).lt
              simp only [opW_def, mixT]; go_simp
              exact ⟨⟨.pointer (some ⟨b7, 2, none⟩), by first | rfl | simp [Act.put], Mv.refl _ _, hG.less, (show tokE g b4 w6.heap.size b7 n til (.slice A n c) q17 q25 q26 61 _ _ from by first | (rw [tokE_61]; exact rfl) | rw [tokE_61])⟩⟩
            exact trivial
          · intro h p _ hp
            cases hp
          · intro X w8 hG hR
            have e60 : tokE g b4 w6.heap.size b7 n til (.slice A n c) q17 q25 q26 60 (X 60) w8 := hR 7 (by omega)
            rw [tokE_60] at e60; obtain ⟨v8, e60⟩ := e60
            have e61 : tokE g b4 w6.heap.size b7 n til (.slice A n c) q17 q25 q26 61 (X 61) w8 := hR 8 (by omega)
            rw [tokE_61] at e61; obtain ⟨⟨N2, hN2, rd2⟩, mv2⟩ := hG
            replace X4 := Lib.hid (X4.out.mv mv2 nb4.out)
            replace X6 := Lib.hid (X6.out.mv mv2 nb6.out)
            replace X7 := Lib.hid (X7.out.mv mv2 n7g.out)
            replace RR := Lib.hid rd2
            replace MM := Lib.hid (MM.out.trans mv2)
            clear hR HG rd2 mv2 hlo7
            have c0 := X7.out.cell (j := 0) rfl
            have c1 := X7.out.cell (j := 1) rfl
            have c2 := X7.out.cell (j := 2) rfl
            have c3 := X7.out.cell (j := 3) rfl
            have c4 := X7.out.cell (j := 4) rfl
            have f7 := fun j => X7.out.frozen j
            have l7 := X7.out.lt
            simp only [mixT, e60, e61]; refine mix_go rfl (by rfl) (fun K hK => ?_); go_simp; refine hK _ _ ?_; clear hK K; refine mix_nil ?_; clear c0 c1 c2 c3 c4 f7 l7 e60 e61

            replace X7 := Lib.hid (bk_setC _ _ 2 (.int .i64 v8) X7.out)
            replace X6 := Lib.hid (bk_far _ (o := 2) (.int .i64 v8) X6.out n67)
            replace X4 := Lib.hid (bk_far _ (o := 2) (.int .i64 v8) X4.out n47)
            replace RR := Lib.hid (RR.out.setCell (p := ⟨b7, 2, none⟩) h7g2 (.int .i64 v8))
            replace MM := Lib.hid (MM.out.setNew (p := ⟨b7, 2, none⟩) (show w.heap.size ≤ b7 by omega) (.int .i64 v8))

            generalize w8.setCell ⟨b7, 2, none⟩ (.int .i64 v8) = W8 at *
            have K6 := Lib.hid (putK_bk X6.out (q0) (q1) (v8) (q3) (q4))
            have RE := Lib.hid (putK_rd RR.out (show g < b6 by omega) (q0) (q1) (v8) (q3) (q4))
            have ME := Lib.hid (putK_mv (b := b6) MM.out (by omega) (q0) (q1) (v8) (q3) (q4))
            unfold putK at K6 RE ME
            have c0 := X7.out.cell (j := 0) rfl
            have c1 := X7.out.cell (j := 1) rfl
            have c2 := X7.out.cell (j := 2) rfl
            have c3 := X7.out.cell (j := 3) rfl
            have c4 := X7.out.cell (j := 4) rfl
            have y0 := X6.out.cell (j := 0) rfl
            have y1 := X6.out.cell (j := 1) rfl
            have y2 := X6.out.cell (j := 2) rfl
            have y3 := X6.out.cell (j := 3) rfl
            have y4 := X6.out.cell (j := 4) rfl
            have f6 := fun j => X6.out.frozen j
            have l7 := X7.out.lt
            have l6 := X6.out.lt
            go_wp2
            have k0 := K6.out.cell (j := 0) rfl
            have k1 := K6.out.cell (j := 1) rfl
            have k2 := K6.out.cell (j := 2) rfl
            have k3 := K6.out.cell (j := 3) rfl
            have k4 := K6.out.cell (j := 4) rfl
            exact bodyPost_ret (v := .agg #[.bool q0, .int .i64 q1, .int .i64 v8, .int .i64 q3, .int .i64 q4]) (by simp [results, Try.results18, go_sem, k0, k1, k2, k3, k4]) rfl ⟨⟨q0, q1, v8, q3, q4⟩, rfl, RE.out.mono (by omega), ME.out⟩

        · have jn1 : ((v6 : Int) == 1) = false := by simp; omega
          go_wp2_with fail
          have HG := Lib.hid (show Left g (N1 + 2 + 9) w6 9 w6.drew from ⟨⟨N1 + 2, Nat.le_refl _, RR.out.up (Up.refl _).drew⟩, (Up.refl _).drew.mv g⟩)
          have hlo7 := X7.out.lt
          refine region_relyT 9 [] [(9, false)] [34, 35, 36, 37, 38, 39, 40, 41, 42] 9 (Left g (N1 + 2 + 9) w6) (Mv g) (fun i v w => tokF g b4 w6.heap.size b7 n til (.slice A n c) q17 q25 q26 i v w) (by kernel_rfl) (by kernel_rfl) (by kernel_rfl) (by kernel_rfl) HG.out (fun slot_ _ _ _ h u => tokF_mv g b4 w6.heap.size b7 n til (.slice A n c) q17 q25 q26 slot_ h u) ?_ ?_ ?_
          · simp only [List.take_succ_cons, List.take_zero]
            refine stepsT_op (by kernel_rfl) ?_ ?_
            · intro X w1 k1 hG hdep
              have lp := (X4.out.mv hG.2 nb4.out).lt
              simp only [opW_def, mixT]; go_simp
              exact ⟨⟨.pointer (some ⟨b4, 2, none⟩), by first | rfl | simp [Act.put], Mv.refl _ _, hG.less, (show tokF g b4 w6.heap.size b7 n til (.slice A n c) q17 q25 q26 34 _ _ from by first | (rw [tokF_34]; exact rfl) | rw [tokF_34])⟩⟩
            refine stepsT_op (by kernel_rfl) ?_ ?_
            · intro X w1 k1 hG hdep
              have e34 : tokF g b4 w6.heap.size b7 n til (.slice A n c) q17 q25 q26 34 (X 34) w1 := hdep 34 (by decide +kernel)
              rw [tokF_34] at e34
              have p2 := (X4.out.mv hG.2 nb4.out).cell (j := 2) rfl
              have lp := (X4.out.mv hG.2 nb4.out).lt
              simp only [opW_def, mixT, e34]; go_simp
              exact ⟨⟨.int .i64 til, by first | rfl | simp [Act.put], Mv.refl _ _, hG.less, (show tokF g b4 w6.heap.size b7 n til (.slice A n c) q17 q25 q26 35 _ _ from by first | (rw [tokF_35]; exact rfl) | rw [tokF_35])⟩⟩
            refine stepsT_op (by kernel_rfl) ?_ ?_
            · intro X w1 k1 hG hdep
              have e35 : tokF g b4 w6.heap.size b7 n til (.slice A n c) q17 q25 q26 35 (X 35) w1 := hdep 35 (by decide +kernel)
              rw [tokF_35] at e35; simp only [opW_def, mixT, e35]; go_simp
              exact ⟨⟨.int .i64 q25, by first | rfl | simp [Act.put], Mv.refl _ _, hG.less, (show tokF g b4 w6.heap.size b7 n til (.slice A n c) q17 q25 q26 36 _ _ from by first | (rw [tokF_36]; exact rfl) | rw [tokF_36])⟩⟩
            refine stepsT_op (by kernel_rfl) ?_ ?_
            · intro X w1 k1 hG hdep
              have e36 : tokF g b4 w6.heap.size b7 n til (.slice A n c) q17 q25 q26 36 (X 36) w1 := hdep 36 (by decide +kernel)
              rw [tokF_36] at e36
              have hg := hG.lt
              have hlo := hG.base
              simp only [opW_def, mixT, e36]; go_simp
              exact ⟨⟨.slice (some ⟨w1.heap.size, 0, none⟩) 2 2, by first | rfl | simp [Act.put], (Mv.refl _ _).alloc _, hG.mv ((Up.refl _).alloc _), (show tokF g b4 w6.heap.size b7 n til (.slice A n c) q17 q25 q26 37 _ _ from by first | (rw [tokF_37]; exact IsTwo.new w1 (-1) (q25) _ hg hlo (by omega) (by have := V25.out; omega)) | rw [tokF_37])⟩⟩
            refine stepsT_op (by kernel_rfl) ?_ ?_
            · intro X w1 k1 hG hdep
              simp only [opW_def, mixT]; go_simp
              exact ⟨⟨.pointer (some ⟨g, 0, none⟩), by first | rfl | simp [Act.put], Mv.refl _ _, hG.less, (show tokF g b4 w6.heap.size b7 n til (.slice A n c) q17 q25 q26 38 _ _ from by first | (rw [tokF_38]; exact rfl) | rw [tokF_38])⟩⟩
            refine stepsT_op (by kernel_rfl) ?_ ?_
            · intro X w1 k1 hG hdep
              have e38 : tokF g b4 w6.heap.size b7 n til (.slice A n c) q17 q25 q26 38 (X 38) w1 := hdep 38 (by decide +kernel)
              rw [tokF_38] at e38; simp only [opW_def, mixT, e38]; go_simp; refine (Left.pick hG (by omega) 2 (by omega) (by omega)).mono ?_; rintro x w2 ⟨z, rfl, hz, m9, hl⟩
              exact ⟨⟨.int .i64 z, by first | rfl | simp [Act.put], m9, hl, (show tokF g b4 w6.heap.size b7 n til (.slice A n c) q17 q25 q26 39 _ _ from by first | (rw [tokF_39]; exact ⟨z, rfl, by omega, by omega⟩) | rw [tokF_39])⟩⟩
            refine stepsT_op (by kernel_rfl) ?_ ?_
            · intro X w1 k1 hG hdep
              have e37 : tokF g b4 w6.heap.size b7 n til (.slice A n c) q17 q25 q26 37 (X 37) w1 := hdep 37 (by decide +kernel)
              rw [tokF_37] at e37; obtain ⟨b, x, y, e37, h1, h2, h3, h4, h5, h6, h7⟩ := e37
              have e39 : tokF g b4 w6.heap.size b7 n til (.slice A n c) q17 q25 q26 39 (X 39) w1 := hdep 39 (by decide +kernel)
              rw [tokF_39] at e39; obtain ⟨z33, e39, h33⟩ := e39
              have h34 : z33 = 0 ∨ z33 = 1 := by omega
              rcases h34 with rfl | rfl
              · simp only [opW_def, mixT, e37, e39]
                go_simp
                exact ⟨⟨.pointer (some ⟨b, 0, none⟩), by first | rfl | simp [Act.put], Mv.refl _ _, hG.less, (show tokF g b4 w6.heap.size b7 n til (.slice A n c) q17 q25 q26 40 _ _ from by rw [tokF_40]; exact ⟨b, 0, x, rfl, h1, h3, h4, h6.1, h6.2⟩)⟩⟩
              · simp only [opW_def, mixT, e37, e39]
                go_simp
                exact ⟨⟨.pointer (some ⟨b, 1, none⟩), by first | rfl | simp [Act.put], Mv.refl _ _, hG.less, (show tokF g b4 w6.heap.size b7 n til (.slice A n c) q17 q25 q26 40 _ _ from by rw [tokF_40]; exact ⟨b, 1, y, rfl, h1, h3, h5, h7.1, h7.2⟩)⟩⟩
            refine stepsT_op (by kernel_rfl) ?_ ?_
            · intro X w1 k1 hG hdep
              have e40 : tokF g b4 w6.heap.size b7 n til (.slice A n c) q17 q25 q26 40 (X 40) w1 := hdep 40 (by decide +kernel)
              rw [tokF_40] at e40; obtain ⟨b, j, x, e40, h1, h2, h3, h4, h5⟩ := e40; simp only [opW_def, mixT, e40]; go_simp
              exact ⟨⟨.int .i64 x, by first | rfl | simp [Act.put], Mv.refl _ _, hG.less, (show tokF g b4 w6.heap.size b7 n til (.slice A n c) q17 q25 q26 41 _ _ from by first | (rw [tokF_41]; exact ⟨x, rfl⟩) | rw [tokF_41])⟩⟩
            refine stepsT_op (by kernel_rfl) ?_ ?_
            · intro X w1 k1 hG hdep
              have lp := (X7.out.mv hG.2 n7g.out).lt
              simp only [opW_def, mixT]; go_simp
              exact ⟨⟨.pointer (some ⟨b7, 4, none⟩), by first | rfl | simp [Act.put], Mv.refl _ _, hG.less, (show tokF g b4 w6.heap.size b7 n til (.slice A n c) q17 q25 q26 42 _ _ from by first | (rw [tokF_42]; exact rfl) | rw [tokF_42])⟩⟩
            exact trivial
          · intro h p _ hp
            cases hp
          · intro X w8 hG hR
            have e41 : tokF g b4 w6.heap.size b7 n til (.slice A n c) q17 q25 q26 41 (X 41) w8 := hR 7 (by omega)
            rw [tokF_41] at e41; obtain ⟨v8, e41⟩ := e41
            have e42 : tokF g b4 w6.heap.size b7 n til (.slice A n c) q17 q25 q26 42 (X 42) w8 := hR 8 (by omega)
            rw [tokF_42] at e42; obtain ⟨⟨N2, hN2, rd2⟩, mv2⟩ := hG
            replace X4 := Lib.hid (X4.out.mv mv2 nb4.out)
            replace X6 := Lib.hid (X6.out.mv mv2 nb6.out)
            replace X7 := Lib.hid (X7.out.mv mv2 n7g.out)
            replace RR := Lib.hid rd2
            replace MM := Lib.hid (MM.out.trans mv2)
            clear hR HG rd2 mv2 hlo7
            have c0 := X7.out.cell (j := 0) rfl
            have c1 := X7.out.cell (j := 1) rfl
            have c2 := X7.out.cell (j := 2) rfl
            have c3 := X7.out.cell (j := 3) rfl
            have c4 := X7.out.cell (j := 4) rfl
            have f7 := fun j => X7.out.frozen j
            have l7 := X7.out.lt
            simp only [mixT, e41, e42]; refine mix_go rfl (by rfl) (fun K hK => ?_); go_simp; refine hK _ _ ?_; clear hK K; refine mix_nil ?_; clear c0 c1 c2 c3 c4 f7 l7 e41 e42

            replace X7 := Lib.hid (bk_setC _ _ 4 (.int .i64 v8) X7.out)
            replace X6 := Lib.hid (bk_far _ (o := 4) (.int .i64 v8) X6.out n67)
            replace X4 := Lib.hid (bk_far _ (o := 4) (.int .i64 v8) X4.out n47)
            replace RR := Lib.hid (RR.out.setCell (p := ⟨b7, 4, none⟩) h7g2 (.int .i64 v8))
            replace MM := Lib.hid (MM.out.setNew (p := ⟨b7, 4, none⟩) (show w.heap.size ≤ b7 by omega) (.int .i64 v8))

            generalize w8.setCell ⟨b7, 4, none⟩ (.int .i64 v8) = W8 at *
            have K6 := Lib.hid (putK_bk X6.out (q0) (q1) (q2) (q3) (v8))
            have RE := Lib.hid (putK_rd RR.out (show g < b6 by omega) (q0) (q1) (q2) (q3) (v8))
            have ME := Lib.hid (putK_mv (b := b6) MM.out (by omega) (q0) (q1) (q2) (q3) (v8))
            unfold putK at K6 RE ME
            have c0 := X7.out.cell (j := 0) rfl
            have c1 := X7.out.cell (j := 1) rfl
            have c2 := X7.out.cell (j := 2) rfl
            have c3 := X7.out.cell (j := 3) rfl
            have c4 := X7.out.cell (j := 4) rfl
            have y0 := X6.out.cell (j := 0) rfl
            have y1 := X6.out.cell (j := 1) rfl
            have y2 := X6.out.cell (j := 2) rfl
            have y3 := X6.out.cell (j := 3) rfl
            have y4 := X6.out.cell (j := 4) rfl
            have f6 := fun j => X6.out.frozen j
            have l7 := X7.out.lt
            have l6 := X6.out.lt
            go_wp2
            have k0 := K6.out.cell (j := 0) rfl
            have k1 := K6.out.cell (j := 1) rfl
            have k2 := K6.out.cell (j := 2) rfl
            have k3 := K6.out.cell (j := 3) rfl
            have k4 := K6.out.cell (j := 4) rfl
            exact bodyPost_ret (v := .agg #[.bool q0, .int .i64 q1, .int .i64 q2, .int .i64 q3, .int .i64 v8]) (by simp [results, Try.results18, go_sem, k0, k1, k2, k3, k4]) rfl ⟨⟨q0, q1, q2, q3, v8⟩, rfl, RE.out.mono (by omega), ME.out⟩
end Go.Proofs.Ytpainlcehgiokaa

/-
  What DrawCmpDo gives, in one sentence: a model, a component and an event, with new blocks alone; for every code that lies in memory.
  What times, plus and next return, in one sentence: the product, the sum and the next state modulo 97; for numbers in bounds.
-/
import Derived.Test.YtipjcjjjkkaigaaDLLook03
import Derived.Test.YtipjcjjjkkaigaaDLLook08
import Derived.Test.YtipjcjjjkkaigaaDLLook16
import Derived.Test.YtipjcjjjkkaigaaDLLook19
namespace Go.Proofs.Ytipjcjjjkkaigaa
set_option maxRecDepth 100000
open Go.RowKit
set_option maxHeartbeats 8000000 in
theorem drawCD_any (A : Option Addr) (n cap : Nat) (w : World) (hc : n ≤ cap) (hmax : cap ≤ 9223372036854775807) (hB : Bys w A n w.heap.size) :
    Calls Try.prog 27 #[.slice A n cap] w (DrawnCD w) := by
  have HB := Lib.hid hB
  clear hB
  go_enter Try.func27, Try.ntmps27
  go_wp2_with fail
  have U0 := Lib.hid ((((Up.refl w).alloc (.cells #[.slice none 0 0, .slice none 0 0, .int .i64 0] 38)).alloc (.cells #[.int .i64 0, .int .i64 0, .int .i64 0] 28)).alloc (.cells #[.int .i64 0, .int .i64 0, .int .i64 0, .int .i64 0, .int .i64 0, .int .i64 0] 51))
  have R2 := Lib.hid (((Blk.new w #[.slice none 0 0, .slice none 0 0, .int .i64 0] 38).alloc (.cells #[.int .i64 0, .int .i64 0, .int .i64 0] 28)).alloc (.cells #[.int .i64 0, .int .i64 0, .int .i64 0, .int .i64 0, .int .i64 0, .int .i64 0] 51))
  have R3 := Lib.hid (show Blk (((w.alloc (.cells #[.slice none 0 0, .slice none 0 0, .int .i64 0] 38)).alloc (.cells #[.int .i64 0, .int .i64 0, .int .i64 0] 28)).alloc (.cells #[.int .i64 0, .int .i64 0, .int .i64 0, .int .i64 0, .int .i64 0, .int .i64 0] 51)) (w.heap.size + 1) 28 #[.int .i64 0, .int .i64 0, .int .i64 0] by
    have := (Blk.new (w.alloc (.cells #[.slice none 0 0, .slice none 0 0, .int .i64 0] 38)) #[.int .i64 0, .int .i64 0, .int .i64 0] 28).alloc (.cells #[.int .i64 0, .int .i64 0, .int .i64 0, .int .i64 0, .int .i64 0, .int .i64 0] 51)
    simpa using this)
  have R4 := Lib.hid (show Blk (((w.alloc (.cells #[.slice none 0 0, .slice none 0 0, .int .i64 0] 38)).alloc (.cells #[.int .i64 0, .int .i64 0, .int .i64 0] 28)).alloc (.cells #[.int .i64 0, .int .i64 0, .int .i64 0, .int .i64 0, .int .i64 0, .int .i64 0] 51)) (w.heap.size + 2) 51 #[.int .i64 0, .int .i64 0, .int .i64 0, .int .i64 0, .int .i64 0, .int .i64 0] by
    have := Blk.new ((w.alloc (.cells #[.slice none 0 0, .slice none 0 0, .int .i64 0] 38)).alloc (.cells #[.int .i64 0, .int .i64 0, .int .i64 0] 28)) #[.int .i64 0, .int .i64 0, .int .i64 0, .int .i64 0, .int .i64 0, .int .i64 0] 51
    simpa using this)
  generalize hW0 : ((w.alloc (.cells #[.slice none 0 0, .slice none 0 0, .int .i64 0] 38)).alloc (.cells #[.int .i64 0, .int .i64 0, .int .i64 0] 28)).alloc (.cells #[.int .i64 0, .int .i64 0, .int .i64 0, .int .i64 0, .int .i64 0, .int .i64 0] 51) = W0 at *
  have hs0 : W0.heap.size = w.heap.size + 3 := by rw [← hW0]; simp
  have HS0 := Lib.hid hs0
  have hlt0 : w.heap.size + 2 < W0.heap.size := by omega
  have HB0 : Bys W0 A n W0.heap.size := fun h0 => by
    obtain ⟨b, off, hA, hb, hcc⟩ := HB.out.keep (fun b o hb => U0.out.cells b o hb) h0
    exact ⟨b, off, hA, by omega, hcc⟩
  clear hW0 hs0; refine (open_any A n cap _ hc hmax HB0).mono ?_; rintro x wO ⟨g, rfl, hg, r1, u1⟩
  have hgO := r1.lt
  have R1 := Lib.hid r1
  have U1 := Lib.hid (U0.out.trans u1)
  have R2 := Lib.hid (R2.out.up u1)
  have R3 := Lib.hid (R3.out.up u1)
  have R4 := Lib.hid (R4.out.up u1)
  have hOs : W0.heap.size ≤ wO.heap.size := u1.size
  clear u1 r1 HB0 U0 HB
  go_wp2_with fail
  refine (model_any g 0 16 _ ⟨by omega, by omega⟩ (by omega) R1.out).mono ?_; rintro x w2 ⟨A, n, c, B, k, d, m, rfl, MV, ⟨hn, hnc, hcm⟩, _, _, _, r2, m2⟩
  have M2 := Lib.hid MV
  have MM2 := Lib.hid m2
  have hg2 := r2.lt
  have R2 := Lib.hid ((R2.out.mv m2 (by omega)).alloc (.cells #[.slice A n c, .slice B k d, .int .i64 m.til] 38))
  have R3 := Lib.hid ((R3.out.mv m2 (by omega)).alloc (.cells #[.slice A n c, .slice B k d, .int .i64 m.til] 38))
  have R4 := Lib.hid ((R4.out.mv m2 (by omega)).alloc (.cells #[.slice A n c, .slice B k d, .int .i64 m.til] 38))
  have M6 := Lib.hid (Blk.new w2 #[.slice A n c, .slice B k d, .int .i64 m.til] 38)
  have RR := Lib.hid (r2.alloc (.cells #[.slice A n c, .slice B k d, .int .i64 m.til] 38))
  have MG := Lib.hid ((Mv.refl g w2).alloc (.cells #[.slice A n c, .slice B k d, .int .i64 m.til] 38))
  have n6 : w2.heap.size ≠ g := by omega
  have hs2 : wO.heap.size ≤ w2.heap.size := m2.size
  clear MV m2 r2 R1
  go_wp2_with fail
  refine region_relyX 10 [(10, false), (11, false), (12, false)] [11, 12, 13, 14, 15, 16, 17, 18, 19, 20] (fun _ => 0) (GCD g 2310 (w2.alloc (.cells #[.slice A n c, .slice B k d, .int .i64 m.til] 38))) (Mv g) (cD g w2.heap.size n (.agg #[.slice A n c, .slice B k d, .int .i64 m.til]) (.slice A n c)) (by kernel_rfl) (by kernel_rfl) (by kernel_rfl) ⟨⟨2000, by omega, RR.out.mono (by omega)⟩, (Mv.refl _ _).drew⟩ (fun i v wa wb h _ => h) ?_ ?_
  · simp only [List.take_succ_cons, List.take_zero, StepsC]
    refine ⟨?_, ?_, ?_, ?_, ?_, ?_, ?_, ?_, ?_, ?_, trivial⟩
    · intro X w1 k1 hG hdep
      obtain ⟨m0, m1, m2⟩ := And.intro ((M6.out.mv hG.mv n6).cell (j := 0) rfl) (And.intro ((M6.out.mv hG.mv n6).cell (j := 1) rfl) ((M6.out.mv hG.mv n6).cell (j := 2) rfl)); simp only [opW_def, mixT]; go_simp
      exact ⟨⟨_, by first | rfl | simp [Act.put], Mv.refl _ _, ⟨by obtain ⟨cc, h1, h2⟩ := hG.rd; exact ⟨cc, by omega, h2⟩, hG.mv⟩, (show cD g w2.heap.size n (.agg #[.slice A n c, .slice B k d, .int .i64 m.til]) (.slice A n c) 0 _ _ from by first | (rw [cD_0]; exact rfl) | rw [cD_0])⟩⟩
    · intro X w1 k1 hG hdep
      simp only [opW_def, mixT]; go_simp
      exact ⟨⟨.pointer (some ⟨g, 0, none⟩), by first | rfl | simp [Act.put], Mv.refl _ _, ⟨by obtain ⟨cc, h1, h2⟩ := hG.rd; exact ⟨cc, by omega, h2⟩, hG.mv⟩, (show cD g w2.heap.size n (.agg #[.slice A n c, .slice B k d, .int .i64 m.til]) (.slice A n c) 1 _ _ from by first | (rw [cD_1]; exact rfl) | rw [cD_1])⟩⟩
    · intro X w1 k1 hG hdep
      have e12 : cD g w2.heap.size n (.agg #[.slice A n c, .slice B k d, .int .i64 m.til]) (.slice A n c) 1 (X 12) w1 := hdep 1 (by decide +kernel)
      rw [cD_1] at e12; obtain ⟨cc, hcc, rd1⟩ := hG.rd; simp only [opW_def, mixT, e12]; go_simp; refine (l20Cmp_any g cc 16 w1 ⟨by omega, by omega⟩ (by omega) rd1).mono ?_; rintro x w3 ⟨s, rfl, hs, r3, m3⟩
      exact ⟨⟨_, by first | rfl | simp [Act.put], m3, ⟨⟨cc + 30, by omega, r3⟩, hG.mv.trans m3⟩, (show cD g w2.heap.size n (.agg #[.slice A n c, .slice B k d, .int .i64 m.til]) (.slice A n c) 2 _ _ from by first | (rw [cD_2]; exact ⟨s, rfl, hs.2.2.2⟩) | rw [cD_2])⟩⟩
    · intro X w1 k1 hG hdep
      simp only [opW_def, mixT]; go_simp
      exact ⟨⟨.pointer (some ⟨g, 0, none⟩), by first | rfl | simp [Act.put], Mv.refl _ _, ⟨by obtain ⟨cc, h1, h2⟩ := hG.rd; exact ⟨cc, by omega, h2⟩, hG.mv⟩, (show cD g w2.heap.size n (.agg #[.slice A n c, .slice B k d, .int .i64 m.til]) (.slice A n c) 3 _ _ from by first | (rw [cD_3]; exact rfl) | rw [cD_3])⟩⟩
    · intro X w1 k1 hG hdep
      simp only [opW_def, mixT]; go_simp
      exact ⟨⟨(.pointer (some ⟨w2.heap.size, 0, none⟩)), by first | rfl | simp [Act.put], Mv.refl _ _, ⟨by obtain ⟨cc, h1, h2⟩ := hG.rd; exact ⟨cc, by omega, h2⟩, hG.mv⟩, (show cD g w2.heap.size n (.agg #[.slice A n c, .slice B k d, .int .i64 m.til]) (.slice A n c) 4 _ _ from by first | (rw [cD_4]; exact rfl) | rw [cD_4])⟩⟩
    · intro X w1 k1 hG hdep
      have e15 : cD g w2.heap.size n (.agg #[.slice A n c, .slice B k d, .int .i64 m.til]) (.slice A n c) 4 (X 15) w1 := hdep 4 (by decide +kernel)
      rw [cD_4] at e15
      have m0 := (M6.out.mv hG.mv n6).cell (j := 0) rfl
      simp only [opW_def, mixT, e15]; go_simp
      exact ⟨⟨_, by first | rfl | simp [Act.put], Mv.refl _ _, ⟨by obtain ⟨cc, h1, h2⟩ := hG.rd; exact ⟨cc, by omega, h2⟩, hG.mv⟩, (show cD g w2.heap.size n (.agg #[.slice A n c, .slice B k d, .int .i64 m.til]) (.slice A n c) 5 _ _ from by first | (rw [cD_5]; exact rfl) | rw [cD_5])⟩⟩
    · intro X w1 k1 hG hdep
      have e16 : cD g w2.heap.size n (.agg #[.slice A n c, .slice B k d, .int .i64 m.til]) (.slice A n c) 5 (X 16) w1 := hdep 5 (by decide +kernel)
      rw [cD_5] at e16; simp only [opW_def, mixT, e16]; go_simp
      exact ⟨⟨_, by first | rfl | simp [Act.put], Mv.refl _ _, ⟨by obtain ⟨cc, h1, h2⟩ := hG.rd; exact ⟨cc, by omega, h2⟩, hG.mv⟩, (show cD g w2.heap.size n (.agg #[.slice A n c, .slice B k d, .int .i64 m.til]) (.slice A n c) 6 _ _ from by first | (rw [cD_6]; exact rfl) | rw [cD_6])⟩⟩
    · intro X w1 k1 hG hdep
      have e17 : cD g w2.heap.size n (.agg #[.slice A n c, .slice B k d, .int .i64 m.til]) (.slice A n c) 6 (X 17) w1 := hdep 6 (by decide +kernel)
      rw [cD_6] at e17
      by_cases h4 : (4 : Int) ≤ n
      · simp only [opW_def, mixT, e17]
        go_simp
        exact ⟨⟨_, by first | rfl | simp [Act.put], Mv.refl _ _, ⟨by obtain ⟨cc, h1, h2⟩ := hG.rd; exact ⟨cc, by omega, h2⟩, hG.mv⟩, (show cD g w2.heap.size n (.agg #[.slice A n c, .slice B k d, .int .i64 m.til]) (.slice A n c) 7 _ _ from by first | (rw [cD_7]; exact ⟨_, rfl, by omega, by omega⟩) | rw [cD_7])⟩⟩
      · simp only [opW_def, mixT, e17]
        go_simp
        exact ⟨⟨_, by first | rfl | simp [Act.put], Mv.refl _ _, ⟨by obtain ⟨cc, h1, h2⟩ := hG.rd; exact ⟨cc, by omega, h2⟩, hG.mv⟩, (show cD g w2.heap.size n (.agg #[.slice A n c, .slice B k d, .int .i64 m.til]) (.slice A n c) 7 _ _ from by first | (rw [cD_7]; exact ⟨_, rfl, by omega, by omega⟩) | rw [cD_7])⟩⟩
    · intro X w1 k1 hG hdep
      have e18 : cD g w2.heap.size n (.agg #[.slice A n c, .slice B k d, .int .i64 m.til]) (.slice A n c) 7 (X 18) w1 := hdep 7 (by decide +kernel)
      rw [cD_7] at e18; obtain ⟨z, e18, z0, z4⟩ := e18
      by_cases h1 : z ≤ 1
      · simp only [opW_def, mixT, e18]
        go_simp
        exact ⟨⟨_, by first | rfl | simp [Act.put], Mv.refl _ _, ⟨by obtain ⟨cc, h1, h2⟩ := hG.rd; exact ⟨cc, by omega, h2⟩, hG.mv⟩, (show cD g w2.heap.size n (.agg #[.slice A n c, .slice B k d, .int .i64 m.til]) (.slice A n c) 8 _ _ from by first | (rw [cD_8]; exact ⟨_, rfl, by omega, by omega⟩) | rw [cD_8])⟩⟩
      · simp only [opW_def, mixT, e18]
        go_simp
        exact ⟨⟨_, by first | rfl | simp [Act.put], Mv.refl _ _, ⟨by obtain ⟨cc, h1, h2⟩ := hG.rd; exact ⟨cc, by omega, h2⟩, hG.mv⟩, (show cD g w2.heap.size n (.agg #[.slice A n c, .slice B k d, .int .i64 m.til]) (.slice A n c) 8 _ _ from by first | (rw [cD_8]; exact ⟨_, rfl, by omega, by omega⟩) | rw [cD_8])⟩⟩
    · intro X w1 k1 hG hdep
      have e14 : cD g w2.heap.size n (.agg #[.slice A n c, .slice B k d, .int .i64 m.til]) (.slice A n c) 3 (X 14) w1 := hdep 3 (by decide +kernel)
      rw [cD_3] at e14
      have e19 : cD g w2.heap.size n (.agg #[.slice A n c, .slice B k d, .int .i64 m.til]) (.slice A n c) 8 (X 19) w1 := hdep 8 (by decide +kernel)
      rw [cD_8] at e19; obtain ⟨z, e19, z1, z4⟩ := e19; obtain ⟨cc, hcc, rd1⟩ := hG.rd; simp only [opW_def, mixT, e14, e19]; go_simp; refine (evt_any g cc z 16 w1 (by omega) (by omega) ⟨by omega, by omega⟩ (by omega) rd1).mono ?_; intro x w3 dk; obtain ⟨et, eto, efr, esq, ekd, edt, rfl, ok, _, r3, m3⟩ := dk.cases
      exact ⟨⟨_, by first | rfl | simp [Act.put], m3, ⟨⟨cc + 20, by omega, r3⟩, hG.mv.trans m3⟩, (show cD g w2.heap.size n (.agg #[.slice A n c, .slice B k d, .int .i64 m.til]) (.slice A n c) 9 _ _ from by first | (rw [cD_9]; exact ⟨⟨et, eto, efr, esq, ekd, edt⟩, rfl, ok⟩) | rw [cD_9])⟩⟩
  · intro X w1 hG hX
    have e11 : cD g w2.heap.size n (.agg #[.slice A n c, .slice B k d, .int .i64 m.til]) (.slice A n c) 0 (X 11) w1 := hX 0 (by omega)
    rw [cD_0] at e11
    have e13 : cD g w2.heap.size n (.agg #[.slice A n c, .slice B k d, .int .i64 m.til]) (.slice A n c) 2 (X 13) w1 := hX 2 (by omega)
    rw [cD_2] at e13; obtain ⟨⟨ss, sq, sc⟩, e13, hsc⟩ := e13
    have e20 : cD g w2.heap.size n (.agg #[.slice A n c, .slice B k d, .int .i64 m.til]) (.slice A n c) 9 (X 20) w1 := hX 9 (by omega)
    rw [cD_9] at e20; obtain ⟨⟨et, eto, efr, esq, ekd, edt⟩, e20, ok⟩ := e20; unfold Cst.v at e13; unfold Evt.v at e20; dsimp only at e13 e20 hsc
    have q2 := R2.out.mv hG.mv (by omega)
    have q3 := R3.out.mv hG.mv (by omega)
    have q4 := R4.out.mv hG.mv (by omega)
    obtain ⟨p20, p21, p22⟩ := And.intro (q2.cell (j := 0) rfl) (And.intro (q2.cell (j := 1) rfl) (q2.cell (j := 2) rfl)); obtain ⟨p30, p31, p32⟩ := And.intro (q3.cell (j := 0) rfl) (And.intro (q3.cell (j := 1) rfl) (q3.cell (j := 2) rfl)); obtain ⟨p40, p41, p42⟩ := And.intro (q4.cell (j := 0) rfl) (And.intro (q4.cell (j := 1) rfl) (q4.cell (j := 2) rfl)); obtain ⟨p43, p44, p45⟩ := And.intro (q4.cell (j := 3) rfl) (And.intro (q4.cell (j := 4) rfl) (q4.cell (j := 5) rfl))
    have f2 := q2.frozen
    have f3 := q3.frozen
    have f4 := q4.frozen
    have hl1 : w.heap.size ≤ w.heap.size + 1 := by omega
    have hl2 : w.heap.size ≤ w.heap.size + 2 := by omega
    have Q2 := Lib.hid (((q2.set 0 (.slice A n c)).set 1 (.slice B k d)).set 2 (.int .i64 m.til))
    have SM := Lib.hid ((Sml.of_mv MG.out (show g < wO.heap.size by omega)).trans (Sml.of_mv hG.mv (show g < wO.heap.size by omega)))
    have UM := Lib.hid (((MM2.out.trans MG.out).trans hG.mv).up U1.out (by omega))
    have Q3 := Lib.hid q3
    have Q4 := Lib.hid q4
    clear hX hG q2 q3 q4; simp only [mixT, e11, e13, e20]; refine mix_go rfl (by rfl) (fun K hK => ?_); go_simp; refine hK _ _ ?_; clear hK K
    have Q3 := Lib.hid (((Q3.out.far 0 (.slice A n c) (by omega : w.heap.size + 1 ≠ w.heap.size)).far (b' := w.heap.size) 1 (.slice B k d) (by omega)).far (b' := w.heap.size) 2 (.int .i64 m.til) (by omega))
    have Q4 := Lib.hid (((Q4.out.far 0 (.slice A n c) (by omega : w.heap.size + 2 ≠ w.heap.size)).far (b' := w.heap.size) 1 (.slice B k d) (by omega)).far (b' := w.heap.size) 2 (.int .i64 m.til) (by omega))
    have SM := Lib.hid (((SM.out.set (b := w.heap.size) (o := 0) (u := .slice A n c) (by omega)).set (b := w.heap.size) (o := 1) (u := .slice B k d) (by omega)).set (b := w.heap.size) (o := 2) (u := .int .i64 m.til) (by omega))
    have UM := Lib.hid (((UM.out.setCell (p := ⟨w.heap.size, 0, none⟩) (Nat.le_refl _) (.slice A n c)).setCell (p := ⟨w.heap.size, 1, none⟩) (Nat.le_refl _) (.slice B k d)).setCell (p := ⟨w.heap.size, 2, none⟩) (Nat.le_refl _) (.int .i64 m.til))
    clear p20 p21 p22 p30 p31 p32 p40 p41 p42 p43 p44 p45 f2 f3 f4
    generalize ((w1.setCell ⟨w.heap.size, 0, none⟩ (.slice A n c)).setCell ⟨w.heap.size, 1, none⟩ (.slice B k d)).setCell ⟨w.heap.size, 2, none⟩ (.int .i64 m.til) = wA at *
    obtain ⟨p30, p31, p32⟩ := And.intro (Q3.out.cell (j := 0) rfl) (And.intro (Q3.out.cell (j := 1) rfl) (Q3.out.cell (j := 2) rfl))
    have f3 := Q3.out.frozen
    refine mix_go rfl (by rfl) (fun K hK => ?_); go_simp; refine hK _ _ ?_; clear hK K
    have Q2 := Lib.hid (((Q2.out.far 0 (.int .i64 ss) (by omega : w.heap.size ≠ w.heap.size + 1)).far (b' := w.heap.size + 1) 1 (.int .i64 sq) (by omega)).far (b' := w.heap.size + 1) 2 (.int .i64 sc) (by omega))
    have Q4 := Lib.hid (((Q4.out.far 0 (.int .i64 ss) (by omega : w.heap.size + 2 ≠ w.heap.size + 1)).far (b' := w.heap.size + 1) 1 (.int .i64 sq) (by omega)).far (b' := w.heap.size + 1) 2 (.int .i64 sc) (by omega))
    have Q3 := Lib.hid (((Q3.out.set 0 (.int .i64 ss)).set 1 (.int .i64 sq)).set 2 (.int .i64 sc))
    have SM := Lib.hid (((SM.out.set (b := w.heap.size + 1) (o := 0) (u := .int .i64 ss) (by omega)).set (b := w.heap.size + 1) (o := 1) (u := .int .i64 sq) (by omega)).set (b := w.heap.size + 1) (o := 2) (u := .int .i64 sc) (by omega))
    have UM := Lib.hid (((UM.out.setCell (p := ⟨w.heap.size + 1, 0, none⟩) hl1 (.int .i64 ss)).setCell (p := ⟨w.heap.size + 1, 1, none⟩) hl1 (.int .i64 sq)).setCell (p := ⟨w.heap.size + 1, 2, none⟩) hl1 (.int .i64 sc))
    clear p30 p31 p32 f3
    generalize ((wA.setCell ⟨w.heap.size + 1, 0, none⟩ (.int .i64 ss)).setCell ⟨w.heap.size + 1, 1, none⟩ (.int .i64 sq)).setCell ⟨w.heap.size + 1, 2, none⟩ (.int .i64 sc) = wB at *
    obtain ⟨p40, p41, p42⟩ := And.intro (Q4.out.cell (j := 0) rfl) (And.intro (Q4.out.cell (j := 1) rfl) (Q4.out.cell (j := 2) rfl)); obtain ⟨p43, p44, p45⟩ := And.intro (Q4.out.cell (j := 3) rfl) (And.intro (Q4.out.cell (j := 4) rfl) (Q4.out.cell (j := 5) rfl))
    have f4 := Q4.out.frozen
    refine mix_go rfl (by rfl) (fun K hK => ?_); go_simp; refine hK _ _ ?_; clear hK K
    have Q2 := Lib.hid ((((((Q2.out.far 0 (.int .i64 et) (by omega : w.heap.size ≠ w.heap.size + 2)).far (b' := w.heap.size + 2) 1 (.int .i64 eto) (by omega)).far (b' := w.heap.size + 2) 2 (.int .i64 efr) (by omega)).far (b' := w.heap.size + 2) 3 (.int .i64 esq) (by omega)).far (b' := w.heap.size + 2) 4 (.int .i64 ekd) (by omega)).far (b' := w.heap.size + 2) 5 (.int .i64 edt) (by omega))
    have Q3 := Lib.hid ((((((Q3.out.far 0 (.int .i64 et) (by omega : w.heap.size + 1 ≠ w.heap.size + 2)).far (b' := w.heap.size + 2) 1 (.int .i64 eto) (by omega)).far (b' := w.heap.size + 2) 2 (.int .i64 efr) (by omega)).far (b' := w.heap.size + 2) 3 (.int .i64 esq) (by omega)).far (b' := w.heap.size + 2) 4 (.int .i64 ekd) (by omega)).far (b' := w.heap.size + 2) 5 (.int .i64 edt) (by omega))
    have Q4 := Lib.hid ((((((Q4.out.set 0 (.int .i64 et)).set 1 (.int .i64 eto)).set 2 (.int .i64 efr)).set 3 (.int .i64 esq)).set 4 (.int .i64 ekd)).set 5 (.int .i64 edt))
    have SM := Lib.hid ((((((SM.out.set (b := w.heap.size + 2) (o := 0) (u := .int .i64 et) (by omega)).set (b := w.heap.size + 2) (o := 1) (u := .int .i64 eto) (by omega)).set (b := w.heap.size + 2) (o := 2) (u := .int .i64 efr) (by omega)).set (b := w.heap.size + 2) (o := 3) (u := .int .i64 esq) (by omega)).set (b := w.heap.size + 2) (o := 4) (u := .int .i64 ekd) (by omega)).set (b := w.heap.size + 2) (o := 5) (u := .int .i64 edt) (by omega))
    have UM := Lib.hid ((((((UM.out.setCell (p := ⟨w.heap.size + 2, 0, none⟩) hl2 (.int .i64 et)).setCell (p := ⟨w.heap.size + 2, 1, none⟩) hl2 (.int .i64 eto)).setCell (p := ⟨w.heap.size + 2, 2, none⟩) hl2 (.int .i64 efr)).setCell (p := ⟨w.heap.size + 2, 3, none⟩) hl2 (.int .i64 esq)).setCell (p := ⟨w.heap.size + 2, 4, none⟩) hl2 (.int .i64 ekd)).setCell (p := ⟨w.heap.size + 2, 5, none⟩) hl2 (.int .i64 edt))
    clear p40 p41 p42 p43 p44 p45 f4 hl1 hl2
    generalize (((((wB.setCell ⟨w.heap.size + 2, 0, none⟩ (.int .i64 et)).setCell ⟨w.heap.size + 2, 1, none⟩ (.int .i64 eto)).setCell ⟨w.heap.size + 2, 2, none⟩ (.int .i64 efr)).setCell ⟨w.heap.size + 2, 3, none⟩ (.int .i64 esq)).setCell ⟨w.heap.size + 2, 4, none⟩ (.int .i64 ekd)).setCell ⟨w.heap.size + 2, 5, none⟩ (.int .i64 edt) = wC at *
    refine mix_nil ?_; obtain ⟨k0, k1, k2⟩ := And.intro (Q2.out.cell (j := 0) rfl) (And.intro (Q2.out.cell (j := 1) rfl) (Q2.out.cell (j := 2) rfl)); obtain ⟨k3, k4, k5⟩ := And.intro (Q3.out.cell (j := 0) rfl) (And.intro (Q3.out.cell (j := 1) rfl) (Q3.out.cell (j := 2) rfl)); obtain ⟨k6, k7, k8⟩ := And.intro (Q4.out.cell (j := 0) rfl) (And.intro (Q4.out.cell (j := 1) rfl) (Q4.out.cell (j := 2) rfl)); obtain ⟨k9, k10, k11⟩ := And.intro (Q4.out.cell (j := 3) rfl) (And.intro (Q4.out.cell (j := 4) rfl) (Q4.out.cell (j := 5) rfl)); go_wp2
    exact bodyPost_ret (v := .tuple #[.agg #[.slice A n c, .slice B k d, .int .i64 m.til], .agg #[.int .i64 ss, .int .i64 sq, .int .i64 sc], .agg #[.int .i64 et, .int .i64 eto, .int .i64 efr, .int .i64 esq, .int .i64 ekd, .int .i64 edt]]) (by simp [results, Try.results27, go_sem, k0, k1, k2, k3, k4, k5, k6, k7, k8, k9, k10, k11]) rfl
      ⟨A, n, c, B, k, d, m, ⟨ss, sq, sc⟩, ⟨et, eto, efr, esq, ekd, edt⟩, rfl, M2.out _ SM.out, ⟨hn, hnc, hcm⟩, ⟨hsc, ok⟩, UM.out⟩
end Go.Proofs.Ytipjcjjjkkaigaa

namespace Go.Proofs.Ytipjcjjjkkaigaa
set_option maxRecDepth 100000
open Go.RowKit
theorem times_any (x y : Int) (hx : 0 ≤ x ∧ x ≤ 96) (hy : 0 ≤ y ∧ y ≤ 96) (w : World) :
    Calls Try.prog 141 #[.int .i64 x, .int .i64 y] w fun z w' => z = .returned (.int .i64 (x * y % 97)) ∧ w = w' := by
  have h0 : 0 ≤ x * y := Int.mul_nonneg hx.1 hy.1
  have h1 : x * y ≤ 96 * 96 := Int.mul_le_mul hx.2 hy.2 hy.1 (by omega)
  have i1 : IntKind.i64.wrap (x * y) = x * y := IntWalk.i64_in _ (by omega)
  have i2 : (x * y).tmod 97 = x * y % 97 := Int.tmod_eq_emod_of_nonneg h0
  have i3 : IntKind.i64.wrap (x * y % 97) = x * y % 97 := IntWalk.i64_in _ (by omega)
  go_enter Try.func141, Try.ntmps141
  go_wp2; go_ret
  exact ⟨by first | rfl | simp [*], rfl⟩
theorem plus_any (x y : Int) (hx : 0 ≤ x ∧ x ≤ 1000) (hy : 0 ≤ y ∧ y ≤ 1000) (w : World) :
    Calls Try.prog 142 #[.int .i64 x, .int .i64 y] w fun z w' => z = .returned (.int .i64 ((x + y) % 97)) ∧ w = w' := by
  have h0 : 0 ≤ x + y := by omega
  have i1 : IntKind.i64.wrap (x + y) = x + y := IntWalk.i64_in _ (by omega)
  have i2 : (x + y).tmod 97 = (x + y) % 97 := Int.tmod_eq_emod_of_nonneg h0
  have i3 : IntKind.i64.wrap ((x + y) % 97) = (x + y) % 97 := IntWalk.i64_in _ (by omega)
  go_enter Try.func142, Try.ntmps142
  go_wp2; go_ret
  exact ⟨by first | rfl | simp [*], rfl⟩
theorem plus_up (x y : Int) (hx : 0 ≤ x ∧ x ≤ 1000) (hy : 0 ≤ y ∧ y ≤ 1000) (w : World) :
    Calls Try.prog 142 #[.int .i64 x, .int .i64 y] w fun z w' => z = .returned (.int .i64 ((x + y) % 97)) ∧ Up w w' :=
  (plus_any x y hx hy w).mono (by rintro z w' ⟨rfl, rfl⟩; exact ⟨rfl, Up.refl _⟩)
theorem next_eq (a b c s d : Int) : ((a * s % 97 + b * d % 97) % 97 + c) % 97 = (a * s + b * d + c) % 97 := by
  generalize a * s = x
  generalize b * d = y
  omega
set_option maxHeartbeats 2000000 in
theorem next_any (r : Rule) (S : Value) (s d : Int) (ha : 0 ≤ r.a ∧ r.a ≤ 96) (hb : 0 ≤ r.b ∧ r.b ≤ 96) (hc : 0 ≤ r.c ∧ r.c ≤ 96) (hs : 0 ≤ s ∧ s ≤ 96) (hd : 0 ≤ d ∧ d ≤ 96) (w : World) (n c : Nat) (A : Option Addr) (hS : S = .slice A n c) :
    Calls Try.prog 110 #[r.v S, .int .i64 s, .int .i64 d] w fun z w' => z = .returned (.int .i64 ((r.a * s + r.b * d + r.c) % 97)) ∧ Up w w' := by
  obtain ⟨kd, ra, rb, rc, es⟩ := r; subst hS; dsimp only at ha hb hc ⊢
  have NE := Lib.hid (next_eq ra rb rc s d)
  have T1 := Lib.hid (fun W => times_any ra s ha hs W)
  have T2 := Lib.hid (fun W => times_any rb d hb hd W)
  have p1 : 0 ≤ ra * s % 97 ∧ ra * s % 97 ≤ 1000 := by omega
  have p2 : 0 ≤ rb * d % 97 ∧ rb * d % 97 ≤ 1000 := by omega
  generalize ra * s % 97 = x at T1 NE p1
  generalize rb * d % 97 = y at T2 NE p2
  generalize (ra * s + rb * d + rc) % 97 = res at NE ⊢
  have P1 := Lib.hid (fun W => plus_up x y p1 p2 W)
  have p3 : 0 ≤ (x + y) % 97 ∧ (x + y) % 97 ≤ 1000 := by omega
  generalize (x + y) % 97 = z at P1 NE p3
  have P2 := Lib.hid (fun W => plus_up z rc p3 ⟨hc.1, by omega⟩ W)
  rw [NE.out] at P2
  have B5 := Lib.hid (Box5.new w (.int .i64 kd) (.int .i64 ra) (.int .i64 rb) (.int .i64 rc) (.slice A n c) 70)
  have u0 := Lib.hid ((Up.refl w).alloc (.cells #[.int .i64 kd, .int .i64 ra, .int .i64 rb, .int .i64 rc, .slice A n c] 70))
  unfold Rule.v; dsimp only
  go_enter Try.func110, Try.ntmps110
  go_wp2_with fail
  refine (T1.out _).mono ?_; rintro v w1 ⟨rfl, rfl⟩
  go_wp2_with fail
  refine (T2.out _).mono ?_; rintro v w1 ⟨rfl, rfl⟩
  go_wp2_with fail
  refine region_qw (by kernel_rfl) (by kernel_rfl) ?_; refine qWalk_step ?_; intro K hK; go_simp; apply Exists.intro; refine And.intro ?_ ?_
  · intro w1 hw1
    try go_simp
    try rfl
  try go_simp
  refine hK _ ?_; clear hK K; refine qWalk_step ?_; intro K hK; go_simp; apply Exists.intro; refine And.intro ?_ ?_
  · intro w1 hw1
    try go_simp
    try rfl
  try go_simp
  refine hK _ ?_; clear hK K; refine qWalk_step ?_; intro K hK; go_simp; apply Exists.intro; refine And.intro ?_ ?_
  · intro w1 hw1
    try go_simp
    exact up_call hw1 (P1.out _)
  try go_simp
  refine hK _ ?_; clear hK K; refine qWalk_step ?_; intro K hK; go_simp; apply Exists.intro; refine And.intro ?_ ?_
  · intro w1 hw1
    try go_simp
    try rfl
  try go_simp
  refine hK _ ?_; clear hK K; refine qWalk_step ?_; intro K hK; go_simp; apply Exists.intro; refine And.intro ?_ ?_
  · intro w1 hw1
    obtain ⟨hc, hf, hz⟩ := hw1.facts
    try simp at hz
    try go_simp
    try rfl
  try go_simp
  refine hK _ ?_; clear hK K; refine qWalk_step ?_; intro K hK; go_simp; apply Exists.intro; refine And.intro ?_ ?_
  · intro w1 hw1
    try go_simp
    exact up_call hw1 (P2.out _)
  try go_simp
  refine hK _ ?_; clear hK K; refine qWalk_step ?_; intro K hK; go_simp; apply Exists.intro; refine And.intro ?_ ?_
  · intro w1 hw1
    try go_simp
    try rfl
  try go_simp
  refine hK _ ?_; clear hK K; refine qWalk_nil ?_; intro wA uA
  have U := Lib.hid (u0.out.trans uA)
  clear uA; go_wp2; go_ret
  exact ⟨rfl, U.out⟩
/-- What takes says of an event, in a machine of so many components and that end. -/
theorem takes_any (M : Value) (many til : Int) (e : Evt) (mp : Option Nat) (hM : M = .agg #[.map mp, .int .i64 many, .int .i64 til]) (w : World) :
    Calls Try.prog 74 #[M, e.v] w fun z w' => z = .returned (.bool (okB e many && decide (e.t ≤ til))) ∧ Up w w' := by
  subst hM
  have OC := Lib.hid (fun W => implOk_any e many W)
  generalize okB e many = b at OC ⊢
  obtain ⟨et, eto, efr, esq, ekd, edt⟩ := e
  have X3 := Lib.hid ((Box3.new w (.map mp) (.int .i64 many) (.int .i64 til) 118).up ((Up.refl _).alloc (.cells #[.int .i64 et, .int .i64 eto, .int .i64 efr, .int .i64 esq, .int .i64 ekd, .int .i64 edt] 51)))
  unfold Evt.v at OC ⊢; dsimp only at OC ⊢
  go_enter Try.func74, Try.ntmps74
  go_wp2_with fail
  refine (OC.out _).mono ?_; rintro v w1 ⟨rfl, u1⟩
  have x3 := X3.out.up u1
  have x5 := (Box.new (w.alloc (.cells #[.map mp, .int .i64 many, .int .i64 til] 118)) ⟨et, eto, efr, esq, ekd, edt⟩ 51).up u1
  simp only [World.size_alloc] at x5; obtain ⟨b0, b1, b2⟩ := And.intro x3.c0 (And.intro x3.c1 x3.c2); obtain ⟨⟨y0, y1, y2, y3, y4, y5⟩, -⟩ := x5.mk6
  have U := Lib.hid ((((Up.refl w).alloc (.cells #[.map mp, .int .i64 many, .int .i64 til] 118)).alloc (.cells #[.int .i64 et, .int .i64 eto, .int .i64 efr, .int .i64 esq, .int .i64 ekd, .int .i64 edt] 51)).trans u1)
  clear x3 x5 u1
  cases b
  · go_wp2
    go_ret
    exact ⟨rfl, U.out⟩
  · go_wp2
    go_ret
    exact ⟨by simp, U.out⟩
end Go.Proofs.Ytipjcjjjkkaigaa

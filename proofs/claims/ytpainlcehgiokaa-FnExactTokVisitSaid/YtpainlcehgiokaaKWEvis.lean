/-
  What FnExactTokVisit returns, in one sentence: true, with new blocks alone; for every model that lies in memory, every token, mark and number.
-/
import Derived.Test.YtpainlcehgiokaaKT4
import Derived.Test.YtpainlcehgiokaaKSVisit
import Derived.Test.YtpainlcehgiokaaKT2
import Derived.Test.YtpainlcehgiokaaKM
import Derived.Test.YtpainlcehgiokaaKL
namespace Go.Proofs.Ytpainlcehgiokaa
set_option maxRecDepth 100000
open Go.RowKit

set_option maxHeartbeats 20000000 in
theorem walkEvis (v : Value) (m : Mdl) {w : World} (h : ∃ A n c B k d, v = .agg #[.slice A n c, .slice B k d, .int .i64 m.til] ∧ MdlV w A n B k m) (t : Gk) (_ht : t.ok) (g : Gm) (_hg : g.ok) (least : Int) (_hl : I64 least) :
    Calls Try.prog 4 #[v, t.v, g.v, .int .i64 least] w fun x w' => x = .returned (.bool true) ∧ Up w w' := by
  obtain ⟨A, n, c, B, k, d, rfl, hM⟩ := h
  have hk := hM.big
  have CS := Lib.hid (fun W (u : Up w W) => szMdl_any A n c B k d m W (hM.up u))
  have CT := Lib.hid (fun W (u : Up w W) hS => toMdl_any A n c B k d m W (hM.up u) hS)
  have CG := Lib.hid (fun W => toGm_any g W)
  have CK := Lib.hid (fun W => toGk_any t W)
  have CP := Lib.hid (fun A n c B k d W (h : MdlV W A n B k m) => specVisit_any A n c B k d m t g least W h)
  have CI := Lib.hid (fun A n c B k d W (h : MdlV W A n B k m) => implVisit_any A n c B k d m t g least W h)
  have CE := Lib.hid (fun A n c B k d A' n' c' B' k' d' W (h1 : MdlV W A n B k m) (h2 : MdlV W A' n' B' k' m) (hS : FitM m) => eqMdl_any A n c B k d m A' n' c' B' k' d' m W h1 h2 hS)
  rw [decide_eq_true (rfl : m = m)] at CE
  generalize tokP m t g least = r at CP CI
  obtain ⟨⟨r0, r1, r2, r3, r4⟩, ⟨s0, s1, s2, s3⟩, rb⟩ := r
  have CQK := Lib.hid (fun W => eqGk_any ⟨r0, r1, r2, r3, r4⟩ W)
  have CQG := Lib.hid (fun W => eqGm_any ⟨s0, s1, s2, s3⟩ W)
  unfold tokV at CP CI
  have jb : (rb != rb) = false := by simp
  obtain ⟨gr, ge, gq, gl⟩ := g
  obtain ⟨ton, tr, ta, tn, tl⟩ := t
  unfold Gk.v at CK CP CI CQK ⊢
  unfold Gm.v at CG CP CI CQG ⊢
  dsimp only at CG CK CP CI CQK CQG ⊢
  have X0 := Lib.hid (((Bk.new w #[.slice A n c, .slice B k d, .int .i64 m.til] 40).alloc (.cells #[.bool ton, .int .i64 tr, .int .i64 ta, .int .i64 tn, .int .i64 tl] 41)).alloc (.cells #[.int .i64 gr, .int .i64 ge, .int .i64 gq, .int .i64 gl] 42))
  have X1 := Lib.hid ((Bk.new (w.alloc (.cells #[.slice A n c, .slice B k d, .int .i64 m.til] 40)) #[.bool ton, .int .i64 tr, .int .i64 ta, .int .i64 tn, .int .i64 tl] 41).alloc (.cells #[.int .i64 gr, .int .i64 ge, .int .i64 gq, .int .i64 gl] 42))
  have X2 := Lib.hid (Bk.new ((w.alloc (.cells #[.slice A n c, .slice B k d, .int .i64 m.til] 40)).alloc (.cells #[.bool ton, .int .i64 tr, .int .i64 ta, .int .i64 tn, .int .i64 tl] 41)) #[.int .i64 gr, .int .i64 ge, .int .i64 gq, .int .i64 gl] 42)
  simp only [World.size_alloc] at X1 X2
  have UC := Lib.hid ((((Up.refl w).alloc (.cells #[.slice A n c, .slice B k d, .int .i64 m.til] 40)).alloc (.cells #[.bool ton, .int .i64 tr, .int .i64 ta, .int .i64 tn, .int .i64 tl] 41)).alloc (.cells #[.int .i64 gr, .int .i64 ge, .int .i64 gq, .int .i64 gl] 42))
  clear hM
  unfold NewMdl at CT
  go_enter Try.func4, Try.ntmps4
  go_wp2_with fail
  generalize (((w.alloc (.cells #[.slice A n c, .slice B k d, .int .i64 m.til] 40)).alloc (.cells #[.bool ton, .int .i64 tr, .int .i64 ta, .int .i64 tn, .int .i64 tl] 41)).alloc (.cells #[.int .i64 gr, .int .i64 ge, .int .i64 gq, .int .i64 gl] 42)) = W1 at *
  generalize hb2 : w.heap.size + 1 + 1 = b2 at *
  generalize hb1 : w.heap.size + 1 = b1 at *
  generalize hb0 : w.heap.size = b0 at *
  clear hb0 hb1 hb2
  refine (CS.out _ UC.out).mono ?_
  rintro x W0 ⟨z, rfl, hz, u1⟩
  replace UC := Lib.hid (UC.out.trans u1)
  replace X0 := Lib.hid (X0.out.up u1)
  replace X1 := Lib.hid (X1.out.up u1)
  replace X2 := Lib.hid (X2.out.up u1)
  clear u1
  rcases hz with rfl | ⟨z0, z1, hS⟩
  · go_wp2
    go_ret
    exact ⟨rfl, UC.out⟩
  · have SH := Lib.hid hS
    have j0 : ¬ z < 0 := by omega
    clear hS z0 z1
    go_wp2_with fail
    refine region_relyG 14 [(8, 10), (8, 11)] [(14, false), (15, false), (16, false)] [23, 24, 25, 26, 27, 28, 29, 30, 22, 31, 32, 33, 10, 11] 12 (fun _ w1 => Up W0 w1) Up (fun i v w => vsA W0.heap.size m n k (.agg #[.slice A n c, .slice B k d, .int .i64 m.til]) (.agg #[.bool ton, .int .i64 tr, .int .i64 ta, .int .i64 tn, .int .i64 tl]) (.agg #[.int .i64 gr, .int .i64 ge, .int .i64 gq, .int .i64 gl]) (.int .i64 least) (.tuple #[.agg #[.bool r0, .int .i64 r1, .int .i64 r2, .int .i64 r3, .int .i64 r4], .agg #[.int .i64 s0, .int .i64 s1, .int .i64 s2, .int .i64 s3], .int .i64 rb]) (.agg #[.bool r0, .int .i64 r1, .int .i64 r2, .int .i64 r3, .int .i64 r4]) (.agg #[.int .i64 s0, .int .i64 s1, .int .i64 s2, .int .i64 s3]) (.int .i64 rb) i v w) (by kernel_rfl) (by kernel_rfl) (by kernel_rfl) (by kernel_rfl) ((Up.refl _).drew) (fun slot_ _ _ _ h u => vsA_up W0.heap.size m n k (.agg #[.slice A n c, .slice B k d, .int .i64 m.til]) (.agg #[.bool ton, .int .i64 tr, .int .i64 ta, .int .i64 tn, .int .i64 tl]) (.agg #[.int .i64 gr, .int .i64 ge, .int .i64 gq, .int .i64 gl]) (.int .i64 least) (.tuple #[.agg #[.bool r0, .int .i64 r1, .int .i64 r2, .int .i64 r3, .int .i64 r4], .agg #[.int .i64 s0, .int .i64 s1, .int .i64 s2, .int .i64 s3], .int .i64 rb]) (.agg #[.bool r0, .int .i64 r1, .int .i64 r2, .int .i64 r3, .int .i64 r4]) (.agg #[.int .i64 s0, .int .i64 s1, .int .i64 s2, .int .i64 s3]) (.int .i64 rb) slot_ h u) ?_ ?_ ?_
    · simp only [List.take_succ_cons, List.take_zero]
      refine stepsT_op (by kernel_rfl) ?_ ?_
      · intro X w1 k1 hG hdep
        have p0 := (X0.out.up hG).cell (j := 0) rfl
        have p1 := (X0.out.up hG).cell (j := 1) rfl
        have p2 := (X0.out.up hG).cell (j := 2) rfl
        have lp := (X0.out.up hG).lt
        simp only [opW_def, mixT]
        go_simp
        exact ⟨⟨(.agg #[.slice A n c, .slice B k d, .int .i64 m.til]), by first | rfl | simp [Act.put], Up.refl _, hG, (show vsA W0.heap.size m n k (.agg #[.slice A n c, .slice B k d, .int .i64 m.til]) (.agg #[.bool ton, .int .i64 tr, .int .i64 ta, .int .i64 tn, .int .i64 tl]) (.agg #[.int .i64 gr, .int .i64 ge, .int .i64 gq, .int .i64 gl]) (.int .i64 least) (.tuple #[.agg #[.bool r0, .int .i64 r1, .int .i64 r2, .int .i64 r3, .int .i64 r4], .agg #[.int .i64 s0, .int .i64 s1, .int .i64 s2, .int .i64 s3], .int .i64 rb]) (.agg #[.bool r0, .int .i64 r1, .int .i64 r2, .int .i64 r3, .int .i64 r4]) (.agg #[.int .i64 s0, .int .i64 s1, .int .i64 s2, .int .i64 s3]) (.int .i64 rb) 23 _ _ from by first | (rw [vsA_23]; exact rfl) | rw [vsA_23])⟩⟩
      refine stepsT_op (by kernel_rfl) ?_ ?_
      · intro X w1 k1 hG hdep
        have e23 : vsA W0.heap.size m n k (.agg #[.slice A n c, .slice B k d, .int .i64 m.til]) (.agg #[.bool ton, .int .i64 tr, .int .i64 ta, .int .i64 tn, .int .i64 tl]) (.agg #[.int .i64 gr, .int .i64 ge, .int .i64 gq, .int .i64 gl]) (.int .i64 least) (.tuple #[.agg #[.bool r0, .int .i64 r1, .int .i64 r2, .int .i64 r3, .int .i64 r4], .agg #[.int .i64 s0, .int .i64 s1, .int .i64 s2, .int .i64 s3], .int .i64 rb]) (.agg #[.bool r0, .int .i64 r1, .int .i64 r2, .int .i64 r3, .int .i64 r4]) (.agg #[.int .i64 s0, .int .i64 s1, .int .i64 s2, .int .i64 s3]) (.int .i64 rb) 23 (X 23) w1 := hdep 23 (by decide +kernel)
        rw [vsA_23] at e23
        have hlo := hG.size
        simp only [opW_def, mixT, e23]
        go_simp
        refine (CT.out _ (UC.out.trans hG) SH.out).mono ?_
        rintro x w2 ⟨g1, g2, rfl, h1, h2, o1, o2, u⟩
        exact ⟨⟨_, by first | rfl | simp [Act.put], u, hG.trans u, (show vsA W0.heap.size m n k (.agg #[.slice A n c, .slice B k d, .int .i64 m.til]) (.agg #[.bool ton, .int .i64 tr, .int .i64 ta, .int .i64 tn, .int .i64 tl]) (.agg #[.int .i64 gr, .int .i64 ge, .int .i64 gq, .int .i64 gl]) (.int .i64 least) (.tuple #[.agg #[.bool r0, .int .i64 r1, .int .i64 r2, .int .i64 r3, .int .i64 r4], .agg #[.int .i64 s0, .int .i64 s1, .int .i64 s2, .int .i64 s3], .int .i64 rb]) (.agg #[.bool r0, .int .i64 r1, .int .i64 r2, .int .i64 r3, .int .i64 r4]) (.agg #[.int .i64 s0, .int .i64 s1, .int .i64 s2, .int .i64 s3]) (.int .i64 rb) 24 _ _ from by first | (rw [vsA_24]; exact ⟨g1, g2, rfl, by omega, by omega, o1, o2⟩) | rw [vsA_24])⟩⟩
      refine stepsT_op (by kernel_rfl) ?_ ?_
      · intro X w1 k1 hG hdep
        have p0 := (X1.out.up hG).cell (j := 0) rfl
        have p1 := (X1.out.up hG).cell (j := 1) rfl
        have p2 := (X1.out.up hG).cell (j := 2) rfl
        have p3 := (X1.out.up hG).cell (j := 3) rfl
        have p4 := (X1.out.up hG).cell (j := 4) rfl
        have lp := (X1.out.up hG).lt
        simp only [opW_def, mixT]
        go_simp
        exact ⟨⟨(.agg #[.bool ton, .int .i64 tr, .int .i64 ta, .int .i64 tn, .int .i64 tl]), by first | rfl | simp [Act.put], Up.refl _, hG, (show vsA W0.heap.size m n k (.agg #[.slice A n c, .slice B k d, .int .i64 m.til]) (.agg #[.bool ton, .int .i64 tr, .int .i64 ta, .int .i64 tn, .int .i64 tl]) (.agg #[.int .i64 gr, .int .i64 ge, .int .i64 gq, .int .i64 gl]) (.int .i64 least) (.tuple #[.agg #[.bool r0, .int .i64 r1, .int .i64 r2, .int .i64 r3, .int .i64 r4], .agg #[.int .i64 s0, .int .i64 s1, .int .i64 s2, .int .i64 s3], .int .i64 rb]) (.agg #[.bool r0, .int .i64 r1, .int .i64 r2, .int .i64 r3, .int .i64 r4]) (.agg #[.int .i64 s0, .int .i64 s1, .int .i64 s2, .int .i64 s3]) (.int .i64 rb) 25 _ _ from by first | (rw [vsA_25]; exact rfl) | rw [vsA_25])⟩⟩
      refine stepsT_op (by kernel_rfl) ?_ ?_
      · intro X w1 k1 hG hdep
        have e25 : vsA W0.heap.size m n k (.agg #[.slice A n c, .slice B k d, .int .i64 m.til]) (.agg #[.bool ton, .int .i64 tr, .int .i64 ta, .int .i64 tn, .int .i64 tl]) (.agg #[.int .i64 gr, .int .i64 ge, .int .i64 gq, .int .i64 gl]) (.int .i64 least) (.tuple #[.agg #[.bool r0, .int .i64 r1, .int .i64 r2, .int .i64 r3, .int .i64 r4], .agg #[.int .i64 s0, .int .i64 s1, .int .i64 s2, .int .i64 s3], .int .i64 rb]) (.agg #[.bool r0, .int .i64 r1, .int .i64 r2, .int .i64 r3, .int .i64 r4]) (.agg #[.int .i64 s0, .int .i64 s1, .int .i64 s2, .int .i64 s3]) (.int .i64 rb) 25 (X 25) w1 := hdep 25 (by decide +kernel)
        rw [vsA_25] at e25
        simp only [opW_def, mixT, e25]
        go_simp
        refine (CK.out w1).mono ?_
        rintro x w2 ⟨rfl, u⟩
        exact ⟨⟨(.agg #[.bool ton, .int .i64 tr, .int .i64 ta, .int .i64 tn, .int .i64 tl]), by first | rfl | simp [Act.put], u, hG.trans u, (show vsA W0.heap.size m n k (.agg #[.slice A n c, .slice B k d, .int .i64 m.til]) (.agg #[.bool ton, .int .i64 tr, .int .i64 ta, .int .i64 tn, .int .i64 tl]) (.agg #[.int .i64 gr, .int .i64 ge, .int .i64 gq, .int .i64 gl]) (.int .i64 least) (.tuple #[.agg #[.bool r0, .int .i64 r1, .int .i64 r2, .int .i64 r3, .int .i64 r4], .agg #[.int .i64 s0, .int .i64 s1, .int .i64 s2, .int .i64 s3], .int .i64 rb]) (.agg #[.bool r0, .int .i64 r1, .int .i64 r2, .int .i64 r3, .int .i64 r4]) (.agg #[.int .i64 s0, .int .i64 s1, .int .i64 s2, .int .i64 s3]) (.int .i64 rb) 26 _ _ from by first | (rw [vsA_26]; exact rfl) | rw [vsA_26])⟩⟩
      refine stepsT_op (by kernel_rfl) ?_ ?_
      · intro X w1 k1 hG hdep
        have p0 := (X2.out.up hG).cell (j := 0) rfl
        have p1 := (X2.out.up hG).cell (j := 1) rfl
        have p2 := (X2.out.up hG).cell (j := 2) rfl
        have p3 := (X2.out.up hG).cell (j := 3) rfl
        have lp := (X2.out.up hG).lt
        simp only [opW_def, mixT]
        go_simp
        exact ⟨⟨(.agg #[.int .i64 gr, .int .i64 ge, .int .i64 gq, .int .i64 gl]), by first | rfl | simp [Act.put], Up.refl _, hG, (show vsA W0.heap.size m n k (.agg #[.slice A n c, .slice B k d, .int .i64 m.til]) (.agg #[.bool ton, .int .i64 tr, .int .i64 ta, .int .i64 tn, .int .i64 tl]) (.agg #[.int .i64 gr, .int .i64 ge, .int .i64 gq, .int .i64 gl]) (.int .i64 least) (.tuple #[.agg #[.bool r0, .int .i64 r1, .int .i64 r2, .int .i64 r3, .int .i64 r4], .agg #[.int .i64 s0, .int .i64 s1, .int .i64 s2, .int .i64 s3], .int .i64 rb]) (.agg #[.bool r0, .int .i64 r1, .int .i64 r2, .int .i64 r3, .int .i64 r4]) (.agg #[.int .i64 s0, .int .i64 s1, .int .i64 s2, .int .i64 s3]) (.int .i64 rb) 27 _ _ from by first | (rw [vsA_27]; exact rfl) | rw [vsA_27])⟩⟩
      refine stepsT_op (by kernel_rfl) ?_ ?_
      · intro X w1 k1 hG hdep
        have e27 : vsA W0.heap.size m n k (.agg #[.slice A n c, .slice B k d, .int .i64 m.til]) (.agg #[.bool ton, .int .i64 tr, .int .i64 ta, .int .i64 tn, .int .i64 tl]) (.agg #[.int .i64 gr, .int .i64 ge, .int .i64 gq, .int .i64 gl]) (.int .i64 least) (.tuple #[.agg #[.bool r0, .int .i64 r1, .int .i64 r2, .int .i64 r3, .int .i64 r4], .agg #[.int .i64 s0, .int .i64 s1, .int .i64 s2, .int .i64 s3], .int .i64 rb]) (.agg #[.bool r0, .int .i64 r1, .int .i64 r2, .int .i64 r3, .int .i64 r4]) (.agg #[.int .i64 s0, .int .i64 s1, .int .i64 s2, .int .i64 s3]) (.int .i64 rb) 27 (X 27) w1 := hdep 27 (by decide +kernel)
        rw [vsA_27] at e27
        simp only [opW_def, mixT, e27]
        go_simp
        refine (CG.out w1).mono ?_
        rintro x w2 ⟨rfl, u⟩
        exact ⟨⟨(.agg #[.int .i64 gr, .int .i64 ge, .int .i64 gq, .int .i64 gl]), by first | rfl | simp [Act.put], u, hG.trans u, (show vsA W0.heap.size m n k (.agg #[.slice A n c, .slice B k d, .int .i64 m.til]) (.agg #[.bool ton, .int .i64 tr, .int .i64 ta, .int .i64 tn, .int .i64 tl]) (.agg #[.int .i64 gr, .int .i64 ge, .int .i64 gq, .int .i64 gl]) (.int .i64 least) (.tuple #[.agg #[.bool r0, .int .i64 r1, .int .i64 r2, .int .i64 r3, .int .i64 r4], .agg #[.int .i64 s0, .int .i64 s1, .int .i64 s2, .int .i64 s3], .int .i64 rb]) (.agg #[.bool r0, .int .i64 r1, .int .i64 r2, .int .i64 r3, .int .i64 r4]) (.agg #[.int .i64 s0, .int .i64 s1, .int .i64 s2, .int .i64 s3]) (.int .i64 rb) 28 _ _ from by first | (rw [vsA_28]; exact rfl) | rw [vsA_28])⟩⟩
      refine stepsT_op (by kernel_rfl) ?_ ?_
      · intro X w1 k1 hG hdep
        simp only [opW_def, mixT]
        go_simp
        exact ⟨⟨(.int .i64 least), by first | rfl | simp [Act.put], Up.refl _, hG, (show vsA W0.heap.size m n k (.agg #[.slice A n c, .slice B k d, .int .i64 m.til]) (.agg #[.bool ton, .int .i64 tr, .int .i64 ta, .int .i64 tn, .int .i64 tl]) (.agg #[.int .i64 gr, .int .i64 ge, .int .i64 gq, .int .i64 gl]) (.int .i64 least) (.tuple #[.agg #[.bool r0, .int .i64 r1, .int .i64 r2, .int .i64 r3, .int .i64 r4], .agg #[.int .i64 s0, .int .i64 s1, .int .i64 s2, .int .i64 s3], .int .i64 rb]) (.agg #[.bool r0, .int .i64 r1, .int .i64 r2, .int .i64 r3, .int .i64 r4]) (.agg #[.int .i64 s0, .int .i64 s1, .int .i64 s2, .int .i64 s3]) (.int .i64 rb) 29 _ _ from by first | (rw [vsA_29]; exact rfl) | rw [vsA_29])⟩⟩
      refine stepsT_op (by kernel_rfl) ?_ ?_
      · intro X w1 k1 hG hdep
        have e24 : vsA W0.heap.size m n k (.agg #[.slice A n c, .slice B k d, .int .i64 m.til]) (.agg #[.bool ton, .int .i64 tr, .int .i64 ta, .int .i64 tn, .int .i64 tl]) (.agg #[.int .i64 gr, .int .i64 ge, .int .i64 gq, .int .i64 gl]) (.int .i64 least) (.tuple #[.agg #[.bool r0, .int .i64 r1, .int .i64 r2, .int .i64 r3, .int .i64 r4], .agg #[.int .i64 s0, .int .i64 s1, .int .i64 s2, .int .i64 s3], .int .i64 rb]) (.agg #[.bool r0, .int .i64 r1, .int .i64 r2, .int .i64 r3, .int .i64 r4]) (.agg #[.int .i64 s0, .int .i64 s1, .int .i64 s2, .int .i64 s3]) (.int .i64 rb) 24 (X 24) w1 := hdep 24 (by decide +kernel)
        rw [vsA_24] at e24
        obtain ⟨g1, g2, e24, l1, l2, o1, o2⟩ := e24
        have e26 : vsA W0.heap.size m n k (.agg #[.slice A n c, .slice B k d, .int .i64 m.til]) (.agg #[.bool ton, .int .i64 tr, .int .i64 ta, .int .i64 tn, .int .i64 tl]) (.agg #[.int .i64 gr, .int .i64 ge, .int .i64 gq, .int .i64 gl]) (.int .i64 least) (.tuple #[.agg #[.bool r0, .int .i64 r1, .int .i64 r2, .int .i64 r3, .int .i64 r4], .agg #[.int .i64 s0, .int .i64 s1, .int .i64 s2, .int .i64 s3], .int .i64 rb]) (.agg #[.bool r0, .int .i64 r1, .int .i64 r2, .int .i64 r3, .int .i64 r4]) (.agg #[.int .i64 s0, .int .i64 s1, .int .i64 s2, .int .i64 s3]) (.int .i64 rb) 26 (X 26) w1 := hdep 26 (by decide +kernel)
        rw [vsA_26] at e26
        have e28 : vsA W0.heap.size m n k (.agg #[.slice A n c, .slice B k d, .int .i64 m.til]) (.agg #[.bool ton, .int .i64 tr, .int .i64 ta, .int .i64 tn, .int .i64 tl]) (.agg #[.int .i64 gr, .int .i64 ge, .int .i64 gq, .int .i64 gl]) (.int .i64 least) (.tuple #[.agg #[.bool r0, .int .i64 r1, .int .i64 r2, .int .i64 r3, .int .i64 r4], .agg #[.int .i64 s0, .int .i64 s1, .int .i64 s2, .int .i64 s3], .int .i64 rb]) (.agg #[.bool r0, .int .i64 r1, .int .i64 r2, .int .i64 r3, .int .i64 r4]) (.agg #[.int .i64 s0, .int .i64 s1, .int .i64 s2, .int .i64 s3]) (.int .i64 rb) 28 (X 28) w1 := hdep 28 (by decide +kernel)
        rw [vsA_28] at e28
        have e29 : vsA W0.heap.size m n k (.agg #[.slice A n c, .slice B k d, .int .i64 m.til]) (.agg #[.bool ton, .int .i64 tr, .int .i64 ta, .int .i64 tn, .int .i64 tl]) (.agg #[.int .i64 gr, .int .i64 ge, .int .i64 gq, .int .i64 gl]) (.int .i64 least) (.tuple #[.agg #[.bool r0, .int .i64 r1, .int .i64 r2, .int .i64 r3, .int .i64 r4], .agg #[.int .i64 s0, .int .i64 s1, .int .i64 s2, .int .i64 s3], .int .i64 rb]) (.agg #[.bool r0, .int .i64 r1, .int .i64 r2, .int .i64 r3, .int .i64 r4]) (.agg #[.int .i64 s0, .int .i64 s1, .int .i64 s2, .int .i64 s3]) (.int .i64 rb) 29 (X 29) w1 := hdep 29 (by decide +kernel)
        rw [vsA_29] at e29
        simp only [opW_def, mixT, e24, e26, e28, e29]
        go_simp
        refine (CP.out _ _ _ _ _ _ _ (NewMdl.v o1 o2 hk)).mono ?_
        rintro x w2 ⟨rfl, u⟩
        exact ⟨⟨(.tuple #[.agg #[.bool r0, .int .i64 r1, .int .i64 r2, .int .i64 r3, .int .i64 r4], .agg #[.int .i64 s0, .int .i64 s1, .int .i64 s2, .int .i64 s3], .int .i64 rb]), by first | rfl | simp [Act.put], u, hG.trans u, (show vsA W0.heap.size m n k (.agg #[.slice A n c, .slice B k d, .int .i64 m.til]) (.agg #[.bool ton, .int .i64 tr, .int .i64 ta, .int .i64 tn, .int .i64 tl]) (.agg #[.int .i64 gr, .int .i64 ge, .int .i64 gq, .int .i64 gl]) (.int .i64 least) (.tuple #[.agg #[.bool r0, .int .i64 r1, .int .i64 r2, .int .i64 r3, .int .i64 r4], .agg #[.int .i64 s0, .int .i64 s1, .int .i64 s2, .int .i64 s3], .int .i64 rb]) (.agg #[.bool r0, .int .i64 r1, .int .i64 r2, .int .i64 r3, .int .i64 r4]) (.agg #[.int .i64 s0, .int .i64 s1, .int .i64 s2, .int .i64 s3]) (.int .i64 rb) 30 _ _ from by first | (rw [vsA_30]; exact rfl) | rw [vsA_30])⟩⟩
      refine stepsT_op (by kernel_rfl) ?_ ?_
      · intro X w1 k1 hG hdep
        have e30 : vsA W0.heap.size m n k (.agg #[.slice A n c, .slice B k d, .int .i64 m.til]) (.agg #[.bool ton, .int .i64 tr, .int .i64 ta, .int .i64 tn, .int .i64 tl]) (.agg #[.int .i64 gr, .int .i64 ge, .int .i64 gq, .int .i64 gl]) (.int .i64 least) (.tuple #[.agg #[.bool r0, .int .i64 r1, .int .i64 r2, .int .i64 r3, .int .i64 r4], .agg #[.int .i64 s0, .int .i64 s1, .int .i64 s2, .int .i64 s3], .int .i64 rb]) (.agg #[.bool r0, .int .i64 r1, .int .i64 r2, .int .i64 r3, .int .i64 r4]) (.agg #[.int .i64 s0, .int .i64 s1, .int .i64 s2, .int .i64 s3]) (.int .i64 rb) 30 (X 30) w1 := hdep 30 (by decide +kernel)
        rw [vsA_30] at e30
        simp only [opW_def, mixT, e30]
        go_simp
        exact ⟨⟨(.tuple #[.agg #[.bool r0, .int .i64 r1, .int .i64 r2, .int .i64 r3, .int .i64 r4], .agg #[.int .i64 s0, .int .i64 s1, .int .i64 s2, .int .i64 s3], .int .i64 rb]), by first | rfl | simp [Act.put], Up.refl _, hG, (show vsA W0.heap.size m n k (.agg #[.slice A n c, .slice B k d, .int .i64 m.til]) (.agg #[.bool ton, .int .i64 tr, .int .i64 ta, .int .i64 tn, .int .i64 tl]) (.agg #[.int .i64 gr, .int .i64 ge, .int .i64 gq, .int .i64 gl]) (.int .i64 least) (.tuple #[.agg #[.bool r0, .int .i64 r1, .int .i64 r2, .int .i64 r3, .int .i64 r4], .agg #[.int .i64 s0, .int .i64 s1, .int .i64 s2, .int .i64 s3], .int .i64 rb]) (.agg #[.bool r0, .int .i64 r1, .int .i64 r2, .int .i64 r3, .int .i64 r4]) (.agg #[.int .i64 s0, .int .i64 s1, .int .i64 s2, .int .i64 s3]) (.int .i64 rb) 22 _ _ from by first | (rw [vsA_22]; exact rfl) | rw [vsA_22])⟩⟩
      refine stepsT_op (by kernel_rfl) ?_ ?_
      · intro X w1 k1 hG hdep
        have e22 : vsA W0.heap.size m n k (.agg #[.slice A n c, .slice B k d, .int .i64 m.til]) (.agg #[.bool ton, .int .i64 tr, .int .i64 ta, .int .i64 tn, .int .i64 tl]) (.agg #[.int .i64 gr, .int .i64 ge, .int .i64 gq, .int .i64 gl]) (.int .i64 least) (.tuple #[.agg #[.bool r0, .int .i64 r1, .int .i64 r2, .int .i64 r3, .int .i64 r4], .agg #[.int .i64 s0, .int .i64 s1, .int .i64 s2, .int .i64 s3], .int .i64 rb]) (.agg #[.bool r0, .int .i64 r1, .int .i64 r2, .int .i64 r3, .int .i64 r4]) (.agg #[.int .i64 s0, .int .i64 s1, .int .i64 s2, .int .i64 s3]) (.int .i64 rb) 22 (X 22) w1 := hdep 22 (by decide +kernel)
        rw [vsA_22] at e22
        simp only [opW_def, mixT, e22]
        go_simp
        exact ⟨⟨(.agg #[.bool r0, .int .i64 r1, .int .i64 r2, .int .i64 r3, .int .i64 r4]), by first | rfl | simp [Act.put], Up.refl _, hG, (show vsA W0.heap.size m n k (.agg #[.slice A n c, .slice B k d, .int .i64 m.til]) (.agg #[.bool ton, .int .i64 tr, .int .i64 ta, .int .i64 tn, .int .i64 tl]) (.agg #[.int .i64 gr, .int .i64 ge, .int .i64 gq, .int .i64 gl]) (.int .i64 least) (.tuple #[.agg #[.bool r0, .int .i64 r1, .int .i64 r2, .int .i64 r3, .int .i64 r4], .agg #[.int .i64 s0, .int .i64 s1, .int .i64 s2, .int .i64 s3], .int .i64 rb]) (.agg #[.bool r0, .int .i64 r1, .int .i64 r2, .int .i64 r3, .int .i64 r4]) (.agg #[.int .i64 s0, .int .i64 s1, .int .i64 s2, .int .i64 s3]) (.int .i64 rb) 31 _ _ from by first | (rw [vsA_31]; exact rfl) | rw [vsA_31])⟩⟩
      refine stepsT_guest (by kernel_rfl) ?_
      refine stepsT_guest (by kernel_rfl) ?_
      refine stepsT_op (by kernel_rfl) ?_ ?_
      · intro X w1 k1 hG hdep
        have hlo := hG.size
        simp only [opW_def, mixT]
        go_simp
        exact ⟨⟨_, by first | rfl | simp [Act.put], (Up.refl _).alloc _, hG.alloc _, (show vsA W0.heap.size m n k (.agg #[.slice A n c, .slice B k d, .int .i64 m.til]) (.agg #[.bool ton, .int .i64 tr, .int .i64 ta, .int .i64 tn, .int .i64 tl]) (.agg #[.int .i64 gr, .int .i64 ge, .int .i64 gq, .int .i64 gl]) (.int .i64 least) (.tuple #[.agg #[.bool r0, .int .i64 r1, .int .i64 r2, .int .i64 r3, .int .i64 r4], .agg #[.int .i64 s0, .int .i64 s1, .int .i64 s2, .int .i64 s3], .int .i64 rb]) (.agg #[.bool r0, .int .i64 r1, .int .i64 r2, .int .i64 r3, .int .i64 r4]) (.agg #[.int .i64 s0, .int .i64 s1, .int .i64 s2, .int .i64 s3]) (.int .i64 rb) 10 _ _ from by first | (rw [vsA_10]; exact NewB.new w1 _ _ 5 rfl hlo) | rw [vsA_10])⟩⟩
      refine stepsT_op (by kernel_rfl) ?_ ?_
      · intro X w1 k1 hG hdep
        have hlo := hG.size
        simp only [opW_def, mixT]
        go_simp
        exact ⟨⟨_, by first | rfl | simp [Act.put], (Up.refl _).alloc _, hG.alloc _, (show vsA W0.heap.size m n k (.agg #[.slice A n c, .slice B k d, .int .i64 m.til]) (.agg #[.bool ton, .int .i64 tr, .int .i64 ta, .int .i64 tn, .int .i64 tl]) (.agg #[.int .i64 gr, .int .i64 ge, .int .i64 gq, .int .i64 gl]) (.int .i64 least) (.tuple #[.agg #[.bool r0, .int .i64 r1, .int .i64 r2, .int .i64 r3, .int .i64 r4], .agg #[.int .i64 s0, .int .i64 s1, .int .i64 s2, .int .i64 s3], .int .i64 rb]) (.agg #[.bool r0, .int .i64 r1, .int .i64 r2, .int .i64 r3, .int .i64 r4]) (.agg #[.int .i64 s0, .int .i64 s1, .int .i64 s2, .int .i64 s3]) (.int .i64 rb) 11 _ _ from by first | (rw [vsA_11]; exact NewB.new w1 _ _ 4 rfl hlo) | rw [vsA_11])⟩⟩
      exact trivial
    · refine pairs_two (P := fun h p => GuestR _ _ _ _ _ h p) ?_ ?_
      · intro X w1 o ho hr
        have ho2 : some _ = some o := ho
        injection ho2 with ho2
        subst ho2
        have e22 : vsA W0.heap.size m n k (.agg #[.slice A n c, .slice B k d, .int .i64 m.til]) (.agg #[.bool ton, .int .i64 tr, .int .i64 ta, .int .i64 tn, .int .i64 tl]) (.agg #[.int .i64 gr, .int .i64 ge, .int .i64 gq, .int .i64 gl]) (.int .i64 least) (.tuple #[.agg #[.bool r0, .int .i64 r1, .int .i64 r2, .int .i64 r3, .int .i64 r4], .agg #[.int .i64 s0, .int .i64 s1, .int .i64 s2, .int .i64 s3], .int .i64 rb]) (.agg #[.bool r0, .int .i64 r1, .int .i64 r2, .int .i64 r3, .int .i64 r4]) (.agg #[.int .i64 s0, .int .i64 s1, .int .i64 s2, .int .i64 s3]) (.int .i64 rb) 22 (X 22) w1 := hr
        rw [vsA_22] at e22
        refine ⟨(.agg #[.int .i64 s0, .int .i64 s1, .int .i64 s2, .int .i64 s3]), fun w2 => ?_, (show vsA W0.heap.size m n k (.agg #[.slice A n c, .slice B k d, .int .i64 m.til]) (.agg #[.bool ton, .int .i64 tr, .int .i64 ta, .int .i64 tn, .int .i64 tl]) (.agg #[.int .i64 gr, .int .i64 ge, .int .i64 gq, .int .i64 gl]) (.int .i64 least) (.tuple #[.agg #[.bool r0, .int .i64 r1, .int .i64 r2, .int .i64 r3, .int .i64 r4], .agg #[.int .i64 s0, .int .i64 s1, .int .i64 s2, .int .i64 s3], .int .i64 rb]) (.agg #[.bool r0, .int .i64 r1, .int .i64 r2, .int .i64 r3, .int .i64 r4]) (.agg #[.int .i64 s0, .int .i64 s1, .int .i64 s2, .int .i64 s3]) (.int .i64 rb) 32 _ _ from by rw [vsA_32])⟩
        simp only [mixT, e22]
        go_simp
      · intro X w1 o ho hr
        have ho2 : some _ = some o := ho
        injection ho2 with ho2
        subst ho2
        have e22 : vsA W0.heap.size m n k (.agg #[.slice A n c, .slice B k d, .int .i64 m.til]) (.agg #[.bool ton, .int .i64 tr, .int .i64 ta, .int .i64 tn, .int .i64 tl]) (.agg #[.int .i64 gr, .int .i64 ge, .int .i64 gq, .int .i64 gl]) (.int .i64 least) (.tuple #[.agg #[.bool r0, .int .i64 r1, .int .i64 r2, .int .i64 r3, .int .i64 r4], .agg #[.int .i64 s0, .int .i64 s1, .int .i64 s2, .int .i64 s3], .int .i64 rb]) (.agg #[.bool r0, .int .i64 r1, .int .i64 r2, .int .i64 r3, .int .i64 r4]) (.agg #[.int .i64 s0, .int .i64 s1, .int .i64 s2, .int .i64 s3]) (.int .i64 rb) 22 (X 22) w1 := hr
        rw [vsA_22] at e22
        refine ⟨(.int .i64 rb), fun w2 => ?_, (show vsA W0.heap.size m n k (.agg #[.slice A n c, .slice B k d, .int .i64 m.til]) (.agg #[.bool ton, .int .i64 tr, .int .i64 ta, .int .i64 tn, .int .i64 tl]) (.agg #[.int .i64 gr, .int .i64 ge, .int .i64 gq, .int .i64 gl]) (.int .i64 least) (.tuple #[.agg #[.bool r0, .int .i64 r1, .int .i64 r2, .int .i64 r3, .int .i64 r4], .agg #[.int .i64 s0, .int .i64 s1, .int .i64 s2, .int .i64 s3], .int .i64 rb]) (.agg #[.bool r0, .int .i64 r1, .int .i64 r2, .int .i64 r3, .int .i64 r4]) (.agg #[.int .i64 s0, .int .i64 s1, .int .i64 s2, .int .i64 s3]) (.int .i64 rb) 33 _ _ from by rw [vsA_33])⟩
        simp only [mixT, e22]
        go_simp
    · intro X w1 hG hR
      have e31 : vsA W0.heap.size m n k (.agg #[.slice A n c, .slice B k d, .int .i64 m.til]) (.agg #[.bool ton, .int .i64 tr, .int .i64 ta, .int .i64 tn, .int .i64 tl]) (.agg #[.int .i64 gr, .int .i64 ge, .int .i64 gq, .int .i64 gl]) (.int .i64 least) (.tuple #[.agg #[.bool r0, .int .i64 r1, .int .i64 r2, .int .i64 r3, .int .i64 r4], .agg #[.int .i64 s0, .int .i64 s1, .int .i64 s2, .int .i64 s3], .int .i64 rb]) (.agg #[.bool r0, .int .i64 r1, .int .i64 r2, .int .i64 r3, .int .i64 r4]) (.agg #[.int .i64 s0, .int .i64 s1, .int .i64 s2, .int .i64 s3]) (.int .i64 rb) 31 (X 31) w1 := hR 9 (by omega)
      rw [vsA_31] at e31
      have e32 : vsA W0.heap.size m n k (.agg #[.slice A n c, .slice B k d, .int .i64 m.til]) (.agg #[.bool ton, .int .i64 tr, .int .i64 ta, .int .i64 tn, .int .i64 tl]) (.agg #[.int .i64 gr, .int .i64 ge, .int .i64 gq, .int .i64 gl]) (.int .i64 least) (.tuple #[.agg #[.bool r0, .int .i64 r1, .int .i64 r2, .int .i64 r3, .int .i64 r4], .agg #[.int .i64 s0, .int .i64 s1, .int .i64 s2, .int .i64 s3], .int .i64 rb]) (.agg #[.bool r0, .int .i64 r1, .int .i64 r2, .int .i64 r3, .int .i64 r4]) (.agg #[.int .i64 s0, .int .i64 s1, .int .i64 s2, .int .i64 s3]) (.int .i64 rb) 32 (X 32) w1 := hR 10 (by omega)
      rw [vsA_32] at e32
      have e33 : vsA W0.heap.size m n k (.agg #[.slice A n c, .slice B k d, .int .i64 m.til]) (.agg #[.bool ton, .int .i64 tr, .int .i64 ta, .int .i64 tn, .int .i64 tl]) (.agg #[.int .i64 gr, .int .i64 ge, .int .i64 gq, .int .i64 gl]) (.int .i64 least) (.tuple #[.agg #[.bool r0, .int .i64 r1, .int .i64 r2, .int .i64 r3, .int .i64 r4], .agg #[.int .i64 s0, .int .i64 s1, .int .i64 s2, .int .i64 s3], .int .i64 rb]) (.agg #[.bool r0, .int .i64 r1, .int .i64 r2, .int .i64 r3, .int .i64 r4]) (.agg #[.int .i64 s0, .int .i64 s1, .int .i64 s2, .int .i64 s3]) (.int .i64 rb) 33 (X 33) w1 := hR 11 (by omega)
      rw [vsA_33] at e33
      have e10 : vsA W0.heap.size m n k (.agg #[.slice A n c, .slice B k d, .int .i64 m.til]) (.agg #[.bool ton, .int .i64 tr, .int .i64 ta, .int .i64 tn, .int .i64 tl]) (.agg #[.int .i64 gr, .int .i64 ge, .int .i64 gq, .int .i64 gl]) (.int .i64 least) (.tuple #[.agg #[.bool r0, .int .i64 r1, .int .i64 r2, .int .i64 r3, .int .i64 r4], .agg #[.int .i64 s0, .int .i64 s1, .int .i64 s2, .int .i64 s3], .int .i64 rb]) (.agg #[.bool r0, .int .i64 r1, .int .i64 r2, .int .i64 r3, .int .i64 r4]) (.agg #[.int .i64 s0, .int .i64 s1, .int .i64 s2, .int .i64 s3]) (.int .i64 rb) 10 (X 10) w1 := hR 12 (by omega)
      rw [vsA_10] at e10
      have e11 : vsA W0.heap.size m n k (.agg #[.slice A n c, .slice B k d, .int .i64 m.til]) (.agg #[.bool ton, .int .i64 tr, .int .i64 ta, .int .i64 tn, .int .i64 tl]) (.agg #[.int .i64 gr, .int .i64 ge, .int .i64 gq, .int .i64 gl]) (.int .i64 least) (.tuple #[.agg #[.bool r0, .int .i64 r1, .int .i64 r2, .int .i64 r3, .int .i64 r4], .agg #[.int .i64 s0, .int .i64 s1, .int .i64 s2, .int .i64 s3], .int .i64 rb]) (.agg #[.bool r0, .int .i64 r1, .int .i64 r2, .int .i64 r3, .int .i64 r4]) (.agg #[.int .i64 s0, .int .i64 s1, .int .i64 s2, .int .i64 s3]) (.int .i64 rb) 11 (X 11) w1 := hR 13 (by omega)
      rw [vsA_11] at e11
      obtain ⟨b3, xk, e10, lk, hk5, zk⟩ := e10
      obtain ⟨b4, xg, e11, lg, hg4, zg⟩ := e11
      have hne : b3 ≠ b4 := fun e => by rw [e, hg4] at hk5; injection hk5 with hk5; injection hk5 with _ hk5; exact absurd hk5 (by decide)
      obtain ⟨x0, x1, x2, x3, x4, rfl⟩ := arr_five zk
      obtain ⟨y0, y1, y2, y3, rfl⟩ := arr_four zg
      have BKK : Bk w1 b3 _ := ⟨_, hk5⟩
      have BGG : Bk w1 b4 _ := ⟨_, hg4⟩
      have PT := Lib.hid (putTM_bk BKK BGG hne ⟨r0, r1, r2, r3, r4⟩ ⟨s0, s1, s2, s3⟩)
      have PU := Lib.hid (putTM_up hG lk lg ⟨r0, r1, r2, r3, r4⟩ ⟨s0, s1, s2, s3⟩)
      unfold putTM at PT PU
      dsimp only at PT PU
      have fk := fun j => BKK.frozen j
      have fg := fun j => BGG.frozen j
      obtain ⟨k0, k1, k2, k3, k4⟩ := And.intro (BKK.cell (j := 0) rfl) (And.intro (BKK.cell (j := 1) rfl) (And.intro (BKK.cell (j := 2) rfl) (And.intro (BKK.cell (j := 3) rfl) (BKK.cell (j := 4) rfl))))
      obtain ⟨m0, m1, m2, m3⟩ := And.intro (BGG.cell (j := 0) rfl) (And.intro (BGG.cell (j := 1) rfl) (And.intro (BGG.cell (j := 2) rfl) (BGG.cell (j := 3) rfl)))
      have llk := BKK.lt
      have llg := BGG.lt
      have hne' := hne.symm
      clear hR BKK BGG hk5 hg4 zk zg hG lk lg
      simp only [mixT, e31, e32, e33, e10, e11]
      refine mix_go rfl (by rfl) (fun K hK => ?_)
      go_simp
      refine hK _ _ ?_
      clear hK K
      refine mix_go rfl (by rfl) (fun K hK => ?_)
      go_simp
      refine hK _ _ ?_
      clear hK K
      refine mix_go rfl (by rfl) (fun K hK => ?_)
      go_simp
      refine hK _ _ ?_
      clear hK K
      refine mix_nil ?_
      clear fk fg k0 k1 k2 k3 k4 m0 m1 m2 m3 llk llg e31 e32 e33 e10 e11
      generalize ((((((((w1.setCell ⟨b3, 0, none⟩ (.bool r0)).setCell ⟨b3, 1, none⟩ (.int .i64 r1)).setCell ⟨b3, 2, none⟩ (.int .i64 r2)).setCell ⟨b3, 3, none⟩ (.int .i64 r3)).setCell ⟨b3, 4, none⟩ (.int .i64 r4)).setCell ⟨b4, 0, none⟩ (.int .i64 s0)).setCell ⟨b4, 1, none⟩ (.int .i64 s1)).setCell ⟨b4, 2, none⟩ (.int .i64 s2)).setCell ⟨b4, 3, none⟩ (.int .i64 s3) = W5 at *
      replace UC := Lib.hid (UC.out.trans PU.out)
      replace X0 := Lib.hid (X0.out.up PU.out)
      replace X1 := Lib.hid (X1.out.up PU.out)
      replace X2 := Lib.hid (X2.out.up PU.out)
      have X3 := Lib.hid PT.out.1
      have X4 := Lib.hid PT.out.2
      clear PT PU hne hne'
      have z0 := X0.out.cell (j := 0) rfl
      have z1 := X0.out.cell (j := 1) rfl
      have z2 := X0.out.cell (j := 2) rfl
      have lz := X0.out.lt
      go_wp2_with fail
      refine (CT.out _ UC.out SH.out).mono ?_
      rintro x w4 ⟨g1, g2, rfl, hg1, hg2, o1, o2, u4⟩
      clear z0 z1 z2 lz
      have ua := (Up.refl w4).alloc (.cells #[.slice (some ⟨g1, 0, none⟩) n n, .slice (some ⟨g2, 0, none⟩) k k, .int .i64 m.til] 26)
      have VX := Lib.hid ((NewMdl.v o1 o2 hk).up ua)
      have X5 := Lib.hid (Bk.new w4 #[.slice (some ⟨g1, 0, none⟩) n n, .slice (some ⟨g2, 0, none⟩) k k, .int .i64 m.til] 26)
      have uu := u4.trans ua
      replace UC := Lib.hid (UC.out.trans uu)
      replace X0 := Lib.hid (X0.out.up uu)
      replace X1 := Lib.hid (X1.out.up uu)
      replace X2 := Lib.hid (X2.out.up uu)
      replace X3 := Lib.hid (X3.out.up uu)
      replace X4 := Lib.hid (X4.out.up uu)
      clear o1 o2 hg1 hg2 u4 ua uu
      go_wp2_with fail
      generalize w4.alloc (.cells #[.slice (some ⟨g1, 0, none⟩) n n, .slice (some ⟨g2, 0, none⟩) k k, .int .i64 m.til] 26) = W7 at *
      generalize hb5 : w4.heap.size = b5 at *
      clear hb5
      refine region_relyG 13 [(7, 9), (7, 10)] [(13, false), (14, false), (15, false)] [37, 38, 39, 40, 41, 42, 43, 36, 44, 45, 46, 14, 15] 11 (fun _ w1 => Up W7 w1) Up (fun i v w => vsB W7.heap.size (.agg #[.slice (some ⟨g1, 0, none⟩) n n, .slice (some ⟨g2, 0, none⟩) k k, .int .i64 m.til]) (.agg #[.bool ton, .int .i64 tr, .int .i64 ta, .int .i64 tn, .int .i64 tl]) (.agg #[.int .i64 gr, .int .i64 ge, .int .i64 gq, .int .i64 gl]) (.int .i64 least) (.tuple #[.agg #[.bool r0, .int .i64 r1, .int .i64 r2, .int .i64 r3, .int .i64 r4], .agg #[.int .i64 s0, .int .i64 s1, .int .i64 s2, .int .i64 s3], .int .i64 rb]) (.agg #[.bool r0, .int .i64 r1, .int .i64 r2, .int .i64 r3, .int .i64 r4]) (.agg #[.int .i64 s0, .int .i64 s1, .int .i64 s2, .int .i64 s3]) (.int .i64 rb) i v w) (by kernel_rfl) (by kernel_rfl) (by kernel_rfl) (by kernel_rfl) ((Up.refl _).drew) (fun slot_ _ _ _ h u => vsB_up W7.heap.size (.agg #[.slice (some ⟨g1, 0, none⟩) n n, .slice (some ⟨g2, 0, none⟩) k k, .int .i64 m.til]) (.agg #[.bool ton, .int .i64 tr, .int .i64 ta, .int .i64 tn, .int .i64 tl]) (.agg #[.int .i64 gr, .int .i64 ge, .int .i64 gq, .int .i64 gl]) (.int .i64 least) (.tuple #[.agg #[.bool r0, .int .i64 r1, .int .i64 r2, .int .i64 r3, .int .i64 r4], .agg #[.int .i64 s0, .int .i64 s1, .int .i64 s2, .int .i64 s3], .int .i64 rb]) (.agg #[.bool r0, .int .i64 r1, .int .i64 r2, .int .i64 r3, .int .i64 r4]) (.agg #[.int .i64 s0, .int .i64 s1, .int .i64 s2, .int .i64 s3]) (.int .i64 rb) slot_ h u) ?_ ?_ ?_
      · simp only [List.take_succ_cons, List.take_zero]
        refine stepsT_op (by kernel_rfl) ?_ ?_
        · intro X w1 k1 hG hdep
          have p0 := (X5.out.up hG).cell (j := 0) rfl
          have p1 := (X5.out.up hG).cell (j := 1) rfl
          have p2 := (X5.out.up hG).cell (j := 2) rfl
          have lp := (X5.out.up hG).lt
          simp only [opW_def, mixT]
          go_simp
          exact ⟨⟨(.agg #[.slice (some ⟨g1, 0, none⟩) n n, .slice (some ⟨g2, 0, none⟩) k k, .int .i64 m.til]), by first | rfl | simp [Act.put], Up.refl _, hG, (show vsB W7.heap.size (.agg #[.slice (some ⟨g1, 0, none⟩) n n, .slice (some ⟨g2, 0, none⟩) k k, .int .i64 m.til]) (.agg #[.bool ton, .int .i64 tr, .int .i64 ta, .int .i64 tn, .int .i64 tl]) (.agg #[.int .i64 gr, .int .i64 ge, .int .i64 gq, .int .i64 gl]) (.int .i64 least) (.tuple #[.agg #[.bool r0, .int .i64 r1, .int .i64 r2, .int .i64 r3, .int .i64 r4], .agg #[.int .i64 s0, .int .i64 s1, .int .i64 s2, .int .i64 s3], .int .i64 rb]) (.agg #[.bool r0, .int .i64 r1, .int .i64 r2, .int .i64 r3, .int .i64 r4]) (.agg #[.int .i64 s0, .int .i64 s1, .int .i64 s2, .int .i64 s3]) (.int .i64 rb) 37 _ _ from by first | (rw [vsB_37]; exact rfl) | rw [vsB_37])⟩⟩
        refine stepsT_op (by kernel_rfl) ?_ ?_
        · intro X w1 k1 hG hdep
          have p0 := (X1.out.up hG).cell (j := 0) rfl
          have p1 := (X1.out.up hG).cell (j := 1) rfl
          have p2 := (X1.out.up hG).cell (j := 2) rfl
          have p3 := (X1.out.up hG).cell (j := 3) rfl
          have p4 := (X1.out.up hG).cell (j := 4) rfl
          have lp := (X1.out.up hG).lt
          simp only [opW_def, mixT]
          go_simp
          exact ⟨⟨(.agg #[.bool ton, .int .i64 tr, .int .i64 ta, .int .i64 tn, .int .i64 tl]), by first | rfl | simp [Act.put], Up.refl _, hG, (show vsB W7.heap.size (.agg #[.slice (some ⟨g1, 0, none⟩) n n, .slice (some ⟨g2, 0, none⟩) k k, .int .i64 m.til]) (.agg #[.bool ton, .int .i64 tr, .int .i64 ta, .int .i64 tn, .int .i64 tl]) (.agg #[.int .i64 gr, .int .i64 ge, .int .i64 gq, .int .i64 gl]) (.int .i64 least) (.tuple #[.agg #[.bool r0, .int .i64 r1, .int .i64 r2, .int .i64 r3, .int .i64 r4], .agg #[.int .i64 s0, .int .i64 s1, .int .i64 s2, .int .i64 s3], .int .i64 rb]) (.agg #[.bool r0, .int .i64 r1, .int .i64 r2, .int .i64 r3, .int .i64 r4]) (.agg #[.int .i64 s0, .int .i64 s1, .int .i64 s2, .int .i64 s3]) (.int .i64 rb) 38 _ _ from by first | (rw [vsB_38]; exact rfl) | rw [vsB_38])⟩⟩
        refine stepsT_op (by kernel_rfl) ?_ ?_
        · intro X w1 k1 hG hdep
          have e38 : vsB W7.heap.size (.agg #[.slice (some ⟨g1, 0, none⟩) n n, .slice (some ⟨g2, 0, none⟩) k k, .int .i64 m.til]) (.agg #[.bool ton, .int .i64 tr, .int .i64 ta, .int .i64 tn, .int .i64 tl]) (.agg #[.int .i64 gr, .int .i64 ge, .int .i64 gq, .int .i64 gl]) (.int .i64 least) (.tuple #[.agg #[.bool r0, .int .i64 r1, .int .i64 r2, .int .i64 r3, .int .i64 r4], .agg #[.int .i64 s0, .int .i64 s1, .int .i64 s2, .int .i64 s3], .int .i64 rb]) (.agg #[.bool r0, .int .i64 r1, .int .i64 r2, .int .i64 r3, .int .i64 r4]) (.agg #[.int .i64 s0, .int .i64 s1, .int .i64 s2, .int .i64 s3]) (.int .i64 rb) 38 (X 38) w1 := hdep 38 (by decide +kernel)
          rw [vsB_38] at e38
          simp only [opW_def, mixT, e38]
          go_simp
          refine (CK.out w1).mono ?_
          rintro x w2 ⟨rfl, u⟩
          exact ⟨⟨(.agg #[.bool ton, .int .i64 tr, .int .i64 ta, .int .i64 tn, .int .i64 tl]), by first | rfl | simp [Act.put], u, hG.trans u, (show vsB W7.heap.size (.agg #[.slice (some ⟨g1, 0, none⟩) n n, .slice (some ⟨g2, 0, none⟩) k k, .int .i64 m.til]) (.agg #[.bool ton, .int .i64 tr, .int .i64 ta, .int .i64 tn, .int .i64 tl]) (.agg #[.int .i64 gr, .int .i64 ge, .int .i64 gq, .int .i64 gl]) (.int .i64 least) (.tuple #[.agg #[.bool r0, .int .i64 r1, .int .i64 r2, .int .i64 r3, .int .i64 r4], .agg #[.int .i64 s0, .int .i64 s1, .int .i64 s2, .int .i64 s3], .int .i64 rb]) (.agg #[.bool r0, .int .i64 r1, .int .i64 r2, .int .i64 r3, .int .i64 r4]) (.agg #[.int .i64 s0, .int .i64 s1, .int .i64 s2, .int .i64 s3]) (.int .i64 rb) 39 _ _ from by first | (rw [vsB_39]; exact rfl) | rw [vsB_39])⟩⟩
        refine stepsT_op (by kernel_rfl) ?_ ?_
        · intro X w1 k1 hG hdep
          have p0 := (X2.out.up hG).cell (j := 0) rfl
          have p1 := (X2.out.up hG).cell (j := 1) rfl
          have p2 := (X2.out.up hG).cell (j := 2) rfl
          have p3 := (X2.out.up hG).cell (j := 3) rfl
          have lp := (X2.out.up hG).lt
          simp only [opW_def, mixT]
          go_simp
          exact ⟨⟨(.agg #[.int .i64 gr, .int .i64 ge, .int .i64 gq, .int .i64 gl]), by first | rfl | simp [Act.put], Up.refl _, hG, (show vsB W7.heap.size (.agg #[.slice (some ⟨g1, 0, none⟩) n n, .slice (some ⟨g2, 0, none⟩) k k, .int .i64 m.til]) (.agg #[.bool ton, .int .i64 tr, .int .i64 ta, .int .i64 tn, .int .i64 tl]) (.agg #[.int .i64 gr, .int .i64 ge, .int .i64 gq, .int .i64 gl]) (.int .i64 least) (.tuple #[.agg #[.bool r0, .int .i64 r1, .int .i64 r2, .int .i64 r3, .int .i64 r4], .agg #[.int .i64 s0, .int .i64 s1, .int .i64 s2, .int .i64 s3], .int .i64 rb]) (.agg #[.bool r0, .int .i64 r1, .int .i64 r2, .int .i64 r3, .int .i64 r4]) (.agg #[.int .i64 s0, .int .i64 s1, .int .i64 s2, .int .i64 s3]) (.int .i64 rb) 40 _ _ from by first | (rw [vsB_40]; exact rfl) | rw [vsB_40])⟩⟩
        refine stepsT_op (by kernel_rfl) ?_ ?_
        · intro X w1 k1 hG hdep
          have e40 : vsB W7.heap.size (.agg #[.slice (some ⟨g1, 0, none⟩) n n, .slice (some ⟨g2, 0, none⟩) k k, .int .i64 m.til]) (.agg #[.bool ton, .int .i64 tr, .int .i64 ta, .int .i64 tn, .int .i64 tl]) (.agg #[.int .i64 gr, .int .i64 ge, .int .i64 gq, .int .i64 gl]) (.int .i64 least) (.tuple #[.agg #[.bool r0, .int .i64 r1, .int .i64 r2, .int .i64 r3, .int .i64 r4], .agg #[.int .i64 s0, .int .i64 s1, .int .i64 s2, .int .i64 s3], .int .i64 rb]) (.agg #[.bool r0, .int .i64 r1, .int .i64 r2, .int .i64 r3, .int .i64 r4]) (.agg #[.int .i64 s0, .int .i64 s1, .int .i64 s2, .int .i64 s3]) (.int .i64 rb) 40 (X 40) w1 := hdep 40 (by decide +kernel)
          rw [vsB_40] at e40
          simp only [opW_def, mixT, e40]
          go_simp
          refine (CG.out w1).mono ?_
          rintro x w2 ⟨rfl, u⟩
          exact ⟨⟨(.agg #[.int .i64 gr, .int .i64 ge, .int .i64 gq, .int .i64 gl]), by first | rfl | simp [Act.put], u, hG.trans u, (show vsB W7.heap.size (.agg #[.slice (some ⟨g1, 0, none⟩) n n, .slice (some ⟨g2, 0, none⟩) k k, .int .i64 m.til]) (.agg #[.bool ton, .int .i64 tr, .int .i64 ta, .int .i64 tn, .int .i64 tl]) (.agg #[.int .i64 gr, .int .i64 ge, .int .i64 gq, .int .i64 gl]) (.int .i64 least) (.tuple #[.agg #[.bool r0, .int .i64 r1, .int .i64 r2, .int .i64 r3, .int .i64 r4], .agg #[.int .i64 s0, .int .i64 s1, .int .i64 s2, .int .i64 s3], .int .i64 rb]) (.agg #[.bool r0, .int .i64 r1, .int .i64 r2, .int .i64 r3, .int .i64 r4]) (.agg #[.int .i64 s0, .int .i64 s1, .int .i64 s2, .int .i64 s3]) (.int .i64 rb) 41 _ _ from by first | (rw [vsB_41]; exact rfl) | rw [vsB_41])⟩⟩
        refine stepsT_op (by kernel_rfl) ?_ ?_
        · intro X w1 k1 hG hdep
          simp only [opW_def, mixT]
          go_simp
          exact ⟨⟨(.int .i64 least), by first | rfl | simp [Act.put], Up.refl _, hG, (show vsB W7.heap.size (.agg #[.slice (some ⟨g1, 0, none⟩) n n, .slice (some ⟨g2, 0, none⟩) k k, .int .i64 m.til]) (.agg #[.bool ton, .int .i64 tr, .int .i64 ta, .int .i64 tn, .int .i64 tl]) (.agg #[.int .i64 gr, .int .i64 ge, .int .i64 gq, .int .i64 gl]) (.int .i64 least) (.tuple #[.agg #[.bool r0, .int .i64 r1, .int .i64 r2, .int .i64 r3, .int .i64 r4], .agg #[.int .i64 s0, .int .i64 s1, .int .i64 s2, .int .i64 s3], .int .i64 rb]) (.agg #[.bool r0, .int .i64 r1, .int .i64 r2, .int .i64 r3, .int .i64 r4]) (.agg #[.int .i64 s0, .int .i64 s1, .int .i64 s2, .int .i64 s3]) (.int .i64 rb) 42 _ _ from by first | (rw [vsB_42]; exact rfl) | rw [vsB_42])⟩⟩
        refine stepsT_op (by kernel_rfl) ?_ ?_
        · intro X w1 k1 hG hdep
          have e37 : vsB W7.heap.size (.agg #[.slice (some ⟨g1, 0, none⟩) n n, .slice (some ⟨g2, 0, none⟩) k k, .int .i64 m.til]) (.agg #[.bool ton, .int .i64 tr, .int .i64 ta, .int .i64 tn, .int .i64 tl]) (.agg #[.int .i64 gr, .int .i64 ge, .int .i64 gq, .int .i64 gl]) (.int .i64 least) (.tuple #[.agg #[.bool r0, .int .i64 r1, .int .i64 r2, .int .i64 r3, .int .i64 r4], .agg #[.int .i64 s0, .int .i64 s1, .int .i64 s2, .int .i64 s3], .int .i64 rb]) (.agg #[.bool r0, .int .i64 r1, .int .i64 r2, .int .i64 r3, .int .i64 r4]) (.agg #[.int .i64 s0, .int .i64 s1, .int .i64 s2, .int .i64 s3]) (.int .i64 rb) 37 (X 37) w1 := hdep 37 (by decide +kernel)
          rw [vsB_37] at e37
          have e39 : vsB W7.heap.size (.agg #[.slice (some ⟨g1, 0, none⟩) n n, .slice (some ⟨g2, 0, none⟩) k k, .int .i64 m.til]) (.agg #[.bool ton, .int .i64 tr, .int .i64 ta, .int .i64 tn, .int .i64 tl]) (.agg #[.int .i64 gr, .int .i64 ge, .int .i64 gq, .int .i64 gl]) (.int .i64 least) (.tuple #[.agg #[.bool r0, .int .i64 r1, .int .i64 r2, .int .i64 r3, .int .i64 r4], .agg #[.int .i64 s0, .int .i64 s1, .int .i64 s2, .int .i64 s3], .int .i64 rb]) (.agg #[.bool r0, .int .i64 r1, .int .i64 r2, .int .i64 r3, .int .i64 r4]) (.agg #[.int .i64 s0, .int .i64 s1, .int .i64 s2, .int .i64 s3]) (.int .i64 rb) 39 (X 39) w1 := hdep 39 (by decide +kernel)
          rw [vsB_39] at e39
          have e41 : vsB W7.heap.size (.agg #[.slice (some ⟨g1, 0, none⟩) n n, .slice (some ⟨g2, 0, none⟩) k k, .int .i64 m.til]) (.agg #[.bool ton, .int .i64 tr, .int .i64 ta, .int .i64 tn, .int .i64 tl]) (.agg #[.int .i64 gr, .int .i64 ge, .int .i64 gq, .int .i64 gl]) (.int .i64 least) (.tuple #[.agg #[.bool r0, .int .i64 r1, .int .i64 r2, .int .i64 r3, .int .i64 r4], .agg #[.int .i64 s0, .int .i64 s1, .int .i64 s2, .int .i64 s3], .int .i64 rb]) (.agg #[.bool r0, .int .i64 r1, .int .i64 r2, .int .i64 r3, .int .i64 r4]) (.agg #[.int .i64 s0, .int .i64 s1, .int .i64 s2, .int .i64 s3]) (.int .i64 rb) 41 (X 41) w1 := hdep 41 (by decide +kernel)
          rw [vsB_41] at e41
          have e42 : vsB W7.heap.size (.agg #[.slice (some ⟨g1, 0, none⟩) n n, .slice (some ⟨g2, 0, none⟩) k k, .int .i64 m.til]) (.agg #[.bool ton, .int .i64 tr, .int .i64 ta, .int .i64 tn, .int .i64 tl]) (.agg #[.int .i64 gr, .int .i64 ge, .int .i64 gq, .int .i64 gl]) (.int .i64 least) (.tuple #[.agg #[.bool r0, .int .i64 r1, .int .i64 r2, .int .i64 r3, .int .i64 r4], .agg #[.int .i64 s0, .int .i64 s1, .int .i64 s2, .int .i64 s3], .int .i64 rb]) (.agg #[.bool r0, .int .i64 r1, .int .i64 r2, .int .i64 r3, .int .i64 r4]) (.agg #[.int .i64 s0, .int .i64 s1, .int .i64 s2, .int .i64 s3]) (.int .i64 rb) 42 (X 42) w1 := hdep 42 (by decide +kernel)
          rw [vsB_42] at e42
          simp only [opW_def, mixT, e37, e39, e41, e42]
          go_simp
          refine (CI.out _ _ _ _ _ _ _ (VX.out.up hG)).mono ?_
          rintro x w2 ⟨rfl, u⟩
          exact ⟨⟨(.tuple #[.agg #[.bool r0, .int .i64 r1, .int .i64 r2, .int .i64 r3, .int .i64 r4], .agg #[.int .i64 s0, .int .i64 s1, .int .i64 s2, .int .i64 s3], .int .i64 rb]), by first | rfl | simp [Act.put], u, hG.trans u, (show vsB W7.heap.size (.agg #[.slice (some ⟨g1, 0, none⟩) n n, .slice (some ⟨g2, 0, none⟩) k k, .int .i64 m.til]) (.agg #[.bool ton, .int .i64 tr, .int .i64 ta, .int .i64 tn, .int .i64 tl]) (.agg #[.int .i64 gr, .int .i64 ge, .int .i64 gq, .int .i64 gl]) (.int .i64 least) (.tuple #[.agg #[.bool r0, .int .i64 r1, .int .i64 r2, .int .i64 r3, .int .i64 r4], .agg #[.int .i64 s0, .int .i64 s1, .int .i64 s2, .int .i64 s3], .int .i64 rb]) (.agg #[.bool r0, .int .i64 r1, .int .i64 r2, .int .i64 r3, .int .i64 r4]) (.agg #[.int .i64 s0, .int .i64 s1, .int .i64 s2, .int .i64 s3]) (.int .i64 rb) 43 _ _ from by first | (rw [vsB_43]; exact rfl) | rw [vsB_43])⟩⟩
        refine stepsT_op (by kernel_rfl) ?_ ?_
        · intro X w1 k1 hG hdep
          have e43 : vsB W7.heap.size (.agg #[.slice (some ⟨g1, 0, none⟩) n n, .slice (some ⟨g2, 0, none⟩) k k, .int .i64 m.til]) (.agg #[.bool ton, .int .i64 tr, .int .i64 ta, .int .i64 tn, .int .i64 tl]) (.agg #[.int .i64 gr, .int .i64 ge, .int .i64 gq, .int .i64 gl]) (.int .i64 least) (.tuple #[.agg #[.bool r0, .int .i64 r1, .int .i64 r2, .int .i64 r3, .int .i64 r4], .agg #[.int .i64 s0, .int .i64 s1, .int .i64 s2, .int .i64 s3], .int .i64 rb]) (.agg #[.bool r0, .int .i64 r1, .int .i64 r2, .int .i64 r3, .int .i64 r4]) (.agg #[.int .i64 s0, .int .i64 s1, .int .i64 s2, .int .i64 s3]) (.int .i64 rb) 43 (X 43) w1 := hdep 43 (by decide +kernel)
          rw [vsB_43] at e43
          simp only [opW_def, mixT, e43]
          go_simp
          exact ⟨⟨(.tuple #[.agg #[.bool r0, .int .i64 r1, .int .i64 r2, .int .i64 r3, .int .i64 r4], .agg #[.int .i64 s0, .int .i64 s1, .int .i64 s2, .int .i64 s3], .int .i64 rb]), by first | rfl | simp [Act.put], Up.refl _, hG, (show vsB W7.heap.size (.agg #[.slice (some ⟨g1, 0, none⟩) n n, .slice (some ⟨g2, 0, none⟩) k k, .int .i64 m.til]) (.agg #[.bool ton, .int .i64 tr, .int .i64 ta, .int .i64 tn, .int .i64 tl]) (.agg #[.int .i64 gr, .int .i64 ge, .int .i64 gq, .int .i64 gl]) (.int .i64 least) (.tuple #[.agg #[.bool r0, .int .i64 r1, .int .i64 r2, .int .i64 r3, .int .i64 r4], .agg #[.int .i64 s0, .int .i64 s1, .int .i64 s2, .int .i64 s3], .int .i64 rb]) (.agg #[.bool r0, .int .i64 r1, .int .i64 r2, .int .i64 r3, .int .i64 r4]) (.agg #[.int .i64 s0, .int .i64 s1, .int .i64 s2, .int .i64 s3]) (.int .i64 rb) 36 _ _ from by first | (rw [vsB_36]; exact rfl) | rw [vsB_36])⟩⟩
        refine stepsT_op (by kernel_rfl) ?_ ?_
        · intro X w1 k1 hG hdep
          have e36 : vsB W7.heap.size (.agg #[.slice (some ⟨g1, 0, none⟩) n n, .slice (some ⟨g2, 0, none⟩) k k, .int .i64 m.til]) (.agg #[.bool ton, .int .i64 tr, .int .i64 ta, .int .i64 tn, .int .i64 tl]) (.agg #[.int .i64 gr, .int .i64 ge, .int .i64 gq, .int .i64 gl]) (.int .i64 least) (.tuple #[.agg #[.bool r0, .int .i64 r1, .int .i64 r2, .int .i64 r3, .int .i64 r4], .agg #[.int .i64 s0, .int .i64 s1, .int .i64 s2, .int .i64 s3], .int .i64 rb]) (.agg #[.bool r0, .int .i64 r1, .int .i64 r2, .int .i64 r3, .int .i64 r4]) (.agg #[.int .i64 s0, .int .i64 s1, .int .i64 s2, .int .i64 s3]) (.int .i64 rb) 36 (X 36) w1 := hdep 36 (by decide +kernel)
          rw [vsB_36] at e36
          simp only [opW_def, mixT, e36]
          go_simp
          exact ⟨⟨(.agg #[.bool r0, .int .i64 r1, .int .i64 r2, .int .i64 r3, .int .i64 r4]), by first | rfl | simp [Act.put], Up.refl _, hG, (show vsB W7.heap.size (.agg #[.slice (some ⟨g1, 0, none⟩) n n, .slice (some ⟨g2, 0, none⟩) k k, .int .i64 m.til]) (.agg #[.bool ton, .int .i64 tr, .int .i64 ta, .int .i64 tn, .int .i64 tl]) (.agg #[.int .i64 gr, .int .i64 ge, .int .i64 gq, .int .i64 gl]) (.int .i64 least) (.tuple #[.agg #[.bool r0, .int .i64 r1, .int .i64 r2, .int .i64 r3, .int .i64 r4], .agg #[.int .i64 s0, .int .i64 s1, .int .i64 s2, .int .i64 s3], .int .i64 rb]) (.agg #[.bool r0, .int .i64 r1, .int .i64 r2, .int .i64 r3, .int .i64 r4]) (.agg #[.int .i64 s0, .int .i64 s1, .int .i64 s2, .int .i64 s3]) (.int .i64 rb) 44 _ _ from by first | (rw [vsB_44]; exact rfl) | rw [vsB_44])⟩⟩
        refine stepsT_guest (by kernel_rfl) ?_
        refine stepsT_guest (by kernel_rfl) ?_
        refine stepsT_op (by kernel_rfl) ?_ ?_
        · intro X w1 k1 hG hdep
          have hlo := hG.size
          simp only [opW_def, mixT]
          go_simp
          exact ⟨⟨_, by first | rfl | simp [Act.put], (Up.refl _).alloc _, hG.alloc _, (show vsB W7.heap.size (.agg #[.slice (some ⟨g1, 0, none⟩) n n, .slice (some ⟨g2, 0, none⟩) k k, .int .i64 m.til]) (.agg #[.bool ton, .int .i64 tr, .int .i64 ta, .int .i64 tn, .int .i64 tl]) (.agg #[.int .i64 gr, .int .i64 ge, .int .i64 gq, .int .i64 gl]) (.int .i64 least) (.tuple #[.agg #[.bool r0, .int .i64 r1, .int .i64 r2, .int .i64 r3, .int .i64 r4], .agg #[.int .i64 s0, .int .i64 s1, .int .i64 s2, .int .i64 s3], .int .i64 rb]) (.agg #[.bool r0, .int .i64 r1, .int .i64 r2, .int .i64 r3, .int .i64 r4]) (.agg #[.int .i64 s0, .int .i64 s1, .int .i64 s2, .int .i64 s3]) (.int .i64 rb) 14 _ _ from by first | (rw [vsB_14]; exact NewB.new w1 _ _ 5 rfl hlo) | rw [vsB_14])⟩⟩
        refine stepsT_op (by kernel_rfl) ?_ ?_
        · intro X w1 k1 hG hdep
          have hlo := hG.size
          simp only [opW_def, mixT]
          go_simp
          exact ⟨⟨_, by first | rfl | simp [Act.put], (Up.refl _).alloc _, hG.alloc _, (show vsB W7.heap.size (.agg #[.slice (some ⟨g1, 0, none⟩) n n, .slice (some ⟨g2, 0, none⟩) k k, .int .i64 m.til]) (.agg #[.bool ton, .int .i64 tr, .int .i64 ta, .int .i64 tn, .int .i64 tl]) (.agg #[.int .i64 gr, .int .i64 ge, .int .i64 gq, .int .i64 gl]) (.int .i64 least) (.tuple #[.agg #[.bool r0, .int .i64 r1, .int .i64 r2, .int .i64 r3, .int .i64 r4], .agg #[.int .i64 s0, .int .i64 s1, .int .i64 s2, .int .i64 s3], .int .i64 rb]) (.agg #[.bool r0, .int .i64 r1, .int .i64 r2, .int .i64 r3, .int .i64 r4]) (.agg #[.int .i64 s0, .int .i64 s1, .int .i64 s2, .int .i64 s3]) (.int .i64 rb) 15 _ _ from by first | (rw [vsB_15]; exact NewB.new w1 _ _ 4 rfl hlo) | rw [vsB_15])⟩⟩
        exact trivial
      · refine pairs_two (P := fun h p => GuestR _ _ _ _ _ h p) ?_ ?_
        · intro X w1 o ho hr
          have ho2 : some _ = some o := ho
          injection ho2 with ho2
          subst ho2
          have e36 : vsB W7.heap.size (.agg #[.slice (some ⟨g1, 0, none⟩) n n, .slice (some ⟨g2, 0, none⟩) k k, .int .i64 m.til]) (.agg #[.bool ton, .int .i64 tr, .int .i64 ta, .int .i64 tn, .int .i64 tl]) (.agg #[.int .i64 gr, .int .i64 ge, .int .i64 gq, .int .i64 gl]) (.int .i64 least) (.tuple #[.agg #[.bool r0, .int .i64 r1, .int .i64 r2, .int .i64 r3, .int .i64 r4], .agg #[.int .i64 s0, .int .i64 s1, .int .i64 s2, .int .i64 s3], .int .i64 rb]) (.agg #[.bool r0, .int .i64 r1, .int .i64 r2, .int .i64 r3, .int .i64 r4]) (.agg #[.int .i64 s0, .int .i64 s1, .int .i64 s2, .int .i64 s3]) (.int .i64 rb) 36 (X 36) w1 := hr
          rw [vsB_36] at e36
          refine ⟨(.agg #[.int .i64 s0, .int .i64 s1, .int .i64 s2, .int .i64 s3]), fun w2 => ?_, (show vsB W7.heap.size (.agg #[.slice (some ⟨g1, 0, none⟩) n n, .slice (some ⟨g2, 0, none⟩) k k, .int .i64 m.til]) (.agg #[.bool ton, .int .i64 tr, .int .i64 ta, .int .i64 tn, .int .i64 tl]) (.agg #[.int .i64 gr, .int .i64 ge, .int .i64 gq, .int .i64 gl]) (.int .i64 least) (.tuple #[.agg #[.bool r0, .int .i64 r1, .int .i64 r2, .int .i64 r3, .int .i64 r4], .agg #[.int .i64 s0, .int .i64 s1, .int .i64 s2, .int .i64 s3], .int .i64 rb]) (.agg #[.bool r0, .int .i64 r1, .int .i64 r2, .int .i64 r3, .int .i64 r4]) (.agg #[.int .i64 s0, .int .i64 s1, .int .i64 s2, .int .i64 s3]) (.int .i64 rb) 45 _ _ from by rw [vsB_45])⟩
          simp only [mixT, e36]
          go_simp
        · intro X w1 o ho hr
          have ho2 : some _ = some o := ho
          injection ho2 with ho2
          subst ho2
          have e36 : vsB W7.heap.size (.agg #[.slice (some ⟨g1, 0, none⟩) n n, .slice (some ⟨g2, 0, none⟩) k k, .int .i64 m.til]) (.agg #[.bool ton, .int .i64 tr, .int .i64 ta, .int .i64 tn, .int .i64 tl]) (.agg #[.int .i64 gr, .int .i64 ge, .int .i64 gq, .int .i64 gl]) (.int .i64 least) (.tuple #[.agg #[.bool r0, .int .i64 r1, .int .i64 r2, .int .i64 r3, .int .i64 r4], .agg #[.int .i64 s0, .int .i64 s1, .int .i64 s2, .int .i64 s3], .int .i64 rb]) (.agg #[.bool r0, .int .i64 r1, .int .i64 r2, .int .i64 r3, .int .i64 r4]) (.agg #[.int .i64 s0, .int .i64 s1, .int .i64 s2, .int .i64 s3]) (.int .i64 rb) 36 (X 36) w1 := hr
          rw [vsB_36] at e36
          refine ⟨(.int .i64 rb), fun w2 => ?_, (show vsB W7.heap.size (.agg #[.slice (some ⟨g1, 0, none⟩) n n, .slice (some ⟨g2, 0, none⟩) k k, .int .i64 m.til]) (.agg #[.bool ton, .int .i64 tr, .int .i64 ta, .int .i64 tn, .int .i64 tl]) (.agg #[.int .i64 gr, .int .i64 ge, .int .i64 gq, .int .i64 gl]) (.int .i64 least) (.tuple #[.agg #[.bool r0, .int .i64 r1, .int .i64 r2, .int .i64 r3, .int .i64 r4], .agg #[.int .i64 s0, .int .i64 s1, .int .i64 s2, .int .i64 s3], .int .i64 rb]) (.agg #[.bool r0, .int .i64 r1, .int .i64 r2, .int .i64 r3, .int .i64 r4]) (.agg #[.int .i64 s0, .int .i64 s1, .int .i64 s2, .int .i64 s3]) (.int .i64 rb) 46 _ _ from by rw [vsB_46])⟩
          simp only [mixT, e36]
          go_simp
      · intro X w1 hG hR
        have e44 : vsB W7.heap.size (.agg #[.slice (some ⟨g1, 0, none⟩) n n, .slice (some ⟨g2, 0, none⟩) k k, .int .i64 m.til]) (.agg #[.bool ton, .int .i64 tr, .int .i64 ta, .int .i64 tn, .int .i64 tl]) (.agg #[.int .i64 gr, .int .i64 ge, .int .i64 gq, .int .i64 gl]) (.int .i64 least) (.tuple #[.agg #[.bool r0, .int .i64 r1, .int .i64 r2, .int .i64 r3, .int .i64 r4], .agg #[.int .i64 s0, .int .i64 s1, .int .i64 s2, .int .i64 s3], .int .i64 rb]) (.agg #[.bool r0, .int .i64 r1, .int .i64 r2, .int .i64 r3, .int .i64 r4]) (.agg #[.int .i64 s0, .int .i64 s1, .int .i64 s2, .int .i64 s3]) (.int .i64 rb) 44 (X 44) w1 := hR 8 (by omega)
        rw [vsB_44] at e44
        have e45 : vsB W7.heap.size (.agg #[.slice (some ⟨g1, 0, none⟩) n n, .slice (some ⟨g2, 0, none⟩) k k, .int .i64 m.til]) (.agg #[.bool ton, .int .i64 tr, .int .i64 ta, .int .i64 tn, .int .i64 tl]) (.agg #[.int .i64 gr, .int .i64 ge, .int .i64 gq, .int .i64 gl]) (.int .i64 least) (.tuple #[.agg #[.bool r0, .int .i64 r1, .int .i64 r2, .int .i64 r3, .int .i64 r4], .agg #[.int .i64 s0, .int .i64 s1, .int .i64 s2, .int .i64 s3], .int .i64 rb]) (.agg #[.bool r0, .int .i64 r1, .int .i64 r2, .int .i64 r3, .int .i64 r4]) (.agg #[.int .i64 s0, .int .i64 s1, .int .i64 s2, .int .i64 s3]) (.int .i64 rb) 45 (X 45) w1 := hR 9 (by omega)
        rw [vsB_45] at e45
        have e46 : vsB W7.heap.size (.agg #[.slice (some ⟨g1, 0, none⟩) n n, .slice (some ⟨g2, 0, none⟩) k k, .int .i64 m.til]) (.agg #[.bool ton, .int .i64 tr, .int .i64 ta, .int .i64 tn, .int .i64 tl]) (.agg #[.int .i64 gr, .int .i64 ge, .int .i64 gq, .int .i64 gl]) (.int .i64 least) (.tuple #[.agg #[.bool r0, .int .i64 r1, .int .i64 r2, .int .i64 r3, .int .i64 r4], .agg #[.int .i64 s0, .int .i64 s1, .int .i64 s2, .int .i64 s3], .int .i64 rb]) (.agg #[.bool r0, .int .i64 r1, .int .i64 r2, .int .i64 r3, .int .i64 r4]) (.agg #[.int .i64 s0, .int .i64 s1, .int .i64 s2, .int .i64 s3]) (.int .i64 rb) 46 (X 46) w1 := hR 10 (by omega)
        rw [vsB_46] at e46
        have e14 : vsB W7.heap.size (.agg #[.slice (some ⟨g1, 0, none⟩) n n, .slice (some ⟨g2, 0, none⟩) k k, .int .i64 m.til]) (.agg #[.bool ton, .int .i64 tr, .int .i64 ta, .int .i64 tn, .int .i64 tl]) (.agg #[.int .i64 gr, .int .i64 ge, .int .i64 gq, .int .i64 gl]) (.int .i64 least) (.tuple #[.agg #[.bool r0, .int .i64 r1, .int .i64 r2, .int .i64 r3, .int .i64 r4], .agg #[.int .i64 s0, .int .i64 s1, .int .i64 s2, .int .i64 s3], .int .i64 rb]) (.agg #[.bool r0, .int .i64 r1, .int .i64 r2, .int .i64 r3, .int .i64 r4]) (.agg #[.int .i64 s0, .int .i64 s1, .int .i64 s2, .int .i64 s3]) (.int .i64 rb) 14 (X 14) w1 := hR 11 (by omega)
        rw [vsB_14] at e14
        have e15 : vsB W7.heap.size (.agg #[.slice (some ⟨g1, 0, none⟩) n n, .slice (some ⟨g2, 0, none⟩) k k, .int .i64 m.til]) (.agg #[.bool ton, .int .i64 tr, .int .i64 ta, .int .i64 tn, .int .i64 tl]) (.agg #[.int .i64 gr, .int .i64 ge, .int .i64 gq, .int .i64 gl]) (.int .i64 least) (.tuple #[.agg #[.bool r0, .int .i64 r1, .int .i64 r2, .int .i64 r3, .int .i64 r4], .agg #[.int .i64 s0, .int .i64 s1, .int .i64 s2, .int .i64 s3], .int .i64 rb]) (.agg #[.bool r0, .int .i64 r1, .int .i64 r2, .int .i64 r3, .int .i64 r4]) (.agg #[.int .i64 s0, .int .i64 s1, .int .i64 s2, .int .i64 s3]) (.int .i64 rb) 15 (X 15) w1 := hR 12 (by omega)
        rw [vsB_15] at e15
        obtain ⟨b6, xk, e14, lk, hk5, zk⟩ := e14
        obtain ⟨b7, xg, e15, lg, hg4, zg⟩ := e15
        have hne : b6 ≠ b7 := fun e => by rw [e, hg4] at hk5; injection hk5 with hk5; injection hk5 with _ hk5; exact absurd hk5 (by decide)
        obtain ⟨x0, x1, x2, x3, x4, rfl⟩ := arr_five zk
        obtain ⟨y0, y1, y2, y3, rfl⟩ := arr_four zg
        have BKK : Bk w1 b6 _ := ⟨_, hk5⟩
        have BGG : Bk w1 b7 _ := ⟨_, hg4⟩
        have PT := Lib.hid (putTM_bk BKK BGG hne ⟨r0, r1, r2, r3, r4⟩ ⟨s0, s1, s2, s3⟩)
        have PU := Lib.hid (putTM_up hG lk lg ⟨r0, r1, r2, r3, r4⟩ ⟨s0, s1, s2, s3⟩)
        unfold putTM at PT PU
        dsimp only at PT PU
        have fk := fun j => BKK.frozen j
        have fg := fun j => BGG.frozen j
        obtain ⟨k0, k1, k2, k3, k4⟩ := And.intro (BKK.cell (j := 0) rfl) (And.intro (BKK.cell (j := 1) rfl) (And.intro (BKK.cell (j := 2) rfl) (And.intro (BKK.cell (j := 3) rfl) (BKK.cell (j := 4) rfl))))
        obtain ⟨m0, m1, m2, m3⟩ := And.intro (BGG.cell (j := 0) rfl) (And.intro (BGG.cell (j := 1) rfl) (And.intro (BGG.cell (j := 2) rfl) (BGG.cell (j := 3) rfl)))
        have llk := BKK.lt
        have llg := BGG.lt
        have hne' := hne.symm
        clear hR BKK BGG hk5 hg4 zk zg hG lk lg
        simp only [mixT, e44, e45, e46, e14, e15]
        refine mix_go rfl (by rfl) (fun K hK => ?_)
        go_simp
        refine hK _ _ ?_
        clear hK K
        refine mix_go rfl (by rfl) (fun K hK => ?_)
        go_simp
        refine hK _ _ ?_
        clear hK K
        refine mix_go rfl (by rfl) (fun K hK => ?_)
        go_simp
        refine hK _ _ ?_
        clear hK K
        refine mix_nil ?_
        clear fk fg k0 k1 k2 k3 k4 m0 m1 m2 m3 llk llg e44 e45 e46 e14 e15
        generalize ((((((((w1.setCell ⟨b6, 0, none⟩ (.bool r0)).setCell ⟨b6, 1, none⟩ (.int .i64 r1)).setCell ⟨b6, 2, none⟩ (.int .i64 r2)).setCell ⟨b6, 3, none⟩ (.int .i64 r3)).setCell ⟨b6, 4, none⟩ (.int .i64 r4)).setCell ⟨b7, 0, none⟩ (.int .i64 s0)).setCell ⟨b7, 1, none⟩ (.int .i64 s1)).setCell ⟨b7, 2, none⟩ (.int .i64 s2)).setCell ⟨b7, 3, none⟩ (.int .i64 s3) = W8 at *
        replace UC := Lib.hid (UC.out.trans PU.out)
        replace X0 := Lib.hid (X0.out.up PU.out)
        replace X3 := Lib.hid (X3.out.up PU.out)
        replace X4 := Lib.hid (X4.out.up PU.out)
        replace X5 := Lib.hid (X5.out.up PU.out)
        replace VX := Lib.hid (VX.out.up PU.out)
        have X6 := Lib.hid PT.out.1
        have X7 := Lib.hid PT.out.2
        clear PT PU hne hne'
        have z0 := X3.out.cell (j := 0) rfl
        have z1 := X3.out.cell (j := 1) rfl
        have z2 := X3.out.cell (j := 2) rfl
        have z3 := X3.out.cell (j := 3) rfl
        have z4 := X3.out.cell (j := 4) rfl
        have lz := X3.out.lt
        have y0 := X6.out.cell (j := 0) rfl
        have y1 := X6.out.cell (j := 1) rfl
        have y2 := X6.out.cell (j := 2) rfl
        have y3 := X6.out.cell (j := 3) rfl
        have y4 := X6.out.cell (j := 4) rfl
        have ly := X6.out.lt
        go_wp2_with fail
        refine (CQK.out _).mono ?_
        rintro x w9 ⟨rfl, u9⟩
        clear z0 z1 z2 z3 z4 lz
        clear y0 y1 y2 y3 y4 ly
        replace UC := Lib.hid (UC.out.trans u9)
        replace X0 := Lib.hid (X0.out.up u9)
        replace X4 := Lib.hid (X4.out.up u9)
        replace X5 := Lib.hid (X5.out.up u9)
        replace X7 := Lib.hid (X7.out.up u9)
        replace VX := Lib.hid (VX.out.up u9)
        clear u9
        have z0 := X4.out.cell (j := 0) rfl
        have z1 := X4.out.cell (j := 1) rfl
        have z2 := X4.out.cell (j := 2) rfl
        have z3 := X4.out.cell (j := 3) rfl
        have lz := X4.out.lt
        have y0 := X7.out.cell (j := 0) rfl
        have y1 := X7.out.cell (j := 1) rfl
        have y2 := X7.out.cell (j := 2) rfl
        have y3 := X7.out.cell (j := 3) rfl
        have ly := X7.out.lt
        go_wp2_with fail
        refine (CQG.out _).mono ?_
        rintro x w10 ⟨rfl, u10⟩
        clear z0 z1 z2 z3 lz
        clear y0 y1 y2 y3 ly
        replace UC := Lib.hid (UC.out.trans u10)
        replace X0 := Lib.hid (X0.out.up u10)
        replace X5 := Lib.hid (X5.out.up u10)
        replace VX := Lib.hid (VX.out.up u10)
        clear u10
        go_wp2_with fail
        refine region_mixH (fun w' => Up w10 w') [(0, true), (1, true), (2, false), (3, false), (4, true)] (by kernel_rfl) (by kernel_rfl) (Up.refl _).drew ?_
        refine mixH_take rfl (by rfl) ?_
        apply Exists.intro
        refine ⟨fun w1 hS1 => ?_, ?_⟩
        · have z0 := (X0.out.up hS1).cell (j := 0) rfl
          have z1 := (X0.out.up hS1).cell (j := 1) rfl
          have z2 := (X0.out.up hS1).cell (j := 2) rfl
          have lz := (X0.out.up hS1).lt
          have x0 := (X5.out.up hS1).cell (j := 0) rfl
          have x1 := (X5.out.up hS1).cell (j := 1) rfl
          have x2 := (X5.out.up hS1).cell (j := 2) rfl
          have lx := (X5.out.up hS1).lt
          clear hS1
          go_simp
          try rfl
        go_simp
        refine mixH_take rfl (by rfl) ?_
        apply Exists.intro
        refine ⟨fun w1 hS1 => ?_, ?_⟩
        · have z0 := (X0.out.up hS1).cell (j := 0) rfl
          have z1 := (X0.out.up hS1).cell (j := 1) rfl
          have z2 := (X0.out.up hS1).cell (j := 2) rfl
          have lz := (X0.out.up hS1).lt
          have x0 := (X5.out.up hS1).cell (j := 0) rfl
          have x1 := (X5.out.up hS1).cell (j := 1) rfl
          have x2 := (X5.out.up hS1).cell (j := 2) rfl
          have lx := (X5.out.up hS1).lt
          clear hS1
          go_simp
          try rfl
        go_simp
        refine mixH_go rfl (by rfl) (fun K hK => ?_)
        go_simp
        refine (CT.out _ (UC.out.trans (Up.refl _).drew) SH.out).mono ?_
        rintro x wA ⟨g5, g6, rfl, hg5, hg6, o5, o6, uA⟩
        refine hK _ _ ((Up.refl _).drew.trans uA) ?_
        clear hK K
        go_simp
        refine mixH_go rfl (by rfl) (fun K hK => ?_)
        go_simp
        refine (CE.out _ n n _ k k _ n n _ k k _ (VX.out.up ((Up.refl _).drew.trans uA)) (NewMdl.v o5 o6 hk) SH.out.fit).mono ?_
        rintro x wC ⟨rfl, uC⟩
        refine hK _ _ (((Up.refl _).drew.trans uA).trans uC) ?_
        clear hK K
        go_simp
        refine mixH_take rfl (by rfl) ?_
        apply Exists.intro
        refine ⟨fun w1 hS1 => ?_, ?_⟩
        · clear hS1
          go_simp
          try rfl
        go_simp
        refine mixH_nil ?_
        replace UC := Lib.hid (UC.out.trans (((Up.refl _).drew.trans uA).trans uC))
        go_wp2
        go_ret
        exact ⟨rfl, UC.out⟩

end Go.Proofs.Ytpainlcehgiokaa

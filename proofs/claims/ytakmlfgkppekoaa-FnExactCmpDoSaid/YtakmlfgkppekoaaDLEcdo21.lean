/-
  What FnExactCmpDo returns, in one sentence: true, with new blocks alone; for every model that lies in memory, every component state and every event.
-/
import Derived.Deep.RegionHeld3
import Derived.Test.YtakmlfgkppekoaaDLEcdo12
import Derived.Test.YtakmlfgkppekoaaDLEcdo17
import Derived.Test.YtakmlfgkppekoaaDLEcdo20
namespace Go.Proofs.Ytakmlfgkppekoaa
set_option maxRecDepth 100000
open Go.RowKit
set_option maxHeartbeats 40000000 in
theorem walkEcdo (v : Value) (m : Mdl) (s : Cst) (e : Evt) {w : World} (h : ∃ A n c B k d, v = .agg #[.slice A n c, .slice B k d, .int .i64 m.til] ∧ MdlV w A n B k m) :
    Calls Try.prog 15 #[v, s.v, e.v] w fun x w' => x = .returned (.bool true) ∧ Up w w' := by
  obtain ⟨A, n, c, B, k, d, rfl, hM⟩ := h
  have hk := hM.big
  have HM := Lib.hid hM
  have BX := Lib.hid (((Box3.new w (.slice A n c) (.slice B k d) (.int .i64 m.til) 27).up ((Up.refl _).alloc (.cells #[.int .i64 s.s, .int .i64 s.sq, .int .i64 s.ct] 38))).up ((Up.refl _).alloc (.cells #[.int .i64 e.t, .int .i64 e.to, .int .i64 e.fr, .int .i64 e.sq, .int .i64 e.kd, .int .i64 e.dt] 40)))
  have BC := Lib.hid ((Box3.new (w.alloc (.cells #[.slice A n c, .slice B k d, .int .i64 m.til] 27)) (.int .i64 s.s) (.int .i64 s.sq) (.int .i64 s.ct) 38).up ((Up.refl _).alloc (.cells #[.int .i64 e.t, .int .i64 e.to, .int .i64 e.fr, .int .i64 e.sq, .int .i64 e.kd, .int .i64 e.dt] 40)))
  have BE := Lib.hid (Box.new ((w.alloc (.cells #[.slice A n c, .slice B k d, .int .i64 m.til] 27)).alloc (.cells #[.int .i64 s.s, .int .i64 s.sq, .int .i64 s.ct] 38)) e 40)
  have UC0 := Lib.hid ((((Up.refl w).alloc (.cells #[.slice A n c, .slice B k d, .int .i64 m.til] 27)).alloc (.cells #[.int .i64 s.s, .int .i64 s.sq, .int .i64 s.ct] 38)).alloc (.cells #[.int .i64 e.t, .int .i64 e.to, .int .i64 e.fr, .int .i64 e.sq, .int .i64 e.kd, .int .i64 e.dt] 40))
  simp only [World.size_alloc] at BC BE
  have CS := Lib.hid (fun W (u : Up w W) => szMdl_any A n c B k d m W (hM.up u))
  have CT := Lib.hid (fun W (u : Up w W) hS => toMdl_any A n c B k d m W (hM.up u) hS)
  have CC := Lib.hid (fun W => toCst_any s W)
  have CV := Lib.hid (fun W => toEvt_any e W)
  have CP := Lib.hid (fun g1 g2 W (o1 : RulzF W g1 n m.rules) (o2 : Own W g2 k m.starts) => specCmpDo_any (some ⟨g1, 0, none⟩) n n (some ⟨g2, 0, none⟩) k k m s e W (NewMdl.v o1 o2 hk))
  have CI := Lib.hid (fun g1 g2 W (o1 : RulzF W g1 n m.rules) (o2 : Own W g2 k m.starts) => implCmpDo_any (some ⟨g1, 0, none⟩) n n (some ⟨g2, 0, none⟩) k k m s e W (NewMdl.v o1 o2 hk))
  have CE := Lib.hid (fun A n c B k d A' n' c' B' k' d' W (h1 : MdlV W A n B k m) (h2 : MdlV W A' n' B' k' m) (hS : FitM m) => eqMdl_any A n c B k d m A' n' c' B' k' d' m W h1 h2 hS)
  rw [decide_eq_true (rfl : m = m)] at CE
  have LD := Lib.hid (doM_len m s e)
  unfold DoPost at CP; unfold ImplDoPost at CI; unfold NewMdl at CT
  generalize doM m s e = dm at CP CI LD
  obtain ⟨⟨d0, d1, d2⟩, out⟩ := dm; dsimp only at CP CI LD; obtain ⟨ss, sq, st⟩ := s; obtain ⟨et, eto, efr, esq, ekd, edt⟩ := e; unfold Cst.v at CC CP CI ⊢; unfold Evt.v at CV CP CI ⊢; dsimp only at CC CV CP CI BC BE UC0 BX ⊢; clear hM
  go_enter Try.func15, Try.ntmps15
  go_wp2_with fail
  generalize hW1 : ((w.alloc (.cells #[.slice A n c, .slice B k d, .int .i64 m.til] 27)).alloc (.cells #[.int .i64 ss, .int .i64 sq, .int .i64 st] 38)).alloc (.cells #[.int .i64 et, .int .i64 eto, .int .i64 efr, .int .i64 esq, .int .i64 ekd, .int .i64 edt] 40) = W1 at *
  clear hW1
  generalize hb3 : w.heap.size = b3 at *
  generalize hb4 : b3 + 1 = b4 at *
  generalize hb5 : b4 + 1 = b5 at *
  refine (CS.out _ UC0.out).mono ?_; rintro x w1 ⟨z, rfl, hz, u1⟩
  have UB := Lib.hid u1
  have UC := Lib.hid (UC0.out.trans u1)
  clear u1
  rcases hz with rfl | ⟨z0, z1, hS⟩
  · go_wp2
    go_ret
    exact ⟨rfl, UC.out⟩
  · have SH := Lib.hid hS
    have j0 : ¬ z < 0 := by omega
    have hn6 : n ≤ 1048576 := hS.few
    have hk6 : k ≤ 1048576 := by have := hS.fit.2; have := HM.out.starts.1; omega
    clear hS z0 z1
    go_wp2_with fail
    generalize w1 = W0 at *
    refine region_relyT 11 [(7, 9)] [(11, false), (12, false)] [24, 25, 26, 27, 28, 29, 30, 23, 31, 32, 8] 10 (fun _ w1 => Up W0 w1) Up (fun i v w => cdA W0.heap.size (.agg #[.slice A n c, .slice B k d, .int .i64 m.til]) (.agg #[.int .i64 ss, .int .i64 sq, .int .i64 st]) (.agg #[.int .i64 et, .int .i64 eto, .int .i64 efr, .int .i64 esq, .int .i64 ekd, .int .i64 edt]) m n k ⟨d0, d1, d2⟩ out i v w) (by kernel_rfl) (by kernel_rfl) (by kernel_rfl) (by kernel_rfl) ((Up.refl _).drew) (fun slot_ _ _ _ h u => cdA_up W0.heap.size (.agg #[.slice A n c, .slice B k d, .int .i64 m.til]) (.agg #[.int .i64 ss, .int .i64 sq, .int .i64 st]) (.agg #[.int .i64 et, .int .i64 eto, .int .i64 efr, .int .i64 esq, .int .i64 ekd, .int .i64 edt]) m n k ⟨d0, d1, d2⟩ out slot_ h u) ?_ ?_ ?_
    · simp only [List.take_succ_cons, List.take_zero]
      refine stepsT_op (by kernel_rfl) ?_ ?_
      · intro X w1 k1 hG hdep
        obtain ⟨p0, p1, p2⟩ := And.intro (BX.out.up (UB.out.trans hG)).c0 (And.intro (BX.out.up (UB.out.trans hG)).c1 (BX.out.up (UB.out.trans hG)).c2); simp only [opW_def, mixT]; go_simp
        exact ⟨⟨(.agg #[.slice A n c, .slice B k d, .int .i64 m.til]), by first | rfl | simp [Act.put], Up.refl _, hG, (show cdA W0.heap.size (.agg #[.slice A n c, .slice B k d, .int .i64 m.til]) (.agg #[.int .i64 ss, .int .i64 sq, .int .i64 st]) (.agg #[.int .i64 et, .int .i64 eto, .int .i64 efr, .int .i64 esq, .int .i64 ekd, .int .i64 edt]) m n k ⟨d0, d1, d2⟩ out 24 _ _ from by first | (rw [cdA_24]; exact rfl) | rw [cdA_24])⟩⟩
      refine stepsT_op (by kernel_rfl) ?_ ?_
      · intro X w1 k1 hG hdep
        have e24 : cdA W0.heap.size (.agg #[.slice A n c, .slice B k d, .int .i64 m.til]) (.agg #[.int .i64 ss, .int .i64 sq, .int .i64 st]) (.agg #[.int .i64 et, .int .i64 eto, .int .i64 efr, .int .i64 esq, .int .i64 ekd, .int .i64 edt]) m n k ⟨d0, d1, d2⟩ out 24 (X 24) w1 := hdep 24 (by decide +kernel)
        rw [cdA_24] at e24
        have hlo := hG.size
        simp only [opW_def, mixT, e24]; go_simp; refine (CT.out _ (UC.out.trans hG) SH.out).mono ?_; rintro x w2 ⟨g1, g2, rfl, h1, h2, o1, o2, u⟩
        exact ⟨⟨_, by first | rfl | simp [Act.put], u, hG.trans u, (show cdA W0.heap.size (.agg #[.slice A n c, .slice B k d, .int .i64 m.til]) (.agg #[.int .i64 ss, .int .i64 sq, .int .i64 st]) (.agg #[.int .i64 et, .int .i64 eto, .int .i64 efr, .int .i64 esq, .int .i64 ekd, .int .i64 edt]) m n k ⟨d0, d1, d2⟩ out 25 _ _ from by first | (rw [cdA_25]; exact ⟨g1, g2, rfl, by omega, by omega, o1, o2⟩) | rw [cdA_25])⟩⟩
      refine stepsT_op (by kernel_rfl) ?_ ?_
      · intro X w1 k1 hG hdep
        obtain ⟨p0, p1, p2⟩ := And.intro (BC.out.up (UB.out.trans hG)).c0 (And.intro (BC.out.up (UB.out.trans hG)).c1 (BC.out.up (UB.out.trans hG)).c2); simp only [opW_def, mixT]; go_simp
        exact ⟨⟨(.agg #[.int .i64 ss, .int .i64 sq, .int .i64 st]), by first | rfl | simp [Act.put], Up.refl _, hG, (show cdA W0.heap.size (.agg #[.slice A n c, .slice B k d, .int .i64 m.til]) (.agg #[.int .i64 ss, .int .i64 sq, .int .i64 st]) (.agg #[.int .i64 et, .int .i64 eto, .int .i64 efr, .int .i64 esq, .int .i64 ekd, .int .i64 edt]) m n k ⟨d0, d1, d2⟩ out 26 _ _ from by first | (rw [cdA_26]; exact rfl) | rw [cdA_26])⟩⟩
      refine stepsT_op (by kernel_rfl) ?_ ?_
      · intro X w1 k1 hG hdep
        have e26 : cdA W0.heap.size (.agg #[.slice A n c, .slice B k d, .int .i64 m.til]) (.agg #[.int .i64 ss, .int .i64 sq, .int .i64 st]) (.agg #[.int .i64 et, .int .i64 eto, .int .i64 efr, .int .i64 esq, .int .i64 ekd, .int .i64 edt]) m n k ⟨d0, d1, d2⟩ out 26 (X 26) w1 := hdep 26 (by decide +kernel)
        rw [cdA_26] at e26; simp only [opW_def, mixT, e26]; go_simp; refine (CC.out w1).mono ?_; rintro x w2 ⟨rfl, u⟩
        exact ⟨⟨(.agg #[.int .i64 ss, .int .i64 sq, .int .i64 st]), by first | rfl | simp [Act.put], u, hG.trans u, (show cdA W0.heap.size (.agg #[.slice A n c, .slice B k d, .int .i64 m.til]) (.agg #[.int .i64 ss, .int .i64 sq, .int .i64 st]) (.agg #[.int .i64 et, .int .i64 eto, .int .i64 efr, .int .i64 esq, .int .i64 ekd, .int .i64 edt]) m n k ⟨d0, d1, d2⟩ out 27 _ _ from by first | (rw [cdA_27]; exact rfl) | rw [cdA_27])⟩⟩
      refine stepsT_op (by kernel_rfl) ?_ ?_
      · intro X w1 k1 hG hdep
        obtain ⟨⟨p0, p1, p2, p3, p4, p5⟩, -⟩ := (BE.out.up (UB.out.trans hG)).mk6; simp only [opW_def, mixT]; go_simp
        exact ⟨⟨(.agg #[.int .i64 et, .int .i64 eto, .int .i64 efr, .int .i64 esq, .int .i64 ekd, .int .i64 edt]), by first | rfl | simp [Act.put], Up.refl _, hG, (show cdA W0.heap.size (.agg #[.slice A n c, .slice B k d, .int .i64 m.til]) (.agg #[.int .i64 ss, .int .i64 sq, .int .i64 st]) (.agg #[.int .i64 et, .int .i64 eto, .int .i64 efr, .int .i64 esq, .int .i64 ekd, .int .i64 edt]) m n k ⟨d0, d1, d2⟩ out 28 _ _ from by first | (rw [cdA_28]; exact rfl) | rw [cdA_28])⟩⟩
      refine stepsT_op (by kernel_rfl) ?_ ?_
      · intro X w1 k1 hG hdep
        have e28 : cdA W0.heap.size (.agg #[.slice A n c, .slice B k d, .int .i64 m.til]) (.agg #[.int .i64 ss, .int .i64 sq, .int .i64 st]) (.agg #[.int .i64 et, .int .i64 eto, .int .i64 efr, .int .i64 esq, .int .i64 ekd, .int .i64 edt]) m n k ⟨d0, d1, d2⟩ out 28 (X 28) w1 := hdep 28 (by decide +kernel)
        rw [cdA_28] at e28; simp only [opW_def, mixT, e28]; go_simp; refine (CV.out w1).mono ?_; rintro x w2 ⟨rfl, u⟩
        exact ⟨⟨(.agg #[.int .i64 et, .int .i64 eto, .int .i64 efr, .int .i64 esq, .int .i64 ekd, .int .i64 edt]), by first | rfl | simp [Act.put], u, hG.trans u, (show cdA W0.heap.size (.agg #[.slice A n c, .slice B k d, .int .i64 m.til]) (.agg #[.int .i64 ss, .int .i64 sq, .int .i64 st]) (.agg #[.int .i64 et, .int .i64 eto, .int .i64 efr, .int .i64 esq, .int .i64 ekd, .int .i64 edt]) m n k ⟨d0, d1, d2⟩ out 29 _ _ from by first | (rw [cdA_29]; exact rfl) | rw [cdA_29])⟩⟩
      refine stepsT_op (by kernel_rfl) ?_ ?_
      · intro X w1 k1 hG hdep
        have e25 : cdA W0.heap.size (.agg #[.slice A n c, .slice B k d, .int .i64 m.til]) (.agg #[.int .i64 ss, .int .i64 sq, .int .i64 st]) (.agg #[.int .i64 et, .int .i64 eto, .int .i64 efr, .int .i64 esq, .int .i64 ekd, .int .i64 edt]) m n k ⟨d0, d1, d2⟩ out 25 (X 25) w1 := hdep 25 (by decide +kernel)
        rw [cdA_25] at e25; obtain ⟨g1, g2, e25, l1, l2, o1, o2⟩ := e25
        have e27 : cdA W0.heap.size (.agg #[.slice A n c, .slice B k d, .int .i64 m.til]) (.agg #[.int .i64 ss, .int .i64 sq, .int .i64 st]) (.agg #[.int .i64 et, .int .i64 eto, .int .i64 efr, .int .i64 esq, .int .i64 ekd, .int .i64 edt]) m n k ⟨d0, d1, d2⟩ out 27 (X 27) w1 := hdep 27 (by decide +kernel)
        rw [cdA_27] at e27
        have e29 : cdA W0.heap.size (.agg #[.slice A n c, .slice B k d, .int .i64 m.til]) (.agg #[.int .i64 ss, .int .i64 sq, .int .i64 st]) (.agg #[.int .i64 et, .int .i64 eto, .int .i64 efr, .int .i64 esq, .int .i64 ekd, .int .i64 edt]) m n k ⟨d0, d1, d2⟩ out 29 (X 29) w1 := hdep 29 (by decide +kernel)
        rw [cdA_29] at e29; simp only [opW_def, mixT, e25, e27, e29]; go_simp; refine (CP.out g1 g2 _ o1 o2).mono ?_; rintro x w2 ⟨az, cz, rfl, y1, y2, y3, u⟩
        exact ⟨⟨_, by first | rfl | simp [Act.put], u, hG.trans u, (show cdA W0.heap.size (.agg #[.slice A n c, .slice B k d, .int .i64 m.til]) (.agg #[.int .i64 ss, .int .i64 sq, .int .i64 st]) (.agg #[.int .i64 et, .int .i64 eto, .int .i64 efr, .int .i64 esq, .int .i64 ekd, .int .i64 edt]) m n k ⟨d0, d1, d2⟩ out 30 _ _ from by first | (rw [cdA_30]; exact ⟨_, rfl, _, cz, rfl, y1, y2, y3⟩) | rw [cdA_30])⟩⟩
      refine stepsT_op (by kernel_rfl) ?_ ?_
      · intro X w1 k1 hG hdep
        have e30 : cdA W0.heap.size (.agg #[.slice A n c, .slice B k d, .int .i64 m.til]) (.agg #[.int .i64 ss, .int .i64 sq, .int .i64 st]) (.agg #[.int .i64 et, .int .i64 eto, .int .i64 efr, .int .i64 esq, .int .i64 ekd, .int .i64 edt]) m n k ⟨d0, d1, d2⟩ out 30 (X 30) w1 := hdep 30 (by decide +kernel)
        rw [cdA_30] at e30; obtain ⟨x30, e30, hx⟩ := e30; simp only [opW_def, mixT, e30]; go_simp
        exact ⟨⟨_, by first | rfl | simp [Act.put], Up.refl _, hG, (show cdA W0.heap.size (.agg #[.slice A n c, .slice B k d, .int .i64 m.til]) (.agg #[.int .i64 ss, .int .i64 sq, .int .i64 st]) (.agg #[.int .i64 et, .int .i64 eto, .int .i64 efr, .int .i64 esq, .int .i64 ekd, .int .i64 edt]) m n k ⟨d0, d1, d2⟩ out 23 _ _ from by first | (rw [cdA_23]; exact ⟨_, rfl, hx⟩) | rw [cdA_23])⟩⟩
      refine stepsT_op (by kernel_rfl) ?_ ?_
      · intro X w1 k1 hG hdep
        have e23 : cdA W0.heap.size (.agg #[.slice A n c, .slice B k d, .int .i64 m.til]) (.agg #[.int .i64 ss, .int .i64 sq, .int .i64 st]) (.agg #[.int .i64 et, .int .i64 eto, .int .i64 efr, .int .i64 esq, .int .i64 ekd, .int .i64 edt]) m n k ⟨d0, d1, d2⟩ out 23 (X 23) w1 := hdep 23 (by decide +kernel)
        rw [cdA_23] at e23; obtain ⟨x23, e23, hx⟩ := e23; simp only [opW_def, mixT, e23]; go_simp
        exact ⟨⟨(.agg #[.int .i64 d0, .int .i64 d1, .int .i64 d2]), by first | rfl | simp [Act.put], Up.refl _, hG, (show cdA W0.heap.size (.agg #[.slice A n c, .slice B k d, .int .i64 m.til]) (.agg #[.int .i64 ss, .int .i64 sq, .int .i64 st]) (.agg #[.int .i64 et, .int .i64 eto, .int .i64 efr, .int .i64 esq, .int .i64 ekd, .int .i64 edt]) m n k ⟨d0, d1, d2⟩ out 31 _ _ from by first | (rw [cdA_31]; exact rfl) | rw [cdA_31])⟩⟩
      refine stepsT_guest (by kernel_rfl) ?_; refine stepsT_op (by kernel_rfl) ?_ ?_
      · intro X w1 k1 hG hdep
        have hlo := hG.size
        simp only [opW_def, mixT]; go_simp
        exact ⟨⟨_, by first | rfl | simp [Act.put], (Up.refl _).alloc _, hG.alloc _, (show cdA W0.heap.size (.agg #[.slice A n c, .slice B k d, .int .i64 m.til]) (.agg #[.int .i64 ss, .int .i64 sq, .int .i64 st]) (.agg #[.int .i64 et, .int .i64 eto, .int .i64 efr, .int .i64 esq, .int .i64 ekd, .int .i64 edt]) m n k ⟨d0, d1, d2⟩ out 8 _ _ from by first | (rw [cdA_8]; exact NewB.new w1 _ _ 3 rfl hlo) | rw [cdA_8])⟩⟩
      exact trivial
    · intro h p _ hp
      obtain ⟨rfl, rfl⟩ := gOf_one hp; intro X w1 o ho hr
      have ho2 : some _ = some o := ho
      injection ho2 with ho2
      subst ho2
      have e23 : cdA W0.heap.size (.agg #[.slice A n c, .slice B k d, .int .i64 m.til]) (.agg #[.int .i64 ss, .int .i64 sq, .int .i64 st]) (.agg #[.int .i64 et, .int .i64 eto, .int .i64 efr, .int .i64 esq, .int .i64 ekd, .int .i64 edt]) m n k ⟨d0, d1, d2⟩ out 23 (X 23) w1 := hr
      rw [cdA_23] at e23; obtain ⟨x23, e23, hx⟩ := e23; refine ⟨x23, fun w2 => ?_, (show cdA W0.heap.size (.agg #[.slice A n c, .slice B k d, .int .i64 m.til]) (.agg #[.int .i64 ss, .int .i64 sq, .int .i64 st]) (.agg #[.int .i64 et, .int .i64 eto, .int .i64 efr, .int .i64 esq, .int .i64 ekd, .int .i64 edt]) m n k ⟨d0, d1, d2⟩ out 32 _ _ from by first | (rw [cdA_32]; exact hx) | rw [cdA_32])⟩; simp only [mixT, e23]; go_simp
    · intro X w1 hG hR
      have e31 : cdA W0.heap.size (.agg #[.slice A n c, .slice B k d, .int .i64 m.til]) (.agg #[.int .i64 ss, .int .i64 sq, .int .i64 st]) (.agg #[.int .i64 et, .int .i64 eto, .int .i64 efr, .int .i64 esq, .int .i64 ekd, .int .i64 edt]) m n k ⟨d0, d1, d2⟩ out 31 (X 31) w1 := hR 8 (by omega)
      rw [cdA_31] at e31
      have e32 : cdA W0.heap.size (.agg #[.slice A n c, .slice B k d, .int .i64 m.til]) (.agg #[.int .i64 ss, .int .i64 sq, .int .i64 st]) (.agg #[.int .i64 et, .int .i64 eto, .int .i64 efr, .int .i64 esq, .int .i64 ekd, .int .i64 edt]) m n k ⟨d0, d1, d2⟩ out 32 (X 32) w1 := hR 9 (by omega)
      rw [cdA_32] at e32
      have e8 : cdA W0.heap.size (.agg #[.slice A n c, .slice B k d, .int .i64 m.til]) (.agg #[.int .i64 ss, .int .i64 sq, .int .i64 st]) (.agg #[.int .i64 et, .int .i64 eto, .int .i64 efr, .int .i64 esq, .int .i64 ekd, .int .i64 edt]) m n k ⟨d0, d1, d2⟩ out 8 (X 8) w1 := hR 10 (by omega)
      rw [cdA_8] at e8; obtain ⟨A1, c1, e32, y1, y2, y3⟩ := e32; obtain ⟨b8, e8, l8, t8, s8, f8, n8, h8⟩ := e8.parts; unfold Cst.v at e31; dsimp only at e31
      have Y3 := Lib.hid (y3.far ((((Mv.refl b8 w1).setCell (o := 0) (.int .i64 d0)).setCell (o := 1) (.int .i64 d1)).setCell (o := 2) (.int .i64 d2)) (by omega) n8)
      have D8 := Lib.hid (Cell3.laid t8 s8 f8 d0 d1 d2)
      have U1 := Lib.hid (((hG.setCell (p := ⟨b8, 0, none⟩) l8 (.int .i64 d0)).setCell (p := ⟨b8, 1, none⟩) l8 (.int .i64 d1)).setCell (p := ⟨b8, 2, none⟩) l8 (.int .i64 d2))
      obtain ⟨v0, c0⟩ := s8 0 (by omega); obtain ⟨v1, c1'⟩ := s8 1 (by omega); obtain ⟨v2, c2⟩ := s8 2 (by omega); clear hR s8 n8 h8 y3; simp only [mixT, e31, e32, e8]; refine mix_go rfl (by rfl) (fun K hK => ?_); go_simp; refine hK _ _ ?_; clear hK K; refine mix_go rfl (by rfl) (fun K hK => ?_); go_simp; refine hK _ _ ?_; clear hK K; refine mix_nil ?_; clear f8 c0 c1' c2 e31 e32 e8 hG
      generalize ((w1.setCell ⟨b8, 0, none⟩ (.int .i64 d0)).setCell ⟨b8, 1, none⟩ (.int .i64 d1)).setCell ⟨b8, 2, none⟩ (.int .i64 d2) = W2 at *
      have UB := Lib.hid (UB.out.trans U1.out)
      have UC := Lib.hid (UC.out.trans U1.out)
      have UB1 := Lib.hid UB.out
      have UC1 := Lib.hid UC.out
      obtain ⟨p0, p1, p2⟩ := And.intro (BX.out.up UB.out).c0 (And.intro (BX.out.up UB.out).c1 (BX.out.up UB.out).c2)
      go_wp2_with fail
      refine (CT.out _ UC.out SH.out).mono ?_; rintro x w4 ⟨g1, g2, rfl, hg1, hg2, o1, o2, u4⟩
      have SZ1 := Lib.hid (o1.sh (lo := W2.heap.size) (hi := w4.heap.size) SH.out.shorts hg1 (Nat.le_refl _))
      have SZ2 := Lib.hid (o2.sh (lo := W2.heap.size) (hi := w4.heap.size) hg2 (Nat.le_refl _))
      have ua := (Up.refl w4).alloc (.cells #[.slice (some ⟨g1, 0, none⟩) n n, .slice (some ⟨g2, 0, none⟩) k k, .int .i64 m.til] 33)
      have X4 := Lib.hid (Box3.new w4 (.slice (some ⟨g1, 0, none⟩) n n) (.slice (some ⟨g2, 0, none⟩) k k) (.int .i64 m.til) 33)
      have O1 := Lib.hid (o1.up ua)
      have O2 := Lib.hid (o2.up' ua)
      have SZ1 := Lib.hid (SZ1.out.ints ua.ints)
      have SZ2 := Lib.hid (SZ2.out.ints ua.ints)
      have U2 := Lib.hid (u4.trans ua)
      have hHI : W2.heap.size ≤ w4.heap.size := u4.size
      clear o1 o2 u4 ua p0 p1 p2 hg1 hg2
      go_wp2_with fail
      have HV0 := Lib.hid (show w4.heap.size + 1 = (w4.alloc (.cells #[.slice (some ⟨g1, 0, none⟩) n n, .slice (some ⟨g2, 0, none⟩) k k, .int .i64 m.til] 33)).heap.size by simp)
      generalize hb10 : w4.heap.size = b10 at *
      generalize w4.alloc (.cells #[.slice (some ⟨g1, 0, none⟩) n n, .slice (some ⟨g2, 0, none⟩) k k, .int .i64 m.til] 33) = V0 at *
      have UB := Lib.hid (UB.out.trans U2.out)
      have UC := Lib.hid (UC.out.trans U2.out)
      have hV0 : b10 + 1 = V0.heap.size := HV0.out
      clear hb10; refine region_relyT 10 [(6, 8)] [(10, false), (11, false)] [36, 37, 38, 39, 40, 41, 35, 42, 43, 11] 9 (fun _ w1 => Up V0 w1) Up (fun i v w => cdB V0.heap.size (.agg #[.slice (some ⟨g1, 0, none⟩) n n, .slice (some ⟨g2, 0, none⟩) k k, .int .i64 m.til]) (.agg #[.int .i64 ss, .int .i64 sq, .int .i64 st]) (.agg #[.int .i64 et, .int .i64 eto, .int .i64 efr, .int .i64 esq, .int .i64 ekd, .int .i64 edt]) ⟨d0, d1, d2⟩ out i v w) (by kernel_rfl) (by kernel_rfl) (by kernel_rfl) (by kernel_rfl) ((Up.refl _).drew) (fun slot_ _ _ _ h u => cdB_up V0.heap.size (.agg #[.slice (some ⟨g1, 0, none⟩) n n, .slice (some ⟨g2, 0, none⟩) k k, .int .i64 m.til]) (.agg #[.int .i64 ss, .int .i64 sq, .int .i64 st]) (.agg #[.int .i64 et, .int .i64 eto, .int .i64 efr, .int .i64 esq, .int .i64 ekd, .int .i64 edt]) ⟨d0, d1, d2⟩ out slot_ h u) ?_ ?_ ?_
      · simp only [List.take_succ_cons, List.take_zero]
        refine stepsT_op (by kernel_rfl) ?_ ?_
        · intro X w1 k1 hG hdep
          obtain ⟨p0, p1, p2⟩ := And.intro (X4.out.up hG).c0 (And.intro (X4.out.up hG).c1 (X4.out.up hG).c2); simp only [opW_def, mixT]; go_simp
          exact ⟨⟨_, by first | rfl | simp [Act.put], Up.refl _, hG, (show cdB V0.heap.size (.agg #[.slice (some ⟨g1, 0, none⟩) n n, .slice (some ⟨g2, 0, none⟩) k k, .int .i64 m.til]) (.agg #[.int .i64 ss, .int .i64 sq, .int .i64 st]) (.agg #[.int .i64 et, .int .i64 eto, .int .i64 efr, .int .i64 esq, .int .i64 ekd, .int .i64 edt]) ⟨d0, d1, d2⟩ out 36 _ _ from by first | (rw [cdB_36]; exact rfl) | rw [cdB_36])⟩⟩
        refine stepsT_op (by kernel_rfl) ?_ ?_
        · intro X w1 k1 hG hdep
          obtain ⟨p0, p1, p2⟩ := And.intro (BC.out.up (UB.out.trans hG)).c0 (And.intro (BC.out.up (UB.out.trans hG)).c1 (BC.out.up (UB.out.trans hG)).c2); simp only [opW_def, mixT]; go_simp
          exact ⟨⟨(.agg #[.int .i64 ss, .int .i64 sq, .int .i64 st]), by first | rfl | simp [Act.put], Up.refl _, hG, (show cdB V0.heap.size (.agg #[.slice (some ⟨g1, 0, none⟩) n n, .slice (some ⟨g2, 0, none⟩) k k, .int .i64 m.til]) (.agg #[.int .i64 ss, .int .i64 sq, .int .i64 st]) (.agg #[.int .i64 et, .int .i64 eto, .int .i64 efr, .int .i64 esq, .int .i64 ekd, .int .i64 edt]) ⟨d0, d1, d2⟩ out 37 _ _ from by first | (rw [cdB_37]; exact rfl) | rw [cdB_37])⟩⟩
        refine stepsT_op (by kernel_rfl) ?_ ?_
        · intro X w1 k1 hG hdep
          have e37 : cdB V0.heap.size (.agg #[.slice (some ⟨g1, 0, none⟩) n n, .slice (some ⟨g2, 0, none⟩) k k, .int .i64 m.til]) (.agg #[.int .i64 ss, .int .i64 sq, .int .i64 st]) (.agg #[.int .i64 et, .int .i64 eto, .int .i64 efr, .int .i64 esq, .int .i64 ekd, .int .i64 edt]) ⟨d0, d1, d2⟩ out 37 (X 37) w1 := hdep 37 (by decide +kernel)
          rw [cdB_37] at e37; simp only [opW_def, mixT, e37]; go_simp; refine (CC.out w1).mono ?_; rintro x w2 ⟨rfl, u⟩
          exact ⟨⟨(.agg #[.int .i64 ss, .int .i64 sq, .int .i64 st]), by first | rfl | simp [Act.put], u, hG.trans u, (show cdB V0.heap.size (.agg #[.slice (some ⟨g1, 0, none⟩) n n, .slice (some ⟨g2, 0, none⟩) k k, .int .i64 m.til]) (.agg #[.int .i64 ss, .int .i64 sq, .int .i64 st]) (.agg #[.int .i64 et, .int .i64 eto, .int .i64 efr, .int .i64 esq, .int .i64 ekd, .int .i64 edt]) ⟨d0, d1, d2⟩ out 38 _ _ from by first | (rw [cdB_38]; exact rfl) | rw [cdB_38])⟩⟩
        refine stepsT_op (by kernel_rfl) ?_ ?_
        · intro X w1 k1 hG hdep
          obtain ⟨⟨p0, p1, p2, p3, p4, p5⟩, -⟩ := (BE.out.up (UB.out.trans hG)).mk6; simp only [opW_def, mixT]; go_simp
          exact ⟨⟨(.agg #[.int .i64 et, .int .i64 eto, .int .i64 efr, .int .i64 esq, .int .i64 ekd, .int .i64 edt]), by first | rfl | simp [Act.put], Up.refl _, hG, (show cdB V0.heap.size (.agg #[.slice (some ⟨g1, 0, none⟩) n n, .slice (some ⟨g2, 0, none⟩) k k, .int .i64 m.til]) (.agg #[.int .i64 ss, .int .i64 sq, .int .i64 st]) (.agg #[.int .i64 et, .int .i64 eto, .int .i64 efr, .int .i64 esq, .int .i64 ekd, .int .i64 edt]) ⟨d0, d1, d2⟩ out 39 _ _ from by first | (rw [cdB_39]; exact rfl) | rw [cdB_39])⟩⟩
        refine stepsT_op (by kernel_rfl) ?_ ?_
        · intro X w1 k1 hG hdep
          have e39 : cdB V0.heap.size (.agg #[.slice (some ⟨g1, 0, none⟩) n n, .slice (some ⟨g2, 0, none⟩) k k, .int .i64 m.til]) (.agg #[.int .i64 ss, .int .i64 sq, .int .i64 st]) (.agg #[.int .i64 et, .int .i64 eto, .int .i64 efr, .int .i64 esq, .int .i64 ekd, .int .i64 edt]) ⟨d0, d1, d2⟩ out 39 (X 39) w1 := hdep 39 (by decide +kernel)
          rw [cdB_39] at e39; simp only [opW_def, mixT, e39]; go_simp; refine (CV.out w1).mono ?_; rintro x w2 ⟨rfl, u⟩
          exact ⟨⟨(.agg #[.int .i64 et, .int .i64 eto, .int .i64 efr, .int .i64 esq, .int .i64 ekd, .int .i64 edt]), by first | rfl | simp [Act.put], u, hG.trans u, (show cdB V0.heap.size (.agg #[.slice (some ⟨g1, 0, none⟩) n n, .slice (some ⟨g2, 0, none⟩) k k, .int .i64 m.til]) (.agg #[.int .i64 ss, .int .i64 sq, .int .i64 st]) (.agg #[.int .i64 et, .int .i64 eto, .int .i64 efr, .int .i64 esq, .int .i64 ekd, .int .i64 edt]) ⟨d0, d1, d2⟩ out 40 _ _ from by first | (rw [cdB_40]; exact rfl) | rw [cdB_40])⟩⟩
        refine stepsT_op (by kernel_rfl) ?_ ?_
        · intro X w1 k1 hG hdep
          have e36 : cdB V0.heap.size (.agg #[.slice (some ⟨g1, 0, none⟩) n n, .slice (some ⟨g2, 0, none⟩) k k, .int .i64 m.til]) (.agg #[.int .i64 ss, .int .i64 sq, .int .i64 st]) (.agg #[.int .i64 et, .int .i64 eto, .int .i64 efr, .int .i64 esq, .int .i64 ekd, .int .i64 edt]) ⟨d0, d1, d2⟩ out 36 (X 36) w1 := hdep 36 (by decide +kernel)
          rw [cdB_36] at e36
          have e38 : cdB V0.heap.size (.agg #[.slice (some ⟨g1, 0, none⟩) n n, .slice (some ⟨g2, 0, none⟩) k k, .int .i64 m.til]) (.agg #[.int .i64 ss, .int .i64 sq, .int .i64 st]) (.agg #[.int .i64 et, .int .i64 eto, .int .i64 efr, .int .i64 esq, .int .i64 ekd, .int .i64 edt]) ⟨d0, d1, d2⟩ out 38 (X 38) w1 := hdep 38 (by decide +kernel)
          rw [cdB_38] at e38
          have e40 : cdB V0.heap.size (.agg #[.slice (some ⟨g1, 0, none⟩) n n, .slice (some ⟨g2, 0, none⟩) k k, .int .i64 m.til]) (.agg #[.int .i64 ss, .int .i64 sq, .int .i64 st]) (.agg #[.int .i64 et, .int .i64 eto, .int .i64 efr, .int .i64 esq, .int .i64 ekd, .int .i64 edt]) ⟨d0, d1, d2⟩ out 40 (X 40) w1 := hdep 40 (by decide +kernel)
          rw [cdB_40] at e40
          have hlo := hG.size
          simp only [opW_def, mixT, e36, e38, e40]; go_simp; refine (CI.out g1 g2 w1 (O1.out.up hG) (O2.out.up' hG)).mono ?_; rintro x w2 ⟨v, rfl, ho, u⟩
          exact ⟨⟨_, by first | rfl | simp [Act.put], u, hG.trans u, (show cdB V0.heap.size (.agg #[.slice (some ⟨g1, 0, none⟩) n n, .slice (some ⟨g2, 0, none⟩) k k, .int .i64 m.til]) (.agg #[.int .i64 ss, .int .i64 sq, .int .i64 st]) (.agg #[.int .i64 et, .int .i64 eto, .int .i64 efr, .int .i64 esq, .int .i64 ekd, .int .i64 edt]) ⟨d0, d1, d2⟩ out 41 _ _ from by first | (rw [cdB_41]; exact ⟨_, rfl, own_mono ho hlo⟩) | rw [cdB_41])⟩⟩
        refine stepsT_op (by kernel_rfl) ?_ ?_
        · intro X w1 k1 hG hdep
          have e41 : cdB V0.heap.size (.agg #[.slice (some ⟨g1, 0, none⟩) n n, .slice (some ⟨g2, 0, none⟩) k k, .int .i64 m.til]) (.agg #[.int .i64 ss, .int .i64 sq, .int .i64 st]) (.agg #[.int .i64 et, .int .i64 eto, .int .i64 efr, .int .i64 esq, .int .i64 ekd, .int .i64 edt]) ⟨d0, d1, d2⟩ out 41 (X 41) w1 := hdep 41 (by decide +kernel)
          rw [cdB_41] at e41; obtain ⟨x41, e41, hx⟩ := e41; simp only [opW_def, mixT, e41]; go_simp
          exact ⟨⟨_, by first | rfl | simp [Act.put], Up.refl _, hG, (show cdB V0.heap.size (.agg #[.slice (some ⟨g1, 0, none⟩) n n, .slice (some ⟨g2, 0, none⟩) k k, .int .i64 m.til]) (.agg #[.int .i64 ss, .int .i64 sq, .int .i64 st]) (.agg #[.int .i64 et, .int .i64 eto, .int .i64 efr, .int .i64 esq, .int .i64 ekd, .int .i64 edt]) ⟨d0, d1, d2⟩ out 35 _ _ from by first | (rw [cdB_35]; exact ⟨_, rfl, hx⟩) | rw [cdB_35])⟩⟩
        refine stepsT_op (by kernel_rfl) ?_ ?_
        · intro X w1 k1 hG hdep
          have e35 : cdB V0.heap.size (.agg #[.slice (some ⟨g1, 0, none⟩) n n, .slice (some ⟨g2, 0, none⟩) k k, .int .i64 m.til]) (.agg #[.int .i64 ss, .int .i64 sq, .int .i64 st]) (.agg #[.int .i64 et, .int .i64 eto, .int .i64 efr, .int .i64 esq, .int .i64 ekd, .int .i64 edt]) ⟨d0, d1, d2⟩ out 35 (X 35) w1 := hdep 35 (by decide +kernel)
          rw [cdB_35] at e35; obtain ⟨x35, e35, hx⟩ := e35; simp only [opW_def, mixT, e35]; go_simp
          exact ⟨⟨(.agg #[.int .i64 d0, .int .i64 d1, .int .i64 d2]), by first | rfl | simp [Act.put], Up.refl _, hG, (show cdB V0.heap.size (.agg #[.slice (some ⟨g1, 0, none⟩) n n, .slice (some ⟨g2, 0, none⟩) k k, .int .i64 m.til]) (.agg #[.int .i64 ss, .int .i64 sq, .int .i64 st]) (.agg #[.int .i64 et, .int .i64 eto, .int .i64 efr, .int .i64 esq, .int .i64 ekd, .int .i64 edt]) ⟨d0, d1, d2⟩ out 42 _ _ from by first | (rw [cdB_42]; exact rfl) | rw [cdB_42])⟩⟩
        refine stepsT_guest (by kernel_rfl) ?_; refine stepsT_op (by kernel_rfl) ?_ ?_
        · intro X w1 k1 hG hdep
          have hlo := hG.size
          simp only [opW_def, mixT]; go_simp
          exact ⟨⟨_, by first | rfl | simp [Act.put], (Up.refl _).alloc _, hG.alloc _, (show cdB V0.heap.size (.agg #[.slice (some ⟨g1, 0, none⟩) n n, .slice (some ⟨g2, 0, none⟩) k k, .int .i64 m.til]) (.agg #[.int .i64 ss, .int .i64 sq, .int .i64 st]) (.agg #[.int .i64 et, .int .i64 eto, .int .i64 efr, .int .i64 esq, .int .i64 ekd, .int .i64 edt]) ⟨d0, d1, d2⟩ out 11 _ _ from by first | (rw [cdB_11]; exact NewB.new w1 _ _ 3 rfl hlo) | rw [cdB_11])⟩⟩
        exact trivial
      · intro h p _ hp
        obtain ⟨rfl, rfl⟩ := gOf_one hp; intro X w1 o ho hr
        have ho2 : some _ = some o := ho
        injection ho2 with ho2
        subst ho2
        have e35 : cdB V0.heap.size (.agg #[.slice (some ⟨g1, 0, none⟩) n n, .slice (some ⟨g2, 0, none⟩) k k, .int .i64 m.til]) (.agg #[.int .i64 ss, .int .i64 sq, .int .i64 st]) (.agg #[.int .i64 et, .int .i64 eto, .int .i64 efr, .int .i64 esq, .int .i64 ekd, .int .i64 edt]) ⟨d0, d1, d2⟩ out 35 (X 35) w1 := hr
        rw [cdB_35] at e35; obtain ⟨x35, e35, hx⟩ := e35; refine ⟨x35, fun w2 => ?_, (show cdB V0.heap.size (.agg #[.slice (some ⟨g1, 0, none⟩) n n, .slice (some ⟨g2, 0, none⟩) k k, .int .i64 m.til]) (.agg #[.int .i64 ss, .int .i64 sq, .int .i64 st]) (.agg #[.int .i64 et, .int .i64 eto, .int .i64 efr, .int .i64 esq, .int .i64 ekd, .int .i64 edt]) ⟨d0, d1, d2⟩ out 43 _ _ from by first | (rw [cdB_43]; exact hx) | rw [cdB_43])⟩; simp only [mixT, e35]; go_simp
      · intro X w1 hG hR
        have e42 : cdB V0.heap.size (.agg #[.slice (some ⟨g1, 0, none⟩) n n, .slice (some ⟨g2, 0, none⟩) k k, .int .i64 m.til]) (.agg #[.int .i64 ss, .int .i64 sq, .int .i64 st]) (.agg #[.int .i64 et, .int .i64 eto, .int .i64 efr, .int .i64 esq, .int .i64 ekd, .int .i64 edt]) ⟨d0, d1, d2⟩ out 42 (X 42) w1 := hR 7 (by omega)
        rw [cdB_42] at e42
        have e43 : cdB V0.heap.size (.agg #[.slice (some ⟨g1, 0, none⟩) n n, .slice (some ⟨g2, 0, none⟩) k k, .int .i64 m.til]) (.agg #[.int .i64 ss, .int .i64 sq, .int .i64 st]) (.agg #[.int .i64 et, .int .i64 eto, .int .i64 efr, .int .i64 esq, .int .i64 ekd, .int .i64 edt]) ⟨d0, d1, d2⟩ out 43 (X 43) w1 := hR 8 (by omega)
        rw [cdB_43] at e43
        have e11 : cdB V0.heap.size (.agg #[.slice (some ⟨g1, 0, none⟩) n n, .slice (some ⟨g2, 0, none⟩) k k, .int .i64 m.til]) (.agg #[.int .i64 ss, .int .i64 sq, .int .i64 st]) (.agg #[.int .i64 et, .int .i64 eto, .int .i64 efr, .int .i64 esq, .int .i64 ekd, .int .i64 edt]) ⟨d0, d1, d2⟩ out 11 (X 11) w1 := hR 9 (by omega)
        rw [cdB_11] at e11; obtain ⟨b11, e11, l8, t8, s8, f8, n8, h8⟩ := e11.parts; unfold Cst.v at e42; dsimp only at e42
        have OL := Lib.hid (own_far e43 ((((Mv.refl b11 w1).setCell (o := 0) (.int .i64 d0)).setCell (o := 1) (.int .i64 d1)).setCell (o := 2) (.int .i64 d2)) h8 (by decide))
        have D11 := Lib.hid (Cell3.laid t8 s8 f8 d0 d1 d2)
        have U3 := Lib.hid (((hG.setCell (p := ⟨b11, 0, none⟩) l8 (.int .i64 d0)).setCell (p := ⟨b11, 1, none⟩) l8 (.int .i64 d1)).setCell (p := ⟨b11, 2, none⟩) l8 (.int .i64 d2))
        obtain ⟨v0, c0⟩ := s8 0 (by omega); obtain ⟨v1, c1'⟩ := s8 1 (by omega); obtain ⟨v2, c2⟩ := s8 2 (by omega); clear hR s8 n8 h8 e43; simp only [mixT, e42, e11]; refine mix_go rfl (by rfl) (fun K hK => ?_); go_simp; refine hK _ _ ?_; clear hK K; refine mix_go rfl (by rfl) (fun K hK => ?_); go_simp; refine hK _ _ ?_; clear hK K; refine mix_nil ?_; clear f8 c0 c1' c2 e42 e11 hG
        generalize ((w1.setCell ⟨b11, 0, none⟩ (.int .i64 d0)).setCell ⟨b11, 1, none⟩ (.int .i64 d1)).setCell ⟨b11, 2, none⟩ (.int .i64 d2) = W3 at *
        generalize X 43 = vl at *
        obtain ⟨hln, Al, cl, rfl, hcl1, hcl2⟩ := own_slice OL.out
        have U23 := Lib.hid (U2.out.trans U3.out)
        have UB := Lib.hid (UB.out.trans U3.out)
        have UC := Lib.hid (UC.out.trans U3.out)
        have X4 := Lib.hid (X4.out.up U3.out)
        have O1 := Lib.hid (O1.out.up U3.out)
        have O2 := Lib.hid (O2.out.up' U3.out)
        have SZ1 := Lib.hid (SZ1.out.ints U3.out.ints)
        have SZ2 := Lib.hid (SZ2.out.ints U3.out.ints)
        have hV3 : V0.heap.size ≤ W3.heap.size := U3.out.size
        have hol2 : out.length ≤ 2 := LD.out
        clear U3 hln; obtain ⟨p0, p1, p2⟩ := And.intro D11.out.c0 (And.intro D11.out.c1 D11.out.c2)
        have D8' := Lib.hid (D8.out.up U23.out)
        obtain ⟨q0, q1, q2⟩ := And.intro D8'.out.c0 (And.intro D8'.out.c1 D8'.out.c2)
        have CQ := Lib.hid (fun W => eqCst_any ⟨d0, d1, d2⟩ ⟨d0, d1, d2⟩ W)
        rw [decide_eq_true (rfl : (⟨d0, d1, d2⟩ : Cst) = ⟨d0, d1, d2⟩)] at CQ
        have CL := Lib.hid (fun A2 c2 A3 c3 W h1 h2 => eqS_any A2 A3 out.length out.length c2 c3 out out W (by omega) h1 h2)
        rw [decide_eq_true (rfl : out = out)] at CL; unfold Cst.v at CQ; dsimp only at CQ
        go_wp2_with fail
        refine (CQ.out _).mono ?_; rintro x w5 ⟨rfl, u5⟩
        have U23 := Lib.hid (U23.out.trans u5)
        have UB := Lib.hid (UB.out.trans u5)
        have UC := Lib.hid (UC.out.trans u5)
        have X4 := Lib.hid (X4.out.up u5)
        have D11 := Lib.hid (D11.out.up u5)
        have OL := Lib.hid (own_up OL.out u5)
        have VX := Lib.hid ((NewMdl.v O1.out O2.out hk).up u5)
        have SZ1 := Lib.hid (SZ1.out.ints u5.ints)
        have SZ2 := Lib.hid (SZ2.out.ints u5.ints)
        have hV3 : V0.heap.size ≤ w5.heap.size := by have := u5.size; omega
        clear u5 p0 p1 p2 q0 q1 q2 D8'
        go_wp2_with fail
        refine (CL.out _ _ _ _ _ (own_evs OL.out) (Y3.out.up U23.out)).mono ?_; rintro x w6 ⟨rfl, u6⟩
        have U23 := Lib.hid (U23.out.trans u6)
        have UB := Lib.hid (UB.out.trans u6)
        have UC := Lib.hid (UC.out.trans u6)
        have X4 := Lib.hid (X4.out.up u6)
        have D11 := Lib.hid (D11.out.up u6)
        have OL := Lib.hid (own_up OL.out u6)
        have VX := Lib.hid (VX.out.up u6)
        have SZ1 := Lib.hid (SZ1.out.ints u6.ints)
        have SZ2 := Lib.hid (SZ2.out.ints u6.ints)
        have hV3 : V0.heap.size ≤ w6.heap.size := by have := u6.size; omega
        clear u6
        go_wp2_with fail
        have HB := And.intro (BX.out.up UB.out).lt (And.intro X4.out.lt (And.intro (BX.out.up UB.out).c0 (And.intro (BX.out.up UB.out).c1 (And.intro (BX.out.up UB.out).c2 (And.intro X4.out.c0 (And.intro X4.out.c1 X4.out.c2))))))
        have HH := Lib.hid HB
        obtain ⟨l0, l1, q0, q1, q2, r0, r1, r2⟩ := HB
        have ud := (Up.refl w6).drew
        go_region_held3 (fun w' => b3 < w'.heap.size ∧ b10 < w'.heap.size ∧ w'.cell? ⟨b3, 0, none⟩ = some (.slice A n c) ∧ w'.cell? ⟨b3, 1, none⟩ = some (.slice B k d) ∧ w'.cell? ⟨b3, 2, none⟩ = some (.int .i64 m.til) ∧ w'.cell? ⟨b10, 0, none⟩ = some (.slice (some ⟨g1, 0, none⟩) n n) ∧ w'.cell? ⟨b10, 1, none⟩ = some (.slice (some ⟨g2, 0, none⟩) k k) ∧ w'.cell? ⟨b10, 2, none⟩ = some (.int .i64 m.til))
          (first | (exact HH.out) | (exact two_up uF (by assumption)) | (exact two_up uE (by assumption)))
          (first
            | (go_at_call 20; refine (CT.out _ (UC.out.trans (Up.refl _).drew) SH.out).mono ?_; rintro x wE ⟨g5, g6, rfl, hg5, hg6, o5, o6, uE⟩; have VE := Lib.hid (NewMdl.v o5 o6 hk); clear o5 o6)
            | (go_at_call 22; refine (CE.out _ n n _ k k _ n n _ k k _ (VX.out.up ((Up.refl _).drew.trans uE)) VE.out SH.out.fit).mono ?_; rintro x wF ⟨rfl, uF⟩))
        have u7 := ((Up.refl w6).drew.trans uE).trans uF
        have U23 := Lib.hid (U23.out.trans u7)
        have UB := Lib.hid (UB.out.trans u7)
        have UC := Lib.hid (UC.out.trans u7)
        have X4 := Lib.hid (X4.out.up u7)
        have D11 := Lib.hid (D11.out.up u7)
        have OL := Lib.hid (own_up OL.out u7)
        have SZ1 := Lib.hid (SZ1.out.ints u7.ints)
        have SZ2 := Lib.hid (SZ2.out.ints u7.ints)
        have hV3 : V0.heap.size ≤ wF.heap.size := by have := u7.size; omega
        clear u7 uE uF ud l0 l1 q0 q1 q2 r0 r1 r2 VE VX HH; obtain ⟨q0, q1, q2⟩ := And.intro X4.out.c0 (And.intro X4.out.c1 X4.out.c2)
        have B11 := Lib.hid (show V0.heap.size ≤ b11 from l8)
        go_wp2_with fail
        refine (markMdl_any W2.heap.size b10 g1 g2 n n k k m.til _ hn6 hk6 SZ1.out SZ2.out (by omega)).mono ?_; rintro x w8 ⟨mz, rfl, hmz0, hmz1, m8⟩
        have D11 := Lib.hid (D11.out.ints m8 (by omega))
        have OL := Lib.hid (own_ints OL.out m8 (by omega))
        have U23 := Lib.hid (m8.up U23.out (Nat.le_refl _))
        have UB := Lib.hid (UB1.out.trans U23.out)
        have UC := Lib.hid (UC1.out.trans U23.out)
        have hV3 : V0.heap.size ≤ w8.heap.size := by have := m8.size; omega
        have jm : ¬ mz < 0 := by omega
        clear m8 q0 q1 q2 SZ1 SZ2 X4
        have D8' := Lib.hid (D8.out.up U23.out)
        obtain ⟨p0, p1, p2⟩ := And.intro D11.out.c0 (And.intro D11.out.c1 D11.out.c2); obtain ⟨q0, q1, q2⟩ := And.intro D8'.out.c0 (And.intro D8'.out.c1 D8'.out.c2)
        go_wp2_with fail
        refine (CQ.out _).mono ?_; rintro x w9 ⟨rfl, u5⟩
        have U23 := Lib.hid (U23.out.trans u5)
        have UB := Lib.hid (UB.out.trans u5)
        have UC := Lib.hid (UC.out.trans u5)
        have OL := Lib.hid (own_up OL.out u5)
        have hV3 : V0.heap.size ≤ w9.heap.size := by have := u5.size; omega
        clear u5 p0 p1 p2 q0 q1 q2 D8' D11
        go_wp2_with fail
        refine (CL.out _ _ _ _ _ (own_evs OL.out) (Y3.out.up U23.out)).mono ?_; rintro x w10 ⟨rfl, u6⟩
        have U23 := Lib.hid (U23.out.trans u6)
        have UB := Lib.hid (UB.out.trans u6)
        have UC := Lib.hid (UC.out.trans u6)
        have OL := Lib.hid (own_up OL.out u6)
        have hV3 : V0.heap.size ≤ w10.heap.size := by have := u6.size; omega
        clear u6
        go_wp2_with fail
        refine (mark_own Al out.length cl _ (by omega) OL.out).mono ?_; rintro x w11 ⟨rfl, hem, gm, hgm, m11⟩
        have EM := Lib.hid hem
        have U23 := Lib.hid (m11.up U23.out (by omega))
        have UB := Lib.hid (UB1.out.trans U23.out)
        have UC := Lib.hid (UC1.out.trans U23.out)
        clear hem m11 OL
        go_wp2_with fail
        refine (held_any Al out.length cl _ (by omega) EM.out).mono ?_; rintro x w12 ⟨rfl, u12⟩
        have EM := Lib.hid (EM.out.up u12)
        have U23 := Lib.hid (U23.out.trans u12)
        have UB := Lib.hid (UB.out.trans u12)
        have UC := Lib.hid (UC.out.trans u12)
        clear u12
        have HELD := Lib.hid (fun W h => held_any Al out.length cl W (by omega) h)
        generalize hK2 : 1 + 6 * (out.length : Int) = K2 at HELD ⊢
        have k2 : ¬ K2 < 0 := by omega
        clear hK2
        go_wp2_with fail
        generalize w12 = T0 at *
        refine region_relyT 11 [(7, 9)] [(11, false), (12, false)] [88, 89, 90, 91, 92, 93, 94, 87, 95, 96, 16] 10 (fun _ w1 => Up T0 w1) Up (fun i v w => cdC T0.heap.size (.agg #[.slice A n c, .slice B k d, .int .i64 m.til]) (.agg #[.int .i64 ss, .int .i64 sq, .int .i64 st]) (.agg #[.int .i64 et, .int .i64 eto, .int .i64 efr, .int .i64 esq, .int .i64 ekd, .int .i64 edt]) m n k ⟨d0, d1, d2⟩ out i v w) (by kernel_rfl) (by kernel_rfl) (by kernel_rfl) (by kernel_rfl) ((Up.refl _).drew) (fun slot_ _ _ _ h u => cdC_up T0.heap.size (.agg #[.slice A n c, .slice B k d, .int .i64 m.til]) (.agg #[.int .i64 ss, .int .i64 sq, .int .i64 st]) (.agg #[.int .i64 et, .int .i64 eto, .int .i64 efr, .int .i64 esq, .int .i64 ekd, .int .i64 edt]) m n k ⟨d0, d1, d2⟩ out slot_ h u) ?_ ?_ ?_
        · simp only [List.take_succ_cons, List.take_zero]
          refine stepsT_op (by kernel_rfl) ?_ ?_
          · intro X w1 k1 hG hdep
            obtain ⟨p0, p1, p2⟩ := And.intro (BX.out.up (UB.out.trans hG)).c0 (And.intro (BX.out.up (UB.out.trans hG)).c1 (BX.out.up (UB.out.trans hG)).c2); simp only [opW_def, mixT]; go_simp
            exact ⟨⟨(.agg #[.slice A n c, .slice B k d, .int .i64 m.til]), by first | rfl | simp [Act.put], Up.refl _, hG, (show cdC T0.heap.size (.agg #[.slice A n c, .slice B k d, .int .i64 m.til]) (.agg #[.int .i64 ss, .int .i64 sq, .int .i64 st]) (.agg #[.int .i64 et, .int .i64 eto, .int .i64 efr, .int .i64 esq, .int .i64 ekd, .int .i64 edt]) m n k ⟨d0, d1, d2⟩ out 88 _ _ from by first | (rw [cdC_88]; exact rfl) | rw [cdC_88])⟩⟩
          refine stepsT_op (by kernel_rfl) ?_ ?_
          · intro X w1 k1 hG hdep
            have e88 : cdC T0.heap.size (.agg #[.slice A n c, .slice B k d, .int .i64 m.til]) (.agg #[.int .i64 ss, .int .i64 sq, .int .i64 st]) (.agg #[.int .i64 et, .int .i64 eto, .int .i64 efr, .int .i64 esq, .int .i64 ekd, .int .i64 edt]) m n k ⟨d0, d1, d2⟩ out 88 (X 88) w1 := hdep 88 (by decide +kernel)
            rw [cdC_88] at e88
            have hlo := hG.size
            simp only [opW_def, mixT, e88]; go_simp; refine (CT.out _ (UC.out.trans hG) SH.out).mono ?_; rintro x w2 ⟨g1, g2, rfl, h1, h2, o1, o2, u⟩
            exact ⟨⟨_, by first | rfl | simp [Act.put], u, hG.trans u, (show cdC T0.heap.size (.agg #[.slice A n c, .slice B k d, .int .i64 m.til]) (.agg #[.int .i64 ss, .int .i64 sq, .int .i64 st]) (.agg #[.int .i64 et, .int .i64 eto, .int .i64 efr, .int .i64 esq, .int .i64 ekd, .int .i64 edt]) m n k ⟨d0, d1, d2⟩ out 89 _ _ from by first | (rw [cdC_89]; exact ⟨g1, g2, rfl, by omega, by omega, o1, o2⟩) | rw [cdC_89])⟩⟩
          refine stepsT_op (by kernel_rfl) ?_ ?_
          · intro X w1 k1 hG hdep
            obtain ⟨p0, p1, p2⟩ := And.intro (BC.out.up (UB.out.trans hG)).c0 (And.intro (BC.out.up (UB.out.trans hG)).c1 (BC.out.up (UB.out.trans hG)).c2); simp only [opW_def, mixT]; go_simp
            exact ⟨⟨(.agg #[.int .i64 ss, .int .i64 sq, .int .i64 st]), by first | rfl | simp [Act.put], Up.refl _, hG, (show cdC T0.heap.size (.agg #[.slice A n c, .slice B k d, .int .i64 m.til]) (.agg #[.int .i64 ss, .int .i64 sq, .int .i64 st]) (.agg #[.int .i64 et, .int .i64 eto, .int .i64 efr, .int .i64 esq, .int .i64 ekd, .int .i64 edt]) m n k ⟨d0, d1, d2⟩ out 90 _ _ from by first | (rw [cdC_90]; exact rfl) | rw [cdC_90])⟩⟩
          refine stepsT_op (by kernel_rfl) ?_ ?_
          · intro X w1 k1 hG hdep
            have e90 : cdC T0.heap.size (.agg #[.slice A n c, .slice B k d, .int .i64 m.til]) (.agg #[.int .i64 ss, .int .i64 sq, .int .i64 st]) (.agg #[.int .i64 et, .int .i64 eto, .int .i64 efr, .int .i64 esq, .int .i64 ekd, .int .i64 edt]) m n k ⟨d0, d1, d2⟩ out 90 (X 90) w1 := hdep 90 (by decide +kernel)
            rw [cdC_90] at e90; simp only [opW_def, mixT, e90]; go_simp; refine (CC.out w1).mono ?_; rintro x w2 ⟨rfl, u⟩
            exact ⟨⟨(.agg #[.int .i64 ss, .int .i64 sq, .int .i64 st]), by first | rfl | simp [Act.put], u, hG.trans u, (show cdC T0.heap.size (.agg #[.slice A n c, .slice B k d, .int .i64 m.til]) (.agg #[.int .i64 ss, .int .i64 sq, .int .i64 st]) (.agg #[.int .i64 et, .int .i64 eto, .int .i64 efr, .int .i64 esq, .int .i64 ekd, .int .i64 edt]) m n k ⟨d0, d1, d2⟩ out 91 _ _ from by first | (rw [cdC_91]; exact rfl) | rw [cdC_91])⟩⟩
          refine stepsT_op (by kernel_rfl) ?_ ?_
          · intro X w1 k1 hG hdep
            obtain ⟨⟨p0, p1, p2, p3, p4, p5⟩, -⟩ := (BE.out.up (UB.out.trans hG)).mk6; simp only [opW_def, mixT]; go_simp
            exact ⟨⟨(.agg #[.int .i64 et, .int .i64 eto, .int .i64 efr, .int .i64 esq, .int .i64 ekd, .int .i64 edt]), by first | rfl | simp [Act.put], Up.refl _, hG, (show cdC T0.heap.size (.agg #[.slice A n c, .slice B k d, .int .i64 m.til]) (.agg #[.int .i64 ss, .int .i64 sq, .int .i64 st]) (.agg #[.int .i64 et, .int .i64 eto, .int .i64 efr, .int .i64 esq, .int .i64 ekd, .int .i64 edt]) m n k ⟨d0, d1, d2⟩ out 92 _ _ from by first | (rw [cdC_92]; exact rfl) | rw [cdC_92])⟩⟩
          refine stepsT_op (by kernel_rfl) ?_ ?_
          · intro X w1 k1 hG hdep
            have e92 : cdC T0.heap.size (.agg #[.slice A n c, .slice B k d, .int .i64 m.til]) (.agg #[.int .i64 ss, .int .i64 sq, .int .i64 st]) (.agg #[.int .i64 et, .int .i64 eto, .int .i64 efr, .int .i64 esq, .int .i64 ekd, .int .i64 edt]) m n k ⟨d0, d1, d2⟩ out 92 (X 92) w1 := hdep 92 (by decide +kernel)
            rw [cdC_92] at e92; simp only [opW_def, mixT, e92]; go_simp; refine (CV.out w1).mono ?_; rintro x w2 ⟨rfl, u⟩
            exact ⟨⟨(.agg #[.int .i64 et, .int .i64 eto, .int .i64 efr, .int .i64 esq, .int .i64 ekd, .int .i64 edt]), by first | rfl | simp [Act.put], u, hG.trans u, (show cdC T0.heap.size (.agg #[.slice A n c, .slice B k d, .int .i64 m.til]) (.agg #[.int .i64 ss, .int .i64 sq, .int .i64 st]) (.agg #[.int .i64 et, .int .i64 eto, .int .i64 efr, .int .i64 esq, .int .i64 ekd, .int .i64 edt]) m n k ⟨d0, d1, d2⟩ out 93 _ _ from by first | (rw [cdC_93]; exact rfl) | rw [cdC_93])⟩⟩
          refine stepsT_op (by kernel_rfl) ?_ ?_
          · intro X w1 k1 hG hdep
            have e89 : cdC T0.heap.size (.agg #[.slice A n c, .slice B k d, .int .i64 m.til]) (.agg #[.int .i64 ss, .int .i64 sq, .int .i64 st]) (.agg #[.int .i64 et, .int .i64 eto, .int .i64 efr, .int .i64 esq, .int .i64 ekd, .int .i64 edt]) m n k ⟨d0, d1, d2⟩ out 89 (X 89) w1 := hdep 89 (by decide +kernel)
            rw [cdC_89] at e89; obtain ⟨g1, g2, e89, l1, l2, o1, o2⟩ := e89
            have e91 : cdC T0.heap.size (.agg #[.slice A n c, .slice B k d, .int .i64 m.til]) (.agg #[.int .i64 ss, .int .i64 sq, .int .i64 st]) (.agg #[.int .i64 et, .int .i64 eto, .int .i64 efr, .int .i64 esq, .int .i64 ekd, .int .i64 edt]) m n k ⟨d0, d1, d2⟩ out 91 (X 91) w1 := hdep 91 (by decide +kernel)
            rw [cdC_91] at e91
            have e93 : cdC T0.heap.size (.agg #[.slice A n c, .slice B k d, .int .i64 m.til]) (.agg #[.int .i64 ss, .int .i64 sq, .int .i64 st]) (.agg #[.int .i64 et, .int .i64 eto, .int .i64 efr, .int .i64 esq, .int .i64 ekd, .int .i64 edt]) m n k ⟨d0, d1, d2⟩ out 93 (X 93) w1 := hdep 93 (by decide +kernel)
            rw [cdC_93] at e93
            have hlo := hG.size
            simp only [opW_def, mixT, e89, e91, e93]; go_simp; refine (CI.out g1 g2 w1 o1 o2).mono ?_; rintro x w2 ⟨v, rfl, ho, u⟩
            exact ⟨⟨_, by first | rfl | simp [Act.put], u, hG.trans u, (show cdC T0.heap.size (.agg #[.slice A n c, .slice B k d, .int .i64 m.til]) (.agg #[.int .i64 ss, .int .i64 sq, .int .i64 st]) (.agg #[.int .i64 et, .int .i64 eto, .int .i64 efr, .int .i64 esq, .int .i64 ekd, .int .i64 edt]) m n k ⟨d0, d1, d2⟩ out 94 _ _ from by first | (rw [cdC_94]; exact ⟨_, rfl, own_mono ho hlo⟩) | rw [cdC_94])⟩⟩
          refine stepsT_op (by kernel_rfl) ?_ ?_
          · intro X w1 k1 hG hdep
            have e94 : cdC T0.heap.size (.agg #[.slice A n c, .slice B k d, .int .i64 m.til]) (.agg #[.int .i64 ss, .int .i64 sq, .int .i64 st]) (.agg #[.int .i64 et, .int .i64 eto, .int .i64 efr, .int .i64 esq, .int .i64 ekd, .int .i64 edt]) m n k ⟨d0, d1, d2⟩ out 94 (X 94) w1 := hdep 94 (by decide +kernel)
            rw [cdC_94] at e94; obtain ⟨x94, e94, hx⟩ := e94; simp only [opW_def, mixT, e94]; go_simp
            exact ⟨⟨_, by first | rfl | simp [Act.put], Up.refl _, hG, (show cdC T0.heap.size (.agg #[.slice A n c, .slice B k d, .int .i64 m.til]) (.agg #[.int .i64 ss, .int .i64 sq, .int .i64 st]) (.agg #[.int .i64 et, .int .i64 eto, .int .i64 efr, .int .i64 esq, .int .i64 ekd, .int .i64 edt]) m n k ⟨d0, d1, d2⟩ out 87 _ _ from by first | (rw [cdC_87]; exact ⟨_, rfl, hx⟩) | rw [cdC_87])⟩⟩
          refine stepsT_op (by kernel_rfl) ?_ ?_
          · intro X w1 k1 hG hdep
            have e87 : cdC T0.heap.size (.agg #[.slice A n c, .slice B k d, .int .i64 m.til]) (.agg #[.int .i64 ss, .int .i64 sq, .int .i64 st]) (.agg #[.int .i64 et, .int .i64 eto, .int .i64 efr, .int .i64 esq, .int .i64 ekd, .int .i64 edt]) m n k ⟨d0, d1, d2⟩ out 87 (X 87) w1 := hdep 87 (by decide +kernel)
            rw [cdC_87] at e87; obtain ⟨x87, e87, hx⟩ := e87; simp only [opW_def, mixT, e87]; go_simp
            exact ⟨⟨(.agg #[.int .i64 d0, .int .i64 d1, .int .i64 d2]), by first | rfl | simp [Act.put], Up.refl _, hG, (show cdC T0.heap.size (.agg #[.slice A n c, .slice B k d, .int .i64 m.til]) (.agg #[.int .i64 ss, .int .i64 sq, .int .i64 st]) (.agg #[.int .i64 et, .int .i64 eto, .int .i64 efr, .int .i64 esq, .int .i64 ekd, .int .i64 edt]) m n k ⟨d0, d1, d2⟩ out 95 _ _ from by first | (rw [cdC_95]; exact rfl) | rw [cdC_95])⟩⟩
          refine stepsT_guest (by kernel_rfl) ?_; refine stepsT_op (by kernel_rfl) ?_ ?_
          · intro X w1 k1 hG hdep
            have hlo := hG.size
            simp only [opW_def, mixT]; go_simp
            exact ⟨⟨_, by first | rfl | simp [Act.put], (Up.refl _).alloc _, hG.alloc _, (show cdC T0.heap.size (.agg #[.slice A n c, .slice B k d, .int .i64 m.til]) (.agg #[.int .i64 ss, .int .i64 sq, .int .i64 st]) (.agg #[.int .i64 et, .int .i64 eto, .int .i64 efr, .int .i64 esq, .int .i64 ekd, .int .i64 edt]) m n k ⟨d0, d1, d2⟩ out 16 _ _ from by first | (rw [cdC_16]; exact NewB.new w1 _ _ 3 rfl hlo) | rw [cdC_16])⟩⟩
          exact trivial
        · intro h p _ hp
          obtain ⟨rfl, rfl⟩ := gOf_one hp; intro X w1 o ho hr
          have ho2 : some _ = some o := ho
          injection ho2 with ho2
          subst ho2
          have e87 : cdC T0.heap.size (.agg #[.slice A n c, .slice B k d, .int .i64 m.til]) (.agg #[.int .i64 ss, .int .i64 sq, .int .i64 st]) (.agg #[.int .i64 et, .int .i64 eto, .int .i64 efr, .int .i64 esq, .int .i64 ekd, .int .i64 edt]) m n k ⟨d0, d1, d2⟩ out 87 (X 87) w1 := hr
          rw [cdC_87] at e87; obtain ⟨x87, e87, hx⟩ := e87; refine ⟨x87, fun w2 => ?_, (show cdC T0.heap.size (.agg #[.slice A n c, .slice B k d, .int .i64 m.til]) (.agg #[.int .i64 ss, .int .i64 sq, .int .i64 st]) (.agg #[.int .i64 et, .int .i64 eto, .int .i64 efr, .int .i64 esq, .int .i64 ekd, .int .i64 edt]) m n k ⟨d0, d1, d2⟩ out 96 _ _ from by first | (rw [cdC_96]; exact hx) | rw [cdC_96])⟩; simp only [mixT, e87]; go_simp
        · intro X w1 hG hR
          have e95 : cdC T0.heap.size (.agg #[.slice A n c, .slice B k d, .int .i64 m.til]) (.agg #[.int .i64 ss, .int .i64 sq, .int .i64 st]) (.agg #[.int .i64 et, .int .i64 eto, .int .i64 efr, .int .i64 esq, .int .i64 ekd, .int .i64 edt]) m n k ⟨d0, d1, d2⟩ out 95 (X 95) w1 := hR 8 (by omega)
          rw [cdC_95] at e95
          have e96 : cdC T0.heap.size (.agg #[.slice A n c, .slice B k d, .int .i64 m.til]) (.agg #[.int .i64 ss, .int .i64 sq, .int .i64 st]) (.agg #[.int .i64 et, .int .i64 eto, .int .i64 efr, .int .i64 esq, .int .i64 ekd, .int .i64 edt]) m n k ⟨d0, d1, d2⟩ out 96 (X 96) w1 := hR 9 (by omega)
          rw [cdC_96] at e96
          have e16 : cdC T0.heap.size (.agg #[.slice A n c, .slice B k d, .int .i64 m.til]) (.agg #[.int .i64 ss, .int .i64 sq, .int .i64 st]) (.agg #[.int .i64 et, .int .i64 eto, .int .i64 efr, .int .i64 esq, .int .i64 ekd, .int .i64 edt]) m n k ⟨d0, d1, d2⟩ out 16 (X 16) w1 := hR 10 (by omega)
          rw [cdC_16] at e16; obtain ⟨b16, e16, l8, t8, s8, f8, n8, h8⟩ := e16.parts; unfold Cst.v at e95; dsimp only at e95
          have EM := Lib.hid ((EM.out.up hG).far ((((Mv.refl b16 w1).setCell (o := 0) (.int .i64 d0)).setCell (o := 1) (.int .i64 d1)).setCell (o := 2) (.int .i64 d2)) (by omega) n8)
          have OZ := Lib.hid (own_far e96 ((((Mv.refl b16 w1).setCell (o := 0) (.int .i64 d0)).setCell (o := 1) (.int .i64 d1)).setCell (o := 2) (.int .i64 d2)) h8 (by decide))
          have D16 := Lib.hid (Cell3.laid t8 s8 f8 d0 d1 d2)
          have U3 := Lib.hid (((hG.setCell (p := ⟨b16, 0, none⟩) l8 (.int .i64 d0)).setCell (p := ⟨b16, 1, none⟩) l8 (.int .i64 d1)).setCell (p := ⟨b16, 2, none⟩) l8 (.int .i64 d2))
          obtain ⟨v0, c0⟩ := s8 0 (by omega); obtain ⟨v1, c1'⟩ := s8 1 (by omega); obtain ⟨v2, c2⟩ := s8 2 (by omega); clear hR s8 n8 h8 e96; simp only [mixT, e95, e16]; refine mix_go rfl (by rfl) (fun K hK => ?_); go_simp; refine hK _ _ ?_; clear hK K; refine mix_go rfl (by rfl) (fun K hK => ?_); go_simp; refine hK _ _ ?_; clear hK K; refine mix_nil ?_; clear f8 c0 c1' c2 e95 e16 hG
          generalize ((w1.setCell ⟨b16, 0, none⟩ (.int .i64 d0)).setCell ⟨b16, 1, none⟩ (.int .i64 d1)).setCell ⟨b16, 2, none⟩ (.int .i64 d2) = W5 at *
          generalize X 96 = vz at *
          obtain ⟨hlz, Az, cz, rfl, hcz1, hcz2⟩ := own_slice OZ.out
          have U23 := Lib.hid (U23.out.trans U3.out)
          clear U3 hlz UB UC; obtain ⟨p0, p1, p2⟩ := And.intro D16.out.c0 (And.intro D16.out.c1 D16.out.c2)
          have D8' := Lib.hid (D8.out.up U23.out)
          obtain ⟨q0, q1, q2⟩ := And.intro D8'.out.c0 (And.intro D8'.out.c1 D8'.out.c2)
          go_wp2_with fail
          refine (CQ.out _).mono ?_; rintro x w13 ⟨rfl, u5⟩
          have U23 := Lib.hid (U23.out.trans u5)
          have OZ := Lib.hid (own_up OZ.out u5)
          have EM := Lib.hid (EM.out.up u5)
          clear u5 p0 p1 p2 q0 q1 q2 D8' D16
          go_wp2_with fail
          refine (CL.out _ _ _ _ _ (own_evs OZ.out) (Y3.out.up U23.out)).mono ?_; rintro x w14 ⟨rfl, u6⟩
          have U23 := Lib.hid (U23.out.trans u6)
          have EM := Lib.hid (EM.out.up u6)
          clear u6 OZ
          go_wp2_with fail
          refine (HELD.out _ EM.out).mono ?_; rintro x w15 ⟨rfl, u12⟩
          have U23 := Lib.hid (U23.out.trans u12)
          have UC := Lib.hid (UC1.out.trans U23.out)
          clear u12; go_wp2; go_ret
          exact ⟨rfl, UC.out⟩
end Go.Proofs.Ytakmlfgkppekoaa

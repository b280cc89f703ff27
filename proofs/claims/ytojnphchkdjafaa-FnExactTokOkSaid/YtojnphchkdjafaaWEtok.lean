/-
  What FnExactTokOk returns, in one sentence: true, with new blocks alone; for every model that lies in memory and every token.
-/
import Derived.Test.YtojnphchkdjafaaSTok
import Derived.Test.YtojnphchkdjafaaITok
import Derived.Test.YtojnphchkdjafaaMToM
import Derived.Test.YtojnphchkdjafaaMSz
import Derived.Test.YtojnphchkdjafaaMEq
namespace Go.Proofs.Ytojnphchkdjafaa
set_option maxRecDepth 100000
open Go.RowKit

set_option maxHeartbeats 8000000 in
theorem walkEtok (v : Value) (m : Mdl) {w : World} (h : ∃ A n c B k d, v = .agg #[.slice A n c, .slice B k d, .int .i64 m.til] ∧ MdlV w A n B k m) (g : Gk) (_hg : g.ok) :
    Calls Try.prog 6 #[v, g.v] w fun x w' => x = .returned (.bool true) ∧ Up w w' := by
  obtain ⟨A, n, c, B, k, d, rfl, hM⟩ := h
  have hk := hM.big
  have CS := Lib.hid (fun W (u : Up w W) => szMdl_any A n c B k d m W (hM.up u))
  have CT := Lib.hid (fun W (u : Up w W) hS => toMdl_any A n c B k d m W (hM.up u) hS)
  have CG := Lib.hid (fun W => toGk_any g W)
  have CP := Lib.hid (fun A n c B k d W (h : MdlV W A n B k m) => specTok_any A n c B k d m g W h)
  have CI := Lib.hid (fun A n c B k d W (h : MdlV W A n B k m) => implTok_any A n c B k d m g W h)
  have CE := Lib.hid (fun A n c B k d A' n' c' B' k' d' W (h1 : MdlV W A n B k m) (h2 : MdlV W A' n' B' k' m) (hS : FitM m) => eqMdl_any A n c B k d m A' n' c' B' k' d' m W h1 h2 hS)
  rw [decide_eq_true (rfl : m = m)] at CE
  generalize (mdlB m && gkB m.til m.rules.length g) = bb at CP CI
  have jb : (bb != bb) = false := by simp
  obtain ⟨ton, tr, ta, tn, tl⟩ := g
  unfold Gk.v at CG CP CI ⊢
  dsimp only at CG CP CI ⊢
  have X0 := Lib.hid ((Bk.new w #[.slice A n c, .slice B k d, .int .i64 m.til] 47).alloc (.cells #[.bool ton, .int .i64 tr, .int .i64 ta, .int .i64 tn, .int .i64 tl] 54))
  have X1 := Lib.hid (Bk.new (w.alloc (.cells #[.slice A n c, .slice B k d, .int .i64 m.til] 47)) #[.bool ton, .int .i64 tr, .int .i64 ta, .int .i64 tn, .int .i64 tl] 54)
  simp only [World.size_alloc] at X1
  have UC := Lib.hid (((Up.refl w).alloc (.cells #[.slice A n c, .slice B k d, .int .i64 m.til] 47)).alloc (.cells #[.bool ton, .int .i64 tr, .int .i64 ta, .int .i64 tn, .int .i64 tl] 54))
  clear hM
  unfold NewMdl at CT
  go_enter Try.func6, Try.ntmps6
  go_wp2_with fail
  generalize (w.alloc (.cells #[.slice A n c, .slice B k d, .int .i64 m.til] 47)).alloc (.cells #[.bool ton, .int .i64 tr, .int .i64 ta, .int .i64 tn, .int .i64 tl] 54) = W1 at *
  generalize hb1 : w.heap.size + 1 = b1 at *
  generalize hb0 : w.heap.size = b0 at *
  clear hb0 hb1
  refine (CS.out _ UC.out).mono ?_
  rintro x w1 ⟨z, rfl, hz, u1⟩
  replace UC := Lib.hid (UC.out.trans u1)
  replace X0 := Lib.hid (X0.out.up u1)
  replace X1 := Lib.hid (X1.out.up u1)
  clear u1
  rcases hz with rfl | ⟨z0, z1, hS⟩
  · go_wp2
    go_ret
    exact ⟨rfl, UC.out⟩
  · have SH := Lib.hid hS
    have j0 : ¬ z < 0 := by omega
    clear hS z0 z1
    go_wp2_with fail
    refine region_mixH (fun w' => Up w1 w') [(0, true), (2, true), (1, false), (3, false), (4, false), (5, true)] (by kernel_rfl) (by kernel_rfl) (Up.refl _).drew ?_
    refine mixH_take rfl (by rfl) ?_
    apply Exists.intro
    refine ⟨fun w1 hS1 => ?_, ?_⟩
    · have z0 := (X0.out.up hS1).cell (j := 0) rfl
      have z1 := (X0.out.up hS1).cell (j := 1) rfl
      have z2 := (X0.out.up hS1).cell (j := 2) rfl
      have lz := (X0.out.up hS1).lt
      have y0 := (X1.out.up hS1).cell (j := 0) rfl
      have y1 := (X1.out.up hS1).cell (j := 1) rfl
      have y2 := (X1.out.up hS1).cell (j := 2) rfl
      have y3 := (X1.out.up hS1).cell (j := 3) rfl
      have y4 := (X1.out.up hS1).cell (j := 4) rfl
      have ly := (X1.out.up hS1).lt
      clear hS1
      go_simp
      try rfl
    go_simp
    refine mixH_take rfl (by rfl) ?_
    apply Exists.intro
    refine ⟨fun w1 hS1 => ?_, ?_⟩
    · have z0 := (X0.out.up hS1).cell (j := 0) rfl
      have z1 := (X0.out.up hS1).cell (j := 1) rfl
      have z2 := (X0.out.up hS1).cell (j := 2) rfl
      have lz := (X0.out.up hS1).lt
      have y0 := (X1.out.up hS1).cell (j := 0) rfl
      have y1 := (X1.out.up hS1).cell (j := 1) rfl
      have y2 := (X1.out.up hS1).cell (j := 2) rfl
      have y3 := (X1.out.up hS1).cell (j := 3) rfl
      have y4 := (X1.out.up hS1).cell (j := 4) rfl
      have ly := (X1.out.up hS1).lt
      clear hS1
      go_simp
      try rfl
    go_simp
    refine mixH_go rfl (by rfl) (fun K hK => ?_)
    go_simp
    refine (CT.out _ (UC.out.trans (Up.refl _).drew) SH.out).mono ?_
    rintro x wA ⟨g1, g2, rfl, hg1, hg2, o1, o2, uA⟩
    refine hK _ _ ((Up.refl _).drew.trans uA) ?_
    clear hK K
    go_simp
    refine mixH_go rfl (by rfl) (fun K hK => ?_)
    go_simp
    refine (CG.out _).mono ?_
    rintro x wB ⟨rfl, uB⟩
    refine hK _ _ (((Up.refl _).drew.trans uA).trans uB) ?_
    clear hK K
    go_simp
    refine mixH_go rfl (by rfl) (fun K hK => ?_)
    go_simp
    refine (CP.out _ _ _ _ _ _ _ ((NewMdl.v o1 o2 hk).up uB)).mono ?_
    rintro x wC ⟨rfl, uC⟩
    refine hK _ _ ((((Up.refl _).drew.trans uA).trans uB).trans uC) ?_
    clear hK K
    go_simp
    refine mixH_take rfl (by rfl) ?_
    apply Exists.intro
    refine ⟨fun w1 hS1 => ?_, ?_⟩
    · clear hS1
      go_simp
      try rfl
    go_simp
    refine mixH_nil ?_
    have V5 := Lib.hid (UC.out.trans ((((Up.refl _).drew.trans uA).trans uB).trans uC))
    replace X0 := Lib.hid (X0.out.up ((((Up.refl _).drew.trans uA).trans uB).trans uC))
    replace X1 := Lib.hid (X1.out.up ((((Up.refl _).drew.trans uA).trans uB).trans uC))
    clear o1 o2 hg1 hg2 uA uB uC
    have z0 := X0.out.cell (j := 0) rfl
    have z1 := X0.out.cell (j := 1) rfl
    have z2 := X0.out.cell (j := 2) rfl
    have lz := X0.out.lt
    go_wp2_with fail
    refine (CT.out _ V5.out SH.out).mono ?_
    rintro x w4 ⟨g1, g2, rfl, hg1, hg2, o1, o2, u4⟩
    clear z0 z1 z2 lz
    have ua := (Up.refl w4).alloc (.cells #[.slice (some ⟨g1, 0, none⟩) n n, .slice (some ⟨g2, 0, none⟩) k k, .int .i64 m.til] 26)
    have VX := Lib.hid ((NewMdl.v o1 o2 hk).up ua)
    have X2 := Lib.hid (Bk.new w4 #[.slice (some ⟨g1, 0, none⟩) n n, .slice (some ⟨g2, 0, none⟩) k k, .int .i64 m.til] 26)
    replace X0 := Lib.hid (X0.out.up (u4.trans ua))
    replace X1 := Lib.hid (X1.out.up (u4.trans ua))
    have V6 := Lib.hid (V5.out.trans (u4.trans ua))
    clear o1 o2 hg1 hg2 u4 ua V5 UC
    go_wp2_with fail
    generalize w4.alloc (.cells #[.slice (some ⟨g1, 0, none⟩) n n, .slice (some ⟨g2, 0, none⟩) k k, .int .i64 m.til] 26) = W7 at *
    generalize hb2 : w4.heap.size = b2 at *
    clear hb2
    refine region_mixH (fun w' => Up W7 w') [(0, true), (1, true), (2, false), (3, false), (4, true)] (by kernel_rfl) (by kernel_rfl) (Up.refl _).drew ?_
    refine mixH_take rfl (by rfl) ?_
    apply Exists.intro
    refine ⟨fun w1 hS1 => ?_, ?_⟩
    · have z0 := (X0.out.up hS1).cell (j := 0) rfl
      have z1 := (X0.out.up hS1).cell (j := 1) rfl
      have z2 := (X0.out.up hS1).cell (j := 2) rfl
      have lz := (X0.out.up hS1).lt
      have y0 := (X1.out.up hS1).cell (j := 0) rfl
      have y1 := (X1.out.up hS1).cell (j := 1) rfl
      have y2 := (X1.out.up hS1).cell (j := 2) rfl
      have y3 := (X1.out.up hS1).cell (j := 3) rfl
      have y4 := (X1.out.up hS1).cell (j := 4) rfl
      have ly := (X1.out.up hS1).lt
      have x0 := (X2.out.up hS1).cell (j := 0) rfl
      have x1 := (X2.out.up hS1).cell (j := 1) rfl
      have x2 := (X2.out.up hS1).cell (j := 2) rfl
      have lx := (X2.out.up hS1).lt
      clear hS1
      go_simp
      try rfl
    go_simp
    refine mixH_take rfl (by rfl) ?_
    apply Exists.intro
    refine ⟨fun w1 hS1 => ?_, ?_⟩
    · have z0 := (X0.out.up hS1).cell (j := 0) rfl
      have z1 := (X0.out.up hS1).cell (j := 1) rfl
      have z2 := (X0.out.up hS1).cell (j := 2) rfl
      have lz := (X0.out.up hS1).lt
      have y0 := (X1.out.up hS1).cell (j := 0) rfl
      have y1 := (X1.out.up hS1).cell (j := 1) rfl
      have y2 := (X1.out.up hS1).cell (j := 2) rfl
      have y3 := (X1.out.up hS1).cell (j := 3) rfl
      have y4 := (X1.out.up hS1).cell (j := 4) rfl
      have ly := (X1.out.up hS1).lt
      have x0 := (X2.out.up hS1).cell (j := 0) rfl
      have x1 := (X2.out.up hS1).cell (j := 1) rfl
      have x2 := (X2.out.up hS1).cell (j := 2) rfl
      have lx := (X2.out.up hS1).lt
      clear hS1
      go_simp
      try rfl
    go_simp
    refine mixH_go rfl (by rfl) (fun K hK => ?_)
    go_simp
    refine (CG.out _).mono ?_
    rintro x wB ⟨rfl, uB⟩
    refine hK _ _ ((Up.refl _).drew.trans uB) ?_
    clear hK K
    go_simp
    refine mixH_go rfl (by rfl) (fun K hK => ?_)
    go_simp
    refine (CI.out _ _ _ _ _ _ _ (VX.out.up ((Up.refl _).drew.trans uB))).mono ?_
    rintro x wC ⟨rfl, uC⟩
    refine hK _ _ (((Up.refl _).drew.trans uB).trans uC) ?_
    clear hK K
    go_simp
    refine mixH_take rfl (by rfl) ?_
    apply Exists.intro
    refine ⟨fun w1 hS1 => ?_, ?_⟩
    · clear hS1
      go_simp
      try rfl
    go_simp
    refine mixH_nil ?_
    have V7 := Lib.hid (V6.out.trans (((Up.refl _).drew.trans uB).trans uC))
    replace X0 := Lib.hid (X0.out.up (((Up.refl _).drew.trans uB).trans uC))
    replace X2 := Lib.hid (X2.out.up (((Up.refl _).drew.trans uB).trans uC))
    replace VX := Lib.hid (VX.out.up (((Up.refl _).drew.trans uB).trans uC))
    clear uB uC V6
    go_wp2_with fail
    refine region_mixH (fun w' => Up wC w') [(0, true), (1, true), (2, false), (3, false), (4, true)] (by kernel_rfl) (by kernel_rfl) (Up.refl _).drew ?_
    refine mixH_take rfl (by rfl) ?_
    apply Exists.intro
    refine ⟨fun w1 hS1 => ?_, ?_⟩
    · have z0 := (X0.out.up hS1).cell (j := 0) rfl
      have z1 := (X0.out.up hS1).cell (j := 1) rfl
      have z2 := (X0.out.up hS1).cell (j := 2) rfl
      have lz := (X0.out.up hS1).lt
      have x0 := (X2.out.up hS1).cell (j := 0) rfl
      have x1 := (X2.out.up hS1).cell (j := 1) rfl
      have x2 := (X2.out.up hS1).cell (j := 2) rfl
      have lx := (X2.out.up hS1).lt
      clear hS1
      go_simp
      try rfl
    go_simp
    refine mixH_take rfl (by rfl) ?_
    apply Exists.intro
    refine ⟨fun w1 hS1 => ?_, ?_⟩
    · have z0 := (X0.out.up hS1).cell (j := 0) rfl
      have z1 := (X0.out.up hS1).cell (j := 1) rfl
      have z2 := (X0.out.up hS1).cell (j := 2) rfl
      have lz := (X0.out.up hS1).lt
      have x0 := (X2.out.up hS1).cell (j := 0) rfl
      have x1 := (X2.out.up hS1).cell (j := 1) rfl
      have x2 := (X2.out.up hS1).cell (j := 2) rfl
      have lx := (X2.out.up hS1).lt
      clear hS1
      go_simp
      try rfl
    go_simp
    refine mixH_go rfl (by rfl) (fun K hK => ?_)
    go_simp
    refine (CT.out _ (V7.out.trans (Up.refl _).drew) SH.out).mono ?_
    rintro x wA ⟨g5, g6, rfl, hg5, hg6, o5, o6, uA⟩
    refine hK _ _ ((Up.refl _).drew.trans uA) ?_
    clear hK K
    go_simp
    refine mixH_go rfl (by rfl) (fun K hK => ?_)
    go_simp
    refine (CE.out _ n n _ k k _ n n _ k k _ (VX.out.up ((Up.refl _).drew.trans uA)) (NewMdl.v o5 o6 hk) SH.out.fit).mono ?_
    rintro x wC ⟨rfl, uC⟩
    refine hK _ _ (((Up.refl _).drew.trans uA).trans uC) ?_
    clear hK K
    go_simp
    refine mixH_take rfl (by rfl) ?_
    apply Exists.intro
    refine ⟨fun w1 hS1 => ?_, ?_⟩
    · clear hS1
      go_simp
      try rfl
    go_simp
    refine mixH_nil ?_
    have V8 := Lib.hid (V7.out.trans (((Up.refl _).drew.trans uA).trans uC))
    go_wp2
    go_ret
    exact ⟨rfl, V8.out⟩

end Go.Proofs.Ytojnphchkdjafaa

/-
  What DrawTokVisit gives, in one sentence: a model, a token, a mark and a number, with new blocks alone; for every code that lies in memory.
-/
import Derived.Test.YtpainlcehgiokaaDLVisit24
namespace Go.Proofs.Ytpainlcehgiokaa
set_option maxRecDepth 100000
open Go.RowKit
set_option linter.unusedVariables false
def DrawnVis (w : World) (x : Ending) (w' : World) : Prop :=
  ∃ (A : Option Addr) (n c : Nat) (B : Option Addr) (k d : Nat) (m : Mdl) (t : Gk) (q : Gm) (z : Int), x = .returned (.tuple #[.agg #[.slice A n c, .slice B k d, .int .i64 m.til], t.v, q.v, .int .i64 z]) ∧ MdlV w' A n B k m ∧ (n ≤ 32 ∧ n ≤ c ∧ c ≤ 9223372036854775807) ∧ (-1 ≤ m.til ∧ m.til ≤ 100) ∧ Up w w'
set_option maxHeartbeats 20000000 in
theorem drawVis_any (A : Option Addr) (n cap : Nat) (w : World) (hc : n ≤ cap) (hmax : cap ≤ 9223372036854775807) (hB : Bys w A n w.heap.size) :
    Calls Try.prog 5 #[.slice A n cap] w (DrawnVis w) := by
  have HB := Lib.hid hB
  clear hB
  have X2 := Lib.hid (((Bk.new w #[.slice none 0 0, .slice none 0 0, .int .i64 0] 26).alloc (.cells #[.bool false, .int .i64 0, .int .i64 0, .int .i64 0, .int .i64 0] 28)).alloc (.cells #[.int .i64 0, .int .i64 0, .int .i64 0, .int .i64 0] 30))
  have X3 := Lib.hid ((Bk.new (w.alloc (.cells #[.slice none 0 0, .slice none 0 0, .int .i64 0] 26)) #[.bool false, .int .i64 0, .int .i64 0, .int .i64 0, .int .i64 0] 28).alloc (.cells #[.int .i64 0, .int .i64 0, .int .i64 0, .int .i64 0] 30))
  have X4 := Lib.hid (Bk.new ((w.alloc (.cells #[.slice none 0 0, .slice none 0 0, .int .i64 0] 26)).alloc (.cells #[.bool false, .int .i64 0, .int .i64 0, .int .i64 0, .int .i64 0] 28)) #[.int .i64 0, .int .i64 0, .int .i64 0, .int .i64 0] 30)
  simp only [World.size_alloc] at X3 X4
  have U0 := Lib.hid ((((Up.refl w).alloc (.cells #[.slice none 0 0, .slice none 0 0, .int .i64 0] 26)).alloc (.cells #[.bool false, .int .i64 0, .int .i64 0, .int .i64 0, .int .i64 0] 28)).alloc (.cells #[.int .i64 0, .int .i64 0, .int .i64 0, .int .i64 0] 30))
  go_enter Try.func5, Try.ntmps5
  go_wp2_with fail
  generalize hW0 : ((w.alloc (.cells #[.slice none 0 0, .slice none 0 0, .int .i64 0] 26)).alloc (.cells #[.bool false, .int .i64 0, .int .i64 0, .int .i64 0, .int .i64 0] 28)).alloc (.cells #[.int .i64 0, .int .i64 0, .int .i64 0, .int .i64 0] 30) = W0 at *
  have hs0 : W0.heap.size = w.heap.size + 1 + 1 + 1 := by rw [← hW0]; simp
  have HB0 : Bys W0 A n W0.heap.size := fun h0 => by
    obtain ⟨b, off, hA, hb, hcc⟩ := HB.out.keep (fun b o hb => U0.out.cells b o hb) h0
    exact ⟨b, off, hA, by omega, hcc⟩
  clear hW0
  generalize hb4 : w.heap.size + 1 + 1 = b4 at *
  generalize hb3 : w.heap.size + 1 = b3 at *
  generalize hb2 : w.heap.size = b2 at *
  refine (open_any A n cap _ hc hmax HB0).mono ?_; rintro x wO ⟨g, rfl, hg, r1, u1⟩
  have hgO := r1.lt
  have R1 := Lib.hid r1
  have U1 := Lib.hid (U0.out.trans u1)
  have hOs : W0.heap.size ≤ wO.heap.size := u1.size
  replace X2 := Lib.hid (X2.out.up u1)
  replace X3 := Lib.hid (X3.out.up u1)
  replace X4 := Lib.hid (X4.out.up u1)
  have n2g : b2 ≠ g := by omega
  have n3g : b3 ≠ g := by omega
  have n4g : b4 ≠ g := by omega
  clear u1 r1 HB0 U0 HB
  go_wp2_with fail
  refine (model_any g 0 24 _ ⟨by omega, by omega⟩ (by omega) R1.out).mono ?_; rintro x w2 ⟨A, n, c, B, k, d, m, rfl, MV, ⟨hn, hnc, hcm⟩, _, ⟨ht0, ht1⟩, _, r2, m2⟩
  have M2 := Lib.hid MV
  have UM := Lib.hid ((m2.up U1.out (by omega)).alloc (.cells #[.slice A n c, .slice B k d, .int .i64 m.til] 26))
  have hg2 := r2.lt
  replace X2 := Lib.hid ((X2.out.mv m2 n2g).alloc (.cells #[.slice A n c, .slice B k d, .int .i64 m.til] 26))
  replace X3 := Lib.hid ((X3.out.mv m2 n3g).alloc (.cells #[.slice A n c, .slice B k d, .int .i64 m.til] 26))
  replace X4 := Lib.hid ((X4.out.mv m2 n4g).alloc (.cells #[.slice A n c, .slice B k d, .int .i64 m.til] 26))
  have X7 := Lib.hid (Bk.new w2 #[.slice A n c, .slice B k d, .int .i64 m.til] 26)
  have RR := Lib.hid (r2.alloc (.cells #[.slice A n c, .slice B k d, .int .i64 m.til] 26))
  have SM := Lib.hid (Sml.of_up (lo := wO.heap.size) ((Up.refl w2).alloc (.cells #[.slice A n c, .slice B k d, .int .i64 m.til] 26)))
  have hs2 : wO.heap.size ≤ w2.heap.size := m2.size
  have hW2 : w2.heap.size + 1 = (w2.alloc (.cells #[.slice A n c, .slice B k d, .int .i64 m.til] 26)).heap.size := by simp
  have h7o := X7.out.cell (j := 0) rfl
  have h7p := X7.out.cell (j := 1) rfl
  have h7q := X7.out.cell (j := 2) rfl
  have h7l := X7.out.lt
  clear MV m2 r2 R1 U1
  go_wp2_with fail
  generalize w2.alloc (.cells #[.slice A n c, .slice B k d, .int .i64 m.til] 26) = W2 at *
  generalize hb7 : w2.heap.size = b7 at *
  have n7g : b7 ≠ g := by omega
  refine (tok_any g (0 + 2000) A n c B k d m.til 16 W2 ⟨by omega, by omega⟩ (by omega) (by omega) ⟨ht0, ht1⟩ RR.out).mono ?_; rintro x w3 ⟨⟨p0, p1, p2, p3, p4⟩, rfl, r3, m3⟩; unfold Gk.v; dsimp only
  have hs3 : W2.heap.size ≤ w3.heap.size := m3.size
  clear h7o h7p h7q h7l
  replace X2 := Lib.hid (X2.out.mv m3 n2g)
  replace X3 := Lib.hid (X3.out.mv m3 n3g)
  replace X4 := Lib.hid (X4.out.mv m3 n4g)
  replace X7 := Lib.hid (X7.out.mv m3 n7g)
  replace SM := Lib.hid (SM.out.trans (Sml.of_mv m3 (show g < wO.heap.size by omega)))
  replace UM := Lib.hid (m3.up UM.out (by omega))
  have ua := (Up.refl w3).alloc (.cells #[.bool p0, .int .i64 p1, .int .i64 p2, .int .i64 p3, .int .i64 p4] 28)
  replace X2 := Lib.hid (X2.out.up ua)
  replace X3 := Lib.hid (X3.out.up ua)
  replace X4 := Lib.hid (X4.out.up ua)
  replace X7 := Lib.hid (X7.out.up ua)
  replace SM := Lib.hid (SM.out.trans (Sml.of_up ua))
  replace UM := Lib.hid (UM.out.trans ua)
  have X8 := Lib.hid (Bk.new w3 #[.bool p0, .int .i64 p1, .int .i64 p2, .int .i64 p3, .int .i64 p4] 28)
  replace RR := Lib.hid (r3.up ua)
  clear r3 m3 ua
  have hW3 : w3.heap.size + 1 = (w3.alloc (.cells #[.bool p0, .int .i64 p1, .int .i64 p2, .int .i64 p3, .int .i64 p4] 28)).heap.size := by simp
  have x7_0 := X7.out.cell (j := 0) rfl
  have x7_1 := X7.out.cell (j := 1) rfl
  have x7_2 := X7.out.cell (j := 2) rfl
  have lx7 := X7.out.lt
  go_wp2_with fail
  generalize w3.alloc (.cells #[.bool p0, .int .i64 p1, .int .i64 p2, .int .i64 p3, .int .i64 p4] 28) = W3 at *
  generalize hb8 : w3.heap.size = b8 at *
  have n8g : b8 ≠ g := by omega
  refine (mark_any g (0 + 2000 + 60) A n c B k d m.til 16 W3 ⟨by omega, by omega⟩ (by omega) (by omega) ⟨ht0, ht1⟩ RR.out).mono ?_; rintro x w4 ⟨⟨q0, q1, q2, q3⟩, rfl, r4, m4⟩; unfold Gm.v; dsimp only
  have hs4 : W3.heap.size ≤ w4.heap.size := m4.size
  clear x7_0 x7_1 x7_2 lx7
  replace X2 := Lib.hid (X2.out.mv m4 n2g)
  replace X3 := Lib.hid (X3.out.mv m4 n3g)
  replace X4 := Lib.hid (X4.out.mv m4 n4g)
  replace X7 := Lib.hid (X7.out.mv m4 n7g)
  replace X8 := Lib.hid (X8.out.mv m4 n8g)
  replace SM := Lib.hid (SM.out.trans (Sml.of_mv m4 (show g < wO.heap.size by omega)))
  replace UM := Lib.hid (m4.up UM.out (by omega))
  have ua := (Up.refl w4).alloc (.cells #[.int .i64 q0, .int .i64 q1, .int .i64 q2, .int .i64 q3] 30)
  replace X2 := Lib.hid (X2.out.up ua)
  replace X3 := Lib.hid (X3.out.up ua)
  replace X4 := Lib.hid (X4.out.up ua)
  replace X7 := Lib.hid (X7.out.up ua)
  replace X8 := Lib.hid (X8.out.up ua)
  replace SM := Lib.hid (SM.out.trans (Sml.of_up ua))
  replace UM := Lib.hid (UM.out.trans ua)
  have X9 := Lib.hid (Bk.new w4 #[.int .i64 q0, .int .i64 q1, .int .i64 q2, .int .i64 q3] 30)
  replace RR := Lib.hid (r4.up ua)
  clear r4 m4 ua
  have hW4 : w4.heap.size + 1 = (w4.alloc (.cells #[.int .i64 q0, .int .i64 q1, .int .i64 q2, .int .i64 q3] 30)).heap.size := by simp
  go_wp2_with fail
  generalize w4.alloc (.cells #[.int .i64 q0, .int .i64 q1, .int .i64 q2, .int .i64 q3] 30) = W4 at *
  generalize hb9 : w4.heap.size = b9 at *
  have n9g : b9 ≠ g := by omega
  refine (pick_any g (0 + 2000 + 60 + 60) 6 _ ⟨by omega, by omega⟩ (by omega) RR.out).mono ?_; rintro x w5 ⟨zs, rfl, _, _, r5, m5⟩
  replace X2 := Lib.hid (X2.out.mv m5 n2g)
  replace X3 := Lib.hid (X3.out.mv m5 n3g)
  replace X4 := Lib.hid (X4.out.mv m5 n4g)
  replace X7 := Lib.hid (X7.out.mv m5 n7g)
  replace X8 := Lib.hid (X8.out.mv m5 n8g)
  replace X9 := Lib.hid (X9.out.mv m5 n9g)
  replace SM := Lib.hid (SM.out.trans (Sml.of_mv m5 (show g < wO.heap.size by omega)))
  replace UM := Lib.hid (m5.up UM.out (by omega))
  replace RR := Lib.hid r5
  have hs5 : W4.heap.size ≤ w5.heap.size := m5.size
  clear r5 m5; obtain ⟨q36, h36⟩ : ∃ q, IntKind.i64.wrap (m.til + 3) = q := ⟨_, rfl⟩
  have v36 : q36 = m.til + 3 := h36.symm.trans (IntWalk.i64_in _ (by omega))
  obtain ⟨q37, h37⟩ : ∃ q, (if q36 > 1 then q36 else 1) = q := ⟨_, rfl⟩
  have hq37 : I64 q37 := by rw [← h37]; split <;> exact ⟨by omega, by omega⟩
  clear v36
  by_cases hz : zs > 0
  · go_wp2_with fail
    have ud := (Up.refl w5).drew
    replace X2 := Lib.hid (X2.out.up ud)
    replace X3 := Lib.hid (X3.out.up ud)
    replace X4 := Lib.hid (X4.out.up ud)
    replace X7 := Lib.hid (X7.out.up ud)
    replace X8 := Lib.hid (X8.out.up ud)
    replace X9 := Lib.hid (X9.out.up ud)
    replace SM := Lib.hid (SM.out.trans (Sml.of_up ud))
    replace UM := Lib.hid (UM.out.trans ud)
    replace RR := Lib.hid (RR.out.up ud)
    clear ud
    have hSx : Bk w5.drew b8 #[.bool p0, .int .i64 p1, .int .i64 p2, .int .i64 p3, .int .i64 p4] := X8.out
    refine region_mixH (fun w1 => Bk w1 b8 #[.bool p0, .int .i64 p1, .int .i64 p2, .int .i64 p3, .int .i64 p4]) [(0, true), (1, true), (2, true), (3, false), (4, true), (5, true), (6, true), (7, false)] (by kernel_rfl) (by kernel_rfl) hSx ?_; refine mixH_take rfl (by rfl) ?_; apply Exists.intro; refine ⟨fun w1 hS1 => ?_, ?_⟩
    · have y0 := hS1.cell (j := 0) rfl
      have y1 := hS1.cell (j := 1) rfl
      have y2 := hS1.cell (j := 2) rfl
      have y3 := hS1.cell (j := 3) rfl
      have y4 := hS1.cell (j := 4) rfl
      have ly := hS1.lt
      clear hS1; go_simp
      try rfl
    go_simp; refine mixH_take rfl (by rfl) ?_; apply Exists.intro; refine ⟨fun w1 hS1 => ?_, ?_⟩
    · have y0 := hS1.cell (j := 0) rfl
      have y1 := hS1.cell (j := 1) rfl
      have y2 := hS1.cell (j := 2) rfl
      have y3 := hS1.cell (j := 3) rfl
      have y4 := hS1.cell (j := 4) rfl
      have ly := hS1.lt
      clear hS1; go_simp
      try rfl
    go_simp; refine mixH_take rfl (by rfl) ?_; apply Exists.intro; refine ⟨fun w1 hS1 => ?_, ?_⟩
    · clear hS1
      go_simp
      try rfl
    go_simp; refine mixH_go rfl (by rfl) (fun K hK => ?_); go_simp; refine (pick_any g (0 + 2000 + 60 + 60 + 1) 2 _ ⟨by omega, by omega⟩ (by omega) RR.out).mono ?_; rintro x wB ⟨z0, rfl, _, _, rB, mB⟩; refine hK _ _ (hSx.mv mB n8g) ?_; clear hK K
    replace X2 := Lib.hid (X2.out.mv mB n2g)
    replace X3 := Lib.hid (X3.out.mv mB n3g)
    replace X4 := Lib.hid (X4.out.mv mB n4g)
    replace X7 := Lib.hid (X7.out.mv mB n7g)
    replace X8 := Lib.hid (X8.out.mv mB n8g)
    replace X9 := Lib.hid (X9.out.mv mB n9g)
    replace SM := Lib.hid (SM.out.trans (Sml.of_mv mB (show g < wO.heap.size by omega)))
    replace UM := Lib.hid (mB.up UM.out (by omega))
    replace RR := Lib.hid rB
    clear rB mB hSx; obtain ⟨e0, he0⟩ : ∃ y, IntKind.i64.wrap (p1 - z0) = y := ⟨_, rfl⟩; obtain ⟨qm, hqm⟩ : ∃ q, (if e0 > 0 then e0 else 0) = q := ⟨_, rfl⟩; go_simp; refine mixH_take rfl (by rfl) ?_; apply Exists.intro; refine ⟨fun w1 hS1 => ?_, ?_⟩
    · clear hS1
      go_simp
      try rfl
    go_simp; refine mixH_take rfl (by rfl) ?_; apply Exists.intro; refine ⟨fun w1 hS1 => ?_, ?_⟩
    · clear hS1
      go_simp
      try rfl
    go_simp; refine mixH_take rfl (by rfl) ?_; apply Exists.intro; refine ⟨fun w1 hS1 => ?_, ?_⟩
    · clear hS1
      go_simp
      try rfl
    go_simp
    have x9_0 := X9.out.cell (j := 0) rfl
    have x9_1 := X9.out.cell (j := 1) rfl
    have x9_2 := X9.out.cell (j := 2) rfl
    have x9_3 := X9.out.cell (j := 3) rfl
    have lx9 := X9.out.lt
    have fx9 := fun j => X9.out.frozen j
    refine mixH_go rfl (by rfl) (fun K hK => ?_); go_simp; refine hK _ _ (bk_far _ _ X8.out (show b8 ≠ b9 by omega)) ?_; clear hK K
    replace X2 := Lib.hid (bk_far _ (o := 0) (.int .i64 qm) X2.out (show b2 ≠ b9 by omega))
    replace X3 := Lib.hid (bk_far _ (o := 0) (.int .i64 qm) X3.out (show b3 ≠ b9 by omega))
    replace X4 := Lib.hid (bk_far _ (o := 0) (.int .i64 qm) X4.out (show b4 ≠ b9 by omega))
    replace X7 := Lib.hid (bk_far _ (o := 0) (.int .i64 qm) X7.out (show b7 ≠ b9 by omega))
    replace X8 := Lib.hid (bk_far _ (o := 0) (.int .i64 qm) X8.out (show b8 ≠ b9 by omega))
    replace X9 : Hid (Bk _ b9 #[.int .i64 qm, .int .i64 q1, .int .i64 q2, .int .i64 q3]) := Lib.hid (bk_setC _ _ 0 (.int .i64 qm) X9.out)
    replace SM := Lib.hid (SM.out.setNew (b := b9) (o := 0) (u := .int .i64 qm) (by omega))
    replace UM := Lib.hid (UM.out.setCell (p := ⟨b9, 0, none⟩) (show w.heap.size ≤ b9 by omega) (.int .i64 qm))
    replace RR := Lib.hid (RR.out.setCell (p := ⟨b9, 0, none⟩) (show g < b9 by omega) (.int .i64 qm))
    clear x9_0 x9_1 x9_2 x9_3 lx9 fx9
    generalize wB.setCell ⟨b9, 0, none⟩ (.int .i64 qm) = wG at *
    go_simp; refine mixH_nil ?_
    go_wp2_with fail
    have ud := (Up.refl wG).drew
    replace X2 := Lib.hid (X2.out.up ud)
    replace X3 := Lib.hid (X3.out.up ud)
    replace X4 := Lib.hid (X4.out.up ud)
    replace X7 := Lib.hid (X7.out.up ud)
    replace X8 := Lib.hid (X8.out.up ud)
    replace X9 := Lib.hid (X9.out.up ud)
    replace SM := Lib.hid (SM.out.trans (Sml.of_up ud))
    replace UM := Lib.hid (UM.out.trans ud)
    replace RR := Lib.hid (RR.out.up ud)
    clear ud
    have hSx : Bk wG.drew b7 #[.slice A n c, .slice B k d, .int .i64 m.til] ∧ Bk wG.drew b8 #[.bool p0, .int .i64 p1, .int .i64 p2, .int .i64 p3, .int .i64 p4] ∧ Bk wG.drew b9 #[.int .i64 qm, .int .i64 q1, .int .i64 q2, .int .i64 q3] := ⟨X7.out, X8.out, X9.out⟩
    refine region_mixH (fun w1 => Bk w1 b7 #[.slice A n c, .slice B k d, .int .i64 m.til] ∧ Bk w1 b8 #[.bool p0, .int .i64 p1, .int .i64 p2, .int .i64 p3, .int .i64 p4] ∧ Bk w1 b9 #[.int .i64 qm, .int .i64 q1, .int .i64 q2, .int .i64 q3]) [(0, true), (1, true), (2, true), (3, true), (4, true), (5, true), (6, true), (7, true), (9, true), (8, false), (10, false), (11, true), (12, true), (13, false), (14, false), (15, false), (16, true)] (by kernel_rfl) (by kernel_rfl) hSx ?_; refine mixH_take rfl (by rfl) ?_; apply Exists.intro; refine ⟨fun w1 hS1 => ?_, ?_⟩
    · have z0 := hS1.1.cell (j := 0) rfl
      have z1 := hS1.1.cell (j := 1) rfl
      have z2 := hS1.1.cell (j := 2) rfl
      have lz := hS1.1.lt
      have y0 := hS1.2.1.cell (j := 0) rfl
      have y1 := hS1.2.1.cell (j := 1) rfl
      have y2 := hS1.2.1.cell (j := 2) rfl
      have y3 := hS1.2.1.cell (j := 3) rfl
      have y4 := hS1.2.1.cell (j := 4) rfl
      have ly := hS1.2.1.lt
      have v0 := hS1.2.2.cell (j := 0) rfl
      have v1 := hS1.2.2.cell (j := 1) rfl
      have v2 := hS1.2.2.cell (j := 2) rfl
      have v3 := hS1.2.2.cell (j := 3) rfl
      have lv := hS1.2.2.lt
      clear hS1; go_simp
      try rfl
    go_simp; refine mixH_take rfl (by rfl) ?_; apply Exists.intro; refine ⟨fun w1 hS1 => ?_, ?_⟩
    · have z0 := hS1.1.cell (j := 0) rfl
      have z1 := hS1.1.cell (j := 1) rfl
      have z2 := hS1.1.cell (j := 2) rfl
      have lz := hS1.1.lt
      have y0 := hS1.2.1.cell (j := 0) rfl
      have y1 := hS1.2.1.cell (j := 1) rfl
      have y2 := hS1.2.1.cell (j := 2) rfl
      have y3 := hS1.2.1.cell (j := 3) rfl
      have y4 := hS1.2.1.cell (j := 4) rfl
      have ly := hS1.2.1.lt
      have v0 := hS1.2.2.cell (j := 0) rfl
      have v1 := hS1.2.2.cell (j := 1) rfl
      have v2 := hS1.2.2.cell (j := 2) rfl
      have v3 := hS1.2.2.cell (j := 3) rfl
      have lv := hS1.2.2.lt
      clear hS1; go_simp
      try rfl
    go_simp; refine mixH_take rfl (by rfl) ?_; apply Exists.intro; refine ⟨fun w1 hS1 => ?_, ?_⟩
    · have z0 := hS1.1.cell (j := 0) rfl
      have z1 := hS1.1.cell (j := 1) rfl
      have z2 := hS1.1.cell (j := 2) rfl
      have lz := hS1.1.lt
      have y0 := hS1.2.1.cell (j := 0) rfl
      have y1 := hS1.2.1.cell (j := 1) rfl
      have y2 := hS1.2.1.cell (j := 2) rfl
      have y3 := hS1.2.1.cell (j := 3) rfl
      have y4 := hS1.2.1.cell (j := 4) rfl
      have ly := hS1.2.1.lt
      have v0 := hS1.2.2.cell (j := 0) rfl
      have v1 := hS1.2.2.cell (j := 1) rfl
      have v2 := hS1.2.2.cell (j := 2) rfl
      have v3 := hS1.2.2.cell (j := 3) rfl
      have lv := hS1.2.2.lt
      clear hS1; go_simp
      try rfl
    go_simp; refine mixH_take rfl (by rfl) ?_; apply Exists.intro; refine ⟨fun w1 hS1 => ?_, ?_⟩
    · clear hS1
      go_simp
      try rfl
    go_simp; refine mixH_take rfl (by rfl) ?_; apply Exists.intro; refine ⟨fun w1 hS1 => ?_, ?_⟩
    · have z0 := hS1.1.cell (j := 0) rfl
      have z1 := hS1.1.cell (j := 1) rfl
      have z2 := hS1.1.cell (j := 2) rfl
      have lz := hS1.1.lt
      have y0 := hS1.2.1.cell (j := 0) rfl
      have y1 := hS1.2.1.cell (j := 1) rfl
      have y2 := hS1.2.1.cell (j := 2) rfl
      have y3 := hS1.2.1.cell (j := 3) rfl
      have y4 := hS1.2.1.cell (j := 4) rfl
      have ly := hS1.2.1.lt
      have v0 := hS1.2.2.cell (j := 0) rfl
      have v1 := hS1.2.2.cell (j := 1) rfl
      have v2 := hS1.2.2.cell (j := 2) rfl
      have v3 := hS1.2.2.cell (j := 3) rfl
      have lv := hS1.2.2.lt
      clear hS1; go_simp
      try rfl
    go_simp; refine mixH_take rfl (by rfl) ?_; apply Exists.intro; refine ⟨fun w1 hS1 => ?_, ?_⟩
    · have z0 := hS1.1.cell (j := 0) rfl
      have z1 := hS1.1.cell (j := 1) rfl
      have z2 := hS1.1.cell (j := 2) rfl
      have lz := hS1.1.lt
      have y0 := hS1.2.1.cell (j := 0) rfl
      have y1 := hS1.2.1.cell (j := 1) rfl
      have y2 := hS1.2.1.cell (j := 2) rfl
      have y3 := hS1.2.1.cell (j := 3) rfl
      have y4 := hS1.2.1.cell (j := 4) rfl
      have ly := hS1.2.1.lt
      have v0 := hS1.2.2.cell (j := 0) rfl
      have v1 := hS1.2.2.cell (j := 1) rfl
      have v2 := hS1.2.2.cell (j := 2) rfl
      have v3 := hS1.2.2.cell (j := 3) rfl
      have lv := hS1.2.2.lt
      clear hS1; go_simp
      try rfl
    go_simp; refine mixH_take rfl (by rfl) ?_; apply Exists.intro; refine ⟨fun w1 hS1 => ?_, ?_⟩
    · clear hS1
      go_simp
      try rfl
    go_simp; refine mixH_take rfl (by rfl) ?_; apply Exists.intro; refine ⟨fun w1 hS1 => ?_, ?_⟩
    · clear hS1
      go_simp
      try rfl
    go_simp; refine mixH_take rfl (by rfl) ?_; apply Exists.intro; refine ⟨fun w1 hS1 => ?_, ?_⟩
    · clear hS1
      go_simp
      try rfl
    go_simp; refine mixH_go rfl (by rfl) (fun K hK => ?_); go_simp; refine (pick_any g (0 + 2000 + 60 + 60 + 1 + 1) q37 _ hq37 (by omega) RR.out).mono ?_; rintro x wB ⟨zz, rfl, _, _, rB, mB⟩; refine hK _ _ (⟨hSx.1.mv mB n7g, hSx.2.1.mv mB n8g, hSx.2.2.mv mB n9g⟩) ?_; clear hK K
    replace X2 := Lib.hid (X2.out.mv mB n2g)
    replace X3 := Lib.hid (X3.out.mv mB n3g)
    replace X4 := Lib.hid (X4.out.mv mB n4g)
    replace X7 := Lib.hid (X7.out.mv mB n7g)
    replace X8 := Lib.hid (X8.out.mv mB n8g)
    replace X9 := Lib.hid (X9.out.mv mB n9g)
    replace SM := Lib.hid (SM.out.trans (Sml.of_mv mB (show g < wO.heap.size by omega)))
    replace UM := Lib.hid (mB.up UM.out (by omega))
    replace RR := Lib.hid rB
    clear rB mB hSx; go_simp; refine mixH_go rfl (by rfl) (fun K hK => ?_); go_simp; refine (pick_any g (0 + 2000 + 60 + 60 + 1 + 1 + 1) 12 _ ⟨by omega, by omega⟩ (by omega) RR.out).mono ?_; rintro x wC ⟨zz2, rfl, _, _, rC, mC⟩; refine hK _ _ (⟨X7.out.mv mC n7g, X8.out.mv mC n8g, X9.out.mv mC n9g⟩) ?_; clear hK K
    replace X2 := Lib.hid (X2.out.mv mC n2g)
    replace X3 := Lib.hid (X3.out.mv mC n3g)
    replace X4 := Lib.hid (X4.out.mv mC n4g)
    replace X7 := Lib.hid (X7.out.mv mC n7g)
    replace X8 := Lib.hid (X8.out.mv mC n8g)
    replace X9 := Lib.hid (X9.out.mv mC n9g)
    replace SM := Lib.hid (SM.out.trans (Sml.of_mv mC (show g < wO.heap.size by omega)))
    replace UM := Lib.hid (mC.up UM.out (by omega))
    replace RR := Lib.hid rC
    obtain ⟨e1, he1⟩ : ∃ y, Int.tdiv zz2 11 = y := ⟨_, rfl⟩; obtain ⟨e2, he2⟩ : ∃ y, IntKind.i64.wrap e1 = y := ⟨_, rfl⟩; obtain ⟨e3, he3⟩ : ∃ y, IntKind.i64.wrap (zz - e2) = y := ⟨_, rfl⟩; clear rC mC; go_simp; refine mixH_take rfl (by rfl) ?_; apply Exists.intro; refine ⟨fun w1 hS1 => ?_, ?_⟩
    · clear hS1
      go_simp
      try rfl
    go_simp; refine mixH_take rfl (by rfl) ?_; apply Exists.intro; refine ⟨fun w1 hS1 => ?_, ?_⟩
    · clear hS1
      go_simp
      try rfl
    go_simp
    have x2_0 := X2.out.cell (j := 0) rfl
    have x2_1 := X2.out.cell (j := 1) rfl
    have x2_2 := X2.out.cell (j := 2) rfl
    have lx2 := X2.out.lt
    have fx2 := fun j => X2.out.frozen j
    refine mixH_go rfl (by rfl) (fun K hK => ?_); go_simp; refine hK _ _ (⟨putM_far X7.out (by omega) (.slice A n c) (.slice B k d) (.int .i64 m.til), putM_far X8.out (by omega) (.slice A n c) (.slice B k d) (.int .i64 m.til), putM_far X9.out (by omega) (.slice A n c) (.slice B k d) (.int .i64 m.til)⟩) ?_; clear hK K
    replace X3 := Lib.hid (putM_far X3.out (show b3 ≠ b2 by omega) (.slice A n c) (.slice B k d) (.int .i64 m.til))
    replace X4 := Lib.hid (putM_far X4.out (show b4 ≠ b2 by omega) (.slice A n c) (.slice B k d) (.int .i64 m.til))
    replace X7 := Lib.hid (putM_far X7.out (show b7 ≠ b2 by omega) (.slice A n c) (.slice B k d) (.int .i64 m.til))
    replace X8 := Lib.hid (putM_far X8.out (show b8 ≠ b2 by omega) (.slice A n c) (.slice B k d) (.int .i64 m.til))
    replace X9 := Lib.hid (putM_far X9.out (show b9 ≠ b2 by omega) (.slice A n c) (.slice B k d) (.int .i64 m.til))
    replace SM := Lib.hid (putM_sml (b := b2) SM.out (by omega) (.slice A n c) (.slice B k d) (.int .i64 m.til))
    replace UM := Lib.hid (putM_up (b := b2) UM.out (by omega) (.slice A n c) (.slice B k d) (.int .i64 m.til))
    replace X2 := Lib.hid (putM_bk X2.out (.slice A n c) (.slice B k d) (.int .i64 m.til))
    unfold putM at X2 X3 X4 X7 X8 X9 SM UM; clear x2_0 x2_1 x2_2 lx2 fx2
    generalize ((wC.setCell ⟨b2, 0, none⟩ (.slice A n c)).setCell ⟨b2, 1, none⟩ (.slice B k d)).setCell ⟨b2, 2, none⟩ (.int .i64 m.til) = wD at *
    go_simp
    have x3_0 := X3.out.cell (j := 0) rfl
    have x3_1 := X3.out.cell (j := 1) rfl
    have x3_2 := X3.out.cell (j := 2) rfl
    have x3_3 := X3.out.cell (j := 3) rfl
    have x3_4 := X3.out.cell (j := 4) rfl
    have lx3 := X3.out.lt
    have fx3 := fun j => X3.out.frozen j
    refine mixH_go rfl (by rfl) (fun K hK => ?_); go_simp; refine hK _ _ (⟨putK_far X7.out (by omega) p0 p1 p2 p3 p4, putK_far X8.out (by omega) p0 p1 p2 p3 p4, putK_far X9.out (by omega) p0 p1 p2 p3 p4⟩) ?_; clear hK K
    replace X2 := Lib.hid (putK_far X2.out (show b2 ≠ b3 by omega) p0 p1 p2 p3 p4)
    replace X4 := Lib.hid (putK_far X4.out (show b4 ≠ b3 by omega) p0 p1 p2 p3 p4)
    replace X7 := Lib.hid (putK_far X7.out (show b7 ≠ b3 by omega) p0 p1 p2 p3 p4)
    replace X8 := Lib.hid (putK_far X8.out (show b8 ≠ b3 by omega) p0 p1 p2 p3 p4)
    replace X9 := Lib.hid (putK_far X9.out (show b9 ≠ b3 by omega) p0 p1 p2 p3 p4)
    replace SM := Lib.hid (putK_sml (b := b3) SM.out (by omega) p0 p1 p2 p3 p4)
    replace UM := Lib.hid (putK_up (b := b3) UM.out (by omega) p0 p1 p2 p3 p4)
    replace X3 := Lib.hid (putK_bk X3.out p0 p1 p2 p3 p4)
    unfold putK at X2 X3 X4 X7 X8 X9 SM UM; clear x3_0 x3_1 x3_2 x3_3 x3_4 lx3 fx3
    generalize ((((wD.setCell ⟨b3, 0, none⟩ (.bool p0)).setCell ⟨b3, 1, none⟩ (.int .i64 p1)).setCell ⟨b3, 2, none⟩ (.int .i64 p2)).setCell ⟨b3, 3, none⟩ (.int .i64 p3)).setCell ⟨b3, 4, none⟩ (.int .i64 p4) = wE at *
    go_simp
    have x4_0 := X4.out.cell (j := 0) rfl
    have x4_1 := X4.out.cell (j := 1) rfl
    have x4_2 := X4.out.cell (j := 2) rfl
    have x4_3 := X4.out.cell (j := 3) rfl
    have lx4 := X4.out.lt
    have fx4 := fun j => X4.out.frozen j
    refine mixH_go rfl (by rfl) (fun K hK => ?_); go_simp; refine hK _ _ (⟨putG_far X7.out (by omega) qm q1 q2 q3, putG_far X8.out (by omega) qm q1 q2 q3, putG_far X9.out (by omega) qm q1 q2 q3⟩) ?_; clear hK K
    replace X2 := Lib.hid (putG_far X2.out (show b2 ≠ b4 by omega) qm q1 q2 q3)
    replace X3 := Lib.hid (putG_far X3.out (show b3 ≠ b4 by omega) qm q1 q2 q3)
    replace X7 := Lib.hid (putG_far X7.out (show b7 ≠ b4 by omega) qm q1 q2 q3)
    replace X8 := Lib.hid (putG_far X8.out (show b8 ≠ b4 by omega) qm q1 q2 q3)
    replace X9 := Lib.hid (putG_far X9.out (show b9 ≠ b4 by omega) qm q1 q2 q3)
    replace SM := Lib.hid (putG_sml (b := b4) SM.out (by omega) qm q1 q2 q3)
    replace UM := Lib.hid (putG_up (b := b4) UM.out (by omega) qm q1 q2 q3)
    replace X4 := Lib.hid (putG_bk X4.out qm q1 q2 q3)
    unfold putG at X2 X3 X4 X7 X8 X9 SM UM; clear x4_0 x4_1 x4_2 x4_3 lx4 fx4
    generalize (((wE.setCell ⟨b4, 0, none⟩ (.int .i64 qm)).setCell ⟨b4, 1, none⟩ (.int .i64 q1)).setCell ⟨b4, 2, none⟩ (.int .i64 q2)).setCell ⟨b4, 3, none⟩ (.int .i64 q3) = wF at *
    go_simp; refine mixH_take rfl (by rfl) ?_; apply Exists.intro; refine ⟨fun w1 hS1 => ?_, ?_⟩
    · clear hS1
      go_simp
      try rfl
    go_simp; refine mixH_nil ?_
    have k0 := X2.out.cell (j := 0) rfl
    have k1 := X2.out.cell (j := 1) rfl
    have k2 := X2.out.cell (j := 2) rfl
    have g0 := X3.out.cell (j := 0) rfl
    have g1 := X3.out.cell (j := 1) rfl
    have g2 := X3.out.cell (j := 2) rfl
    have g3 := X3.out.cell (j := 3) rfl
    have g4 := X3.out.cell (j := 4) rfl
    have j0 := X4.out.cell (j := 0) rfl
    have j1 := X4.out.cell (j := 1) rfl
    have j2 := X4.out.cell (j := 2) rfl
    have j3 := X4.out.cell (j := 3) rfl
    go_wp2
    exact bodyPost_ret (v := .tuple #[.agg #[.slice A n c, .slice B k d, .int .i64 m.til], .agg #[.bool p0, .int .i64 p1, .int .i64 p2, .int .i64 p3, .int .i64 p4], .agg #[.int .i64 qm, .int .i64 q1, .int .i64 q2, .int .i64 q3], .int .i64 e3]) (by simp [results, Try.results5, go_sem, k0, k1, k2, g0, g1, g2, g3, g4, j0, j1, j2, j3]) rfl
      ⟨A, n, c, B, k, d, m, ⟨p0, p1, p2, p3, p4⟩, ⟨qm, q1, q2, q3⟩, e3, rfl, M2.out _ SM.out, ⟨hn, hnc, hcm⟩, ⟨ht0, ht1⟩, UM.out⟩
  · go_wp2_with fail
    have ud := (Up.refl w5).drew
    replace X2 := Lib.hid (X2.out.up ud)
    replace X3 := Lib.hid (X3.out.up ud)
    replace X4 := Lib.hid (X4.out.up ud)
    replace X7 := Lib.hid (X7.out.up ud)
    replace X8 := Lib.hid (X8.out.up ud)
    replace X9 := Lib.hid (X9.out.up ud)
    replace SM := Lib.hid (SM.out.trans (Sml.of_up ud))
    replace UM := Lib.hid (UM.out.trans ud)
    replace RR := Lib.hid (RR.out.up ud)
    clear ud
    have hSx : Bk w5.drew b7 #[.slice A n c, .slice B k d, .int .i64 m.til] ∧ Bk w5.drew b8 #[.bool p0, .int .i64 p1, .int .i64 p2, .int .i64 p3, .int .i64 p4] ∧ Bk w5.drew b9 #[.int .i64 q0, .int .i64 q1, .int .i64 q2, .int .i64 q3] := ⟨X7.out, X8.out, X9.out⟩
    refine region_mixH (fun w1 => Bk w1 b7 #[.slice A n c, .slice B k d, .int .i64 m.til] ∧ Bk w1 b8 #[.bool p0, .int .i64 p1, .int .i64 p2, .int .i64 p3, .int .i64 p4] ∧ Bk w1 b9 #[.int .i64 q0, .int .i64 q1, .int .i64 q2, .int .i64 q3]) [(0, true), (1, true), (2, true), (3, true), (4, true), (5, true), (6, true), (7, true), (9, true), (8, false), (10, false), (11, true), (12, true), (13, false), (14, false), (15, false), (16, true)] (by kernel_rfl) (by kernel_rfl) hSx ?_; refine mixH_take rfl (by rfl) ?_; apply Exists.intro; refine ⟨fun w1 hS1 => ?_, ?_⟩
    · have z0 := hS1.1.cell (j := 0) rfl
      have z1 := hS1.1.cell (j := 1) rfl
      have z2 := hS1.1.cell (j := 2) rfl
      have lz := hS1.1.lt
      have y0 := hS1.2.1.cell (j := 0) rfl
      have y1 := hS1.2.1.cell (j := 1) rfl
      have y2 := hS1.2.1.cell (j := 2) rfl
      have y3 := hS1.2.1.cell (j := 3) rfl
      have y4 := hS1.2.1.cell (j := 4) rfl
      have ly := hS1.2.1.lt
      have v0 := hS1.2.2.cell (j := 0) rfl
      have v1 := hS1.2.2.cell (j := 1) rfl
      have v2 := hS1.2.2.cell (j := 2) rfl
      have v3 := hS1.2.2.cell (j := 3) rfl
      have lv := hS1.2.2.lt
      clear hS1; go_simp
      try rfl
    go_simp; refine mixH_take rfl (by rfl) ?_; apply Exists.intro; refine ⟨fun w1 hS1 => ?_, ?_⟩
    · have z0 := hS1.1.cell (j := 0) rfl
      have z1 := hS1.1.cell (j := 1) rfl
      have z2 := hS1.1.cell (j := 2) rfl
      have lz := hS1.1.lt
      have y0 := hS1.2.1.cell (j := 0) rfl
      have y1 := hS1.2.1.cell (j := 1) rfl
      have y2 := hS1.2.1.cell (j := 2) rfl
      have y3 := hS1.2.1.cell (j := 3) rfl
      have y4 := hS1.2.1.cell (j := 4) rfl
      have ly := hS1.2.1.lt
      have v0 := hS1.2.2.cell (j := 0) rfl
      have v1 := hS1.2.2.cell (j := 1) rfl
      have v2 := hS1.2.2.cell (j := 2) rfl
      have v3 := hS1.2.2.cell (j := 3) rfl
      have lv := hS1.2.2.lt
      clear hS1; go_simp
      try rfl
    go_simp; refine mixH_take rfl (by rfl) ?_; apply Exists.intro; refine ⟨fun w1 hS1 => ?_, ?_⟩
    · have z0 := hS1.1.cell (j := 0) rfl
      have z1 := hS1.1.cell (j := 1) rfl
      have z2 := hS1.1.cell (j := 2) rfl
      have lz := hS1.1.lt
      have y0 := hS1.2.1.cell (j := 0) rfl
      have y1 := hS1.2.1.cell (j := 1) rfl
      have y2 := hS1.2.1.cell (j := 2) rfl
      have y3 := hS1.2.1.cell (j := 3) rfl
      have y4 := hS1.2.1.cell (j := 4) rfl
      have ly := hS1.2.1.lt
      have v0 := hS1.2.2.cell (j := 0) rfl
      have v1 := hS1.2.2.cell (j := 1) rfl
      have v2 := hS1.2.2.cell (j := 2) rfl
      have v3 := hS1.2.2.cell (j := 3) rfl
      have lv := hS1.2.2.lt
      clear hS1; go_simp
      try rfl
    go_simp; refine mixH_take rfl (by rfl) ?_; apply Exists.intro; refine ⟨fun w1 hS1 => ?_, ?_⟩
    · clear hS1
      go_simp
      try rfl
    go_simp; refine mixH_take rfl (by rfl) ?_; apply Exists.intro; refine ⟨fun w1 hS1 => ?_, ?_⟩
    · have z0 := hS1.1.cell (j := 0) rfl
      have z1 := hS1.1.cell (j := 1) rfl
      have z2 := hS1.1.cell (j := 2) rfl
      have lz := hS1.1.lt
      have y0 := hS1.2.1.cell (j := 0) rfl
      have y1 := hS1.2.1.cell (j := 1) rfl
      have y2 := hS1.2.1.cell (j := 2) rfl
      have y3 := hS1.2.1.cell (j := 3) rfl
      have y4 := hS1.2.1.cell (j := 4) rfl
      have ly := hS1.2.1.lt
      have v0 := hS1.2.2.cell (j := 0) rfl
      have v1 := hS1.2.2.cell (j := 1) rfl
      have v2 := hS1.2.2.cell (j := 2) rfl
      have v3 := hS1.2.2.cell (j := 3) rfl
      have lv := hS1.2.2.lt
      clear hS1; go_simp
      try rfl
    go_simp; refine mixH_take rfl (by rfl) ?_; apply Exists.intro; refine ⟨fun w1 hS1 => ?_, ?_⟩
    · have z0 := hS1.1.cell (j := 0) rfl
      have z1 := hS1.1.cell (j := 1) rfl
      have z2 := hS1.1.cell (j := 2) rfl
      have lz := hS1.1.lt
      have y0 := hS1.2.1.cell (j := 0) rfl
      have y1 := hS1.2.1.cell (j := 1) rfl
      have y2 := hS1.2.1.cell (j := 2) rfl
      have y3 := hS1.2.1.cell (j := 3) rfl
      have y4 := hS1.2.1.cell (j := 4) rfl
      have ly := hS1.2.1.lt
      have v0 := hS1.2.2.cell (j := 0) rfl
      have v1 := hS1.2.2.cell (j := 1) rfl
      have v2 := hS1.2.2.cell (j := 2) rfl
      have v3 := hS1.2.2.cell (j := 3) rfl
      have lv := hS1.2.2.lt
      clear hS1; go_simp
      try rfl
    go_simp; refine mixH_take rfl (by rfl) ?_; apply Exists.intro; refine ⟨fun w1 hS1 => ?_, ?_⟩
    · clear hS1
      go_simp
      try rfl
    go_simp; refine mixH_take rfl (by rfl) ?_; apply Exists.intro; refine ⟨fun w1 hS1 => ?_, ?_⟩
    · clear hS1
      go_simp
      try rfl
    go_simp; refine mixH_take rfl (by rfl) ?_; apply Exists.intro; refine ⟨fun w1 hS1 => ?_, ?_⟩
    · clear hS1
      go_simp
      try rfl
    go_simp; refine mixH_go rfl (by rfl) (fun K hK => ?_); go_simp; refine (pick_any g (0 + 2000 + 60 + 60 + 1) q37 _ hq37 (by omega) RR.out).mono ?_; rintro x wB ⟨zz, rfl, _, _, rB, mB⟩; refine hK _ _ (⟨hSx.1.mv mB n7g, hSx.2.1.mv mB n8g, hSx.2.2.mv mB n9g⟩) ?_; clear hK K
    replace X2 := Lib.hid (X2.out.mv mB n2g)
    replace X3 := Lib.hid (X3.out.mv mB n3g)
    replace X4 := Lib.hid (X4.out.mv mB n4g)
    replace X7 := Lib.hid (X7.out.mv mB n7g)
    replace X8 := Lib.hid (X8.out.mv mB n8g)
    replace X9 := Lib.hid (X9.out.mv mB n9g)
    replace SM := Lib.hid (SM.out.trans (Sml.of_mv mB (show g < wO.heap.size by omega)))
    replace UM := Lib.hid (mB.up UM.out (by omega))
    replace RR := Lib.hid rB
    clear rB mB hSx; go_simp; refine mixH_go rfl (by rfl) (fun K hK => ?_); go_simp; refine (pick_any g (0 + 2000 + 60 + 60 + 1 + 1) 12 _ ⟨by omega, by omega⟩ (by omega) RR.out).mono ?_; rintro x wC ⟨zz2, rfl, _, _, rC, mC⟩; refine hK _ _ (⟨X7.out.mv mC n7g, X8.out.mv mC n8g, X9.out.mv mC n9g⟩) ?_; clear hK K
    replace X2 := Lib.hid (X2.out.mv mC n2g)
    replace X3 := Lib.hid (X3.out.mv mC n3g)
    replace X4 := Lib.hid (X4.out.mv mC n4g)
    replace X7 := Lib.hid (X7.out.mv mC n7g)
    replace X8 := Lib.hid (X8.out.mv mC n8g)
    replace X9 := Lib.hid (X9.out.mv mC n9g)
    replace SM := Lib.hid (SM.out.trans (Sml.of_mv mC (show g < wO.heap.size by omega)))
    replace UM := Lib.hid (mC.up UM.out (by omega))
    replace RR := Lib.hid rC
    obtain ⟨e1, he1⟩ : ∃ y, Int.tdiv zz2 11 = y := ⟨_, rfl⟩; obtain ⟨e2, he2⟩ : ∃ y, IntKind.i64.wrap e1 = y := ⟨_, rfl⟩; obtain ⟨e3, he3⟩ : ∃ y, IntKind.i64.wrap (zz - e2) = y := ⟨_, rfl⟩; clear rC mC; go_simp; refine mixH_take rfl (by rfl) ?_; apply Exists.intro; refine ⟨fun w1 hS1 => ?_, ?_⟩
    · clear hS1
      go_simp
      try rfl
    go_simp; refine mixH_take rfl (by rfl) ?_; apply Exists.intro; refine ⟨fun w1 hS1 => ?_, ?_⟩
    · clear hS1
      go_simp
      try rfl
    go_simp
    have x2_0 := X2.out.cell (j := 0) rfl
    have x2_1 := X2.out.cell (j := 1) rfl
    have x2_2 := X2.out.cell (j := 2) rfl
    have lx2 := X2.out.lt
    have fx2 := fun j => X2.out.frozen j
    refine mixH_go rfl (by rfl) (fun K hK => ?_); go_simp; refine hK _ _ (⟨putM_far X7.out (by omega) (.slice A n c) (.slice B k d) (.int .i64 m.til), putM_far X8.out (by omega) (.slice A n c) (.slice B k d) (.int .i64 m.til), putM_far X9.out (by omega) (.slice A n c) (.slice B k d) (.int .i64 m.til)⟩) ?_; clear hK K
    replace X3 := Lib.hid (putM_far X3.out (show b3 ≠ b2 by omega) (.slice A n c) (.slice B k d) (.int .i64 m.til))
    replace X4 := Lib.hid (putM_far X4.out (show b4 ≠ b2 by omega) (.slice A n c) (.slice B k d) (.int .i64 m.til))
    replace X7 := Lib.hid (putM_far X7.out (show b7 ≠ b2 by omega) (.slice A n c) (.slice B k d) (.int .i64 m.til))
    replace X8 := Lib.hid (putM_far X8.out (show b8 ≠ b2 by omega) (.slice A n c) (.slice B k d) (.int .i64 m.til))
    replace X9 := Lib.hid (putM_far X9.out (show b9 ≠ b2 by omega) (.slice A n c) (.slice B k d) (.int .i64 m.til))
    replace SM := Lib.hid (putM_sml (b := b2) SM.out (by omega) (.slice A n c) (.slice B k d) (.int .i64 m.til))
    replace UM := Lib.hid (putM_up (b := b2) UM.out (by omega) (.slice A n c) (.slice B k d) (.int .i64 m.til))
    replace X2 := Lib.hid (putM_bk X2.out (.slice A n c) (.slice B k d) (.int .i64 m.til))
    unfold putM at X2 X3 X4 X7 X8 X9 SM UM; clear x2_0 x2_1 x2_2 lx2 fx2
    generalize ((wC.setCell ⟨b2, 0, none⟩ (.slice A n c)).setCell ⟨b2, 1, none⟩ (.slice B k d)).setCell ⟨b2, 2, none⟩ (.int .i64 m.til) = wD at *
    go_simp
    have x3_0 := X3.out.cell (j := 0) rfl
    have x3_1 := X3.out.cell (j := 1) rfl
    have x3_2 := X3.out.cell (j := 2) rfl
    have x3_3 := X3.out.cell (j := 3) rfl
    have x3_4 := X3.out.cell (j := 4) rfl
    have lx3 := X3.out.lt
    have fx3 := fun j => X3.out.frozen j
    refine mixH_go rfl (by rfl) (fun K hK => ?_); go_simp; refine hK _ _ (⟨putK_far X7.out (by omega) p0 p1 p2 p3 p4, putK_far X8.out (by omega) p0 p1 p2 p3 p4, putK_far X9.out (by omega) p0 p1 p2 p3 p4⟩) ?_; clear hK K
    replace X2 := Lib.hid (putK_far X2.out (show b2 ≠ b3 by omega) p0 p1 p2 p3 p4)
    replace X4 := Lib.hid (putK_far X4.out (show b4 ≠ b3 by omega) p0 p1 p2 p3 p4)
    replace X7 := Lib.hid (putK_far X7.out (show b7 ≠ b3 by omega) p0 p1 p2 p3 p4)
    replace X8 := Lib.hid (putK_far X8.out (show b8 ≠ b3 by omega) p0 p1 p2 p3 p4)
    replace X9 := Lib.hid (putK_far X9.out (show b9 ≠ b3 by omega) p0 p1 p2 p3 p4)
    replace SM := Lib.hid (putK_sml (b := b3) SM.out (by omega) p0 p1 p2 p3 p4)
    replace UM := Lib.hid (putK_up (b := b3) UM.out (by omega) p0 p1 p2 p3 p4)
    replace X3 := Lib.hid (putK_bk X3.out p0 p1 p2 p3 p4)
    unfold putK at X2 X3 X4 X7 X8 X9 SM UM; clear x3_0 x3_1 x3_2 x3_3 x3_4 lx3 fx3
    generalize ((((wD.setCell ⟨b3, 0, none⟩ (.bool p0)).setCell ⟨b3, 1, none⟩ (.int .i64 p1)).setCell ⟨b3, 2, none⟩ (.int .i64 p2)).setCell ⟨b3, 3, none⟩ (.int .i64 p3)).setCell ⟨b3, 4, none⟩ (.int .i64 p4) = wE at *
    go_simp
    have x4_0 := X4.out.cell (j := 0) rfl
    have x4_1 := X4.out.cell (j := 1) rfl
    have x4_2 := X4.out.cell (j := 2) rfl
    have x4_3 := X4.out.cell (j := 3) rfl
    have lx4 := X4.out.lt
    have fx4 := fun j => X4.out.frozen j
    refine mixH_go rfl (by rfl) (fun K hK => ?_); go_simp; refine hK _ _ (⟨putG_far X7.out (by omega) q0 q1 q2 q3, putG_far X8.out (by omega) q0 q1 q2 q3, putG_far X9.out (by omega) q0 q1 q2 q3⟩) ?_; clear hK K
    replace X2 := Lib.hid (putG_far X2.out (show b2 ≠ b4 by omega) q0 q1 q2 q3)
    replace X3 := Lib.hid (putG_far X3.out (show b3 ≠ b4 by omega) q0 q1 q2 q3)
    replace X7 := Lib.hid (putG_far X7.out (show b7 ≠ b4 by omega) q0 q1 q2 q3)
    replace X8 := Lib.hid (putG_far X8.out (show b8 ≠ b4 by omega) q0 q1 q2 q3)
    replace X9 := Lib.hid (putG_far X9.out (show b9 ≠ b4 by omega) q0 q1 q2 q3)
    replace SM := Lib.hid (putG_sml (b := b4) SM.out (by omega) q0 q1 q2 q3)
    replace UM := Lib.hid (putG_up (b := b4) UM.out (by omega) q0 q1 q2 q3)
    replace X4 := Lib.hid (putG_bk X4.out q0 q1 q2 q3)
    unfold putG at X2 X3 X4 X7 X8 X9 SM UM; clear x4_0 x4_1 x4_2 x4_3 lx4 fx4
    generalize (((wE.setCell ⟨b4, 0, none⟩ (.int .i64 q0)).setCell ⟨b4, 1, none⟩ (.int .i64 q1)).setCell ⟨b4, 2, none⟩ (.int .i64 q2)).setCell ⟨b4, 3, none⟩ (.int .i64 q3) = wF at *
    go_simp; refine mixH_take rfl (by rfl) ?_; apply Exists.intro; refine ⟨fun w1 hS1 => ?_, ?_⟩
    · clear hS1
      go_simp
      try rfl
    go_simp; refine mixH_nil ?_
    have k0 := X2.out.cell (j := 0) rfl
    have k1 := X2.out.cell (j := 1) rfl
    have k2 := X2.out.cell (j := 2) rfl
    have g0 := X3.out.cell (j := 0) rfl
    have g1 := X3.out.cell (j := 1) rfl
    have g2 := X3.out.cell (j := 2) rfl
    have g3 := X3.out.cell (j := 3) rfl
    have g4 := X3.out.cell (j := 4) rfl
    have j0 := X4.out.cell (j := 0) rfl
    have j1 := X4.out.cell (j := 1) rfl
    have j2 := X4.out.cell (j := 2) rfl
    have j3 := X4.out.cell (j := 3) rfl
    go_wp2
    exact bodyPost_ret (v := .tuple #[.agg #[.slice A n c, .slice B k d, .int .i64 m.til], .agg #[.bool p0, .int .i64 p1, .int .i64 p2, .int .i64 p3, .int .i64 p4], .agg #[.int .i64 q0, .int .i64 q1, .int .i64 q2, .int .i64 q3], .int .i64 e3]) (by simp [results, Try.results5, go_sem, k0, k1, k2, g0, g1, g2, g3, g4, j0, j1, j2, j3]) rfl
      ⟨A, n, c, B, k, d, m, ⟨p0, p1, p2, p3, p4⟩, ⟨q0, q1, q2, q3⟩, e3, rfl, M2.out _ SM.out, ⟨hn, hnc, hcm⟩, ⟨ht0, ht1⟩, UM.out⟩
end Go.Proofs.Ytpainlcehgiokaa

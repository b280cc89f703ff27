/-
  What eqHstState returns, in one sentence: whether the two are the same; for all hosts that lie in memory.
-/
import Derived.Test.YtlkmhmiamdbhcabGreatDLElst16
namespace Go.Proofs.YtlkmhmiamdbhcabGreat
set_option maxRecDepth 100000
open Go.RowKit
set_option maxHeartbeats 4000000 in
theorem eqHst_any (g h : Hst) (gd : Option Addr) (gdn gdc : Nat) (gw : Option Addr) (gwn gwc : Nat) (ga : Option Addr) (gan gac : Nat) (gk : Option Addr) (gkn gkc : Nat) (hd : Option Addr) (hdn hdc : Nat) (hw : Option Addr) (hwn hwc : Nat) (ha : Option Addr) (han hac : Nat) (hk : Option Addr) (hkn hkc : Nat) (w : World) (hg : HstV w gd gdn gw gwn ga gan gk gkn g) (hh : HstV w hd hdn hw hwn ha han hk hkn h) (hS : SmallD g.done) (hl : gdn ≤ 1000000000 ∧ gwn ≤ 1000000000 ∧ gan ≤ 1000000000 ∧ gkn ≤ 1000000000) : Calls Tryz.prog 12 #[g.v (.slice gd gdn gdc) (.slice gw gwn gwc) (.slice ga gan gac) (.slice gk gkn gkc), h.v (.slice hd hdn hdc) (.slice hw hwn hwc) (.slice ha han hac) (.slice hk hkn hkc)] w fun x w' => x = .returned (.bool (decide (g = h))) ∧ Up w w' := by
  have hf := Lib.hid (show decide (g = h) = (decide (g.now = h.now) && decide (g.ids = h.ids) && decide (g.done = h.done) && decide (g.wait = h.wait) && decide (g.anti = h.anti) && decide (g.keep = h.keep)) by obtain ⟨g0, g1, g2, g3, g4, g5⟩ := g; obtain ⟨h0, h1, h2, h3, h4, h5⟩ := h; rw [Bool.eq_iff_iff]; simp [and_assoc])
  have c0 := fun W => eqCst_any g.now h.now W
  have C1 := Lib.hid (fun W (u : Up w W) => eqDons_any gd hd gdn hdn gdc hdc g.done h.done W hl.1 (hg.done.up u) (hh.done.up u) hS)
  have C2 := Lib.hid (fun W (u : Up w W) => eqI_any gw hw gwn hwn gwc hwc g.wait h.wait W hl.2.1 (hg.wait.up u) (hh.wait.up u))
  have C3 := Lib.hid (fun W (u : Up w W) => eqI_any ga ha gan han gac hac g.anti h.anti W hl.2.2.1 (hg.anti.up u) (hh.anti.up u))
  have C4 := Lib.hid (fun W (u : Up w W) => eqKeps_any gk hk gkn hkn gkc hkc g.keep h.keep W hl.2.2.2 (hg.keep.up u) (hh.keep.up u))
  generalize decide (g = h) = r at hf ⊢
  generalize decide (g.now = h.now) = q0 at hf c0
  generalize decide (g.done = h.done) = q1 at hf C1
  generalize decide (g.wait = h.wait) = q2 at hf C2
  generalize decide (g.anti = h.anti) = q3 at hf C3
  generalize decide (g.keep = h.keep) = q4 at hf C4
  clear hg hh hS hl; obtain ⟨⟨a0, a1, a2⟩, a3, g2, g3, g4, g5⟩ := g; obtain ⟨⟨b0, b1, b2⟩, b3, h2, h3, h4, h5⟩ := h; unfold Hst.v; unfold Cst.v at c0; dsimp only at hf c0 ⊢
  have C0 := Lib.hid c0
  clear c0
  have X := Lib.hid ((Blk.new w #[.int .i64 a0, .int .i64 a1, .int .i64 a2, .int .i64 a3, .slice gd gdn gdc, .slice gw gwn gwc, .slice ga gan gac, .slice gk gkn gkc] 46).alloc (.cells #[.int .i64 b0, .int .i64 b1, .int .i64 b2, .int .i64 b3, .slice hd hdn hdc, .slice hw hwn hwc, .slice ha han hac, .slice hk hkn hkc] 46))
  have Y := Lib.hid (Blk.new (w.alloc (.cells #[.int .i64 a0, .int .i64 a1, .int .i64 a2, .int .i64 a3, .slice gd gdn gdc, .slice gw gwn gwc, .slice ga gan gac, .slice gk gkn gkc] 46)) #[.int .i64 b0, .int .i64 b1, .int .i64 b2, .int .i64 b3, .slice hd hdn hdc, .slice hw hwn hwc, .slice ha han hac, .slice hk hkn hkc] 46)
  simp only [World.size_alloc] at Y
  have U := Lib.hid (((Up.refl w).alloc (.cells #[.int .i64 a0, .int .i64 a1, .int .i64 a2, .int .i64 a3, .slice gd gdn gdc, .slice gw gwn gwc, .slice ga gan gac, .slice gk gkn gkc] 46)).alloc (.cells #[.int .i64 b0, .int .i64 b1, .int .i64 b2, .int .i64 b3, .slice hd hdn hdc, .slice hw hwn hwc, .slice ha han hac, .slice hk hkn hkc] 46))
  go_enter Tryz.func12, Tryz.ntmps12
  go_wp2_with fail
  generalize (w.alloc (.cells #[.int .i64 a0, .int .i64 a1, .int .i64 a2, .int .i64 a3, .slice gd gdn gdc, .slice gw gwn gwc, .slice ga gan gac, .slice gk gkn gkc] 46)).alloc (.cells #[.int .i64 b0, .int .i64 b1, .int .i64 b2, .int .i64 b3, .slice hd hdn hdc, .slice hw hwn hwc, .slice ha han hac, .slice hk hkn hkc] 46) = W at *
  generalize hb1 : w.heap.size + 1 = b1 at *
  generalize hb0 : w.heap.size = b0 at *
  clear hb0 hb1; refine (C0.out _).mono ?_; rintro x w0_ ⟨rfl, u⟩
  have U := Lib.hid (U.out.trans u)
  have X := Lib.hid (X.out.up u)
  have Y := Lib.hid (Y.out.up u)
  clear u
  cases q0
  · have HR := Lib.hid (show r = false by rw [hf.out]; simp)
    clear hf; go_wp2; go_ret
    exact ⟨ret_bool HR.out.symm, U.out⟩
  · skip
    by_cases h3 : a3 ≠ b3
    · have HR := Lib.hid (show r = false by rw [hf.out]; simp [h3])
      have hd3 : (a3 != b3) = true := by simp [h3]
      clear hf
      have x3 := X.out.cell (j := 3) rfl
      have y3 := Y.out.cell (j := 3) rfl
      have lx := X.out.lt
      have ly := Y.out.lt
      go_wp2; go_ret
      exact ⟨ret_bool HR.out.symm, U.out⟩
    · have h3 := Decidable.not_not.1 h3
      subst h3
      have x3 := X.out.cell (j := 3) rfl
      have x4 := X.out.cell (j := 4) rfl
      have y3 := Y.out.cell (j := 3) rfl
      have y4 := Y.out.cell (j := 4) rfl
      have lx := X.out.lt
      have ly := Y.out.lt
      go_wp2_with fail
      refine (C1.out _ U.out).mono ?_; rintro x w1_ ⟨rfl, u⟩
      have U := Lib.hid (U.out.trans u)
      have X := Lib.hid (X.out.up u)
      have Y := Lib.hid (Y.out.up u)
      clear lx ly x3 y3 x4 y4; clear u
      cases q1
      · have HR := Lib.hid (show r = false by rw [hf.out]; simp)
        clear hf; go_wp2; go_ret
        exact ⟨ret_bool HR.out.symm, U.out⟩
      · skip
        have x5 := X.out.cell (j := 5) rfl
        have y5 := Y.out.cell (j := 5) rfl
        have lx := X.out.lt
        have ly := Y.out.lt
        go_wp2_with fail
        refine (C2.out _ U.out).mono ?_; rintro x w2_ ⟨rfl, u⟩
        have U := Lib.hid (U.out.trans u)
        have X := Lib.hid (X.out.up u)
        have Y := Lib.hid (Y.out.up u)
        clear lx ly x5 y5; clear u
        cases q2
        · have HR := Lib.hid (show r = false by rw [hf.out]; simp)
          clear hf; go_wp2; go_ret
          exact ⟨ret_bool HR.out.symm, U.out⟩
        · skip
          have x6 := X.out.cell (j := 6) rfl
          have y6 := Y.out.cell (j := 6) rfl
          have lx := X.out.lt
          have ly := Y.out.lt
          go_wp2_with fail
          refine (C3.out _ U.out).mono ?_; rintro x w3_ ⟨rfl, u⟩
          have U := Lib.hid (U.out.trans u)
          have X := Lib.hid (X.out.up u)
          have Y := Lib.hid (Y.out.up u)
          clear lx ly x6 y6; clear u
          cases q3
          · have HR := Lib.hid (show r = false by rw [hf.out]; simp)
            clear hf; go_wp2; go_ret
            exact ⟨ret_bool HR.out.symm, U.out⟩
          · skip
            have x7 := X.out.cell (j := 7) rfl
            have y7 := Y.out.cell (j := 7) rfl
            have lx := X.out.lt
            have ly := Y.out.lt
            go_wp2_with fail
            refine (C4.out _ U.out).mono ?_; rintro x w4_ ⟨rfl, u⟩
            have U := Lib.hid (U.out.trans u)
            have X := Lib.hid (X.out.up u)
            have Y := Lib.hid (Y.out.up u)
            clear lx ly x7 y7; clear u
            cases q4
            · have HR := Lib.hid (show r = false by rw [hf.out]; simp)
              clear hf; go_wp2; go_ret
              exact ⟨ret_bool HR.out.symm, U.out⟩
            · skip
              have HR := Lib.hid (show r = true by rw [hf.out]; simp)
              clear hf; go_wp2; go_ret
              exact ⟨ret_bool HR.out.symm, U.out⟩
end Go.Proofs.YtlkmhmiamdbhcabGreat

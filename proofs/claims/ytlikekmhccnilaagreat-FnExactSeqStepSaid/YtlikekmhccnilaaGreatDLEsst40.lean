/-
  What spec.SeqOk returns, in one sentence: whether the model is one and the simulator is one of it; for every model and every simulator of short lists that lie in memory.
  Parts of a slice of events, in one sentence: what its front and its rest hold, and which parts of a rising list rise.
  Of a simulator that fits its model, in one sentence: its pending events are a heap, the first may be done, and it sends two at most; no condition is made.
-/
import Derived.Test.YtlikekmhccnilaaGreatDLEsst03
import Derived.Test.YtlikekmhccnilaaGreatDLEsst07
import Derived.Test.YtlikekmhccnilaaGreatDLEsst15
import Derived.Test.YtlikekmhccnilaaGreatDLEsst20
import Derived.Test.YtlikekmhccnilaaGreatDLEsst33
import Derived.Test.YtlikekmhccnilaaGreatDLEsst37
import Derived.Test.YtlikekmhccnilaaGreatDLEsst39
namespace Go.Proofs.YtlikekmhccnilaaGreat
set_option maxRecDepth 100000
open Go.RowKit
set_option maxHeartbeats 8000000 in
theorem specSeqOk_any (A : Option Addr) (n c : Nat) (B : Option Addr) (k d : Nat) (m : Mdl) (Ac : Option Addr) (nc cc : Nat) (Aw : Option Addr) (nw cw : Nat) (Al : Option Addr) (nl cl : Nat) (s : Sq) (w : World) (hM : MdlV w A n B k m) (hS : ShortSq nc nw nl) (hV : SqV w Ac nc Aw nw Al nl s) :
    Calls Tryz.prog 53 #[.agg #[.slice A n c, .slice B k d, .int .i64 m.til], .agg #[.slice Ac nc cc, .slice Aw nw cw, .slice Al nl cl]] w fun x w' => x = .returned (.bool (sqS m n nc s)) ∧ Up w w' := by
  have hS' := hS
  obtain ⟨h1, h2, h3⟩ := hS'
  have RB := Lib.hid (show sqS m n nc s = (mdlB m && (decide (nc = n) && (riseB s.wait && (s.comps.all cstB && (s.wait.all (takB n m.til) && (logB n none s.log && joinB (lastP none s.log) s.wait)))))) from rfl)
  have CP := Lib.hid (fun W (u : Up w W) => specMdl_any A n c B k d m W (hM.up u))
  have CR := Lib.hid (fun W (u : Up w W) => specRise_any Aw nw cw s.wait W (by omega) (hV.wait.up u))
  have CG := Lib.hid (fun W (u : Up w W) => specLog_any A n c B k d m.til Ac nc cc Aw nw cw Al nl cl s W hS (hV.up u))
  have HC := Lib.hid hV.comps
  have HW := Lib.hid hV.wait
  have LC := Lib.hid hV.comps.1
  have LW := Lib.hid hV.wait.1
  have AD1 := Lib.hid (fun k h => all_drop (f := cstB) (d := default) s.comps k h)
  have AE1 := Lib.hid (fun k h => all_end (f := cstB) s.comps k h)
  have AD2 := Lib.hid (fun k h => all_drop (f := takB n m.til) (d := default) s.wait k h)
  have AE2 := Lib.hid (fun k h => all_end (f := takB n m.til) s.wait k h)
  have H1 := Lib.hid (show (s.comps.drop 0).all cstB = s.comps.all cstB from rfl)
  have H2 := Lib.hid (show (s.wait.drop 0).all (takB n m.til) = s.wait.all (takB n m.til) from rfl)
  generalize sqS m n nc s = res at RB ⊢
  generalize mdlB m = g1 at RB CP
  generalize riseB s.wait = g2 at RB CR
  generalize s.comps.all cstB = g3 at RB H1
  generalize s.wait.all (takB n m.til) = g4 at RB H2
  generalize (logB n none s.log && joinB (lastP none s.log) s.wait) = g5 at RB CG
  have B0 := (Box3.new w (.slice A n c) (.slice B k d) (.int .i64 m.til) 41).up ((Up.refl _).alloc (.cells #[.slice Ac nc cc, .slice Aw nw cw, .slice Al nl cl] 36))
  have B1 := Box3.new (w.alloc (.cells #[.slice A n c, .slice B k d, .int .i64 m.til] 41)) (.slice Ac nc cc) (.slice Aw nw cw) (.slice Al nl cl) 36
  simp only [World.size_alloc] at B1
  have U0 := Lib.hid (((Up.refl w).alloc (.cells #[.slice A n c, .slice B k d, .int .i64 m.til] 41)).alloc (.cells #[.slice Ac nc cc, .slice Aw nw cw, .slice Al nl cl] 36))
  have B0 := Lib.hid B0
  have B1 := Lib.hid B1
  clear hM hV hS
  generalize m.til = til at *
  go_enter Tryz.func53, Tryz.ntmps53
  go_wp2_with fail
  generalize (w.alloc (.cells #[.slice A n c, .slice B k d, .int .i64 til] 41)).alloc (.cells #[.slice Ac nc cc, .slice Aw nw cw, .slice Al nl cl] 36) = W at *
  generalize hb1 : w.heap.size + 1 = b1 at *
  generalize hb0 : w.heap.size = b0 at *
  clear hb0 hb1; refine (CP.out _ U0.out).mono ?_; rintro x w1 ⟨rfl, u1⟩
  have U1 := Lib.hid (U0.out.trans u1)
  have B0 := Lib.hid (B0.out.up u1)
  have B1 := Lib.hid (B1.out.up u1)
  clear u1 CP
  cases g1
  · go_wp2
    go_ret
    exact ⟨ret_bool (by rw [RB.out]; rfl), U1.out⟩
  · obtain ⟨p0, p1, p2⟩ := And.intro B1.out.c0 (And.intro B1.out.c1 B1.out.c2)
    obtain ⟨q0, q1, q2⟩ := And.intro B0.out.c0 (And.intro B0.out.c1 B0.out.c2)
    by_cases hn : nc = n
    case neg =>
      have hn1 : ((nc : Int) != (n : Int)) = true := by simp; omega
      have hn2 : ¬ (nc : Int) = (n : Int) := by omega
      have RT := Lib.hid (show res = false by rw [RB.out, decide_eq_false hn]; rfl)
      clear RB; go_wp2; go_ret
      exact ⟨ret_bool (by rw [RT.out]), U1.out⟩
    subst hn
    have RB := Lib.hid (show res = (g2 && (g3 && (g4 && g5))) by rw [RB.out, decide_eq_true rfl]; simp)
    go_wp2_with fail
    refine (CR.out _ U1.out).mono ?_; rintro x w2 ⟨rfl, u1⟩
    have U1 := Lib.hid (U1.out.trans u1)
    have B0 := Lib.hid (B0.out.up u1)
    have B1 := Lib.hid (B1.out.up u1)
    clear u1 CR p0 p1 p2 q0 q1 q2
    cases g2
    · go_wp2
      go_ret
      exact ⟨ret_bool (by rw [RB.out]; rfl), U1.out⟩
    · have RB := Lib.hid (show res = (g3 && (g4 && g5)) by rw [RB.out]; rfl)
      go_wp2
      go_loopw [5] (fun i wr => (∃ q : Nat, q ≤ nc ∧ i = .int .i64 q ∧ Hid ((s.comps.drop q).all cstB = g3)) ∧ Up w2 wr) (fun i _ => nc - (intOf i).toNat)
      case atStart => exact ⟨⟨0, by omega, rfl, H1⟩, Up.refl _⟩
      case round =>
        obtain ⟨⟨q, hq, rfl, HR⟩, ur⟩ := hrel
        have UR := Lib.hid (U1.out.trans ur)
        have UQ := Lib.hid ur
        have X0 := Lib.hid (B0.out.up ur)
        have X1 := Lib.hid (B1.out.up ur)
        obtain ⟨p0, p1, p2⟩ := And.intro X1.out.c0 (And.intro X1.out.c1 X1.out.c2); clear ur
        by_cases hlt : q < nc
        · obtain ⟨b, off, hA, hb, hc⟩ := (HC.out.up UR.out).2 (by omega)
          subst hA
          have a0 := hc q hlt
          have S := AD1.out q (by rw [LC.out]; exact hlt)
          clear hc
          generalize s.comps.getD q default = r at a0 S
          have CO := Lib.hid (fun W => specCst_any r W)
          generalize cstB r = o1 at CO S
          have S := Lib.hid S
          obtain ⟨rs, rq, rc⟩ := r; unfold Cst.v at CO; obtain ⟨a0, a1, a2⟩ := a0; dsimp only at a0 a1 a2 CO
          have i4 : (q : Int) < nc := by omega
          go_wp2_with fail
          refine (CO.out _).mono ?_; rintro x wA ⟨rfl, uA⟩
          have UN := Lib.hid (UR.out.trans uA)
          have UM := Lib.hid (UQ.out.trans uA)
          clear uA
          cases o1
          · have HF := Lib.hid (show g3 = false by rw [← HR.out, S.out]; rfl)
            go_wp2; go_ret
            exact ⟨ret_bool (by rw [RB.out, HF.out]; rfl), UN.out⟩
          · have HN := Lib.hid (show (s.comps.drop (q + 1)).all cstB = g3 by rw [← HR.out, S.out]; rfl)
            go_wp2
            go_roundw
            case rel => exact ⟨⟨q + 1, by omega, by go_num, HN⟩, UM.out⟩
            case measure => (simp [intOf]; try omega)
        · obtain rfl : q = nc := by omega
          have i4 : ¬ (q : Int) < q := by omega
          have HT := show g3 = true by rw [← HR.out]; exact AE1.out q (by rw [LC.out]; omega)
          have RB := Lib.hid (show res = (g4 && g5) by rw [RB.out, HT]; rfl)
          clear HT; go_wp2
          go_loopw [6] (fun i wr => (∃ j : Nat, j ≤ nw ∧ i = .int .i64 j ∧ Hid ((s.wait.drop j).all (takB q til) = g4)) ∧ Up w2 wr) (fun i _ => nw - (intOf i).toNat)
          case atStart => exact ⟨⟨0, by omega, rfl, H2⟩, UQ.out⟩
          case round =>
            clear HR UR UQ X0 X1 p0 p1 p2; obtain ⟨⟨e, he, rfl, HR⟩, ur⟩ := hrel
            have UR := Lib.hid (U1.out.trans ur)
            have UQ := Lib.hid ur
            have X0 := Lib.hid (B0.out.up ur)
            have X1 := Lib.hid (B1.out.up ur)
            obtain ⟨p0, p1, p2⟩ := And.intro X1.out.c0 (And.intro X1.out.c1 X1.out.c2); obtain ⟨q0, q1, q2⟩ := And.intro X0.out.c0 (And.intro X0.out.c1 X0.out.c2); clear ur
            by_cases hlt : e < nw
            · obtain ⟨b, off, hA, hb, hc⟩ := (HW.out.up UR.out).2 (by omega)
              subst hA
              have a0 := hc e hlt
              have S := AD2.out e (by rw [LW.out]; exact hlt)
              clear hc
              generalize s.wait.getD e default = r at a0 S
              have CO := Lib.hid (fun W => specOk_any r q W)
              unfold takB at S; rw [show ((fun e => okB e ↑q && decide (e.t ≤ til)) : Evt → Bool) = takB q til from rfl] at S
              generalize okB r q = o1 at CO S
              unfold Evt.v at CO
              have PRV := Lib.hid a0
              have LTB := Lib.hid hb
              have LT := Lib.hid (And.intro X0.out.lt X1.out.lt)
              have EQ := Lib.hid (And.intro X0.out.c0 (And.intro X0.out.c2 X1.out.c1))
              have i4 : (e : Int) < nw := by omega
              obtain ⟨W0, hW0⟩ : ∃ W0, W0 = wr := ⟨_, rfl⟩; subst hW0
              have S := Lib.hid S
              clear a0
              go_wp2_with fail
              cases o1
              · have HF := Lib.hid (show g4 = false by rw [← HR.out, S.out]; rfl)
                clear p0 p1 p2 q0 q1 q2; refine region_mixH (fun w' => Up W0 w') [(0, true), (1, true), (2, true), (3, true), (4, true), (5, true), (6, true), (7, true), (8, false), (9, true), (10, true), (11, true), (12, true), (13, true), (14, true), (15, true), (16, true), (17, true), (18, true), (19, true), (20, true)] (by kernel_rfl) (by kernel_rfl) (Up.refl _).drew ?_; refine mixH_take rfl (by rfl) ?_; apply Exists.intro; refine ⟨fun w1 hS1 => ?_, ?_⟩
                · clear hS1
                  go_simp
                  try rfl
                go_simp; refine mixH_take rfl (by rfl) ?_; apply Exists.intro; refine ⟨fun w1 hS1 => ?_, ?_⟩
                · obtain ⟨k0, k1, k2⟩ := (And.intro ((hS1.cells _ _ LT.out.1).trans EQ.out.1) (And.intro ((hS1.cells _ _ LT.out.1).trans EQ.out.2.1) ((hS1.cells _ _ LT.out.2).trans EQ.out.2.2)))
                  obtain ⟨v0, v1, v2, v3, v4, v5⟩ := (PRV.out.up hS1 LTB.out); clear hS1; go_simp
                  try rfl
                go_simp; refine mixH_take rfl (by rfl) ?_; apply Exists.intro; refine ⟨fun w1 hS1 => ?_, ?_⟩
                · clear hS1
                  go_simp
                  try rfl
                go_simp; refine mixH_take rfl (by rfl) ?_; apply Exists.intro; refine ⟨fun w1 hS1 => ?_, ?_⟩
                · clear hS1
                  go_simp
                  try rfl
                go_simp; refine mixH_take rfl (by rfl) ?_; apply Exists.intro; refine ⟨fun w1 hS1 => ?_, ?_⟩
                · obtain ⟨k0, k1, k2⟩ := (And.intro ((hS1.cells _ _ LT.out.1).trans EQ.out.1) (And.intro ((hS1.cells _ _ LT.out.1).trans EQ.out.2.1) ((hS1.cells _ _ LT.out.2).trans EQ.out.2.2)))
                  obtain ⟨v0, v1, v2, v3, v4, v5⟩ := (PRV.out.up hS1 LTB.out); clear hS1; go_simp
                  try rfl
                go_simp; refine mixH_take rfl (by rfl) ?_; apply Exists.intro; refine ⟨fun w1 hS1 => ?_, ?_⟩
                · clear hS1
                  go_simp
                  try rfl
                go_simp; refine mixH_take rfl (by rfl) ?_; apply Exists.intro; refine ⟨fun w1 hS1 => ?_, ?_⟩
                · obtain ⟨k0, k1, k2⟩ := (And.intro ((hS1.cells _ _ LT.out.1).trans EQ.out.1) (And.intro ((hS1.cells _ _ LT.out.1).trans EQ.out.2.1) ((hS1.cells _ _ LT.out.2).trans EQ.out.2.2)))
                  obtain ⟨v0, v1, v2, v3, v4, v5⟩ := (PRV.out.up hS1 LTB.out); clear hS1; go_simp
                  try rfl
                go_simp; refine mixH_take rfl (by rfl) ?_; apply Exists.intro; refine ⟨fun w1 hS1 => ?_, ?_⟩
                · clear hS1
                  go_simp
                  try rfl
                go_simp; refine mixH_go rfl (by rfl) (fun K hK => ?_); go_simp; refine (CO.out _).mono ?_; rintro z wA ⟨rfl, uA⟩; refine hK _ _ ((Up.refl _).drew.trans uA) ?_; clear hK K; go_simp; refine mixH_take rfl (by rfl) ?_; apply Exists.intro; refine ⟨fun w1 hS1 => ?_, ?_⟩
                · clear hS1
                  go_simp
                  try rfl
                go_simp; refine mixH_take rfl (by rfl) ?_; apply Exists.intro; refine ⟨fun w1 hS1 => ?_, ?_⟩
                · clear hS1
                  go_simp
                  try rfl
                iterate 4
                  go_simp; refine mixH_skip rfl (by rfl) ?_; go_simp; refine mixH_skip rfl (by rfl) ?_
                go_simp; refine mixH_skip rfl (by rfl) ?_; go_simp; refine mixH_take rfl (by rfl) ?_; apply Exists.intro; refine ⟨fun w1 hS1 => ?_, ?_⟩
                · clear hS1
                  go_simp
                  try rfl
                go_simp; refine mixH_nil ?_
                have UE := Lib.hid (UR.out.trans ((Up.refl _).drew.trans uA))
                clear uA; go_wp2; go_ret
                exact ⟨ret_bool (by rw [RB.out, HF.out]; rfl), UE.out⟩
              · by_cases hti : r.t ≤ til
                · have HN := Lib.hid (show (s.wait.drop (e + 1)).all (takB q til) = g4 by rw [← HR.out, S.out, decide_eq_true hti]; rfl)
                  have hti2 : ¬ til < r.t := by omega
                  clear p0 p1 p2 q0 q1 q2; refine region_mixH (fun w' => Up W0 w') [(0, true), (1, true), (2, true), (3, true), (4, true), (5, true), (6, true), (7, true), (8, false), (9, true), (10, true), (11, true), (12, true), (13, true), (14, true), (15, true), (16, true), (17, true), (18, true), (19, true), (20, true)] (by kernel_rfl) (by kernel_rfl) (Up.refl _).drew ?_; refine mixH_take rfl (by rfl) ?_; apply Exists.intro; refine ⟨fun w1 hS1 => ?_, ?_⟩
                  · clear hS1
                    go_simp
                    try rfl
                  go_simp; refine mixH_take rfl (by rfl) ?_; apply Exists.intro; refine ⟨fun w1 hS1 => ?_, ?_⟩
                  · obtain ⟨k0, k1, k2⟩ := (And.intro ((hS1.cells _ _ LT.out.1).trans EQ.out.1) (And.intro ((hS1.cells _ _ LT.out.1).trans EQ.out.2.1) ((hS1.cells _ _ LT.out.2).trans EQ.out.2.2)))
                    obtain ⟨v0, v1, v2, v3, v4, v5⟩ := (PRV.out.up hS1 LTB.out); clear hS1; go_simp
                    try rfl
                  go_simp; refine mixH_take rfl (by rfl) ?_; apply Exists.intro; refine ⟨fun w1 hS1 => ?_, ?_⟩
                  · clear hS1
                    go_simp
                    try rfl
                  go_simp; refine mixH_take rfl (by rfl) ?_; apply Exists.intro; refine ⟨fun w1 hS1 => ?_, ?_⟩
                  · clear hS1
                    go_simp
                    try rfl
                  go_simp; refine mixH_take rfl (by rfl) ?_; apply Exists.intro; refine ⟨fun w1 hS1 => ?_, ?_⟩
                  · obtain ⟨k0, k1, k2⟩ := (And.intro ((hS1.cells _ _ LT.out.1).trans EQ.out.1) (And.intro ((hS1.cells _ _ LT.out.1).trans EQ.out.2.1) ((hS1.cells _ _ LT.out.2).trans EQ.out.2.2)))
                    obtain ⟨v0, v1, v2, v3, v4, v5⟩ := (PRV.out.up hS1 LTB.out); clear hS1; go_simp
                    try rfl
                  go_simp; refine mixH_take rfl (by rfl) ?_; apply Exists.intro; refine ⟨fun w1 hS1 => ?_, ?_⟩
                  · clear hS1
                    go_simp
                    try rfl
                  go_simp; refine mixH_take rfl (by rfl) ?_; apply Exists.intro; refine ⟨fun w1 hS1 => ?_, ?_⟩
                  · obtain ⟨k0, k1, k2⟩ := (And.intro ((hS1.cells _ _ LT.out.1).trans EQ.out.1) (And.intro ((hS1.cells _ _ LT.out.1).trans EQ.out.2.1) ((hS1.cells _ _ LT.out.2).trans EQ.out.2.2)))
                    obtain ⟨v0, v1, v2, v3, v4, v5⟩ := (PRV.out.up hS1 LTB.out); clear hS1; go_simp
                    try rfl
                  go_simp; refine mixH_take rfl (by rfl) ?_; apply Exists.intro; refine ⟨fun w1 hS1 => ?_, ?_⟩
                  · clear hS1
                    go_simp
                    try rfl
                  go_simp; refine mixH_go rfl (by rfl) (fun K hK => ?_); go_simp; refine (CO.out _).mono ?_; rintro z wA ⟨rfl, uA⟩; refine hK _ _ ((Up.refl _).drew.trans uA) ?_; clear hK K; go_simp; refine mixH_take rfl (by rfl) ?_; apply Exists.intro; refine ⟨fun w1 hS1 => ?_, ?_⟩
                  · clear hS1
                    go_simp
                    try rfl
                  go_simp; refine mixH_take rfl (by rfl) ?_; apply Exists.intro; refine ⟨fun w1 hS1 => ?_, ?_⟩
                  · clear hS1
                    go_simp
                    try rfl
                  go_simp; refine mixH_take rfl (by rfl) ?_; apply Exists.intro; refine ⟨fun w1 hS1 => ?_, ?_⟩
                  · clear hS1
                    go_simp
                    try rfl
                  go_simp; refine mixH_take rfl (by rfl) ?_; apply Exists.intro; refine ⟨fun w1 hS1 => ?_, ?_⟩
                  · obtain ⟨k0, k1, k2⟩ := (And.intro ((hS1.cells _ _ LT.out.1).trans EQ.out.1) (And.intro ((hS1.cells _ _ LT.out.1).trans EQ.out.2.1) ((hS1.cells _ _ LT.out.2).trans EQ.out.2.2)))
                    obtain ⟨v0, v1, v2, v3, v4, v5⟩ := (PRV.out.up hS1 LTB.out); clear hS1; go_simp
                    try rfl
                  go_simp; refine mixH_take rfl (by rfl) ?_; apply Exists.intro; refine ⟨fun w1 hS1 => ?_, ?_⟩
                  · clear hS1
                    go_simp
                    try rfl
                  go_simp; refine mixH_take rfl (by rfl) ?_; apply Exists.intro; refine ⟨fun w1 hS1 => ?_, ?_⟩
                  · clear hS1
                    go_simp
                    try rfl
                  go_simp; refine mixH_take rfl (by rfl) ?_; apply Exists.intro; refine ⟨fun w1 hS1 => ?_, ?_⟩
                  · clear hS1
                    go_simp
                    try rfl
                  go_simp; refine mixH_take rfl (by rfl) ?_; apply Exists.intro; refine ⟨fun w1 hS1 => ?_, ?_⟩
                  · obtain ⟨k0, k1, k2⟩ := (And.intro ((hS1.cells _ _ LT.out.1).trans EQ.out.1) (And.intro ((hS1.cells _ _ LT.out.1).trans EQ.out.2.1) ((hS1.cells _ _ LT.out.2).trans EQ.out.2.2)))
                    obtain ⟨v0, v1, v2, v3, v4, v5⟩ := (PRV.out.up hS1 LTB.out); clear hS1; go_simp
                    try rfl
                  go_simp; refine mixH_take rfl (by rfl) ?_; apply Exists.intro; refine ⟨fun w1 hS1 => ?_, ?_⟩
                  · clear hS1
                    go_simp
                    try rfl
                  go_simp; refine mixH_take rfl (by rfl) ?_; apply Exists.intro; refine ⟨fun w1 hS1 => ?_, ?_⟩
                  · obtain ⟨k0, k1, k2⟩ := (And.intro ((hS1.cells _ _ LT.out.1).trans EQ.out.1) (And.intro ((hS1.cells _ _ LT.out.1).trans EQ.out.2.1) ((hS1.cells _ _ LT.out.2).trans EQ.out.2.2)))
                    obtain ⟨v0, v1, v2, v3, v4, v5⟩ := (PRV.out.up hS1 LTB.out); clear hS1; go_simp
                    try rfl
                  go_simp; refine mixH_take rfl (by rfl) ?_; apply Exists.intro; refine ⟨fun w1 hS1 => ?_, ?_⟩
                  · clear hS1
                    go_simp
                    try rfl
                  go_simp; refine mixH_take rfl (by rfl) ?_; apply Exists.intro; refine ⟨fun w1 hS1 => ?_, ?_⟩
                  · clear hS1
                    go_simp
                    try rfl
                  go_simp; refine mixH_nil ?_
                  have UE := Lib.hid (UQ.out.trans ((Up.refl _).drew.trans uA))
                  clear uA; go_wp2
                  go_roundw
                  case rel => exact ⟨⟨e + 1, by omega, by go_num, HN⟩, UE.out⟩
                  case measure => (simp [intOf]; try omega)
                · have HF := Lib.hid (show g4 = false by rw [← HR.out, S.out, decide_eq_false hti]; rfl)
                  have hti2 : til < r.t := by omega
                  clear p0 p1 p2 q0 q1 q2; refine region_mixH (fun w' => Up W0 w') [(0, true), (1, true), (2, true), (3, true), (4, true), (5, true), (6, true), (7, true), (8, false), (9, true), (10, true), (11, true), (12, true), (13, true), (14, true), (15, true), (16, true), (17, true), (18, true), (19, true), (20, true)] (by kernel_rfl) (by kernel_rfl) (Up.refl _).drew ?_; refine mixH_take rfl (by rfl) ?_; apply Exists.intro; refine ⟨fun w1 hS1 => ?_, ?_⟩
                  · clear hS1
                    go_simp
                    try rfl
                  go_simp; refine mixH_take rfl (by rfl) ?_; apply Exists.intro; refine ⟨fun w1 hS1 => ?_, ?_⟩
                  · obtain ⟨k0, k1, k2⟩ := (And.intro ((hS1.cells _ _ LT.out.1).trans EQ.out.1) (And.intro ((hS1.cells _ _ LT.out.1).trans EQ.out.2.1) ((hS1.cells _ _ LT.out.2).trans EQ.out.2.2)))
                    obtain ⟨v0, v1, v2, v3, v4, v5⟩ := (PRV.out.up hS1 LTB.out); clear hS1; go_simp
                    try rfl
                  go_simp; refine mixH_take rfl (by rfl) ?_; apply Exists.intro; refine ⟨fun w1 hS1 => ?_, ?_⟩
                  · clear hS1
                    go_simp
                    try rfl
                  go_simp; refine mixH_take rfl (by rfl) ?_; apply Exists.intro; refine ⟨fun w1 hS1 => ?_, ?_⟩
                  · clear hS1
                    go_simp
                    try rfl
                  go_simp; refine mixH_take rfl (by rfl) ?_; apply Exists.intro; refine ⟨fun w1 hS1 => ?_, ?_⟩
                  · obtain ⟨k0, k1, k2⟩ := (And.intro ((hS1.cells _ _ LT.out.1).trans EQ.out.1) (And.intro ((hS1.cells _ _ LT.out.1).trans EQ.out.2.1) ((hS1.cells _ _ LT.out.2).trans EQ.out.2.2)))
                    obtain ⟨v0, v1, v2, v3, v4, v5⟩ := (PRV.out.up hS1 LTB.out); clear hS1; go_simp
                    try rfl
                  go_simp; refine mixH_take rfl (by rfl) ?_; apply Exists.intro; refine ⟨fun w1 hS1 => ?_, ?_⟩
                  · clear hS1
                    go_simp
                    try rfl
                  go_simp; refine mixH_take rfl (by rfl) ?_; apply Exists.intro; refine ⟨fun w1 hS1 => ?_, ?_⟩
                  · obtain ⟨k0, k1, k2⟩ := (And.intro ((hS1.cells _ _ LT.out.1).trans EQ.out.1) (And.intro ((hS1.cells _ _ LT.out.1).trans EQ.out.2.1) ((hS1.cells _ _ LT.out.2).trans EQ.out.2.2)))
                    obtain ⟨v0, v1, v2, v3, v4, v5⟩ := (PRV.out.up hS1 LTB.out); clear hS1; go_simp
                    try rfl
                  go_simp; refine mixH_take rfl (by rfl) ?_; apply Exists.intro; refine ⟨fun w1 hS1 => ?_, ?_⟩
                  · clear hS1
                    go_simp
                    try rfl
                  go_simp; refine mixH_go rfl (by rfl) (fun K hK => ?_); go_simp; refine (CO.out _).mono ?_; rintro z wA ⟨rfl, uA⟩; refine hK _ _ ((Up.refl _).drew.trans uA) ?_; clear hK K; go_simp; refine mixH_take rfl (by rfl) ?_; apply Exists.intro; refine ⟨fun w1 hS1 => ?_, ?_⟩
                  · clear hS1
                    go_simp
                    try rfl
                  go_simp; refine mixH_take rfl (by rfl) ?_; apply Exists.intro; refine ⟨fun w1 hS1 => ?_, ?_⟩
                  · clear hS1
                    go_simp
                    try rfl
                  go_simp; refine mixH_take rfl (by rfl) ?_; apply Exists.intro; refine ⟨fun w1 hS1 => ?_, ?_⟩
                  · clear hS1
                    go_simp
                    try rfl
                  go_simp; refine mixH_take rfl (by rfl) ?_; apply Exists.intro; refine ⟨fun w1 hS1 => ?_, ?_⟩
                  · obtain ⟨k0, k1, k2⟩ := (And.intro ((hS1.cells _ _ LT.out.1).trans EQ.out.1) (And.intro ((hS1.cells _ _ LT.out.1).trans EQ.out.2.1) ((hS1.cells _ _ LT.out.2).trans EQ.out.2.2)))
                    obtain ⟨v0, v1, v2, v3, v4, v5⟩ := (PRV.out.up hS1 LTB.out); clear hS1; go_simp
                    try rfl
                  go_simp; refine mixH_take rfl (by rfl) ?_; apply Exists.intro; refine ⟨fun w1 hS1 => ?_, ?_⟩
                  · clear hS1
                    go_simp
                    try rfl
                  go_simp; refine mixH_take rfl (by rfl) ?_; apply Exists.intro; refine ⟨fun w1 hS1 => ?_, ?_⟩
                  · clear hS1
                    go_simp
                    try rfl
                  go_simp; refine mixH_take rfl (by rfl) ?_; apply Exists.intro; refine ⟨fun w1 hS1 => ?_, ?_⟩
                  · clear hS1
                    go_simp
                    try rfl
                  go_simp; refine mixH_take rfl (by rfl) ?_; apply Exists.intro; refine ⟨fun w1 hS1 => ?_, ?_⟩
                  · obtain ⟨k0, k1, k2⟩ := (And.intro ((hS1.cells _ _ LT.out.1).trans EQ.out.1) (And.intro ((hS1.cells _ _ LT.out.1).trans EQ.out.2.1) ((hS1.cells _ _ LT.out.2).trans EQ.out.2.2)))
                    obtain ⟨v0, v1, v2, v3, v4, v5⟩ := (PRV.out.up hS1 LTB.out); clear hS1; go_simp
                    try rfl
                  go_simp; refine mixH_take rfl (by rfl) ?_; apply Exists.intro; refine ⟨fun w1 hS1 => ?_, ?_⟩
                  · clear hS1
                    go_simp
                    try rfl
                  go_simp; refine mixH_take rfl (by rfl) ?_; apply Exists.intro; refine ⟨fun w1 hS1 => ?_, ?_⟩
                  · obtain ⟨k0, k1, k2⟩ := (And.intro ((hS1.cells _ _ LT.out.1).trans EQ.out.1) (And.intro ((hS1.cells _ _ LT.out.1).trans EQ.out.2.1) ((hS1.cells _ _ LT.out.2).trans EQ.out.2.2)))
                    obtain ⟨v0, v1, v2, v3, v4, v5⟩ := (PRV.out.up hS1 LTB.out); clear hS1; go_simp
                    try rfl
                  go_simp; refine mixH_take rfl (by rfl) ?_; apply Exists.intro; refine ⟨fun w1 hS1 => ?_, ?_⟩
                  · clear hS1
                    go_simp
                    try rfl
                  go_simp; refine mixH_take rfl (by rfl) ?_; apply Exists.intro; refine ⟨fun w1 hS1 => ?_, ?_⟩
                  · clear hS1
                    go_simp
                    try rfl
                  go_simp; refine mixH_nil ?_
                  have UE := Lib.hid (UR.out.trans ((Up.refl _).drew.trans uA))
                  clear uA; go_wp2; go_ret
                  exact ⟨ret_bool (by rw [RB.out, HF.out]; rfl), UE.out⟩
            · obtain rfl : e = nw := by omega
              have i4 : ¬ (e : Int) < e := by omega
              have HT := show g4 = true by rw [← HR.out]; exact AE2.out e (by rw [LW.out]; omega)
              have RB := Lib.hid (show res = g5 by rw [RB.out, HT]; rfl)
              clear HT
              go_wp2_with fail
              refine (CG.out _ UR.out).mono ?_; rintro x w3 ⟨rfl, u3⟩
              have UE := Lib.hid (UR.out.trans u3)
              clear u3; go_wp2; go_ret
              exact ⟨ret_bool (by rw [RB.out]), UE.out⟩
end Go.Proofs.YtlikekmhccnilaaGreat

namespace Go.Proofs.YtlikekmhccnilaaGreat
set_option maxRecDepth 100000
open Go.RowKit
theorem rise_drop (es : List Evt) (h : riseB es = true) : ∀ k, riseB (es.drop k) = true
  | 0 => h
  | k + 1 => by
    by_cases hk : k + 1 < es.length
    · have := rise_drop es h k
      rw [riseB_drop es k hk, Bool.and_eq_true] at this
      exact this.2
    · rw [List.drop_eq_nil_of_le (by omega)]
      rfl
section
variable {P : Program}
end
end Go.Proofs.YtlikekmhccnilaaGreat

namespace Go.Proofs.YtlikekmhccnilaaGreat
set_option maxRecDepth 100000
open Go.RowKit
theorem sendsE_most (til s : Int) (e : Evt) : ∀ (xs : List Evt) (q : Int), (sendsE til s e xs q).1.length ≤ xs.length
  | [], _ => Nat.le_refl _
  | x :: xs, q => by
    rw [sendsE]
    split
    · exact Nat.le_succ_of_le (sendsE_most til s e xs q)
    · split
      · exact Nat.succ_le_succ (sendsE_most til s e xs (q + 1))
      · exact Nat.le_succ_of_le (sendsE_most til s e xs (q + 1))
theorem ruleOf_rule (kd many : Int) : ∀ (rs : List Rule) (bf : Int) (r : Rule), rulesB many bf rs = true → ruleOf kd rs = some r → ruleB r many = true
  | [], _, _, _, h => by cases h
  | x :: rs, bf, r, h, hr => by
    rw [rulesB, Bool.and_eq_true, Bool.and_eq_true] at h; rw [ruleOf] at hr
    split at hr
    · injection hr with hr
      exact hr ▸ h.1.2
    · exact ruleOf_rule kd many rs x.kd r h.2 hr
theorem doE_len {m : Mdl} {c : Cst} {e : Evt} (h : mdlB m = true) : (doE m c e).2.length ≤ 2 := by
  unfold doE
  split
  · simp
  · rename_i r hr
    refine Nat.le_trans (sendsE_most _ _ _ _ _) ?_; simp only [mdlB, Bool.and_eq_true] at h
    have hm : rulesB m.rules.length (-1) (m.rules.getD e.to.toNat []) = true := by
      by_cases hl : e.to.toNat < m.rules.length
      · have := List.all_eq_true.1 h.2 (m.rules[e.to.toNat]) (List.getElem_mem hl)
        simpa [List.getD, hl] using this
      · simp [List.getD, hl, rulesB]
    have := ruleOf_rule _ _ _ _ _ hm hr
    simp only [ruleB, Bool.and_eq_true, decide_eq_true_eq] at this
    omega
theorem rise_pair9 (es : List Evt) (h : riseB es = true) (k : Nat) (hk : k + 1 < es.length) : ltE (es.getD k default) (es.getD (k + 1) default) = true := by
  have h1 := rise_drop es h k
  rw [riseB_drop es k hk, Bool.and_eq_true] at h1
  exact h1.1
theorem rise_lt9 (es : List Evt) (h : riseB es = true) (i : Nat) : ∀ d, i + d + 1 < es.length → ltE (es.getD i default) (es.getD (i + d + 1) default) = true
  | 0, hd => rise_pair9 es h i hd
  | d + 1, hd => ltE_trans _ _ _ (rise_lt9 es h i d (by omega)) (rise_pair9 es h (i + d + 1) (by omega))
theorem rise_heap (es : List Evt) (h : riseB es = true) : HeapF (fun i => es.getD i default) es.length := fun i h0 hi => by
  have := rise_lt9 es h ((i - 1) / 2) (i - (i - 1) / 2 - 1) (by omega)
  rw [show (i - 1) / 2 + (i - (i - 1) / 2 - 1) + 1 = i by omega] at this
  exact ltE_le this
theorem fit_wait {many til : Int} {nc : Nat} {s : Sq} (h : fitB many til nc s = true) : riseB s.wait = true := by
  simp only [fitB, Bool.and_eq_true] at h
  have := rise_drop _ h.1 (s.log.map (·.ev)).length
  rwa [List.drop_left] at this
theorem fit_first {m : Mdl} {nc : Nat} {s : Sq} {e : Evt} {r : List Evt} (hm : mdlB m = true) (h : fitB m.rules.length m.til nc s = true) (hc : s.comps.length = nc) (he : s.wait = e :: r) :
    (0 ≤ e.to ∧ e.to < nc) ∧ mayB m (s.comps.getD e.to.toNat default) e = true := by
  simp only [fitB, Bool.and_eq_true, decide_eq_true_eq, he, List.all_cons, takB] at h; obtain ⟨-, hn, hcs, ⟨⟨ho, ht⟩, -⟩, -⟩ := h
  have ho' := ho
  simp only [okB, Bool.and_eq_true, inB_iff] at ho'
  have h1 : 0 ≤ e.to ∧ e.to < nc := by omega
  refine ⟨h1, ?_⟩
  have hl : e.to.toNat < s.comps.length := by omega
  have hc1 := List.all_eq_true.1 hcs (s.comps[e.to.toNat]) (List.getElem_mem hl)
  simp only [mayB, Bool.and_eq_true, decide_eq_true_eq]
  exact ⟨⟨⟨hm, by simpa [List.getD, hl] using hc1⟩, ho⟩, ht⟩
end Go.Proofs.YtlikekmhccnilaaGreat

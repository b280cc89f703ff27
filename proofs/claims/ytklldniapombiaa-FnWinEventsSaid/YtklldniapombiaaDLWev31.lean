/-
  What spec.SeqOk returns, in one sentence: whether the model is one and the simulator is one of it; for every model and every simulator of short lists that lie in memory.
  How much a component sends, in one sentence: two at most; for every valid model.
  Parts of a slice of events, in one sentence: what its front and its rest hold, and which parts of a rising list rise.
  Of a simulator that fits its model, in one sentence: its pending events are a heap, the first may be done, and it sends two at most; no condition is made.
  A region that draws its order and whose effects may come up in some few orders, in one sentence: a tree of walks serves every order, where what only reads may come up while a chosen condition on the world holds.
-/
import Derived.Test.YtklldniapombiaaDLWev02
import Derived.Test.YtklldniapombiaaDLWev03
import Derived.Test.YtklldniapombiaaDLWev06
import Derived.Test.YtklldniapombiaaDLWev14
import Derived.Test.YtklldniapombiaaDLWev15
import Derived.Test.YtklldniapombiaaDLWev19
import Derived.Test.YtklldniapombiaaDLWev24
import Derived.Test.YtklldniapombiaaDLWev27
import Derived.Test.YtklldniapombiaaDLWev30
namespace Go.Proofs.Ytklldniapombiaa
set_option maxRecDepth 100000
open Go.RowKit
set_option maxHeartbeats 8000000 in
theorem specSeqOk_any (A : Option Addr) (n c : Nat) (B : Option Addr) (k d : Nat) (m : Mdl) (Ac : Option Addr) (nc cc : Nat) (Aw : Option Addr) (nw cw : Nat) (Al : Option Addr) (nl cl : Nat) (s : Sq) (w : World) (hM : MdlV w A n B k m) (hS : ShortSq nc nw nl) (hV : SqV w Ac nc Aw nw Al nl s) :
    Calls Try.prog 36 #[.agg #[.slice A n c, .slice B k d, .int .i64 m.til], .agg #[.slice Ac nc cc, .slice Aw nw cw, .slice Al nl cl]] w fun x w' => x = .returned (.bool (sqS m n nc s)) ∧ Up w w' := by
  have hS' := hS
  obtain ⟨h1, h2, h3⟩ := hS'
  have RB := Lib.hid (show sqS m n nc s = (mdlB m && (decide (nc = n) && (riseB s.wait && (s.comps.all cstB && (s.wait.all (takB n m.til) && (logB n none s.log && joinB (lastP none s.log) s.wait)))))) from rfl)
  have CP := Lib.hid (fun W (u : Up w W) => specMdl_any A n c B k d m W (hM.up u))
  have CR := Lib.hid (fun W (u : Up w W) => specRise_any Aw nw cw s.wait W (by omega) (hV.wait.up u))
  have CG := Lib.hid (fun W (u : Up w W) => specLog_any A n c B k d m.til Ac nc cc Aw nw cw Al nl cl s W hS (hV.up u))
  have HC := Lib.hid hV.comps
  have HW := Lib.hid hV.wait
  have LC := Lib.hid hV.comps.1
  have LW := Lib.hid hV.wait.1
  have AD1 := Lib.hid (fun k h => all_drop (f := cstB) (d := default) s.comps k h)
  have AE1 := Lib.hid (fun k h => all_end (f := cstB) s.comps k h)
  have AD2 := Lib.hid (fun k h => all_drop (f := takB n m.til) (d := default) s.wait k h)
  have AE2 := Lib.hid (fun k h => all_end (f := takB n m.til) s.wait k h)
  have H1 := Lib.hid (show (s.comps.drop 0).all cstB = s.comps.all cstB from rfl)
  have H2 := Lib.hid (show (s.wait.drop 0).all (takB n m.til) = s.wait.all (takB n m.til) from rfl)
  generalize sqS m n nc s = res at RB ⊢
  generalize mdlB m = g1 at RB CP
  generalize riseB s.wait = g2 at RB CR
  generalize s.comps.all cstB = g3 at RB H1
  generalize s.wait.all (takB n m.til) = g4 at RB H2
  generalize (logB n none s.log && joinB (lastP none s.log) s.wait) = g5 at RB CG
  have B0 := (Box3.new w (.slice A n c) (.slice B k d) (.int .i64 m.til) 36).up ((Up.refl _).alloc (.cells #[.slice Ac nc cc, .slice Aw nw cw, .slice Al nl cl] 62))
  have B1 := Box3.new (w.alloc (.cells #[.slice A n c, .slice B k d, .int .i64 m.til] 36)) (.slice Ac nc cc) (.slice Aw nw cw) (.slice Al nl cl) 62
  simp only [World.size_alloc] at B1
  have U0 := Lib.hid (((Up.refl w).alloc (.cells #[.slice A n c, .slice B k d, .int .i64 m.til] 36)).alloc (.cells #[.slice Ac nc cc, .slice Aw nw cw, .slice Al nl cl] 62))
  have B0 := Lib.hid B0
  have B1 := Lib.hid B1
  clear hM hV hS
  generalize m.til = til at *
  go_enter Try.func36, Try.ntmps36
  go_wp2_with fail
  generalize (w.alloc (.cells #[.slice A n c, .slice B k d, .int .i64 til] 36)).alloc (.cells #[.slice Ac nc cc, .slice Aw nw cw, .slice Al nl cl] 62) = W at *
  generalize hb1 : w.heap.size + 1 = b1 at *
  generalize hb0 : w.heap.size = b0 at *
  clear hb0 hb1; refine (CP.out _ U0.out).mono ?_; rintro x w1 ⟨rfl, u1⟩
  have U1 := Lib.hid (U0.out.trans u1)
  have B0 := Lib.hid (B0.out.up u1)
  have B1 := Lib.hid (B1.out.up u1)
  clear u1 CP
  cases g1
  · go_wp2
    go_ret
    exact ⟨ret_bool (by rw [RB.out]; rfl), U1.out⟩
  · obtain ⟨p0, p1, p2⟩ := And.intro B1.out.c0 (And.intro B1.out.c1 B1.out.c2)
    obtain ⟨q0, q1, q2⟩ := And.intro B0.out.c0 (And.intro B0.out.c1 B0.out.c2)
    by_cases hn : nc = n
    case neg =>
      have hn1 : ((nc : Int) != (n : Int)) = true := by simp; omega
      have hn2 : ¬ (nc : Int) = (n : Int) := by omega
      have RT := Lib.hid (show res = false by rw [RB.out, decide_eq_false hn]; rfl)
      clear RB; go_wp2; go_ret
      exact ⟨ret_bool (by rw [RT.out]), U1.out⟩
    subst hn
    have RB := Lib.hid (show res = (g2 && (g3 && (g4 && g5))) by rw [RB.out, decide_eq_true rfl]; simp)
    go_wp2_with fail
    refine (CR.out _ U1.out).mono ?_; rintro x w2 ⟨rfl, u1⟩
    have U1 := Lib.hid (U1.out.trans u1)
    have B0 := Lib.hid (B0.out.up u1)
    have B1 := Lib.hid (B1.out.up u1)
    clear u1 CR p0 p1 p2 q0 q1 q2
    cases g2
    · go_wp2
      go_ret
      exact ⟨ret_bool (by rw [RB.out]; rfl), U1.out⟩
    · have RB := Lib.hid (show res = (g3 && (g4 && g5)) by rw [RB.out]; rfl)
      go_wp2
      go_loopw [5] (fun i wr => (∃ q : Nat, q ≤ nc ∧ i = .int .i64 q ∧ Hid ((s.comps.drop q).all cstB = g3)) ∧ Up w2 wr) (fun i _ => nc - (intOf i).toNat)
      case atStart => exact ⟨⟨0, by omega, rfl, H1⟩, Up.refl _⟩
      case round =>
        obtain ⟨⟨q, hq, rfl, HR⟩, ur⟩ := hrel
        have UR := Lib.hid (U1.out.trans ur)
        have UQ := Lib.hid ur
        have X0 := Lib.hid (B0.out.up ur)
        have X1 := Lib.hid (B1.out.up ur)
        obtain ⟨p0, p1, p2⟩ := And.intro X1.out.c0 (And.intro X1.out.c1 X1.out.c2); clear ur
        by_cases hlt : q < nc
        · obtain ⟨b, off, hA, hb, hc⟩ := (HC.out.up UR.out).2 (by omega)
          subst hA
          have a0 := hc q hlt
          have S := AD1.out q (by rw [LC.out]; exact hlt)
          clear hc
          generalize s.comps.getD q default = r at a0 S
          have CO := Lib.hid (fun W => specCst_any r W)
          generalize cstB r = o1 at CO S
          have S := Lib.hid S
          obtain ⟨rs, rq, rc⟩ := r; unfold Cst.v at CO; obtain ⟨a0, a1, a2⟩ := a0; dsimp only at a0 a1 a2 CO
          have i4 : (q : Int) < nc := by omega
          go_wp2_with fail
          refine (CO.out _).mono ?_; rintro x wA ⟨rfl, uA⟩
          have UN := Lib.hid (UR.out.trans uA)
          have UM := Lib.hid (UQ.out.trans uA)
          clear uA
          cases o1
          · have HF := Lib.hid (show g3 = false by rw [← HR.out, S.out]; rfl)
            go_wp2; go_ret
            exact ⟨ret_bool (by rw [RB.out, HF.out]; rfl), UN.out⟩
          · have HN := Lib.hid (show (s.comps.drop (q + 1)).all cstB = g3 by rw [← HR.out, S.out]; rfl)
            go_wp2
            go_roundw
            case rel => exact ⟨⟨q + 1, by omega, by go_num, HN⟩, UM.out⟩
            case measure => (simp [intOf]; try omega)
        · obtain rfl : q = nc := by omega
          have i4 : ¬ (q : Int) < q := by omega
          have HT := show g3 = true by rw [← HR.out]; exact AE1.out q (by rw [LC.out]; omega)
          have RB := Lib.hid (show res = (g4 && g5) by rw [RB.out, HT]; rfl)
          clear HT; go_wp2
          go_loopw [6] (fun i wr => (∃ j : Nat, j ≤ nw ∧ i = .int .i64 j ∧ Hid ((s.wait.drop j).all (takB q til) = g4)) ∧ Up w2 wr) (fun i _ => nw - (intOf i).toNat)
          case atStart => exact ⟨⟨0, by omega, rfl, H2⟩, UQ.out⟩
          case round =>
            clear HR UR UQ X0 X1 p0 p1 p2; obtain ⟨⟨e, he, rfl, HR⟩, ur⟩ := hrel
            have UR := Lib.hid (U1.out.trans ur)
            have UQ := Lib.hid ur
            have X0 := Lib.hid (B0.out.up ur)
            have X1 := Lib.hid (B1.out.up ur)
            obtain ⟨p0, p1, p2⟩ := And.intro X1.out.c0 (And.intro X1.out.c1 X1.out.c2); obtain ⟨q0, q1, q2⟩ := And.intro X0.out.c0 (And.intro X0.out.c1 X0.out.c2); clear ur
            by_cases hlt : e < nw
            · obtain ⟨b, off, hA, hb, hc⟩ := (HW.out.up UR.out).2 (by omega)
              subst hA
              have a0 := hc e hlt
              have S := AD2.out e (by rw [LW.out]; exact hlt)
              clear hc
              generalize s.wait.getD e default = r at a0 S
              have CO := Lib.hid (fun W => specOk_any r q W)
              unfold takB at S; rw [show ((fun e => okB e ↑q && decide (e.t ≤ til)) : Evt → Bool) = takB q til from rfl] at S
              generalize okB r q = o1 at CO S
              unfold Evt.v at CO
              have PRV := Lib.hid a0
              have LTB := Lib.hid hb
              have LT := Lib.hid (And.intro X0.out.lt X1.out.lt)
              have EQ := Lib.hid (And.intro X0.out.c0 (And.intro X0.out.c2 X1.out.c1))
              have i4 : (e : Int) < nw := by omega
              obtain ⟨W0, hW0⟩ : ∃ W0, W0 = wr := ⟨_, rfl⟩; subst hW0
              have S := Lib.hid S
              clear a0
              go_wp2_with fail
              cases o1
              · have HF := Lib.hid (show g4 = false by rw [← HR.out, S.out]; rfl)
                clear p0 p1 p2 q0 q1 q2; refine region_mixH (fun w' => Up W0 w') [(0, true), (1, true), (2, true), (3, true), (4, true), (5, true), (6, true), (7, true), (8, false), (9, true), (10, true), (11, true), (12, true), (13, true), (14, true), (15, true), (16, true), (17, true), (18, true), (19, true), (20, true)] (by kernel_rfl) (by kernel_rfl) (Up.refl _).drew ?_; refine mixH_take rfl (by rfl) ?_; apply Exists.intro; refine ⟨fun w1 hS1 => ?_, ?_⟩
                · clear hS1
                  go_simp
                  try rfl
                go_simp; refine mixH_take rfl (by rfl) ?_; apply Exists.intro; refine ⟨fun w1 hS1 => ?_, ?_⟩
                · obtain ⟨k0, k1, k2⟩ := (And.intro ((hS1.cells _ _ LT.out.1).trans EQ.out.1) (And.intro ((hS1.cells _ _ LT.out.1).trans EQ.out.2.1) ((hS1.cells _ _ LT.out.2).trans EQ.out.2.2)))
                  obtain ⟨v0, v1, v2, v3, v4, v5⟩ := (PRV.out.up hS1 LTB.out); clear hS1; go_simp
                  try rfl
                go_simp
                iterate 2
                  refine mixH_take rfl (by rfl) ?_; apply Exists.intro; refine ⟨fun w1 hS1 => ?_, ?_⟩
                  · clear hS1
                    go_simp
                    try rfl
                  go_simp
                refine mixH_take rfl (by rfl) ?_; apply Exists.intro; refine ⟨fun w1 hS1 => ?_, ?_⟩
                · obtain ⟨k0, k1, k2⟩ := (And.intro ((hS1.cells _ _ LT.out.1).trans EQ.out.1) (And.intro ((hS1.cells _ _ LT.out.1).trans EQ.out.2.1) ((hS1.cells _ _ LT.out.2).trans EQ.out.2.2)))
                  obtain ⟨v0, v1, v2, v3, v4, v5⟩ := (PRV.out.up hS1 LTB.out); clear hS1; go_simp
                  try rfl
                go_simp; refine mixH_take rfl (by rfl) ?_; apply Exists.intro; refine ⟨fun w1 hS1 => ?_, ?_⟩
                · clear hS1
                  go_simp
                  try rfl
                go_simp; refine mixH_take rfl (by rfl) ?_; apply Exists.intro; refine ⟨fun w1 hS1 => ?_, ?_⟩
                · obtain ⟨k0, k1, k2⟩ := (And.intro ((hS1.cells _ _ LT.out.1).trans EQ.out.1) (And.intro ((hS1.cells _ _ LT.out.1).trans EQ.out.2.1) ((hS1.cells _ _ LT.out.2).trans EQ.out.2.2)))
                  obtain ⟨v0, v1, v2, v3, v4, v5⟩ := (PRV.out.up hS1 LTB.out); clear hS1; go_simp
                  try rfl
                go_simp; refine mixH_take rfl (by rfl) ?_; apply Exists.intro; refine ⟨fun w1 hS1 => ?_, ?_⟩
                · clear hS1
                  go_simp
                  try rfl
                go_simp; refine mixH_go rfl (by rfl) (fun K hK => ?_); go_simp; refine (CO.out _).mono ?_; rintro z wA ⟨rfl, uA⟩; refine hK _ _ ((Up.refl _).drew.trans uA) ?_; clear hK K; go_simp
                iterate 2
                  refine mixH_take rfl (by rfl) ?_; apply Exists.intro; refine ⟨fun w1 hS1 => ?_, ?_⟩
                  · clear hS1
                    go_simp
                    try rfl
                  go_simp
                iterate 4
                  refine mixH_skip rfl (by rfl) ?_; go_simp; refine mixH_skip rfl (by rfl) ?_; go_simp
                refine mixH_skip rfl (by rfl) ?_; go_simp; refine mixH_take rfl (by rfl) ?_; apply Exists.intro; refine ⟨fun w1 hS1 => ?_, ?_⟩
                · clear hS1
                  go_simp
                  try rfl
                go_simp; refine mixH_nil ?_
                have UE := Lib.hid (UR.out.trans ((Up.refl _).drew.trans uA))
                clear uA; go_wp2; go_ret
                exact ⟨ret_bool (by rw [RB.out, HF.out]; rfl), UE.out⟩
              · by_cases hti : r.t ≤ til
                · have HN := Lib.hid (show (s.wait.drop (e + 1)).all (takB q til) = g4 by rw [← HR.out, S.out, decide_eq_true hti]; rfl)
                  have hti2 : ¬ til < r.t := by omega
                  clear p0 p1 p2 q0 q1 q2; refine region_mixH (fun w' => Up W0 w') [(0, true), (1, true), (2, true), (3, true), (4, true), (5, true), (6, true), (7, true), (8, false), (9, true), (10, true), (11, true), (12, true), (13, true), (14, true), (15, true), (16, true), (17, true), (18, true), (19, true), (20, true)] (by kernel_rfl) (by kernel_rfl) (Up.refl _).drew ?_; refine mixH_take rfl (by rfl) ?_; apply Exists.intro; refine ⟨fun w1 hS1 => ?_, ?_⟩
                  · clear hS1
                    go_simp
                    try rfl
                  go_simp; refine mixH_take rfl (by rfl) ?_; apply Exists.intro; refine ⟨fun w1 hS1 => ?_, ?_⟩
                  · obtain ⟨k0, k1, k2⟩ := (And.intro ((hS1.cells _ _ LT.out.1).trans EQ.out.1) (And.intro ((hS1.cells _ _ LT.out.1).trans EQ.out.2.1) ((hS1.cells _ _ LT.out.2).trans EQ.out.2.2)))
                    obtain ⟨v0, v1, v2, v3, v4, v5⟩ := (PRV.out.up hS1 LTB.out); clear hS1; go_simp
                    try rfl
                  go_simp
                  iterate 2
                    refine mixH_take rfl (by rfl) ?_; apply Exists.intro; refine ⟨fun w1 hS1 => ?_, ?_⟩
                    · clear hS1
                      go_simp
                      try rfl
                    go_simp
                  refine mixH_take rfl (by rfl) ?_; apply Exists.intro; refine ⟨fun w1 hS1 => ?_, ?_⟩
                  · obtain ⟨k0, k1, k2⟩ := (And.intro ((hS1.cells _ _ LT.out.1).trans EQ.out.1) (And.intro ((hS1.cells _ _ LT.out.1).trans EQ.out.2.1) ((hS1.cells _ _ LT.out.2).trans EQ.out.2.2)))
                    obtain ⟨v0, v1, v2, v3, v4, v5⟩ := (PRV.out.up hS1 LTB.out); clear hS1; go_simp
                    try rfl
                  go_simp; refine mixH_take rfl (by rfl) ?_; apply Exists.intro; refine ⟨fun w1 hS1 => ?_, ?_⟩
                  · clear hS1
                    go_simp
                    try rfl
                  go_simp; refine mixH_take rfl (by rfl) ?_; apply Exists.intro; refine ⟨fun w1 hS1 => ?_, ?_⟩
                  · obtain ⟨k0, k1, k2⟩ := (And.intro ((hS1.cells _ _ LT.out.1).trans EQ.out.1) (And.intro ((hS1.cells _ _ LT.out.1).trans EQ.out.2.1) ((hS1.cells _ _ LT.out.2).trans EQ.out.2.2)))
                    obtain ⟨v0, v1, v2, v3, v4, v5⟩ := (PRV.out.up hS1 LTB.out); clear hS1; go_simp
                    try rfl
                  go_simp; refine mixH_take rfl (by rfl) ?_; apply Exists.intro; refine ⟨fun w1 hS1 => ?_, ?_⟩
                  · clear hS1
                    go_simp
                    try rfl
                  go_simp; refine mixH_go rfl (by rfl) (fun K hK => ?_); go_simp; refine (CO.out _).mono ?_; rintro z wA ⟨rfl, uA⟩; refine hK _ _ ((Up.refl _).drew.trans uA) ?_; clear hK K; go_simp
                  iterate 3
                    refine mixH_take rfl (by rfl) ?_; apply Exists.intro; refine ⟨fun w1 hS1 => ?_, ?_⟩
                    · clear hS1
                      go_simp
                      try rfl
                    go_simp
                  refine mixH_take rfl (by rfl) ?_; apply Exists.intro; refine ⟨fun w1 hS1 => ?_, ?_⟩
                  · obtain ⟨k0, k1, k2⟩ := (And.intro ((hS1.cells _ _ LT.out.1).trans EQ.out.1) (And.intro ((hS1.cells _ _ LT.out.1).trans EQ.out.2.1) ((hS1.cells _ _ LT.out.2).trans EQ.out.2.2)))
                    obtain ⟨v0, v1, v2, v3, v4, v5⟩ := (PRV.out.up hS1 LTB.out); clear hS1; go_simp
                    try rfl
                  go_simp
                  iterate 3
                    refine mixH_take rfl (by rfl) ?_; apply Exists.intro; refine ⟨fun w1 hS1 => ?_, ?_⟩
                    · clear hS1
                      go_simp
                      try rfl
                    go_simp
                  refine mixH_take rfl (by rfl) ?_; apply Exists.intro; refine ⟨fun w1 hS1 => ?_, ?_⟩
                  · obtain ⟨k0, k1, k2⟩ := (And.intro ((hS1.cells _ _ LT.out.1).trans EQ.out.1) (And.intro ((hS1.cells _ _ LT.out.1).trans EQ.out.2.1) ((hS1.cells _ _ LT.out.2).trans EQ.out.2.2)))
                    obtain ⟨v0, v1, v2, v3, v4, v5⟩ := (PRV.out.up hS1 LTB.out); clear hS1; go_simp
                    try rfl
                  go_simp; refine mixH_take rfl (by rfl) ?_; apply Exists.intro; refine ⟨fun w1 hS1 => ?_, ?_⟩
                  · clear hS1
                    go_simp
                    try rfl
                  go_simp; refine mixH_take rfl (by rfl) ?_; apply Exists.intro; refine ⟨fun w1 hS1 => ?_, ?_⟩
                  · obtain ⟨k0, k1, k2⟩ := (And.intro ((hS1.cells _ _ LT.out.1).trans EQ.out.1) (And.intro ((hS1.cells _ _ LT.out.1).trans EQ.out.2.1) ((hS1.cells _ _ LT.out.2).trans EQ.out.2.2)))
                    obtain ⟨v0, v1, v2, v3, v4, v5⟩ := (PRV.out.up hS1 LTB.out); clear hS1; go_simp
                    try rfl
                  go_simp
                  iterate 2
                    refine mixH_take rfl (by rfl) ?_; apply Exists.intro; refine ⟨fun w1 hS1 => ?_, ?_⟩
                    · clear hS1
                      go_simp
                      try rfl
                    go_simp
                  refine mixH_nil ?_
                  have UE := Lib.hid (UQ.out.trans ((Up.refl _).drew.trans uA))
                  clear uA; go_wp2
                  go_roundw
                  case rel => exact ⟨⟨e + 1, by omega, by go_num, HN⟩, UE.out⟩
                  case measure => (simp [intOf]; try omega)
                · have HF := Lib.hid (show g4 = false by rw [← HR.out, S.out, decide_eq_false hti]; rfl)
                  have hti2 : til < r.t := by omega
                  clear p0 p1 p2 q0 q1 q2; refine region_mixH (fun w' => Up W0 w') [(0, true), (1, true), (2, true), (3, true), (4, true), (5, true), (6, true), (7, true), (8, false), (9, true), (10, true), (11, true), (12, true), (13, true), (14, true), (15, true), (16, true), (17, true), (18, true), (19, true), (20, true)] (by kernel_rfl) (by kernel_rfl) (Up.refl _).drew ?_; refine mixH_take rfl (by rfl) ?_; apply Exists.intro; refine ⟨fun w1 hS1 => ?_, ?_⟩
                  · clear hS1
                    go_simp
                    try rfl
                  go_simp; refine mixH_take rfl (by rfl) ?_; apply Exists.intro; refine ⟨fun w1 hS1 => ?_, ?_⟩
                  · obtain ⟨k0, k1, k2⟩ := (And.intro ((hS1.cells _ _ LT.out.1).trans EQ.out.1) (And.intro ((hS1.cells _ _ LT.out.1).trans EQ.out.2.1) ((hS1.cells _ _ LT.out.2).trans EQ.out.2.2)))
                    obtain ⟨v0, v1, v2, v3, v4, v5⟩ := (PRV.out.up hS1 LTB.out); clear hS1; go_simp
                    try rfl
                  go_simp
                  iterate 2
                    refine mixH_take rfl (by rfl) ?_; apply Exists.intro; refine ⟨fun w1 hS1 => ?_, ?_⟩
                    · clear hS1
                      go_simp
                      try rfl
                    go_simp
                  refine mixH_take rfl (by rfl) ?_; apply Exists.intro; refine ⟨fun w1 hS1 => ?_, ?_⟩
                  · obtain ⟨k0, k1, k2⟩ := (And.intro ((hS1.cells _ _ LT.out.1).trans EQ.out.1) (And.intro ((hS1.cells _ _ LT.out.1).trans EQ.out.2.1) ((hS1.cells _ _ LT.out.2).trans EQ.out.2.2)))
                    obtain ⟨v0, v1, v2, v3, v4, v5⟩ := (PRV.out.up hS1 LTB.out); clear hS1; go_simp
                    try rfl
                  go_simp; refine mixH_take rfl (by rfl) ?_; apply Exists.intro; refine ⟨fun w1 hS1 => ?_, ?_⟩
                  · clear hS1
                    go_simp
                    try rfl
                  go_simp; refine mixH_take rfl (by rfl) ?_; apply Exists.intro; refine ⟨fun w1 hS1 => ?_, ?_⟩
                  · obtain ⟨k0, k1, k2⟩ := (And.intro ((hS1.cells _ _ LT.out.1).trans EQ.out.1) (And.intro ((hS1.cells _ _ LT.out.1).trans EQ.out.2.1) ((hS1.cells _ _ LT.out.2).trans EQ.out.2.2)))
                    obtain ⟨v0, v1, v2, v3, v4, v5⟩ := (PRV.out.up hS1 LTB.out); clear hS1; go_simp
                    try rfl
                  go_simp; refine mixH_take rfl (by rfl) ?_; apply Exists.intro; refine ⟨fun w1 hS1 => ?_, ?_⟩
                  · clear hS1
                    go_simp
                    try rfl
                  go_simp; refine mixH_go rfl (by rfl) (fun K hK => ?_); go_simp; refine (CO.out _).mono ?_; rintro z wA ⟨rfl, uA⟩; refine hK _ _ ((Up.refl _).drew.trans uA) ?_; clear hK K; go_simp
                  iterate 3
                    refine mixH_take rfl (by rfl) ?_; apply Exists.intro; refine ⟨fun w1 hS1 => ?_, ?_⟩
                    · clear hS1
                      go_simp
                      try rfl
                    go_simp
                  refine mixH_take rfl (by rfl) ?_; apply Exists.intro; refine ⟨fun w1 hS1 => ?_, ?_⟩
                  · obtain ⟨k0, k1, k2⟩ := (And.intro ((hS1.cells _ _ LT.out.1).trans EQ.out.1) (And.intro ((hS1.cells _ _ LT.out.1).trans EQ.out.2.1) ((hS1.cells _ _ LT.out.2).trans EQ.out.2.2)))
                    obtain ⟨v0, v1, v2, v3, v4, v5⟩ := (PRV.out.up hS1 LTB.out); clear hS1; go_simp
                    try rfl
                  go_simp
                  iterate 3
                    refine mixH_take rfl (by rfl) ?_; apply Exists.intro; refine ⟨fun w1 hS1 => ?_, ?_⟩
                    · clear hS1
                      go_simp
                      try rfl
                    go_simp
                  refine mixH_take rfl (by rfl) ?_; apply Exists.intro; refine ⟨fun w1 hS1 => ?_, ?_⟩
                  · obtain ⟨k0, k1, k2⟩ := (And.intro ((hS1.cells _ _ LT.out.1).trans EQ.out.1) (And.intro ((hS1.cells _ _ LT.out.1).trans EQ.out.2.1) ((hS1.cells _ _ LT.out.2).trans EQ.out.2.2)))
                    obtain ⟨v0, v1, v2, v3, v4, v5⟩ := (PRV.out.up hS1 LTB.out); clear hS1; go_simp
                    try rfl
                  go_simp; refine mixH_take rfl (by rfl) ?_; apply Exists.intro; refine ⟨fun w1 hS1 => ?_, ?_⟩
                  · clear hS1
                    go_simp
                    try rfl
                  go_simp; refine mixH_take rfl (by rfl) ?_; apply Exists.intro; refine ⟨fun w1 hS1 => ?_, ?_⟩
                  · obtain ⟨k0, k1, k2⟩ := (And.intro ((hS1.cells _ _ LT.out.1).trans EQ.out.1) (And.intro ((hS1.cells _ _ LT.out.1).trans EQ.out.2.1) ((hS1.cells _ _ LT.out.2).trans EQ.out.2.2)))
                    obtain ⟨v0, v1, v2, v3, v4, v5⟩ := (PRV.out.up hS1 LTB.out); clear hS1; go_simp
                    try rfl
                  go_simp
                  iterate 2
                    refine mixH_take rfl (by rfl) ?_; apply Exists.intro; refine ⟨fun w1 hS1 => ?_, ?_⟩
                    · clear hS1
                      go_simp
                      try rfl
                    go_simp
                  refine mixH_nil ?_
                  have UE := Lib.hid (UR.out.trans ((Up.refl _).drew.trans uA))
                  clear uA; go_wp2; go_ret
                  exact ⟨ret_bool (by rw [RB.out, HF.out]; rfl), UE.out⟩
            · obtain rfl : e = nw := by omega
              have i4 : ¬ (e : Int) < e := by omega
              have HT := show g4 = true by rw [← HR.out]; exact AE2.out e (by rw [LW.out]; omega)
              have RB := Lib.hid (show res = g5 by rw [RB.out, HT]; rfl)
              clear HT
              go_wp2_with fail
              refine (CG.out _ UR.out).mono ?_; rintro x w3 ⟨rfl, u3⟩
              have UE := Lib.hid (UR.out.trans u3)
              clear u3; go_wp2; go_ret
              exact ⟨ret_bool (by rw [RB.out]), UE.out⟩
end Go.Proofs.Ytklldniapombiaa

namespace Go.Proofs.Ytklldniapombiaa
set_option maxRecDepth 100000
open Go.RowKit
theorem sendsE_most (til s : Int) (e : Evt) : ∀ (xs : List Evt) (q : Int), (sendsE til s e xs q).1.length ≤ xs.length
  | [], _ => Nat.le_refl _
  | x :: xs, q => by
    rw [sendsE]
    split
    · exact Nat.le_succ_of_le (sendsE_most til s e xs q)
    · split
      · exact Nat.succ_le_succ (sendsE_most til s e xs (q + 1))
      · exact Nat.le_succ_of_le (sendsE_most til s e xs (q + 1))
theorem ruleOf_rule (kd many : Int) : ∀ (rs : List Rule) (bf : Int) (r : Rule), rulesB many bf rs = true → ruleOf kd rs = some r → ruleB r many = true
  | [], _, _, _, h => by cases h
  | x :: rs, bf, r, h, hr => by
    rw [rulesB, Bool.and_eq_true, Bool.and_eq_true] at h; rw [ruleOf] at hr
    split at hr
    · injection hr with hr
      exact hr ▸ h.1.2
    · exact ruleOf_rule kd many rs x.kd r h.2 hr
theorem doE_len {m : Mdl} {c : Cst} {e : Evt} (h : mdlB m = true) : (doE m c e).2.length ≤ 2 := by
  unfold doE
  split
  · simp
  · rename_i r hr
    refine Nat.le_trans (sendsE_most _ _ _ _ _) ?_; simp only [mdlB, Bool.and_eq_true] at h
    have hm : rulesB m.rules.length (-1) (m.rules.getD e.to.toNat []) = true := by
      by_cases hl : e.to.toNat < m.rules.length
      · have := List.all_eq_true.1 h.2 (m.rules[e.to.toNat]) (List.getElem_mem hl)
        simpa [List.getD, hl] using this
      · simp [List.getD, hl, rulesB]
    have := ruleOf_rule _ _ _ _ _ hm hr
    simp only [ruleB, Bool.and_eq_true, decide_eq_true_eq] at this
    omega
end Go.Proofs.Ytklldniapombiaa

namespace Go.Proofs.Ytklldniapombiaa
set_option maxRecDepth 100000
open Go.RowKit
theorem Evs.front {w : World} {A : Option Addr} {n k : Nat} {es : List Evt} (h : Evs w A n es) (hk : k ≤ n) : Evs w A k (es.take k) :=
  ⟨by rw [List.length_take, h.1]; omega, fun h0 => by
    obtain ⟨b, off, hA, hb, hc⟩ := h.2 (by omega); refine ⟨b, off, hA, hb, fun i hi => ?_⟩
    have := hc i (by omega)
    rw [show (es.take k).getD i default = es.getD i default by simp [List.getD, hi]]
    exact this⟩
section
variable {P : Program}
end
end Go.Proofs.Ytklldniapombiaa

namespace Go.Proofs.Ytklldniapombiaa
set_option maxRecDepth 100000
open Go.RowKit
theorem fit_first {m : Mdl} {nc : Nat} {s : Sq} {e : Evt} {r : List Evt} (hm : mdlB m = true) (h : fitB m.rules.length m.til nc s = true) (hc : s.comps.length = nc) (he : s.wait = e :: r) :
    (0 ≤ e.to ∧ e.to < nc) ∧ mayB m (s.comps.getD e.to.toNat default) e = true := by
  simp only [fitB, Bool.and_eq_true, decide_eq_true_eq, he, List.all_cons, takB] at h; obtain ⟨-, hn, hcs, ⟨⟨ho, ht⟩, -⟩, -⟩ := h
  have ho' := ho
  simp only [okB, Bool.and_eq_true, inB_iff] at ho'
  have h1 : 0 ≤ e.to ∧ e.to < nc := by omega
  refine ⟨h1, ?_⟩
  have hl : e.to.toNat < s.comps.length := by omega
  have hc1 := List.all_eq_true.1 hcs (s.comps[e.to.toNat]) (List.getElem_mem hl)
  simp only [mayB, Bool.and_eq_true, decide_eq_true_eq]
  exact ⟨⟨⟨hm, by simpa [List.getD, hl] using hc1⟩, ho⟩, ht⟩
end Go.Proofs.Ytklldniapombiaa

namespace Go.Proofs.Ytklldniapombiaa
set_option maxRecDepth 100000
open Go.RowKit
inductive Plan where
  | nil : Plan
  | take (k : Nat) (p : Plan) : Plan
  | one (k : Nat) (p : Plan) : Plan
  | two (k : Nat) (p : Plan) (k' : Nat) (p' : Plan) : Plan
def planB (ops : Array Oper) : Plan → Nat → Array Bool → Bool
  | .nil, n, listed => decide (n = 0) && (Region.ready .any ops listed).isEmpty
  | .take k p, n + 1, listed => decide (k < ops.size) && (Region.ready .any ops listed).contains k && Region.free .any ops listed k && planB ops p n (listed.setIfInBounds k true)
  | .one k p, n + 1, listed => decide (k < ops.size) && decide (Region.ready .any ops listed = [k]) && planB ops p n (listed.setIfInBounds k true)
  | .two k p k' p', n + 1, listed => decide (Region.ready .any ops listed = [k, k']) && planB ops p n (listed.setIfInBounds k true) && planB ops p' n (listed.setIfInBounds k' true)
  | _, _, _ => false
def effW (P : Program) (ops : Array Oper) (Q : Exit → Act → World → Prop) (S : World → Prop) (k : Nat) (rest : Act → World → Prop) (a : Act) (w : World) : Prop :=
  ∃ o, ops[k]? = some o ∧ if Region.wanted o (yielded ops a.tmps) = true then o.wp P a w (fun a' w' => S w' ∧ rest a' w') Q else rest (a.put o.dst undef) w
def wpPlan (P : Program) (ops : Array Oper) (Q : Exit → Act → World → Prop) (S : World → Prop) : Plan → Act → World → Prop
  | .nil, a, w => Q .normal a w
  | .take k p, a, w => ∃ o v, ops[k]? = some o ∧ YieldsIf P ops S o v a ∧ wpPlan P ops Q S p (a.put o.dst v) w
  | .one k p, a, w => effW P ops Q S k (wpPlan P ops Q S p) a w
  | .two k p k' p', a, w => effW P ops Q S k (wpPlan P ops Q S p) a w ∧ effW P ops Q S k' (wpPlan P ops Q S p') a w
theorem wpAnyH_of_plan {P : Program} {ops : Array Oper} {Q : Exit → Act → World → Prop} {S : World → Prop} (hsel : Region.noSelect ops = true) (hQ : ∀ c (a : Act) d v w, Q (.panic c) (a.put d v) w → Q (.panic c) a w) :
    ∀ (p : Plan) (n : Nat) (listed : Array Bool) (a : Act) (w : World), planB ops p n listed = true → S w → wpPlan P ops Q S p a w → wpAnyH P .any ops Q S n listed a w
  | .nil, n, _, _, _, hB, _, h => by
    simp only [planB, Bool.and_eq_true, decide_eq_true_eq] at hB; obtain ⟨rfl, hB⟩ := hB
    exact ⟨by simpa using hB, h⟩
  | .take k p, 0, _, _, _, hB, _, _ => by simp [planB] at hB
  | .take k p, n + 1, listed, a, w, hB, hS, h => by
    simp only [planB, Bool.and_eq_true] at hB; obtain ⟨o, v, h0, hy, hn⟩ := h
    exact wpAnyH_take h0 hsel hB.1.2 hB.1.1.2 (fun c a w => hQ c a _ _ w) hy hS (wpAnyH_of_plan hsel hQ p n _ _ _ hB.2 hS hn)
  | .one k p, 0, _, _, _, hB, _, _ => by simp [planB] at hB
  | .one k p, n + 1, listed, a, w, hB, hS, h => by
    simp only [planB, Bool.and_eq_true, decide_eq_true_eq] at hB; obtain ⟨o, h0, h⟩ := h
    refine wpAnyH_all hB.1.2 (by simp) fun i hi => ?_
    obtain rfl : i = k := by simpa using hi
    refine wpOp_mono (K := fun a' w' => S w' ∧ wpPlan P ops Q S p a' w') (fun a' w' h' => ⟨h'.1, wpAnyH_of_plan hsel hQ p n _ _ _ hB.2 h'.1 h'.2⟩) ?_; unfold wpOp; simp only [h0]
    split
    · rename_i hw
      rw [if_pos hw] at h
      exact .inl h
    · rename_i hw
      rw [if_neg hw] at h
      exact ⟨hS, h⟩
  | .two k p k' p', 0, _, _, _, hB, _, _ => by simp [planB] at hB
  | .two k p k' p', n + 1, listed, a, w, hB, hS, h => by
    simp only [planB, Bool.and_eq_true, decide_eq_true_eq] at hB; obtain ⟨⟨o, h0, h⟩, ⟨o', h0', h'⟩⟩ := h
    refine wpAnyH_all hB.1.1 (by simp) fun i hi => ?_
    have hi : i = k ∨ i = k' := by simpa using hi
    rcases hi with rfl | rfl
    · refine wpOp_mono (K := fun a' w' => S w' ∧ wpPlan P ops Q S p a' w') (fun a' w' h' => ⟨h'.1, wpAnyH_of_plan hsel hQ p n _ _ _ hB.1.2 h'.1 h'.2⟩) ?_
      unfold wpOp; simp only [h0]
      split
      · rename_i hw
        rw [if_pos hw] at h
        exact .inl h
      · rename_i hw
        rw [if_neg hw] at h
        exact ⟨hS, h⟩
    · refine wpOp_mono (K := fun a' w' => S w' ∧ wpPlan P ops Q S p' a' w') (fun a' w' h' => ⟨h'.1, wpAnyH_of_plan hsel hQ p' n _ _ _ hB.2 h'.1 h'.2⟩) ?_
      unfold wpOp; simp only [h0']
      split
      · rename_i hw
        rw [if_pos hw] at h'
        exact .inl h'
      · rename_i hw
        rw [if_neg hw] at h'
        exact ⟨hS, h'⟩
/-- What is left to walk, kept shut. -/
@[irreducible] def pWalk (P : Program) (ops : Array Oper) (Q : Exit → Act → World → Prop) (S : World → Prop) (p : Plan) (a : Act) (w : World) : Prop := wpPlan P ops Q S p a w
theorem region_plan {P : Program} {id : Nat} {Q : Exit → Act → World → Prop} {a : Act} {w : World} {l : List Oper} (S : World → Prop) (p : Plan) (hm : P.follows .mixedOrders = true)
    (hB : (Region.noSelect l.toArray && planB l.toArray p l.length (Array.replicate l.toArray.size false)) = true) (hS : S w.drew)
    (h : pWalk P l.toArray (NoPanic Q) S p a w.drew) : (Code.region id l.toArray true).wp P Q a w := by
  unfold pWalk at h; simp only [Bool.and_eq_true] at hB; refine wp_region_noPanic (wp_region_held (S := S) hm ?_)
  have := wpAnyH_of_plan (P := P) (Q := NoPanic Q) hB.1 (fun _ _ _ _ _ h => h) p l.length _ a w.drew hB.2 hS h
  simpa using this
section
variable {P : Program} {ops : Array Oper} {Q : Exit → Act → World → Prop} {S : World → Prop} {p p' : Plan} {k k' : Nat} {o : Oper} {a : Act} {w : World}
theorem plan_take (h0 : ops[k]? = some o) (hw : Region.wanted o (yielded ops a.tmps) = true) (h : ∃ v, (∀ w1, S w1 → (execOp a.eval o).run P w1 = .ok (.value v) w1) ∧ pWalk P ops Q S p (a.put o.dst v) w) : pWalk P ops Q S (.take k p) a w := by
  unfold pWalk at h ⊢; obtain ⟨v, hv, hn⟩ := h
  exact ⟨o, v, h0, .inl ⟨hw, hv⟩, hn⟩
theorem plan_go (h0 : ops[k]? = some o) (hw : Region.wanted o (yielded ops a.tmps) = true) (h : ∀ K : Act → World → Prop, (∀ a w, S w → pWalk P ops Q S p a w → K a w) → o.wp P a w K Q) : pWalk P ops Q S (.one k p) a w := by
  unfold pWalk at h ⊢; refine ⟨o, h0, ?_⟩; rw [if_pos hw]
  exact h _ fun _ _ hs h => ⟨hs, h⟩
theorem plan_two (h : pWalk P ops Q S (.one k p) a w) (h' : pWalk P ops Q S (.one k' p') a w) : pWalk P ops Q S (.two k p k' p') a w := by
  unfold pWalk at h h' ⊢
  exact ⟨h, h'⟩
theorem plan_nil (h : Q .normal a w) : pWalk P ops (NoPanic Q) S .nil a w := by
  unfold pWalk
  exact h
end
end Go.Proofs.Ytklldniapombiaa

/-
  What spec.SeqOk returns, in one sentence: whether the model is one and the simulator is one of it; for every model and every simulator of short lists that lie in memory.
  What pick gives, in one sentence: a number below its bound, and the reader is one further; for every reader that lies in memory.
  What is known of a model on the way, in one sentence: its rows of rules lie in a typed heap, its two blocks are known whole; no condition is made.
-/
import Derived.Test.YtklldniapombiaaDLEwev01
import Derived.Test.YtklldniapombiaaDLEwev03
import Derived.Test.YtklldniapombiaaDLEwev08
import Derived.Test.YtklldniapombiaaDLEwev11
import Derived.Test.YtklldniapombiaaDLEwev13
import Derived.Test.YtklldniapombiaaDLEwev15
import Derived.Test.YtklldniapombiaaDLEwev20
namespace Go.Proofs.Ytklldniapombiaa
set_option maxRecDepth 100000
open Go.RowKit
set_option maxHeartbeats 8000000 in
theorem specSeqOk_any (A : Option Addr) (n c : Nat) (B : Option Addr) (k d : Nat) (m : Mdl) (Ac : Option Addr) (nc cc : Nat) (Aw : Option Addr) (nw cw : Nat) (Al : Option Addr) (nl cl : Nat) (s : Sq) (w : World) (hM : MdlV w A n B k m) (hS : ShortSq nc nw nl) (hV : SqV w Ac nc Aw nw Al nl s) :
    Calls Try.prog 36 #[.agg #[.slice A n c, .slice B k d, .int .i64 m.til], .agg #[.slice Ac nc cc, .slice Aw nw cw, .slice Al nl cl]] w fun x w' => x = .returned (.bool (sqS m n nc s)) ∧ Up w w' := by
  have hS' := hS
  obtain ⟨h1, h2, h3⟩ := hS'
  have RB := Lib.hid (show sqS m n nc s = (mdlB m && (decide (nc = n) && (riseB s.wait && (s.comps.all cstB && (s.wait.all (takB n m.til) && (logB n none s.log && joinB (lastP none s.log) s.wait)))))) from rfl)
  have CP := Lib.hid (fun W (u : Up w W) => specMdl_any A n c B k d m W (hM.up u))
  have CR := Lib.hid (fun W (u : Up w W) => specRise_any Aw nw cw s.wait W (by omega) (hV.wait.up u))
  have CG := Lib.hid (fun W (u : Up w W) => specLog_any A n c B k d m.til Ac nc cc Aw nw cw Al nl cl s W hS (hV.up u))
  have HC := Lib.hid hV.comps
  have HW := Lib.hid hV.wait
  have LC := Lib.hid hV.comps.1
  have LW := Lib.hid hV.wait.1
  have AD1 := Lib.hid (fun k h => all_drop (f := cstB) (d := default) s.comps k h)
  have AE1 := Lib.hid (fun k h => all_end (f := cstB) s.comps k h)
  have AD2 := Lib.hid (fun k h => all_drop (f := takB n m.til) (d := default) s.wait k h)
  have AE2 := Lib.hid (fun k h => all_end (f := takB n m.til) s.wait k h)
  have H1 := Lib.hid (show (s.comps.drop 0).all cstB = s.comps.all cstB from rfl)
  have H2 := Lib.hid (show (s.wait.drop 0).all (takB n m.til) = s.wait.all (takB n m.til) from rfl)
  generalize sqS m n nc s = res at RB ⊢
  generalize mdlB m = g1 at RB CP
  generalize riseB s.wait = g2 at RB CR
  generalize s.comps.all cstB = g3 at RB H1
  generalize s.wait.all (takB n m.til) = g4 at RB H2
  generalize (logB n none s.log && joinB (lastP none s.log) s.wait) = g5 at RB CG
  have B0 := (Box3.new w (.slice A n c) (.slice B k d) (.int .i64 m.til) 36).up ((Up.refl _).alloc (.cells #[.slice Ac nc cc, .slice Aw nw cw, .slice Al nl cl] 62))
  have B1 := Box3.new (w.alloc (.cells #[.slice A n c, .slice B k d, .int .i64 m.til] 36)) (.slice Ac nc cc) (.slice Aw nw cw) (.slice Al nl cl) 62
  simp only [World.size_alloc] at B1
  have U0 := Lib.hid (((Up.refl w).alloc (.cells #[.slice A n c, .slice B k d, .int .i64 m.til] 36)).alloc (.cells #[.slice Ac nc cc, .slice Aw nw cw, .slice Al nl cl] 62))
  have B0 := Lib.hid B0
  have B1 := Lib.hid B1
  clear hM hV hS
  generalize m.til = til at *
  go_enter Try.func36, Try.ntmps36
  go_wp2_with fail
  generalize (w.alloc (.cells #[.slice A n c, .slice B k d, .int .i64 til] 36)).alloc (.cells #[.slice Ac nc cc, .slice Aw nw cw, .slice Al nl cl] 62) = W at *
  generalize hb1 : w.heap.size + 1 = b1 at *
  generalize hb0 : w.heap.size = b0 at *
  clear hb0 hb1; refine (CP.out _ U0.out).mono ?_; rintro x w1 ⟨rfl, u1⟩
  have U1 := Lib.hid (U0.out.trans u1)
  have B0 := Lib.hid (B0.out.up u1)
  have B1 := Lib.hid (B1.out.up u1)
  clear u1 CP
  cases g1
  · go_wp2
    go_ret
    exact ⟨ret_bool (by rw [RB.out]; rfl), U1.out⟩
  · obtain ⟨p0, p1, p2⟩ := And.intro B1.out.c0 (And.intro B1.out.c1 B1.out.c2)
    obtain ⟨q0, q1, q2⟩ := And.intro B0.out.c0 (And.intro B0.out.c1 B0.out.c2)
    by_cases hn : nc = n
    case neg =>
      have hn1 : ((nc : Int) != (n : Int)) = true := by simp; omega
      have hn2 : ¬ (nc : Int) = (n : Int) := by omega
      have RT := Lib.hid (show res = false by rw [RB.out, decide_eq_false hn]; rfl)
      clear RB; go_wp2; go_ret
      exact ⟨ret_bool (by rw [RT.out]), U1.out⟩
    subst hn
    have RB := Lib.hid (show res = (g2 && (g3 && (g4 && g5))) by rw [RB.out, decide_eq_true rfl]; simp)
    go_wp2_with fail
    refine (CR.out _ U1.out).mono ?_; rintro x w2 ⟨rfl, u1⟩
    have U1 := Lib.hid (U1.out.trans u1)
    have B0 := Lib.hid (B0.out.up u1)
    have B1 := Lib.hid (B1.out.up u1)
    clear u1 CR p0 p1 p2 q0 q1 q2
    cases g2
    · go_wp2
      go_ret
      exact ⟨ret_bool (by rw [RB.out]; rfl), U1.out⟩
    · have RB := Lib.hid (show res = (g3 && (g4 && g5)) by rw [RB.out]; rfl)
      go_wp2
      go_loopw [5] (fun i wr => (∃ q : Nat, q ≤ nc ∧ i = .int .i64 q ∧ Hid ((s.comps.drop q).all cstB = g3)) ∧ Up w2 wr) (fun i _ => nc - (intOf i).toNat)
      case atStart => exact ⟨⟨0, by omega, rfl, H1⟩, Up.refl _⟩
      case round =>
        obtain ⟨⟨q, hq, rfl, HR⟩, ur⟩ := hrel
        have UR := Lib.hid (U1.out.trans ur)
        have UQ := Lib.hid ur
        have X0 := Lib.hid (B0.out.up ur)
        have X1 := Lib.hid (B1.out.up ur)
        obtain ⟨p0, p1, p2⟩ := And.intro X1.out.c0 (And.intro X1.out.c1 X1.out.c2); clear ur
        by_cases hlt : q < nc
        · obtain ⟨b, off, hA, hb, hc⟩ := (HC.out.up UR.out).2 (by omega)
          subst hA
          have a0 := hc q hlt
          have S := AD1.out q (by rw [LC.out]; exact hlt)
          clear hc
          generalize s.comps.getD q default = r at a0 S
          have CO := Lib.hid (fun W => specCst_any r W)
          generalize cstB r = o1 at CO S
          have S := Lib.hid S
          obtain ⟨rs, rq, rc⟩ := r; unfold Cst.v at CO; obtain ⟨a0, a1, a2⟩ := a0; dsimp only at a0 a1 a2 CO
          have i4 : (q : Int) < nc := by omega
          go_wp2_with fail
          refine (CO.out _).mono ?_; rintro x wA ⟨rfl, uA⟩
          have UN := Lib.hid (UR.out.trans uA)
          have UM := Lib.hid (UQ.out.trans uA)
          clear uA
          cases o1
          · have HF := Lib.hid (show g3 = false by rw [← HR.out, S.out]; rfl)
            go_wp2; go_ret
            exact ⟨ret_bool (by rw [RB.out, HF.out]; rfl), UN.out⟩
          · have HN := Lib.hid (show (s.comps.drop (q + 1)).all cstB = g3 by rw [← HR.out, S.out]; rfl)
            go_wp2
            go_roundw
            case rel => exact ⟨⟨q + 1, by omega, by go_num, HN⟩, UM.out⟩
            case measure => (simp [intOf]; try omega)
        · obtain rfl : q = nc := by omega
          have i4 : ¬ (q : Int) < q := by omega
          have HT := show g3 = true by rw [← HR.out]; exact AE1.out q (by rw [LC.out]; omega)
          have RB := Lib.hid (show res = (g4 && g5) by rw [RB.out, HT]; rfl)
          clear HT; go_wp2
          go_loopw [6] (fun i wr => (∃ j : Nat, j ≤ nw ∧ i = .int .i64 j ∧ Hid ((s.wait.drop j).all (takB q til) = g4)) ∧ Up w2 wr) (fun i _ => nw - (intOf i).toNat)
          case atStart => exact ⟨⟨0, by omega, rfl, H2⟩, UQ.out⟩
          case round =>
            clear HR UR UQ X0 X1 p0 p1 p2; obtain ⟨⟨e, he, rfl, HR⟩, ur⟩ := hrel
            have UR := Lib.hid (U1.out.trans ur)
            have UQ := Lib.hid ur
            have X0 := Lib.hid (B0.out.up ur)
            have X1 := Lib.hid (B1.out.up ur)
            obtain ⟨p0, p1, p2⟩ := And.intro X1.out.c0 (And.intro X1.out.c1 X1.out.c2); obtain ⟨q0, q1, q2⟩ := And.intro X0.out.c0 (And.intro X0.out.c1 X0.out.c2); clear ur
            by_cases hlt : e < nw
            · obtain ⟨b, off, hA, hb, hc⟩ := (HW.out.up UR.out).2 (by omega)
              subst hA
              have a0 := hc e hlt
              have S := AD2.out e (by rw [LW.out]; exact hlt)
              clear hc
              generalize s.wait.getD e default = r at a0 S
              have CO := Lib.hid (fun W => specOk_any r q W)
              unfold takB at S; rw [show ((fun e => okB e ↑q && decide (e.t ≤ til)) : Evt → Bool) = takB q til from rfl] at S
              generalize okB r q = o1 at CO S
              unfold Evt.v at CO
              have PRV := Lib.hid a0
              have LTB := Lib.hid hb
              have LT := Lib.hid (And.intro X0.out.lt X1.out.lt)
              have EQ := Lib.hid (And.intro X0.out.c0 (And.intro X0.out.c2 X1.out.c1))
              have i4 : (e : Int) < nw := by omega
              obtain ⟨W0, hW0⟩ : ∃ W0, W0 = wr := ⟨_, rfl⟩; subst hW0
              have S := Lib.hid S
              clear a0
              go_wp2_with fail
              cases o1
              · have HF := Lib.hid (show g4 = false by rw [← HR.out, S.out]; rfl)
                clear p0 p1 p2 q0 q1 q2; refine region_mixH (fun w' => Up W0 w') [(0, true), (1, true), (2, true), (3, true), (4, true), (5, true), (6, true), (7, true), (8, false), (9, true), (10, true), (11, true), (12, true), (13, true), (14, true), (15, true), (16, true), (17, true), (18, true), (19, true), (20, true)] (by kernel_rfl) (by kernel_rfl) (Up.refl _).drew ?_; refine mixH_take rfl (by rfl) ?_; apply Exists.intro; refine ⟨fun w1 hS1 => ?_, ?_⟩
                · clear hS1
                  go_simp
                  try rfl
                go_simp; refine mixH_take rfl (by rfl) ?_; apply Exists.intro; refine ⟨fun w1 hS1 => ?_, ?_⟩
                · obtain ⟨k0, k1, k2⟩ := (And.intro ((hS1.cells _ _ LT.out.1).trans EQ.out.1) (And.intro ((hS1.cells _ _ LT.out.1).trans EQ.out.2.1) ((hS1.cells _ _ LT.out.2).trans EQ.out.2.2)))
                  obtain ⟨v0, v1, v2, v3, v4, v5⟩ := (PRV.out.up hS1 LTB.out); clear hS1; go_simp
                  try rfl
                go_simp
                iterate 2
                  refine mixH_take rfl (by rfl) ?_; apply Exists.intro; refine ⟨fun w1 hS1 => ?_, ?_⟩
                  · clear hS1
                    go_simp
                    try rfl
                  go_simp
                refine mixH_take rfl (by rfl) ?_; apply Exists.intro; refine ⟨fun w1 hS1 => ?_, ?_⟩
                · obtain ⟨k0, k1, k2⟩ := (And.intro ((hS1.cells _ _ LT.out.1).trans EQ.out.1) (And.intro ((hS1.cells _ _ LT.out.1).trans EQ.out.2.1) ((hS1.cells _ _ LT.out.2).trans EQ.out.2.2)))
                  obtain ⟨v0, v1, v2, v3, v4, v5⟩ := (PRV.out.up hS1 LTB.out); clear hS1; go_simp
                  try rfl
                go_simp; refine mixH_take rfl (by rfl) ?_; apply Exists.intro; refine ⟨fun w1 hS1 => ?_, ?_⟩
                · clear hS1
                  go_simp
                  try rfl
                go_simp; refine mixH_take rfl (by rfl) ?_; apply Exists.intro; refine ⟨fun w1 hS1 => ?_, ?_⟩
                · obtain ⟨k0, k1, k2⟩ := (And.intro ((hS1.cells _ _ LT.out.1).trans EQ.out.1) (And.intro ((hS1.cells _ _ LT.out.1).trans EQ.out.2.1) ((hS1.cells _ _ LT.out.2).trans EQ.out.2.2)))
                  obtain ⟨v0, v1, v2, v3, v4, v5⟩ := (PRV.out.up hS1 LTB.out); clear hS1; go_simp
                  try rfl
                go_simp; refine mixH_take rfl (by rfl) ?_; apply Exists.intro; refine ⟨fun w1 hS1 => ?_, ?_⟩
                · clear hS1
                  go_simp
                  try rfl
                go_simp; refine mixH_go rfl (by rfl) (fun K hK => ?_); go_simp; refine (CO.out _).mono ?_; rintro z wA ⟨rfl, uA⟩; refine hK _ _ ((Up.refl _).drew.trans uA) ?_; clear hK K; go_simp
                iterate 2
                  refine mixH_take rfl (by rfl) ?_; apply Exists.intro; refine ⟨fun w1 hS1 => ?_, ?_⟩
                  · clear hS1
                    go_simp
                    try rfl
                  go_simp
                iterate 4
                  refine mixH_skip rfl (by rfl) ?_; go_simp; refine mixH_skip rfl (by rfl) ?_; go_simp
                refine mixH_skip rfl (by rfl) ?_; go_simp; refine mixH_take rfl (by rfl) ?_; apply Exists.intro; refine ⟨fun w1 hS1 => ?_, ?_⟩
                · clear hS1
                  go_simp
                  try rfl
                go_simp; refine mixH_nil ?_
                have UE := Lib.hid (UR.out.trans ((Up.refl _).drew.trans uA))
                clear uA; go_wp2; go_ret
                exact ⟨ret_bool (by rw [RB.out, HF.out]; rfl), UE.out⟩
              · by_cases hti : r.t ≤ til
                · have HN := Lib.hid (show (s.wait.drop (e + 1)).all (takB q til) = g4 by rw [← HR.out, S.out, decide_eq_true hti]; rfl)
                  have hti2 : ¬ til < r.t := by omega
                  clear p0 p1 p2 q0 q1 q2; refine region_mixH (fun w' => Up W0 w') [(0, true), (1, true), (2, true), (3, true), (4, true), (5, true), (6, true), (7, true), (8, false), (9, true), (10, true), (11, true), (12, true), (13, true), (14, true), (15, true), (16, true), (17, true), (18, true), (19, true), (20, true)] (by kernel_rfl) (by kernel_rfl) (Up.refl _).drew ?_; refine mixH_take rfl (by rfl) ?_; apply Exists.intro; refine ⟨fun w1 hS1 => ?_, ?_⟩
                  · clear hS1
                    go_simp
                    try rfl
                  go_simp; refine mixH_take rfl (by rfl) ?_; apply Exists.intro; refine ⟨fun w1 hS1 => ?_, ?_⟩
                  · obtain ⟨k0, k1, k2⟩ := (And.intro ((hS1.cells _ _ LT.out.1).trans EQ.out.1) (And.intro ((hS1.cells _ _ LT.out.1).trans EQ.out.2.1) ((hS1.cells _ _ LT.out.2).trans EQ.out.2.2)))
                    obtain ⟨v0, v1, v2, v3, v4, v5⟩ := (PRV.out.up hS1 LTB.out); clear hS1; go_simp
                    try rfl
                  go_simp
                  iterate 2
                    refine mixH_take rfl (by rfl) ?_; apply Exists.intro; refine ⟨fun w1 hS1 => ?_, ?_⟩
                    · clear hS1
                      go_simp
                      try rfl
                    go_simp
                  refine mixH_take rfl (by rfl) ?_; apply Exists.intro; refine ⟨fun w1 hS1 => ?_, ?_⟩
                  · obtain ⟨k0, k1, k2⟩ := (And.intro ((hS1.cells _ _ LT.out.1).trans EQ.out.1) (And.intro ((hS1.cells _ _ LT.out.1).trans EQ.out.2.1) ((hS1.cells _ _ LT.out.2).trans EQ.out.2.2)))
                    obtain ⟨v0, v1, v2, v3, v4, v5⟩ := (PRV.out.up hS1 LTB.out); clear hS1; go_simp
                    try rfl
                  go_simp; refine mixH_take rfl (by rfl) ?_; apply Exists.intro; refine ⟨fun w1 hS1 => ?_, ?_⟩
                  · clear hS1
                    go_simp
                    try rfl
                  go_simp; refine mixH_take rfl (by rfl) ?_; apply Exists.intro; refine ⟨fun w1 hS1 => ?_, ?_⟩
                  · obtain ⟨k0, k1, k2⟩ := (And.intro ((hS1.cells _ _ LT.out.1).trans EQ.out.1) (And.intro ((hS1.cells _ _ LT.out.1).trans EQ.out.2.1) ((hS1.cells _ _ LT.out.2).trans EQ.out.2.2)))
                    obtain ⟨v0, v1, v2, v3, v4, v5⟩ := (PRV.out.up hS1 LTB.out); clear hS1; go_simp
                    try rfl
                  go_simp; refine mixH_take rfl (by rfl) ?_; apply Exists.intro; refine ⟨fun w1 hS1 => ?_, ?_⟩
                  · clear hS1
                    go_simp
                    try rfl
                  go_simp; refine mixH_go rfl (by rfl) (fun K hK => ?_); go_simp; refine (CO.out _).mono ?_; rintro z wA ⟨rfl, uA⟩; refine hK _ _ ((Up.refl _).drew.trans uA) ?_; clear hK K; go_simp
                  iterate 3
                    refine mixH_take rfl (by rfl) ?_; apply Exists.intro; refine ⟨fun w1 hS1 => ?_, ?_⟩
                    · clear hS1
                      go_simp
                      try rfl
                    go_simp
                  refine mixH_take rfl (by rfl) ?_; apply Exists.intro; refine ⟨fun w1 hS1 => ?_, ?_⟩
                  · obtain ⟨k0, k1, k2⟩ := (And.intro ((hS1.cells _ _ LT.out.1).trans EQ.out.1) (And.intro ((hS1.cells _ _ LT.out.1).trans EQ.out.2.1) ((hS1.cells _ _ LT.out.2).trans EQ.out.2.2)))
                    obtain ⟨v0, v1, v2, v3, v4, v5⟩ := (PRV.out.up hS1 LTB.out); clear hS1; go_simp
                    try rfl
                  go_simp
                  iterate 3
                    refine mixH_take rfl (by rfl) ?_; apply Exists.intro; refine ⟨fun w1 hS1 => ?_, ?_⟩
                    · clear hS1
                      go_simp
                      try rfl
                    go_simp
                  refine mixH_take rfl (by rfl) ?_; apply Exists.intro; refine ⟨fun w1 hS1 => ?_, ?_⟩
                  · obtain ⟨k0, k1, k2⟩ := (And.intro ((hS1.cells _ _ LT.out.1).trans EQ.out.1) (And.intro ((hS1.cells _ _ LT.out.1).trans EQ.out.2.1) ((hS1.cells _ _ LT.out.2).trans EQ.out.2.2)))
                    obtain ⟨v0, v1, v2, v3, v4, v5⟩ := (PRV.out.up hS1 LTB.out); clear hS1; go_simp
                    try rfl
                  go_simp; refine mixH_take rfl (by rfl) ?_; apply Exists.intro; refine ⟨fun w1 hS1 => ?_, ?_⟩
                  · clear hS1
                    go_simp
                    try rfl
                  go_simp; refine mixH_take rfl (by rfl) ?_; apply Exists.intro; refine ⟨fun w1 hS1 => ?_, ?_⟩
                  · obtain ⟨k0, k1, k2⟩ := (And.intro ((hS1.cells _ _ LT.out.1).trans EQ.out.1) (And.intro ((hS1.cells _ _ LT.out.1).trans EQ.out.2.1) ((hS1.cells _ _ LT.out.2).trans EQ.out.2.2)))
                    obtain ⟨v0, v1, v2, v3, v4, v5⟩ := (PRV.out.up hS1 LTB.out); clear hS1; go_simp
                    try rfl
                  go_simp
                  iterate 2
                    refine mixH_take rfl (by rfl) ?_; apply Exists.intro; refine ⟨fun w1 hS1 => ?_, ?_⟩
                    · clear hS1
                      go_simp
                      try rfl
                    go_simp
                  refine mixH_nil ?_
                  have UE := Lib.hid (UQ.out.trans ((Up.refl _).drew.trans uA))
                  clear uA; go_wp2
                  go_roundw
                  case rel => exact ⟨⟨e + 1, by omega, by go_num, HN⟩, UE.out⟩
                  case measure => (simp [intOf]; try omega)
                · have HF := Lib.hid (show g4 = false by rw [← HR.out, S.out, decide_eq_false hti]; rfl)
                  have hti2 : til < r.t := by omega
                  clear p0 p1 p2 q0 q1 q2; refine region_mixH (fun w' => Up W0 w') [(0, true), (1, true), (2, true), (3, true), (4, true), (5, true), (6, true), (7, true), (8, false), (9, true), (10, true), (11, true), (12, true), (13, true), (14, true), (15, true), (16, true), (17, true), (18, true), (19, true), (20, true)] (by kernel_rfl) (by kernel_rfl) (Up.refl _).drew ?_; refine mixH_take rfl (by rfl) ?_; apply Exists.intro; refine ⟨fun w1 hS1 => ?_, ?_⟩
                  · clear hS1
                    go_simp
                    try rfl
                  go_simp; refine mixH_take rfl (by rfl) ?_; apply Exists.intro; refine ⟨fun w1 hS1 => ?_, ?_⟩
                  · obtain ⟨k0, k1, k2⟩ := (And.intro ((hS1.cells _ _ LT.out.1).trans EQ.out.1) (And.intro ((hS1.cells _ _ LT.out.1).trans EQ.out.2.1) ((hS1.cells _ _ LT.out.2).trans EQ.out.2.2)))
                    obtain ⟨v0, v1, v2, v3, v4, v5⟩ := (PRV.out.up hS1 LTB.out); clear hS1; go_simp
                    try rfl
                  go_simp
                  iterate 2
                    refine mixH_take rfl (by rfl) ?_; apply Exists.intro; refine ⟨fun w1 hS1 => ?_, ?_⟩
                    · clear hS1
                      go_simp
                      try rfl
                    go_simp
                  refine mixH_take rfl (by rfl) ?_; apply Exists.intro; refine ⟨fun w1 hS1 => ?_, ?_⟩
                  · obtain ⟨k0, k1, k2⟩ := (And.intro ((hS1.cells _ _ LT.out.1).trans EQ.out.1) (And.intro ((hS1.cells _ _ LT.out.1).trans EQ.out.2.1) ((hS1.cells _ _ LT.out.2).trans EQ.out.2.2)))
                    obtain ⟨v0, v1, v2, v3, v4, v5⟩ := (PRV.out.up hS1 LTB.out); clear hS1; go_simp
                    try rfl
                  go_simp; refine mixH_take rfl (by rfl) ?_; apply Exists.intro; refine ⟨fun w1 hS1 => ?_, ?_⟩
                  · clear hS1
                    go_simp
                    try rfl
                  go_simp; refine mixH_take rfl (by rfl) ?_; apply Exists.intro; refine ⟨fun w1 hS1 => ?_, ?_⟩
                  · obtain ⟨k0, k1, k2⟩ := (And.intro ((hS1.cells _ _ LT.out.1).trans EQ.out.1) (And.intro ((hS1.cells _ _ LT.out.1).trans EQ.out.2.1) ((hS1.cells _ _ LT.out.2).trans EQ.out.2.2)))
                    obtain ⟨v0, v1, v2, v3, v4, v5⟩ := (PRV.out.up hS1 LTB.out); clear hS1; go_simp
                    try rfl
                  go_simp; refine mixH_take rfl (by rfl) ?_; apply Exists.intro; refine ⟨fun w1 hS1 => ?_, ?_⟩
                  · clear hS1
                    go_simp
                    try rfl
                  go_simp; refine mixH_go rfl (by rfl) (fun K hK => ?_); go_simp; refine (CO.out _).mono ?_; rintro z wA ⟨rfl, uA⟩; refine hK _ _ ((Up.refl _).drew.trans uA) ?_; clear hK K; go_simp
                  iterate 3
                    refine mixH_take rfl (by rfl) ?_; apply Exists.intro; refine ⟨fun w1 hS1 => ?_, ?_⟩
                    · clear hS1
                      go_simp
                      try rfl
                    go_simp
                  refine mixH_take rfl (by rfl) ?_; apply Exists.intro; refine ⟨fun w1 hS1 => ?_, ?_⟩
                  · obtain ⟨k0, k1, k2⟩ := (And.intro ((hS1.cells _ _ LT.out.1).trans EQ.out.1) (And.intro ((hS1.cells _ _ LT.out.1).trans EQ.out.2.1) ((hS1.cells _ _ LT.out.2).trans EQ.out.2.2)))
                    obtain ⟨v0, v1, v2, v3, v4, v5⟩ := (PRV.out.up hS1 LTB.out); clear hS1; go_simp
                    try rfl
                  go_simp
                  iterate 3
                    refine mixH_take rfl (by rfl) ?_; apply Exists.intro; refine ⟨fun w1 hS1 => ?_, ?_⟩
                    · clear hS1
                      go_simp
                      try rfl
                    go_simp
                  refine mixH_take rfl (by rfl) ?_; apply Exists.intro; refine ⟨fun w1 hS1 => ?_, ?_⟩
                  · obtain ⟨k0, k1, k2⟩ := (And.intro ((hS1.cells _ _ LT.out.1).trans EQ.out.1) (And.intro ((hS1.cells _ _ LT.out.1).trans EQ.out.2.1) ((hS1.cells _ _ LT.out.2).trans EQ.out.2.2)))
                    obtain ⟨v0, v1, v2, v3, v4, v5⟩ := (PRV.out.up hS1 LTB.out); clear hS1; go_simp
                    try rfl
                  go_simp; refine mixH_take rfl (by rfl) ?_; apply Exists.intro; refine ⟨fun w1 hS1 => ?_, ?_⟩
                  · clear hS1
                    go_simp
                    try rfl
                  go_simp; refine mixH_take rfl (by rfl) ?_; apply Exists.intro; refine ⟨fun w1 hS1 => ?_, ?_⟩
                  · obtain ⟨k0, k1, k2⟩ := (And.intro ((hS1.cells _ _ LT.out.1).trans EQ.out.1) (And.intro ((hS1.cells _ _ LT.out.1).trans EQ.out.2.1) ((hS1.cells _ _ LT.out.2).trans EQ.out.2.2)))
                    obtain ⟨v0, v1, v2, v3, v4, v5⟩ := (PRV.out.up hS1 LTB.out); clear hS1; go_simp
                    try rfl
                  go_simp
                  iterate 2
                    refine mixH_take rfl (by rfl) ?_; apply Exists.intro; refine ⟨fun w1 hS1 => ?_, ?_⟩
                    · clear hS1
                      go_simp
                      try rfl
                    go_simp
                  refine mixH_nil ?_
                  have UE := Lib.hid (UR.out.trans ((Up.refl _).drew.trans uA))
                  clear uA; go_wp2; go_ret
                  exact ⟨ret_bool (by rw [RB.out, HF.out]; rfl), UE.out⟩
            · obtain rfl : e = nw := by omega
              have i4 : ¬ (e : Int) < e := by omega
              have HT := show g4 = true by rw [← HR.out]; exact AE2.out e (by rw [LW.out]; omega)
              have RB := Lib.hid (show res = g5 by rw [RB.out, HT]; rfl)
              clear HT
              go_wp2_with fail
              refine (CG.out _ UR.out).mono ?_; rintro x w3 ⟨rfl, u3⟩
              have UE := Lib.hid (UR.out.trans u3)
              clear u3; go_wp2; go_ret
              exact ⟨ret_bool (by rw [RB.out]), UE.out⟩
end Go.Proofs.Ytklldniapombiaa

namespace Go.Proofs.Ytklldniapombiaa
set_option maxRecDepth 100000
open Go.RowKit
theorem wr (x : Int) (c : Nat) (h : x = c) (hc : c < 4611686018427387904) : IntKind.i64.wrap x = c := by
  rw [h]
  exact IntWalk.i64_in _ (by omega)
end Go.Proofs.Ytklldniapombiaa

namespace Go.Proofs.Ytklldniapombiaa
set_option maxRecDepth 100000
open Go.RowKit
/-- The blocks that come behind w. -/
def Beh (w : World) : Nat → Prop := fun b => w.heap.size ≤ b
/-- With n rows of rules. -/
structure Md (w : World) (g b4 b6 : Nat) (til : Int) (n c : Nat) (v6 : Value) (wr : World) : Prop where
  th : TH (TM c) (Beh w) wr
  rd : Rd wr g c
  rows : Gs wr (Beh w) 118 1 n v6
  m6 : Blk wr b6 36 #[v6, .slice none 0 0, .int .i64 til]
  m4 : Blk wr b4 36 #[.slice none 0 0, .slice none 0 0, .int .i64 0]
  mv : Mv g w wr
  lo : w.heap.size ≤ wr.heap.size
section
variable {w wr wr' : World} {g b4 b6 : Nat} {til : Int} {n c c' : Nat} {v6 : Value}
end
section
variable {w wr wr' : World} {top g b4 b6 : Nat} {til : Int} {many K c c' c5 : Nat} {v6 : Value} {A : Option Addr} {es : List Evt}
end
/-- The loops' relations. -/
def L1 (w : World) (g b4 b6 : Nat) (til : Int) (many N : Nat) (i : Value) (wr : World) : Prop :=
  ∃ k c v6, i = .int .i64 ((k : Nat) : Int) ∧ k ≤ many ∧ 10 ≤ c ∧ c ≤ N + 20 + 200 * k ∧ Md w g b4 b6 til k c v6 wr
/-- The blocks of the rules, and those behind the starts. -/
def Two (w : World) (top tq : Nat) : Nat → Prop := fun b => (w.heap.size ≤ b ∧ b < top) ∨ tq ≤ b
section
variable {w wr wr' : World} {top tq g b4 b6 : Nat} {til : Int} {n K K' c c' c5 : Nat} {v6 : Value} {A : Option Addr} {es : List Evt}
end
theorem ev1_reads {w : World} {b : Nat} {e : Evt} (hb : b < w.heap.size) (h : EvAt w b 0 e) : Reads w w.heap.size 6 (some ⟨b, 0, none⟩) 1 (flat [e]) := by
  refine ⟨by rw [flat_len]; simp, fun _ => ⟨_, rfl, hb, fun j u hu => ?_⟩⟩; rw [Addr.add_lit, Nat.zero_add]; obtain ⟨c0, c1, c2, c3, c4, c5⟩ := h
  have hu : [Value.int .i64 e.t, .int .i64 e.to, .int .i64 e.fr, .int .i64 e.sq, .int .i64 e.kd, .int .i64 e.dt][j]? = some u := hu
  have hj : j < 6 := (List.getElem?_eq_some_iff.1 hu).1
  have h6 : j = 0 ∨ j = 1 ∨ j = 2 ∨ j = 3 ∨ j = 4 ∨ j = 5 := by omega
  rcases h6 with rfl | rfl | rfl | rfl | rfl | rfl <;> (injection hu with hu; subst hu; assumption)
end Go.Proofs.Ytklldniapombiaa

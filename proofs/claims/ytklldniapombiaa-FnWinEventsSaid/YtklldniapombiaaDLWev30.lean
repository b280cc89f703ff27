/-
  What spec.l3Log returns, in one sentence: whether the records are in order, each of them one, ahead of all that waits; for every simulator of short lists that lies in memory.
-/
import Derived.Test.YtklldniapombiaaDLWev18
import Derived.Test.YtklldniapombiaaDLWev28
namespace Go.Proofs.Ytklldniapombiaa
set_option maxRecDepth 100000
open Go.RowKit
set_option maxHeartbeats 8000000 in
theorem specLog_any (A : Option Addr) (n c : Nat) (B : Option Addr) (k d : Nat) (til : Int) (Ac : Option Addr) (nc cc : Nat) (Aw : Option Addr) (nw cw : Nat) (Al : Option Addr) (nl cl : Nat) (s : Sq) (w : World) (hS : ShortSq nc nw nl) (hV : SqV w Ac nc Aw nw Al nl s) :
    Calls Try.prog 91 #[.agg #[.slice A n c, .slice B k d, .int .i64 til], .agg #[.slice Ac nc cc, .slice Aw nw cw, .slice Al nl cl]] w fun x w' => x = .returned (.bool (logB n none s.log && joinB (lastP none s.log) s.wait)) ∧ Up w w' := by
  obtain ⟨h1, h2, h3⟩ := hS
  have LI := Lib.hid l1In_up
  have AD := Lib.hid (fun k p h => logB_drop n s.log k p h)
  have AE := Lib.hid (fun k p h => logB_end n s.log k p h)
  have HL := Lib.hid hV.log
  have HW := Lib.hid hV.wait
  have LE := Lib.hid hV.log.1
  have LW := Lib.hid hV.wait.1
  have H0 := Lib.hid (show logB n (prevP s.log 0) (s.log.drop 0) = logB n none s.log from rfl)
  have JE := Lib.hid (show joinB (lastP none s.log) s.wait = joinB (lastP none s.log) s.wait from rfl)
  generalize logB n none s.log = res at H0 ⊢
  generalize hjr : joinB (lastP none s.log) s.wait = jr at JE ⊢
  have JR := Lib.hid hjr
  have B0 := (Box3.new w (.slice A n c) (.slice B k d) (.int .i64 til) 36).up ((Up.refl _).alloc (.cells #[.slice Ac nc cc, .slice Aw nw cw, .slice Al nl cl] 62))
  have B1 := Box3.new (w.alloc (.cells #[.slice A n c, .slice B k d, .int .i64 til] 36)) (.slice Ac nc cc) (.slice Aw nw cw) (.slice Al nl cl) 62
  simp only [World.size_alloc] at B1
  have U0 := Lib.hid (((Up.refl w).alloc (.cells #[.slice A n c, .slice B k d, .int .i64 til] 36)).alloc (.cells #[.slice Ac nc cc, .slice Aw nw cw, .slice Al nl cl] 62))
  have B0 := Lib.hid B0
  have B1 := Lib.hid B1
  clear hV hjr JE
  go_enter Try.func91, Try.ntmps91
  go_wp2_with fail
  generalize (w.alloc (.cells #[.slice A n c, .slice B k d, .int .i64 til] 36)).alloc (.cells #[.slice Ac nc cc, .slice Aw nw cw, .slice Al nl cl] 62) = W at *
  generalize hb1 : w.heap.size + 1 = b1 at *
  generalize hb0 : w.heap.size = b0 at *
  go_loopw [5] (fun i wr => (∃ q : Nat, q ≤ nl ∧ i = .int .i64 q ∧ Hid (logB n (prevP s.log q) (s.log.drop q) = res)) ∧ Up W wr) (fun i _ => nl - (intOf i).toNat)
  case atStart => exact ⟨⟨0, by omega, rfl, H0⟩, Up.refl _⟩
  case round =>
    obtain ⟨⟨q, hq, rfl, HR⟩, ur⟩ := hrel
    have UR := Lib.hid (U0.out.trans ur)
    have X0 := Lib.hid (B0.out.up ur)
    have X1 := Lib.hid (B1.out.up ur)
    obtain ⟨p0, p1, p2⟩ := And.intro X1.out.c0 (And.intro X1.out.c1 X1.out.c2)
    by_cases hlt : q < nl
    · obtain ⟨b, off, hA, hb, hc⟩ := (HL.out.up UR.out).2 (by omega)
      subst hA
      have a0 := hc q hlt
      have PV := Lib.hid (fun (h : 0 < q) => hc (q - 1) (by omega))
      have S := AD.out q (prevP s.log q) (by rw [LE.out]; exact hlt)
      have NX := Lib.hid (prevP_succ s.log q)
      have PP := Lib.hid (show prevP s.log q = if q = 0 then none else some (s.log.getD (q - 1) default).ev from rfl)
      clear hc
      generalize s.log.getD q default = r at a0 S NX
      have i4 : (q : Int) < nl := by omega
      have ua := (Up.refl wr).alloc (.cells #[.int .i64 r.ev.t, .int .i64 r.ev.to, .int .i64 r.ev.fr, .int .i64 r.ev.sq, .int .i64 r.ev.kd, .int .i64 r.ev.dt, .int .i64 r.s] 180)
      have RN := Lib.hid (RecAt.new wr r 180)
      have X0 := Lib.hid (X0.out.up ua)
      have X1 := Lib.hid (X1.out.up ua)
      have PV := Lib.hid (fun h => (PV.out h).up ua hb)
      have CO := Lib.hid (fun W => specOk_any r.ev n W)
      have CI := Lib.hid (fun W => LI.out r.s 0 96 _ W rfl)
      have hsz : wr.heap.size < (wr.alloc (.cells #[.int .i64 r.ev.t, .int .i64 r.ev.to, .int .i64 r.ev.fr, .int .i64 r.ev.sq, .int .i64 r.ev.kd, .int .i64 r.ev.dt, .int .i64 r.s] 180)).heap.size := by simp
      have hb' : b < (wr.alloc (.cells #[.int .i64 r.ev.t, .int .i64 r.ev.to, .int .i64 r.ev.fr, .int .i64 r.ev.sq, .int .i64 r.ev.kd, .int .i64 r.ev.dt, .int .i64 r.s] 180)).heap.size := by simp; omega
      unfold RecAt at a0; obtain ⟨a0, a1, a2, a3, a4, a5, a6⟩ := a0
      have UN := Lib.hid (ur.trans ua)
      clear ua ur
      go_wp2_with fail
      generalize wr.alloc (.cells #[.int .i64 r.ev.t, .int .i64 r.ev.to, .int .i64 r.ev.fr, .int .i64 r.ev.sq, .int .i64 r.ev.kd, .int .i64 r.ev.dt, .int .i64 r.s] 180) = W0 at *
      have LTR := Lib.hid hsz
      have LTB := Lib.hid hb'
      have LT := Lib.hid (And.intro X0.out.lt X1.out.lt)
      have EQ := Lib.hid (And.intro X0.out.c0 (And.intro X1.out.c1 X1.out.c2))
      have REC := RN
      unfold recB at S
      generalize okB r.ev n = o1 at CO S
      generalize inB r.s 0 96 = o2 at CI S
      unfold Evt.v at CO; clear a0 a1 a2 a3 a4 a5 a6 p0 p1 p2 X0 X1 RN
      cases o1
      · have HF := Lib.hid (show res = false by rw [← HR.out, S]; simp)
        clear S; refine region_mixH (fun w' => Up W0 w') [(0, true), (1, true), (2, true), (3, true), (4, true), (5, false), (6, true), (7, true), (8, true), (9, true), (10, true), (11, true), (12, true), (13, true), (14, true), (15, true), (16, true), (17, true), (18, true), (19, true), (20, true), (21, true), (22, true), (23, true), (24, true), (25, true), (26, true), (27, true), (28, true), (29, true)] (by kernel_rfl) (by kernel_rfl) (Up.refl _).drew ?_; refine mixH_take rfl (by rfl) ?_; apply Exists.intro; refine ⟨fun w1 hS1 => ?_, ?_⟩
        · clear hS1
          go_simp
          try rfl
        go_simp; refine mixH_take rfl (by rfl) ?_; apply Exists.intro; refine ⟨fun w1 hS1 => ?_, ?_⟩
        · obtain ⟨k0, k1, k2⟩ := (And.intro ((hS1.cells _ _ LT.out.1).trans EQ.out.1) (And.intro ((hS1.cells _ _ LT.out.2).trans EQ.out.2.1) ((hS1.cells _ _ LT.out.2).trans EQ.out.2.2)))
          obtain ⟨r0, r1, r2, r3, r4, r5, r6⟩ := (REC.out.up hS1 LTR.out); simp only [Nat.zero_add] at r0 r1 r2 r3 r4 r5 r6; clear hS1; go_simp
          try rfl
        go_simp; refine mixH_take rfl (by rfl) ?_; apply Exists.intro; refine ⟨fun w1 hS1 => ?_, ?_⟩
        · clear hS1
          go_simp
          try rfl
        go_simp; refine mixH_take rfl (by rfl) ?_; apply Exists.intro; refine ⟨fun w1 hS1 => ?_, ?_⟩
        · obtain ⟨k0, k1, k2⟩ := (And.intro ((hS1.cells _ _ LT.out.1).trans EQ.out.1) (And.intro ((hS1.cells _ _ LT.out.2).trans EQ.out.2.1) ((hS1.cells _ _ LT.out.2).trans EQ.out.2.2)))
          obtain ⟨r0, r1, r2, r3, r4, r5, r6⟩ := (REC.out.up hS1 LTR.out); simp only [Nat.zero_add] at r0 r1 r2 r3 r4 r5 r6; clear hS1; go_simp
          try rfl
        go_simp; refine mixH_take rfl (by rfl) ?_; apply Exists.intro; refine ⟨fun w1 hS1 => ?_, ?_⟩
        · clear hS1
          go_simp
          try rfl
        go_simp; refine mixH_go rfl (by rfl) (fun K hK => ?_); go_simp; refine (CO.out _).mono ?_; rintro z wA ⟨rfl, uA⟩; refine hK _ _ ((Up.refl _).drew.trans uA) ?_; clear hK K; go_simp
        iterate 2
          refine mixH_take rfl (by rfl) ?_; apply Exists.intro; refine ⟨fun w1 hS1 => ?_, ?_⟩
          · clear hS1
            go_simp
            try rfl
          go_simp
        iterate 2
          refine mixH_skip rfl (by rfl) ?_; go_simp; refine mixH_skip rfl (by rfl) ?_; go_simp
        iterate 2
          refine mixH_take rfl (by rfl) ?_; apply Exists.intro; refine ⟨fun w1 hS1 => ?_, ?_⟩
          · clear hS1
            go_simp
            try rfl
          go_simp
        iterate 7
          refine mixH_skip rfl (by rfl) ?_; go_simp; refine mixH_skip rfl (by rfl) ?_; go_simp
        refine mixH_skip rfl (by rfl) ?_; go_simp; refine mixH_take rfl (by rfl) ?_; apply Exists.intro; refine ⟨fun w1 hS1 => ?_, ?_⟩
        · clear hS1
          go_simp
          try rfl
        go_simp; refine mixH_nil ?_
        have UE := Lib.hid (U0.out.trans (UN.out.trans ((Up.refl _).drew.trans uA)))
        clear uA; go_wp2; go_ret
        exact ⟨ret_bool (by rw [HF.out]; rfl), UE.out⟩
      · cases o2
        · have HF := Lib.hid (show res = false by rw [← HR.out, S]; simp)
          clear S; refine region_mixH (fun w' => Up W0 w') [(0, true), (1, true), (2, true), (3, true), (4, true), (5, false), (6, true), (7, true), (8, true), (9, true), (10, false), (11, true), (12, true), (13, true), (14, true), (15, true), (16, true), (17, true), (18, true), (19, true), (20, true), (21, true), (22, true), (23, true), (24, true), (25, true), (26, true), (27, true), (28, true), (29, true)] (by kernel_rfl) (by kernel_rfl) (Up.refl _).drew ?_; refine mixH_take rfl (by rfl) ?_; apply Exists.intro; refine ⟨fun w1 hS1 => ?_, ?_⟩
          · clear hS1
            go_simp
            try rfl
          go_simp; refine mixH_take rfl (by rfl) ?_; apply Exists.intro; refine ⟨fun w1 hS1 => ?_, ?_⟩
          · obtain ⟨k0, k1, k2⟩ := (And.intro ((hS1.cells _ _ LT.out.1).trans EQ.out.1) (And.intro ((hS1.cells _ _ LT.out.2).trans EQ.out.2.1) ((hS1.cells _ _ LT.out.2).trans EQ.out.2.2)))
            obtain ⟨r0, r1, r2, r3, r4, r5, r6⟩ := (REC.out.up hS1 LTR.out); simp only [Nat.zero_add] at r0 r1 r2 r3 r4 r5 r6; clear hS1; go_simp
            try rfl
          go_simp; refine mixH_take rfl (by rfl) ?_; apply Exists.intro; refine ⟨fun w1 hS1 => ?_, ?_⟩
          · clear hS1
            go_simp
            try rfl
          go_simp; refine mixH_take rfl (by rfl) ?_; apply Exists.intro; refine ⟨fun w1 hS1 => ?_, ?_⟩
          · obtain ⟨k0, k1, k2⟩ := (And.intro ((hS1.cells _ _ LT.out.1).trans EQ.out.1) (And.intro ((hS1.cells _ _ LT.out.2).trans EQ.out.2.1) ((hS1.cells _ _ LT.out.2).trans EQ.out.2.2)))
            obtain ⟨r0, r1, r2, r3, r4, r5, r6⟩ := (REC.out.up hS1 LTR.out); simp only [Nat.zero_add] at r0 r1 r2 r3 r4 r5 r6; clear hS1; go_simp
            try rfl
          go_simp; refine mixH_take rfl (by rfl) ?_; apply Exists.intro; refine ⟨fun w1 hS1 => ?_, ?_⟩
          · clear hS1
            go_simp
            try rfl
          go_simp; refine mixH_go rfl (by rfl) (fun K hK => ?_); go_simp; refine (CO.out _).mono ?_; rintro z wA ⟨rfl, uA⟩; refine hK _ _ ((Up.refl _).drew.trans uA) ?_; clear hK K; go_simp
          iterate 3
            refine mixH_take rfl (by rfl) ?_; apply Exists.intro; refine ⟨fun w1 hS1 => ?_, ?_⟩
            · clear hS1
              go_simp
              try rfl
            go_simp
          refine mixH_take rfl (by rfl) ?_; apply Exists.intro; refine ⟨fun w1 hS1 => ?_, ?_⟩
          · obtain ⟨k0, k1, k2⟩ := (And.intro ((hS1.cells _ _ LT.out.1).trans EQ.out.1) (And.intro ((hS1.cells _ _ LT.out.2).trans EQ.out.2.1) ((hS1.cells _ _ LT.out.2).trans EQ.out.2.2)))
            obtain ⟨r0, r1, r2, r3, r4, r5, r6⟩ := (REC.out.up hS1 LTR.out); simp only [Nat.zero_add] at r0 r1 r2 r3 r4 r5 r6; clear hS1; go_simp
            try rfl
          go_simp; refine mixH_go rfl (by rfl) (fun K hK => ?_); go_simp; refine (CI.out _).mono ?_; rintro z wB ⟨rfl, uB⟩; refine hK _ _ (((Up.refl _).drew.trans uA).trans uB) ?_; clear hK K; go_simp
          iterate 3
            refine mixH_take rfl (by rfl) ?_; apply Exists.intro; refine ⟨fun w1 hS1 => ?_, ?_⟩
            · clear hS1
              go_simp
              try rfl
            go_simp
          iterate 7
            refine mixH_skip rfl (by rfl) ?_; go_simp; refine mixH_skip rfl (by rfl) ?_; go_simp
          refine mixH_skip rfl (by rfl) ?_; go_simp; refine mixH_take rfl (by rfl) ?_; apply Exists.intro; refine ⟨fun w1 hS1 => ?_, ?_⟩
          · clear hS1
            go_simp
            try rfl
          go_simp; refine mixH_nil ?_
          have UE := Lib.hid (U0.out.trans (UN.out.trans (((Up.refl _).drew.trans uA).trans uB)))
          clear uA uB; go_wp2; go_ret
          exact ⟨ret_bool (by rw [HF.out]; rfl), UE.out⟩
        · rcases Nat.eq_zero_or_pos q with hz | hz
          · subst hz
            have HN := Lib.hid (show logB n (prevP s.log (0 + 1)) (s.log.drop (0 + 1)) = res by rw [← HR.out, S, NX.out, PP.out]; simp [behind])
            clear S; refine region_mixH (fun w' => Up W0 w') [(0, true), (1, true), (2, true), (3, true), (4, true), (5, false), (6, true), (7, true), (8, true), (9, true), (10, false), (11, true), (12, true), (13, true), (14, true), (15, true), (16, true), (17, true), (18, true), (19, true), (20, true), (21, true), (22, true), (23, true), (24, true), (25, true), (26, true), (27, true), (28, true), (29, true)] (by kernel_rfl) (by kernel_rfl) (Up.refl _).drew ?_; refine mixH_take rfl (by rfl) ?_; apply Exists.intro; refine ⟨fun w1 hS1 => ?_, ?_⟩
            · clear hS1
              go_simp
              try rfl
            go_simp; refine mixH_take rfl (by rfl) ?_; apply Exists.intro; refine ⟨fun w1 hS1 => ?_, ?_⟩
            · obtain ⟨k0, k1, k2⟩ := (And.intro ((hS1.cells _ _ LT.out.1).trans EQ.out.1) (And.intro ((hS1.cells _ _ LT.out.2).trans EQ.out.2.1) ((hS1.cells _ _ LT.out.2).trans EQ.out.2.2)))
              obtain ⟨r0, r1, r2, r3, r4, r5, r6⟩ := (REC.out.up hS1 LTR.out); simp only [Nat.zero_add] at r0 r1 r2 r3 r4 r5 r6; clear hS1; go_simp
              try rfl
            go_simp; refine mixH_take rfl (by rfl) ?_; apply Exists.intro; refine ⟨fun w1 hS1 => ?_, ?_⟩
            · clear hS1
              go_simp
              try rfl
            go_simp; refine mixH_take rfl (by rfl) ?_; apply Exists.intro; refine ⟨fun w1 hS1 => ?_, ?_⟩
            · obtain ⟨k0, k1, k2⟩ := (And.intro ((hS1.cells _ _ LT.out.1).trans EQ.out.1) (And.intro ((hS1.cells _ _ LT.out.2).trans EQ.out.2.1) ((hS1.cells _ _ LT.out.2).trans EQ.out.2.2)))
              obtain ⟨r0, r1, r2, r3, r4, r5, r6⟩ := (REC.out.up hS1 LTR.out); simp only [Nat.zero_add] at r0 r1 r2 r3 r4 r5 r6; clear hS1; go_simp
              try rfl
            go_simp; refine mixH_take rfl (by rfl) ?_; apply Exists.intro; refine ⟨fun w1 hS1 => ?_, ?_⟩
            · clear hS1
              go_simp
              try rfl
            go_simp; refine mixH_go rfl (by rfl) (fun K hK => ?_); go_simp; refine (CO.out _).mono ?_; rintro z wA ⟨rfl, uA⟩; refine hK _ _ ((Up.refl _).drew.trans uA) ?_; clear hK K; go_simp
            iterate 3
              refine mixH_take rfl (by rfl) ?_; apply Exists.intro; refine ⟨fun w1 hS1 => ?_, ?_⟩
              · clear hS1
                go_simp
                try rfl
              go_simp
            refine mixH_take rfl (by rfl) ?_; apply Exists.intro; refine ⟨fun w1 hS1 => ?_, ?_⟩
            · obtain ⟨k0, k1, k2⟩ := (And.intro ((hS1.cells _ _ LT.out.1).trans EQ.out.1) (And.intro ((hS1.cells _ _ LT.out.2).trans EQ.out.2.1) ((hS1.cells _ _ LT.out.2).trans EQ.out.2.2)))
              obtain ⟨r0, r1, r2, r3, r4, r5, r6⟩ := (REC.out.up hS1 LTR.out); simp only [Nat.zero_add] at r0 r1 r2 r3 r4 r5 r6; clear hS1; go_simp
              try rfl
            go_simp; refine mixH_go rfl (by rfl) (fun K hK => ?_); go_simp; refine (CI.out _).mono ?_; rintro z wB ⟨rfl, uB⟩; refine hK _ _ (((Up.refl _).drew.trans uA).trans uB) ?_; clear hK K; go_simp
            iterate 6
              refine mixH_take rfl (by rfl) ?_; apply Exists.intro; refine ⟨fun w1 hS1 => ?_, ?_⟩
              · clear hS1
                go_simp
                try rfl
              go_simp
            iterate 5
              refine mixH_skip rfl (by rfl) ?_; go_simp; refine mixH_skip rfl (by rfl) ?_; go_simp
            refine mixH_skip rfl (by rfl) ?_; go_simp
            iterate 2
              refine mixH_take rfl (by rfl) ?_; apply Exists.intro; refine ⟨fun w1 hS1 => ?_, ?_⟩
              · clear hS1
                go_simp
                try rfl
              go_simp
            refine mixH_nil ?_
            have UE := Lib.hid (UN.out.trans (((Up.refl _).drew.trans uA).trans uB))
            clear uA uB; go_wp2
            go_roundw
            case rel => exact ⟨⟨0 + 1, by omega, by first | rfl | go_num, HN⟩, UE.out⟩
            case measure => (simp [intOf]; try omega)
          · have PRV := Lib.hid (PV.out hz)
            have PP2 := PP.out
            rw [if_neg (by omega)] at PP2
            generalize s.log.getD (q - 1) default = pv at PRV PP2
            have CL := Lib.hid (fun W => specLess_any pv.ev r.ev W)
            have SB := show behind (prevP s.log q) r.ev = ltE pv.ev r.ev by rw [PP2]; rfl
            rw [SB] at S
            generalize ltE pv.ev r.ev = o3 at CL S
            unfold Evt.v at CL; obtain ⟨q1, hq1⟩ : ∃ q1, q1 = q - 1 := ⟨_, rfl⟩
            have i6 : IntKind.i64.wrap ((q : Int) - 1) = (q1 : Int) := by rw [IntWalk.i64_in _ (by omega)]; omega
            have i7 : (q1 : Int) < nl := by omega
            have i8 : (0 : Int) < (q : Int) := by omega
            rw [← hq1] at PRV; clear SB PP2 PV hq1
            cases o3
            · have HF := Lib.hid (show res = false by rw [← HR.out, S]; simp)
              clear S; refine region_mixH (fun w' => Up W0 w') [(0, true), (1, true), (2, true), (3, true), (4, true), (5, false), (6, true), (7, true), (8, true), (9, true), (10, false), (11, true), (12, true), (13, true), (14, true), (15, true), (16, true), (17, true), (18, true), (19, true), (20, true), (21, true), (22, true), (23, true), (24, true), (25, true), (26, false), (27, true), (28, true), (29, true)] (by kernel_rfl) (by kernel_rfl) (Up.refl _).drew ?_; refine mixH_take rfl (by rfl) ?_; apply Exists.intro; refine ⟨fun w1 hS1 => ?_, ?_⟩
              · clear hS1
                go_simp
                try rfl
              go_simp; refine mixH_take rfl (by rfl) ?_; apply Exists.intro; refine ⟨fun w1 hS1 => ?_, ?_⟩
              · obtain ⟨k0, k1, k2⟩ := (And.intro ((hS1.cells _ _ LT.out.1).trans EQ.out.1) (And.intro ((hS1.cells _ _ LT.out.2).trans EQ.out.2.1) ((hS1.cells _ _ LT.out.2).trans EQ.out.2.2)))
                obtain ⟨r0, r1, r2, r3, r4, r5, r6⟩ := (REC.out.up hS1 LTR.out); simp only [Nat.zero_add] at r0 r1 r2 r3 r4 r5 r6; obtain ⟨v0, v1, v2, v3, v4, v5, v6⟩ := (PRV.out.up hS1 LTB.out); clear hS1; go_simp
                try rfl
              go_simp; refine mixH_take rfl (by rfl) ?_; apply Exists.intro; refine ⟨fun w1 hS1 => ?_, ?_⟩
              · clear hS1
                go_simp
                try rfl
              go_simp; refine mixH_take rfl (by rfl) ?_; apply Exists.intro; refine ⟨fun w1 hS1 => ?_, ?_⟩
              · obtain ⟨k0, k1, k2⟩ := (And.intro ((hS1.cells _ _ LT.out.1).trans EQ.out.1) (And.intro ((hS1.cells _ _ LT.out.2).trans EQ.out.2.1) ((hS1.cells _ _ LT.out.2).trans EQ.out.2.2)))
                obtain ⟨r0, r1, r2, r3, r4, r5, r6⟩ := (REC.out.up hS1 LTR.out); simp only [Nat.zero_add] at r0 r1 r2 r3 r4 r5 r6; obtain ⟨v0, v1, v2, v3, v4, v5, v6⟩ := (PRV.out.up hS1 LTB.out); clear hS1; go_simp
                try rfl
              go_simp; refine mixH_take rfl (by rfl) ?_; apply Exists.intro; refine ⟨fun w1 hS1 => ?_, ?_⟩
              · clear hS1
                go_simp
                try rfl
              go_simp; refine mixH_go rfl (by rfl) (fun K hK => ?_); go_simp; refine (CO.out _).mono ?_; rintro z wA ⟨rfl, uA⟩; refine hK _ _ ((Up.refl _).drew.trans uA) ?_; clear hK K; go_simp
              iterate 3
                refine mixH_take rfl (by rfl) ?_; apply Exists.intro; refine ⟨fun w1 hS1 => ?_, ?_⟩
                · clear hS1
                  go_simp
                  try rfl
                go_simp
              refine mixH_take rfl (by rfl) ?_; apply Exists.intro; refine ⟨fun w1 hS1 => ?_, ?_⟩
              · obtain ⟨k0, k1, k2⟩ := (And.intro ((hS1.cells _ _ LT.out.1).trans EQ.out.1) (And.intro ((hS1.cells _ _ LT.out.2).trans EQ.out.2.1) ((hS1.cells _ _ LT.out.2).trans EQ.out.2.2)))
                obtain ⟨r0, r1, r2, r3, r4, r5, r6⟩ := (REC.out.up hS1 LTR.out); simp only [Nat.zero_add] at r0 r1 r2 r3 r4 r5 r6; obtain ⟨v0, v1, v2, v3, v4, v5, v6⟩ := (PRV.out.up hS1 LTB.out); clear hS1; go_simp
                try rfl
              go_simp; refine mixH_go rfl (by rfl) (fun K hK => ?_); go_simp; refine (CI.out _).mono ?_; rintro z wB ⟨rfl, uB⟩; refine hK _ _ (((Up.refl _).drew.trans uA).trans uB) ?_; clear hK K; go_simp
              iterate 7
                refine mixH_take rfl (by rfl) ?_; apply Exists.intro; refine ⟨fun w1 hS1 => ?_, ?_⟩
                · clear hS1
                  go_simp
                  try rfl
                go_simp
              refine mixH_take rfl (by rfl) ?_; apply Exists.intro; refine ⟨fun w1 hS1 => ?_, ?_⟩
              · obtain ⟨k0, k1, k2⟩ := (And.intro ((hS1.cells _ _ LT.out.1).trans EQ.out.1) (And.intro ((hS1.cells _ _ LT.out.2).trans EQ.out.2.1) ((hS1.cells _ _ LT.out.2).trans EQ.out.2.2)))
                obtain ⟨r0, r1, r2, r3, r4, r5, r6⟩ := (REC.out.up hS1 LTR.out); simp only [Nat.zero_add] at r0 r1 r2 r3 r4 r5 r6; obtain ⟨v0, v1, v2, v3, v4, v5, v6⟩ := (PRV.out.up hS1 LTB.out); clear hS1; go_simp
                try rfl
              go_simp
              iterate 4
                refine mixH_take rfl (by rfl) ?_; apply Exists.intro; refine ⟨fun w1 hS1 => ?_, ?_⟩
                · clear hS1
                  go_simp
                  try rfl
                go_simp
              refine mixH_take rfl (by rfl) ?_; apply Exists.intro; refine ⟨fun w1 hS1 => ?_, ?_⟩
              · obtain ⟨k0, k1, k2⟩ := (And.intro ((hS1.cells _ _ LT.out.1).trans EQ.out.1) (And.intro ((hS1.cells _ _ LT.out.2).trans EQ.out.2.1) ((hS1.cells _ _ LT.out.2).trans EQ.out.2.2)))
                obtain ⟨r0, r1, r2, r3, r4, r5, r6⟩ := (REC.out.up hS1 LTR.out); simp only [Nat.zero_add] at r0 r1 r2 r3 r4 r5 r6; obtain ⟨v0, v1, v2, v3, v4, v5, v6⟩ := (PRV.out.up hS1 LTB.out); clear hS1; go_simp
                try rfl
              go_simp; refine mixH_take rfl (by rfl) ?_; apply Exists.intro; refine ⟨fun w1 hS1 => ?_, ?_⟩
              · clear hS1
                go_simp
                try rfl
              go_simp; refine mixH_take rfl (by rfl) ?_; apply Exists.intro; refine ⟨fun w1 hS1 => ?_, ?_⟩
              · obtain ⟨k0, k1, k2⟩ := (And.intro ((hS1.cells _ _ LT.out.1).trans EQ.out.1) (And.intro ((hS1.cells _ _ LT.out.2).trans EQ.out.2.1) ((hS1.cells _ _ LT.out.2).trans EQ.out.2.2)))
                obtain ⟨r0, r1, r2, r3, r4, r5, r6⟩ := (REC.out.up hS1 LTR.out); simp only [Nat.zero_add] at r0 r1 r2 r3 r4 r5 r6; obtain ⟨v0, v1, v2, v3, v4, v5, v6⟩ := (PRV.out.up hS1 LTB.out); clear hS1; go_simp
                try rfl
              go_simp; refine mixH_go rfl (by rfl) (fun K hK => ?_); go_simp; refine (CL.out _).mono ?_; rintro z wC ⟨rfl, uC⟩; refine hK _ _ ((((Up.refl _).drew.trans uA).trans uB).trans uC) ?_; clear hK K; go_simp
              iterate 3
                refine mixH_take rfl (by rfl) ?_; apply Exists.intro; refine ⟨fun w1 hS1 => ?_, ?_⟩
                · clear hS1
                  go_simp
                  try rfl
                go_simp
              refine mixH_nil ?_
              have UE := Lib.hid (U0.out.trans (UN.out.trans ((((Up.refl _).drew.trans uA).trans uB).trans uC)))
              clear uA uB uC; go_wp2; go_ret
              exact ⟨ret_bool (by rw [HF.out]; rfl), UE.out⟩
            · have HN := Lib.hid (show logB n (prevP s.log (q + 1)) (s.log.drop (q + 1)) = res by rw [← HR.out, S, NX.out]; simp)
              clear S; refine region_mixH (fun w' => Up W0 w') [(0, true), (1, true), (2, true), (3, true), (4, true), (5, false), (6, true), (7, true), (8, true), (9, true), (10, false), (11, true), (12, true), (13, true), (14, true), (15, true), (16, true), (17, true), (18, true), (19, true), (20, true), (21, true), (22, true), (23, true), (24, true), (25, true), (26, false), (27, true), (28, true), (29, true)] (by kernel_rfl) (by kernel_rfl) (Up.refl _).drew ?_; refine mixH_take rfl (by rfl) ?_; apply Exists.intro; refine ⟨fun w1 hS1 => ?_, ?_⟩
              · clear hS1
                go_simp
                try rfl
              go_simp; refine mixH_take rfl (by rfl) ?_; apply Exists.intro; refine ⟨fun w1 hS1 => ?_, ?_⟩
              · obtain ⟨k0, k1, k2⟩ := (And.intro ((hS1.cells _ _ LT.out.1).trans EQ.out.1) (And.intro ((hS1.cells _ _ LT.out.2).trans EQ.out.2.1) ((hS1.cells _ _ LT.out.2).trans EQ.out.2.2)))
                obtain ⟨r0, r1, r2, r3, r4, r5, r6⟩ := (REC.out.up hS1 LTR.out); simp only [Nat.zero_add] at r0 r1 r2 r3 r4 r5 r6; obtain ⟨v0, v1, v2, v3, v4, v5, v6⟩ := (PRV.out.up hS1 LTB.out); clear hS1; go_simp
                try rfl
              go_simp; refine mixH_take rfl (by rfl) ?_; apply Exists.intro; refine ⟨fun w1 hS1 => ?_, ?_⟩
              · clear hS1
                go_simp
                try rfl
              go_simp; refine mixH_take rfl (by rfl) ?_; apply Exists.intro; refine ⟨fun w1 hS1 => ?_, ?_⟩
              · obtain ⟨k0, k1, k2⟩ := (And.intro ((hS1.cells _ _ LT.out.1).trans EQ.out.1) (And.intro ((hS1.cells _ _ LT.out.2).trans EQ.out.2.1) ((hS1.cells _ _ LT.out.2).trans EQ.out.2.2)))
                obtain ⟨r0, r1, r2, r3, r4, r5, r6⟩ := (REC.out.up hS1 LTR.out); simp only [Nat.zero_add] at r0 r1 r2 r3 r4 r5 r6; obtain ⟨v0, v1, v2, v3, v4, v5, v6⟩ := (PRV.out.up hS1 LTB.out); clear hS1; go_simp
                try rfl
              go_simp; refine mixH_take rfl (by rfl) ?_; apply Exists.intro; refine ⟨fun w1 hS1 => ?_, ?_⟩
              · clear hS1
                go_simp
                try rfl
              go_simp; refine mixH_go rfl (by rfl) (fun K hK => ?_); go_simp; refine (CO.out _).mono ?_; rintro z wA ⟨rfl, uA⟩; refine hK _ _ ((Up.refl _).drew.trans uA) ?_; clear hK K; go_simp
              iterate 3
                refine mixH_take rfl (by rfl) ?_; apply Exists.intro; refine ⟨fun w1 hS1 => ?_, ?_⟩
                · clear hS1
                  go_simp
                  try rfl
                go_simp
              refine mixH_take rfl (by rfl) ?_; apply Exists.intro; refine ⟨fun w1 hS1 => ?_, ?_⟩
              · obtain ⟨k0, k1, k2⟩ := (And.intro ((hS1.cells _ _ LT.out.1).trans EQ.out.1) (And.intro ((hS1.cells _ _ LT.out.2).trans EQ.out.2.1) ((hS1.cells _ _ LT.out.2).trans EQ.out.2.2)))
                obtain ⟨r0, r1, r2, r3, r4, r5, r6⟩ := (REC.out.up hS1 LTR.out); simp only [Nat.zero_add] at r0 r1 r2 r3 r4 r5 r6; obtain ⟨v0, v1, v2, v3, v4, v5, v6⟩ := (PRV.out.up hS1 LTB.out); clear hS1; go_simp
                try rfl
              go_simp; refine mixH_go rfl (by rfl) (fun K hK => ?_); go_simp; refine (CI.out _).mono ?_; rintro z wB ⟨rfl, uB⟩; refine hK _ _ (((Up.refl _).drew.trans uA).trans uB) ?_; clear hK K; go_simp
              iterate 7
                refine mixH_take rfl (by rfl) ?_; apply Exists.intro; refine ⟨fun w1 hS1 => ?_, ?_⟩
                · clear hS1
                  go_simp
                  try rfl
                go_simp
              refine mixH_take rfl (by rfl) ?_; apply Exists.intro; refine ⟨fun w1 hS1 => ?_, ?_⟩
              · obtain ⟨k0, k1, k2⟩ := (And.intro ((hS1.cells _ _ LT.out.1).trans EQ.out.1) (And.intro ((hS1.cells _ _ LT.out.2).trans EQ.out.2.1) ((hS1.cells _ _ LT.out.2).trans EQ.out.2.2)))
                obtain ⟨r0, r1, r2, r3, r4, r5, r6⟩ := (REC.out.up hS1 LTR.out); simp only [Nat.zero_add] at r0 r1 r2 r3 r4 r5 r6; obtain ⟨v0, v1, v2, v3, v4, v5, v6⟩ := (PRV.out.up hS1 LTB.out); clear hS1; go_simp
                try rfl
              go_simp
              iterate 4
                refine mixH_take rfl (by rfl) ?_; apply Exists.intro; refine ⟨fun w1 hS1 => ?_, ?_⟩
                · clear hS1
                  go_simp
                  try rfl
                go_simp
              refine mixH_take rfl (by rfl) ?_; apply Exists.intro; refine ⟨fun w1 hS1 => ?_, ?_⟩
              · obtain ⟨k0, k1, k2⟩ := (And.intro ((hS1.cells _ _ LT.out.1).trans EQ.out.1) (And.intro ((hS1.cells _ _ LT.out.2).trans EQ.out.2.1) ((hS1.cells _ _ LT.out.2).trans EQ.out.2.2)))
                obtain ⟨r0, r1, r2, r3, r4, r5, r6⟩ := (REC.out.up hS1 LTR.out); simp only [Nat.zero_add] at r0 r1 r2 r3 r4 r5 r6; obtain ⟨v0, v1, v2, v3, v4, v5, v6⟩ := (PRV.out.up hS1 LTB.out); clear hS1; go_simp
                try rfl
              go_simp; refine mixH_take rfl (by rfl) ?_; apply Exists.intro; refine ⟨fun w1 hS1 => ?_, ?_⟩
              · clear hS1
                go_simp
                try rfl
              go_simp; refine mixH_take rfl (by rfl) ?_; apply Exists.intro; refine ⟨fun w1 hS1 => ?_, ?_⟩
              · obtain ⟨k0, k1, k2⟩ := (And.intro ((hS1.cells _ _ LT.out.1).trans EQ.out.1) (And.intro ((hS1.cells _ _ LT.out.2).trans EQ.out.2.1) ((hS1.cells _ _ LT.out.2).trans EQ.out.2.2)))
                obtain ⟨r0, r1, r2, r3, r4, r5, r6⟩ := (REC.out.up hS1 LTR.out); simp only [Nat.zero_add] at r0 r1 r2 r3 r4 r5 r6; obtain ⟨v0, v1, v2, v3, v4, v5, v6⟩ := (PRV.out.up hS1 LTB.out); clear hS1; go_simp
                try rfl
              go_simp; refine mixH_go rfl (by rfl) (fun K hK => ?_); go_simp; refine (CL.out _).mono ?_; rintro z wC ⟨rfl, uC⟩; refine hK _ _ ((((Up.refl _).drew.trans uA).trans uB).trans uC) ?_; clear hK K; go_simp
              iterate 3
                refine mixH_take rfl (by rfl) ?_; apply Exists.intro; refine ⟨fun w1 hS1 => ?_, ?_⟩
                · clear hS1
                  go_simp
                  try rfl
                go_simp
              refine mixH_nil ?_
              have UE := Lib.hid (UN.out.trans ((((Up.refl _).drew.trans uA).trans uB).trans uC))
              clear uA uB uC; go_wp2
              go_roundw
              case rel => exact ⟨⟨q + 1, by omega, by first | rfl | go_num, HN⟩, UE.out⟩
              case measure => (simp [intOf]; try omega)
    · obtain rfl : q = nl := by omega
      have i4 : ¬ (q : Int) < q := by omega
      have HT := Lib.hid (show res = true by rw [← HR.out]; exact AE.out q _ (by rw [LE.out]; omega))
      have LT := Lib.hid (And.intro X0.out.lt X1.out.lt)
      have EQ := Lib.hid (And.intro X0.out.c0 (And.intro X1.out.c1 X1.out.c2))
      have EVS := Lib.hid (HW.out.up UR.out)
      have RCS := Lib.hid (HL.out.up UR.out)
      have LQ := lastP_eq s.log none
      rw [LE.out] at LQ; obtain ⟨W0, hW0⟩ : ∃ W0, W0 = wr := ⟨_, rfl⟩; subst hW0; clear ur X0 X1
      go_wp2_with fail
      rcases Nat.eq_zero_or_pos q with hz | hz
      · subst hz
        have JT := Lib.hid (show jr = true by rw [← JR.out, LQ, if_pos rfl]; cases s.wait <;> simp [joinB, behind])
        clear LQ; refine region_mixH (fun w' => Up W0 w') [(0, true), (1, true), (2, true), (3, true), (4, true), (5, true), (6, true), (7, true), (8, true), (9, true), (10, true), (11, true), (12, true), (13, true), (14, true), (15, true), (16, true), (17, true), (18, true), (19, true), (20, true), (21, true), (22, true), (23, true), (24, true), (25, true), (26, true)] (by kernel_rfl) (by kernel_rfl) (Up.refl _).drew ?_; refine mixH_take rfl (by rfl) ?_; apply Exists.intro; refine ⟨fun w1 hS1 => ?_, ?_⟩
        · clear hS1
          go_simp
          try rfl
        go_simp; refine mixH_take rfl (by rfl) ?_; apply Exists.intro; refine ⟨fun w1 hS1 => ?_, ?_⟩
        · obtain ⟨k0, k1, k2⟩ := (And.intro ((hS1.cells _ _ LT.out.1).trans EQ.out.1) (And.intro ((hS1.cells _ _ LT.out.2).trans EQ.out.2.1) ((hS1.cells _ _ LT.out.2).trans EQ.out.2.2)))
          clear hS1; go_simp
          try rfl
        go_simp
        iterate 3
          refine mixH_take rfl (by rfl) ?_; apply Exists.intro; refine ⟨fun w1 hS1 => ?_, ?_⟩
          · clear hS1
            go_simp
            try rfl
          go_simp
        iterate 2
          refine mixH_skip rfl (by rfl) ?_; go_simp; refine mixH_skip rfl (by rfl) ?_; go_simp
        iterate 2
          refine mixH_take rfl (by rfl) ?_; apply Exists.intro; refine ⟨fun w1 hS1 => ?_, ?_⟩
          · clear hS1
            go_simp
            try rfl
          go_simp
        iterate 7
          refine mixH_skip rfl (by rfl) ?_; go_simp; refine mixH_skip rfl (by rfl) ?_; go_simp
        iterate 2
          refine mixH_take rfl (by rfl) ?_; apply Exists.intro; refine ⟨fun w1 hS1 => ?_, ?_⟩
          · clear hS1
            go_simp
            try rfl
          go_simp
        refine mixH_nil ?_
        have UE := Lib.hid (UR.out.trans (Up.refl _).drew)
        go_wp2; go_ret
        exact ⟨ret_bool (by rw [HT.out, JT.out]; rfl), UE.out⟩
      · have hq0 : ¬ (q : Int) = 0 := by omega
        have hq2 : ((q : Int) == 0) = false := by simp; omega
        rcases Nat.eq_zero_or_pos nw with hw | hw
        · subst hw
          have JT := Lib.hid (show jr = true by rw [← JR.out, List.eq_nil_of_length_eq_zero LW.out]; simp [joinB])
          clear LQ; refine region_mixH (fun w' => Up W0 w') [(0, true), (1, true), (2, true), (3, true), (4, true), (5, true), (6, true), (7, true), (8, true), (9, true), (10, true), (11, true), (12, true), (13, true), (14, true), (15, true), (16, true), (17, true), (18, true), (19, true), (20, true), (21, true), (22, true), (23, true), (24, true), (25, true), (26, true)] (by kernel_rfl) (by kernel_rfl) (Up.refl _).drew ?_; refine mixH_take rfl (by rfl) ?_; apply Exists.intro; refine ⟨fun w1 hS1 => ?_, ?_⟩
          · clear hS1
            go_simp
            try rfl
          go_simp; refine mixH_take rfl (by rfl) ?_; apply Exists.intro; refine ⟨fun w1 hS1 => ?_, ?_⟩
          · obtain ⟨k0, k1, k2⟩ := (And.intro ((hS1.cells _ _ LT.out.1).trans EQ.out.1) (And.intro ((hS1.cells _ _ LT.out.2).trans EQ.out.2.1) ((hS1.cells _ _ LT.out.2).trans EQ.out.2.2)))
            clear hS1; go_simp
            try rfl
          go_simp
          iterate 4
            refine mixH_take rfl (by rfl) ?_; apply Exists.intro; refine ⟨fun w1 hS1 => ?_, ?_⟩
            · clear hS1
              go_simp
              try rfl
            go_simp
          refine mixH_take rfl (by rfl) ?_; apply Exists.intro; refine ⟨fun w1 hS1 => ?_, ?_⟩
          · obtain ⟨k0, k1, k2⟩ := (And.intro ((hS1.cells _ _ LT.out.1).trans EQ.out.1) (And.intro ((hS1.cells _ _ LT.out.2).trans EQ.out.2.1) ((hS1.cells _ _ LT.out.2).trans EQ.out.2.2)))
            clear hS1; go_simp
            try rfl
          go_simp
          iterate 4
            refine mixH_take rfl (by rfl) ?_; apply Exists.intro; refine ⟨fun w1 hS1 => ?_, ?_⟩
            · clear hS1
              go_simp
              try rfl
            go_simp
          iterate 7
            refine mixH_skip rfl (by rfl) ?_; go_simp; refine mixH_skip rfl (by rfl) ?_; go_simp
          iterate 2
            refine mixH_take rfl (by rfl) ?_; apply Exists.intro; refine ⟨fun w1 hS1 => ?_, ?_⟩
            · clear hS1
              go_simp
              try rfl
            go_simp
          refine mixH_nil ?_
          have UE := Lib.hid (UR.out.trans (Up.refl _).drew)
          go_wp2; go_ret
          exact ⟨ret_bool (by rw [HT.out, JT.out]; rfl), UE.out⟩
        · have hw0 : ¬ (nw : Int) = 0 := by omega
          have hw2 : ((nw : Int) == 0) = false := by simp; omega
          rw [if_neg (by omega)] at LQ; obtain ⟨b, off, hA, hb, hc⟩ := RCS.out.2 hz; obtain ⟨b2, off2, hA2, hb2, hc2⟩ := EVS.out.2 hw; subst hA hA2
          have REC := hc (q - 1) (by omega)
          have PRV := hc2 0 hw
          have JX : jr = ltE (s.log.getD (q - 1) default).ev (s.wait.getD 0 default) := by
            rw [← JR.out, LQ]
            have hl := LW.out
            cases hs : s.wait with
            | nil => rw [hs] at hl; simp at hl; omega
            | cons e es => rfl
          generalize s.log.getD (q - 1) default = pv at REC JX
          generalize s.wait.getD 0 default = ev at PRV JX
          have CL := Lib.hid (fun W => specLess_any pv.ev ev W)
          generalize ltE pv.ev ev = o3 at CL JX
          have JT := Lib.hid JX
          unfold Evt.v at CL; simp only [Nat.zero_mul, Nat.add_zero] at PRV; obtain ⟨q1, hq1⟩ : ∃ q1, q1 = q - 1 := ⟨_, rfl⟩
          have i6 : IntKind.i64.wrap ((q : Int) - 1) = (q1 : Int) := by rw [IntWalk.i64_in _ (by omega)]; omega
          have i7 : (q1 : Int) < q := by omega
          have i8 : (0 : Int) < (nw : Int) := by omega
          rw [← hq1] at REC
          have REC := Lib.hid REC
          have PRV := Lib.hid PRV
          have LTR := Lib.hid hb
          have LTB := Lib.hid hb2
          clear hq1 JX LQ hc hc2 JR; refine region_mixH (fun w' => Up W0 w') [(0, true), (1, true), (2, true), (3, true), (4, true), (5, true), (6, true), (7, true), (8, true), (9, true), (10, true), (11, true), (12, true), (13, true), (14, true), (15, true), (16, true), (17, true), (18, true), (19, true), (20, true), (21, true), (22, true), (23, true), (24, false), (25, true), (26, true)] (by kernel_rfl) (by kernel_rfl) (Up.refl _).drew ?_; refine mixH_take rfl (by rfl) ?_; apply Exists.intro; refine ⟨fun w1 hS1 => ?_, ?_⟩
          · clear hS1
            go_simp
            try rfl
          go_simp; refine mixH_take rfl (by rfl) ?_; apply Exists.intro; refine ⟨fun w1 hS1 => ?_, ?_⟩
          · obtain ⟨k0, k1, k2⟩ := (And.intro ((hS1.cells _ _ LT.out.1).trans EQ.out.1) (And.intro ((hS1.cells _ _ LT.out.2).trans EQ.out.2.1) ((hS1.cells _ _ LT.out.2).trans EQ.out.2.2)))
            obtain ⟨r0, r1, r2, r3, r4, r5, r6⟩ := (REC.out.up hS1 LTR.out); obtain ⟨v0, v1, v2, v3, v4, v5⟩ := (PRV.out.up hS1 LTB.out); clear hS1; go_simp
            try rfl
          go_simp
          iterate 4
            refine mixH_take rfl (by rfl) ?_; apply Exists.intro; refine ⟨fun w1 hS1 => ?_, ?_⟩
            · clear hS1
              go_simp
              try rfl
            go_simp
          refine mixH_take rfl (by rfl) ?_; apply Exists.intro; refine ⟨fun w1 hS1 => ?_, ?_⟩
          · obtain ⟨k0, k1, k2⟩ := (And.intro ((hS1.cells _ _ LT.out.1).trans EQ.out.1) (And.intro ((hS1.cells _ _ LT.out.2).trans EQ.out.2.1) ((hS1.cells _ _ LT.out.2).trans EQ.out.2.2)))
            obtain ⟨r0, r1, r2, r3, r4, r5, r6⟩ := (REC.out.up hS1 LTR.out); obtain ⟨v0, v1, v2, v3, v4, v5⟩ := (PRV.out.up hS1 LTB.out); clear hS1; go_simp
            try rfl
          go_simp
          iterate 5
            refine mixH_take rfl (by rfl) ?_; apply Exists.intro; refine ⟨fun w1 hS1 => ?_, ?_⟩
            · clear hS1
              go_simp
              try rfl
            go_simp
          refine mixH_take rfl (by rfl) ?_; apply Exists.intro; refine ⟨fun w1 hS1 => ?_, ?_⟩
          · obtain ⟨k0, k1, k2⟩ := (And.intro ((hS1.cells _ _ LT.out.1).trans EQ.out.1) (And.intro ((hS1.cells _ _ LT.out.2).trans EQ.out.2.1) ((hS1.cells _ _ LT.out.2).trans EQ.out.2.2)))
            obtain ⟨r0, r1, r2, r3, r4, r5, r6⟩ := (REC.out.up hS1 LTR.out); obtain ⟨v0, v1, v2, v3, v4, v5⟩ := (PRV.out.up hS1 LTB.out); clear hS1; go_simp
            try rfl
          go_simp; refine mixH_take rfl (by rfl) ?_; apply Exists.intro; refine ⟨fun w1 hS1 => ?_, ?_⟩
          · clear hS1
            go_simp
            try rfl
          go_simp; refine mixH_take rfl (by rfl) ?_; apply Exists.intro; refine ⟨fun w1 hS1 => ?_, ?_⟩
          · obtain ⟨k0, k1, k2⟩ := (And.intro ((hS1.cells _ _ LT.out.1).trans EQ.out.1) (And.intro ((hS1.cells _ _ LT.out.2).trans EQ.out.2.1) ((hS1.cells _ _ LT.out.2).trans EQ.out.2.2)))
            obtain ⟨r0, r1, r2, r3, r4, r5, r6⟩ := (REC.out.up hS1 LTR.out); obtain ⟨v0, v1, v2, v3, v4, v5⟩ := (PRV.out.up hS1 LTB.out); clear hS1; go_simp
            try rfl
          go_simp
          iterate 4
            refine mixH_take rfl (by rfl) ?_; apply Exists.intro; refine ⟨fun w1 hS1 => ?_, ?_⟩
            · clear hS1
              go_simp
              try rfl
            go_simp
          refine mixH_take rfl (by rfl) ?_; apply Exists.intro; refine ⟨fun w1 hS1 => ?_, ?_⟩
          · obtain ⟨k0, k1, k2⟩ := (And.intro ((hS1.cells _ _ LT.out.1).trans EQ.out.1) (And.intro ((hS1.cells _ _ LT.out.2).trans EQ.out.2.1) ((hS1.cells _ _ LT.out.2).trans EQ.out.2.2)))
            obtain ⟨r0, r1, r2, r3, r4, r5, r6⟩ := (REC.out.up hS1 LTR.out); obtain ⟨v0, v1, v2, v3, v4, v5⟩ := (PRV.out.up hS1 LTB.out); clear hS1; go_simp
            try rfl
          go_simp; refine mixH_take rfl (by rfl) ?_; apply Exists.intro; refine ⟨fun w1 hS1 => ?_, ?_⟩
          · clear hS1
            go_simp
            try rfl
          go_simp; refine mixH_take rfl (by rfl) ?_; apply Exists.intro; refine ⟨fun w1 hS1 => ?_, ?_⟩
          · obtain ⟨k0, k1, k2⟩ := (And.intro ((hS1.cells _ _ LT.out.1).trans EQ.out.1) (And.intro ((hS1.cells _ _ LT.out.2).trans EQ.out.2.1) ((hS1.cells _ _ LT.out.2).trans EQ.out.2.2)))
            obtain ⟨r0, r1, r2, r3, r4, r5, r6⟩ := (REC.out.up hS1 LTR.out); obtain ⟨v0, v1, v2, v3, v4, v5⟩ := (PRV.out.up hS1 LTB.out); clear hS1; go_simp
            try rfl
          go_simp; refine mixH_take rfl (by rfl) ?_; apply Exists.intro; refine ⟨fun w1 hS1 => ?_, ?_⟩
          · clear hS1
            go_simp
            try rfl
          go_simp; refine mixH_take rfl (by rfl) ?_; apply Exists.intro; refine ⟨fun w1 hS1 => ?_, ?_⟩
          · obtain ⟨k0, k1, k2⟩ := (And.intro ((hS1.cells _ _ LT.out.1).trans EQ.out.1) (And.intro ((hS1.cells _ _ LT.out.2).trans EQ.out.2.1) ((hS1.cells _ _ LT.out.2).trans EQ.out.2.2)))
            obtain ⟨r0, r1, r2, r3, r4, r5, r6⟩ := (REC.out.up hS1 LTR.out); obtain ⟨v0, v1, v2, v3, v4, v5⟩ := (PRV.out.up hS1 LTB.out); clear hS1; go_simp
            try rfl
          go_simp; refine mixH_go rfl (by rfl) (fun K hK => ?_); go_simp; refine (CL.out _).mono ?_; rintro z wC ⟨rfl, uC⟩; refine hK _ _ ((Up.refl _).drew.trans uC) ?_; clear hK K; go_simp
          iterate 2
            refine mixH_take rfl (by rfl) ?_; apply Exists.intro; refine ⟨fun w1 hS1 => ?_, ?_⟩
            · clear hS1
              go_simp
              try rfl
            go_simp
          refine mixH_nil ?_
          have UE := Lib.hid (UR.out.trans ((Up.refl _).drew.trans uC))
          clear uC; go_wp2; go_ret
          exact ⟨ret_bool (by rw [HT.out, JT.out]; rfl), UE.out⟩
end Go.Proofs.Ytklldniapombiaa

/-
  What FnWinEvents returns, in one sentence: true, with new blocks alone; for every code.
  For every code the law FnWinEvents returns true and leaves its argument as it was; no condition.
-/
import Derived.Test.YtklldniapombiaaDLWev01
import Derived.Test.YtklldniapombiaaDLWev31
import Derived.Test.YtklldniapombiaaDLWev36
import Derived.Test.YtklldniapombiaaDLWev37
import Derived.Test.YtklldniapombiaaDLWev38
import Derived.Test.YtklldniapombiaaDLWev41
import Derived.Test.YtklldniapombiaaDLWev42
import Derived.Test.YtklldniapombiaaRows
namespace Go.Proofs.Ytklldniapombiaa
set_option maxRecDepth 100000
open Go.RowKit
set_option maxHeartbeats 8000000 in
theorem walkWev {w : World} (A : Option Addr) (n cap : Nat) (hc : n ≤ cap) (hmax : cap ≤ 9223372036854775807) (hB : Bys w A n w.heap.size) :
    Calls Try.prog 7 #[.slice A n cap] w fun x w' => x = .returned (.bool true) ∧ Up w w' := by
  have HB := Lib.hid hB
  clear hB
  by_cases h : 1048576 < n
  · have h' : (1048576 : Int) < n := by omega
    go_enter Try.func7, Try.ntmps7
    go_wp2; go_ret
    exact ⟨rfl, Up.refl _⟩
  · have h' : ¬ (1048576 : Int) < n := by omega
    go_enter Try.func7, Try.ntmps7
    go_wp2_with fail
    refine (drawWE_any A n cap _ hc hmax HB.out).mono ?_; rintro x w1 ⟨A, n, c, B, k, d, m, Ac, nc, cc, Aw, nw, cw, Al, nl, cl, s, rfl, mv, sq, ⟨hn, hnc, hcm⟩, ⟨h1, h2, h3⟩, ⟨ht0, ht1⟩, u1⟩
    have UW1 := Lib.hid u1
    have MV : MdlV w1 A n B k m := mv w1 (Sml.of_up (Up.refl w1))
    have SV := sq.v
    have SH : ShortSq nc nw nl := ⟨by omega, by omega, by omega⟩
    have HCW := Lib.hid (show nw ≤ cw ∧ cw ≤ 9223372036854775807 by obtain ⟨_, A9, c9, ee, a1, a2⟩ := own_slice sq.o2; injection ee with _ _ ee; subst ee; exact ⟨a1, a2⟩)
    have EW := Lib.hid SV.wait
    have EC := Lib.hid SV.comps
    have CI := Lib.hid (fun W (u : Up w1 W) => implWev_any A n c B k d m Ac nc cc Aw nw cw Al nl cl s W (MV.up u) SH (SV.up u))
    have CP := Lib.hid (fun W (u : Up w1 W) => specWev_any A n c B k d m Ac nc cc Aw nw cw Al nl cl s W (MV.up u) SH (SV.up u))
    have CQ := Lib.hid (fun W (u : Up w1 W) => specSeqOk_any A n c B k d m Ac nc cc Aw nw cw Al nl cl s W (MV.up u) SH (SV.up u))
    have CW := Lib.hid (fun W (u : Up w1 W) => implWin_any A n c B k d m W (MV.up u))
    have CD := Lib.hid (fun W (u : Up w1 W) st e => implCmpDo_any A n c B k d m st e W (MV.up u))
    have FA := Lib.hid (fun hs h0 => wev_all (m := m) (n := n) (nc := nc) (s := s) MV.rules.1 hs h0)
    have FN := Lib.hid (fun h => wev_none (m := m) (n := n) (nc := nc) (s := s) h)
    have FL := Lib.hid (wevV_few (m := m) (n := n) (nc := nc) (s := s) (nw := nw) SV.wait.1 (by omega))
    generalize wevV m n nc s = V at *
    generalize sqS m n nc s = res at *
    generalize winV m = wv at *
    generalize winL m = wl at *
    have X3 := Lib.hid ((Blk.new w1 #[.slice A n c, .slice B k d, .int .i64 m.til] 36).alloc (.cells #[.slice Ac nc cc, .slice Aw nw cw, .slice Al nl cl] 62))
    have X4 := Lib.hid (Blk.new (w1.alloc (.cells #[.slice A n c, .slice B k d, .int .i64 m.til] 36)) #[.slice Ac nc cc, .slice Aw nw cw, .slice Al nl cl] 62)
    simp only [World.size_alloc] at X4
    have U := Lib.hid (((Up.refl w1).alloc (.cells #[.slice A n c, .slice B k d, .int .i64 m.til] 36)).alloc (.cells #[.slice Ac nc cc, .slice Aw nw cw, .slice Al nl cl] 62))
    clear mv sq MV SV SH u1
    generalize hW3 : (w1.alloc (.cells #[.slice A n c, .slice B k d, .int .i64 m.til] 36)).alloc (.cells #[.slice Ac nc cc, .slice Aw nw cw, .slice Al nl cl] 62) = W3 at X3 X4 U
    obtain ⟨q0, q1, q2⟩ := And.intro (X3.out.cell (j := 0) rfl) (And.intro (X3.out.cell (j := 1) rfl) (X3.out.cell (j := 2) rfl)); obtain ⟨c0, c1, c2⟩ := And.intro (X4.out.cell (j := 0) rfl) (And.intro (X4.out.cell (j := 1) rfl) (X4.out.cell (j := 2) rfl))
    have l3 := X3.out.lt
    have l4 := X4.out.lt
    subst hW3
    go_wp2_with fail
    generalize (w1.alloc (.cells #[.slice A n c, .slice B k d, .int .i64 m.til] 36)).alloc (.cells #[.slice Ac nc cc, .slice Aw nw cw, .slice Al nl cl] 62) = W3 at *
    generalize w1.heap.size + 1 = b4 at *
    generalize w1.heap.size = b3 at *
    refine (CI.out _ U.out).mono ?_; rintro x w2 ⟨v, rfl, ov, u2⟩; obtain ⟨_, Av, cv, rfl, _, _⟩ := own_slice ov
    have OV := Lib.hid ov
    replace U := Lib.hid (U.out.trans u2)
    replace X3 := Lib.hid (X3.out.up u2)
    replace X4 := Lib.hid (X4.out.up u2)
    have UV := Lib.hid (Up.refl w2)
    clear u2 ov CI q0 q1 q2 c0 c1 c2 l3 l4; obtain ⟨q0, q1, q2⟩ := And.intro (X3.out.cell (j := 0) rfl) (And.intro (X3.out.cell (j := 1) rfl) (X3.out.cell (j := 2) rfl)); obtain ⟨c0, c1, c2⟩ := And.intro (X4.out.cell (j := 0) rfl) (And.intro (X4.out.cell (j := 1) rfl) (X4.out.cell (j := 2) rfl))
    have l3 := X3.out.lt
    have l4 := X4.out.lt
    go_wp2_with fail
    refine (CP.out _ U.out).mono ?_; rintro x w3 ⟨v2, rfl, o2, u3⟩; obtain ⟨_, A2, c2, rfl, _, _⟩ := own_slice o2
    have EV2 := Lib.hid (own_evs o2)
    replace U := Lib.hid (U.out.trans u3)
    replace X3 := Lib.hid (X3.out.up u3)
    replace X4 := Lib.hid (X4.out.up u3)
    replace UV := Lib.hid (UV.out.trans u3)
    clear u3 o2 CP q0 q1 q2 c0 c1 l3 l4
    try clear c2
    obtain ⟨q0, q1, q2⟩ := And.intro (X3.out.cell (j := 0) rfl) (And.intro (X3.out.cell (j := 1) rfl) (X3.out.cell (j := 2) rfl)); obtain ⟨c0, c1, c2⟩ := And.intro (X4.out.cell (j := 0) rfl) (And.intro (X4.out.cell (j := 1) rfl) (X4.out.cell (j := 2) rfl))
    have l3 := X3.out.lt
    have l4 := X4.out.lt
    go_wp2_with fail
    refine (tbEvts_any _ _ V.length V.length _ _ V V _ (by have := FL.out; omega) (own_evs (own_up OV.out UV.out)) EV2.out).mono ?_; rintro x w4 ⟨rfl, u4⟩
    replace U := Lib.hid (U.out.trans u4)
    replace X3 := Lib.hid (X3.out.up u4)
    replace X4 := Lib.hid (X4.out.up u4)
    replace UV := Lib.hid (UV.out.trans u4)
    clear u4 EV2 q0 q1 q2 c0 c1 l3 l4
    have dv : decide (V = V) = true := by simp
    rw [dv]; clear dv; obtain ⟨q0, q1, q2⟩ := And.intro (X3.out.cell (j := 0) rfl) (And.intro (X3.out.cell (j := 1) rfl) (X3.out.cell (j := 2) rfl)); obtain ⟨c0, c1, c2⟩ := And.intro (X4.out.cell (j := 0) rfl) (And.intro (X4.out.cell (j := 1) rfl) (X4.out.cell (j := 2) rfl))
    have l3 := X3.out.lt
    have l4 := X4.out.lt
    go_wp2_with fail
    refine (CQ.out _ U.out).mono ?_; rintro x w5 ⟨rfl, u5⟩
    replace U := Lib.hid (U.out.trans u5)
    replace X3 := Lib.hid (X3.out.up u5)
    replace X4 := Lib.hid (X4.out.up u5)
    replace UV := Lib.hid (UV.out.trans u5)
    clear u5 CQ q0 q1 q2 c0 c1 l3 l4
    cases res
    · have VN := FN.out (.inl rfl)
      have vz : V.length = 0 := by rw [VN]; rfl
      rw [vz]; obtain ⟨q0, q1, q2⟩ := And.intro (X3.out.cell (j := 0) rfl) (And.intro (X3.out.cell (j := 1) rfl) (X3.out.cell (j := 2) rfl)); obtain ⟨c0, c1, c2⟩ := And.intro (X4.out.cell (j := 0) rfl) (And.intro (X4.out.cell (j := 1) rfl) (X4.out.cell (j := 2) rfl))
      have l3 := X3.out.lt
      have l4 := X4.out.lt
      go_wp2; go_ret
      exact ⟨rfl, UW1.out.trans U.out⟩
    · by_cases hn0 : nw = 0
      · subst hn0
        have VN := FN.out (.inr (List.eq_nil_of_length_eq_zero EW.out.1))
        have vz : V.length = 0 := by rw [VN]; rfl
        rw [vz]; obtain ⟨q0, q1, q2⟩ := And.intro (X3.out.cell (j := 0) rfl) (And.intro (X3.out.cell (j := 1) rfl) (X3.out.cell (j := 2) rfl)); obtain ⟨c0, c1, c2⟩ := And.intro (X4.out.cell (j := 0) rfl) (And.intro (X4.out.cell (j := 1) rfl) (X4.out.cell (j := 2) rfl))
        have l3 := X3.out.lt
        have l4 := X4.out.lt
        go_wp2; go_ret
        exact ⟨rfl, UW1.out.trans U.out⟩
      · have bz : ((nw : Int) == 0) = false := by simp [hn0]
        have i3 : (0 : Int) < nw := by omega
        have i3n : 0 < nw := by omega
        clear FN; obtain ⟨hcn, hwv, hwl, hx0, vp, vlen, vtake, vend, vall⟩ := FA.out rfl (by rw [EW.out.1]; omega); subst hwv
        replace hcn := hcn.symm
        subst hcn; clear FA; rw [EW.out.1] at vlen vend
        have VT := Lib.hid vtake
        have VE := Lib.hid vend
        have VA := Lib.hid vall
        clear vtake vend vall; obtain ⟨bw, ow, hAw, hbw, hcw⟩ := (EW.out.up U.out).2 (by omega); subst hAw
        have p0 := (hcw 0 (by omega)).1
        rw [Nat.zero_mul, Nat.add_zero] at p0; clear hcw; obtain ⟨x0, hx⟩ : ∃ x, x = (s.wait.getD 0 default).t := ⟨_, rfl⟩; rw [← hx] at p0 hx0 VE VA; clear hx
        have i7 : IntKind.i64.wrap (x0 + wv) = x0 + wv := IntWalk.i64_in _ (by omega)
        obtain ⟨q0, q1, q2⟩ := And.intro (X3.out.cell (j := 0) rfl) (And.intro (X3.out.cell (j := 1) rfl) (X3.out.cell (j := 2) rfl)); obtain ⟨c0, c1, c2⟩ := And.intro (X4.out.cell (j := 0) rfl) (And.intro (X4.out.cell (j := 1) rfl) (X4.out.cell (j := 2) rfl))
        have l3 := X3.out.lt
        have l4 := X4.out.lt
        go_wp2_with fail
        clear q0 q1 q2 c0 c1 c2 l3 l4; refine region_hWalk (fun w1 => Up w5 w1) 9 (by kernel_rfl) rfl (by kernel_rfl) (Up.refl _).drew ?_; refine hWalk_take 0 (by kernel_rfl) rfl (by rfl) ?_; apply Exists.intro; refine ⟨fun w1 hS1 => ?_, ?_⟩
        · obtain ⟨c0, c1, c2⟩ := And.intro ((X4.out.up hS1).cell (j := 0) rfl) (And.intro ((X4.out.up hS1).cell (j := 1) rfl) ((X4.out.up hS1).cell (j := 2) rfl))
          have l4 := (X4.out.up hS1).lt
          clear hS1; go_simp
          try rfl
        go_simp; refine hWalk_take 1 (by kernel_rfl) rfl (by rfl) ?_; apply Exists.intro; refine ⟨fun w1 hS1 => ?_, ?_⟩
        · obtain ⟨c0, c1, c2⟩ := And.intro ((X4.out.up hS1).cell (j := 0) rfl) (And.intro ((X4.out.up hS1).cell (j := 1) rfl) ((X4.out.up hS1).cell (j := 2) rfl))
          have l4 := (X4.out.up hS1).lt
          clear hS1; go_simp
          try rfl
        go_simp; refine hWalk_take 2 (by kernel_rfl) rfl (by rfl) ?_; apply Exists.intro; refine ⟨fun w1 hS1 => ?_, ?_⟩
        · clear hS1
          go_simp
          try rfl
        go_simp; refine hWalk_take 3 (by kernel_rfl) rfl (by rfl) ?_; apply Exists.intro; refine ⟨fun w1 hS1 => ?_, ?_⟩
        · clear hS1
          go_simp
          try rfl
        go_simp; refine hWalk_take 4 (by kernel_rfl) rfl (by rfl) ?_; apply Exists.intro; refine ⟨fun w1 hS1 => ?_, ?_⟩
        · have pz := (hS1.cells _ _ hbw).trans p0
          have lb := Nat.lt_of_lt_of_le hbw hS1.size
          clear hS1; go_simp
          try rfl
        go_simp; refine hWalk_take 5 (by kernel_rfl) rfl (by rfl) ?_; apply Exists.intro; refine ⟨fun w1 hS1 => ?_, ?_⟩
        · obtain ⟨q0, q1, q2⟩ := And.intro ((X3.out.up hS1).cell (j := 0) rfl) (And.intro ((X3.out.up hS1).cell (j := 1) rfl) ((X3.out.up hS1).cell (j := 2) rfl))
          have l3 := (X3.out.up hS1).lt
          clear hS1; go_simp
          try rfl
        go_simp; refine hWalk_one (i := 6) (by kernel_rfl) (next_mk rfl (by rfl) (fun K hK => ?_)); go_simp; refine (CW.out _ (U.out.trans (Up.refl _).drew)).mono ?_; rintro x w6 ⟨rfl, u6⟩
        have ux := (Up.refl w5).drew.trans u6
        refine hK _ _ ux ?_; clear hK K u6; refine hWalk_take 7 (by kernel_rfl) rfl (by rfl) ?_; apply Exists.intro; refine ⟨fun w1 hS1 => ?_, ?_⟩
        · clear hS1
          go_simp
          try rfl
        go_simp; refine hWalk_take 8 (by kernel_rfl) rfl (by rfl) ?_; apply Exists.intro; refine ⟨fun w1 hS1 => ?_, ?_⟩
        · clear hS1
          go_simp
          try rfl
        go_simp; refine hWalk_nil (by kernel_rfl) ?_
        replace U := Lib.hid (U.out.trans ux)
        replace X3 := Lib.hid (X3.out.up ux)
        replace X4 := Lib.hid (X4.out.up ux)
        replace UV := Lib.hid (UV.out.trans ux)
        clear i7 CW p0
        have LV := Lib.hid (own_evs (own_up OV.out UV.out))
        obtain ⟨bv, ov, hAv, hbv, hcv⟩ := LV.out.2 vp; subst hAv
        have HCV := Lib.hid hcv
        clear hcv
        have hn1 : 0 < n := by have := (VA.out 0 vp).1; omega
        obtain ⟨bc, oc, hAc, hbc, hcc⟩ := (EC.out.up U.out).2 hn1; subst hAc
        have HCC := Lib.hid hcc
        clear hcc
        generalize htop : x0 + wv = top at *
        obtain ⟨q0, q1, q2⟩ := And.intro (X3.out.cell (j := 0) rfl) (And.intro (X3.out.cell (j := 1) rfl) (X3.out.cell (j := 2) rfl)); obtain ⟨c0, c1, c2⟩ := And.intro (X4.out.cell (j := 0) rfl) (And.intro (X4.out.cell (j := 1) rfl) (X4.out.cell (j := 2) rfl))
        have l3 := X3.out.lt
        have l4 := X4.out.lt
        go_wp2; clear q0 q1 q2 c0 c1 c2 l3 l4
        go_loopw [7] (fun vi wr => (∃ q : Nat, q ≤ V.length ∧ vi = .int .i64 q) ∧ Up w6 wr) (fun vi _ => V.length - (intOf vi).toNat)
        case atStart => exact ⟨⟨0, by omega, rfl⟩, Up.refl _⟩
        case round =>
          obtain ⟨⟨q, hq, rfl⟩, ur⟩ := hrel
          have fl := FL.out
          have UR := Lib.hid ur
          replace U := Lib.hid (U.out.trans ur)
          replace X3 := Lib.hid (X3.out.up ur)
          replace X4 := Lib.hid (X4.out.up ur)
          have LV := Lib.hid (LV.out.up ur)
          clear ur
          by_cases hlt : q < V.length
          · have i4 : (q : Int) < V.length := by omega
            have i8 : IntKind.i64.wrap ((q : Int) + 1) = (q : Int) + 1 := IntWalk.i64_in _ (by omega)
            have a0 := HCV.out q hlt
            obtain ⟨⟨to0, to1⟩, SND⟩ := VA.out q hlt
            generalize V.getD q default = x at a0 to0 to1 SND
            obtain ⟨et, eto, efr, esq, ekd, edt⟩ := x; obtain ⟨p0, p1, p2, p3, p4, p5⟩ := a0; dsimp only at p0 p1 p2 p3 p4 p5 to0 to1; obtain ⟨kt, rfl⟩ : ∃ kt : Nat, eto = kt := ⟨eto.toNat, by omega⟩
            have hkt : kt < n := by omega
            have i9 : (kt : Int) < n := by omega
            have g0 := HCC.out kt hkt
            generalize s.comps.getD kt default = st at g0
            obtain ⟨t0, t1, t2⟩ := st; obtain ⟨g0, g1, g2⟩ := g0; dsimp only at g0 g1 g2
            have SN := Lib.hid (SND ⟨t0, t1, t2⟩)
            clear SND
            go_wp2_with fail
            refine region_hWalk (fun w1 => Up wr w1) 21 (by kernel_rfl) rfl (by kernel_rfl) (Up.refl _).drew ?_; refine hWalk_take 0 (by kernel_rfl) rfl (by rfl) ?_; apply Exists.intro; refine ⟨fun w1 hS1 => ?_, ?_⟩
            · obtain ⟨q0, q1, q2⟩ := And.intro ((X3.out.up hS1).cell (j := 0) rfl) (And.intro ((X3.out.up hS1).cell (j := 1) rfl) ((X3.out.up hS1).cell (j := 2) rfl))
              have l3 := (X3.out.up hS1).lt
              clear hS1; go_simp
              try rfl
            go_simp; refine hWalk_take 1 (by kernel_rfl) rfl (by rfl) ?_; apply Exists.intro; refine ⟨fun w1 hS1 => ?_, ?_⟩
            · obtain ⟨c0, c1, c2⟩ := And.intro ((X4.out.up hS1).cell (j := 0) rfl) (And.intro ((X4.out.up hS1).cell (j := 1) rfl) ((X4.out.up hS1).cell (j := 2) rfl))
              have l4 := (X4.out.up hS1).lt
              clear hS1; go_simp
              try rfl
            go_simp; refine hWalk_take 2 (by kernel_rfl) rfl (by rfl) ?_; apply Exists.intro; refine ⟨fun w1 hS1 => ?_, ?_⟩
            · obtain ⟨c0, c1, c2⟩ := And.intro ((X4.out.up hS1).cell (j := 0) rfl) (And.intro ((X4.out.up hS1).cell (j := 1) rfl) ((X4.out.up hS1).cell (j := 2) rfl))
              have l4 := (X4.out.up hS1).lt
              clear hS1; go_simp
              try rfl
            go_simp; refine hWalk_take 3 (by kernel_rfl) rfl (by rfl) ?_; apply Exists.intro; refine ⟨fun w1 hS1 => ?_, ?_⟩
            · clear hS1
              go_simp
              try rfl
            go_simp; refine hWalk_take 4 (by kernel_rfl) rfl (by rfl) ?_; apply Exists.intro; refine ⟨fun w1 hS1 => ?_, ?_⟩
            · clear hS1
              go_simp
              try rfl
            go_simp; refine hWalk_take 5 (by kernel_rfl) rfl (by rfl) ?_; apply Exists.intro; refine ⟨fun w1 hS1 => ?_, ?_⟩
            · clear hS1
              go_simp
              try rfl
            go_simp; refine hWalk_take 6 (by kernel_rfl) rfl (by rfl) ?_; apply Exists.intro; refine ⟨fun w1 hS1 => ?_, ?_⟩
            · clear hS1
              go_simp
              try rfl
            go_simp; refine hWalk_take 7 (by kernel_rfl) rfl (by rfl) ?_; apply Exists.intro; refine ⟨fun w1 hS1 => ?_, ?_⟩
            · have z := UR.out.trans hS1
              have lb := Nat.lt_of_lt_of_le hbv z.size
              have p1 := (z.cells _ _ hbv).trans p1
              clear hS1; go_simp
              try rfl
            go_simp; refine hWalk_take 8 (by kernel_rfl) rfl (by rfl) ?_; apply Exists.intro; refine ⟨fun w1 hS1 => ?_, ?_⟩
            · clear hS1
              go_simp
              try rfl
            go_simp; refine hWalk_take 9 (by kernel_rfl) rfl (by rfl) ?_; apply Exists.intro; refine ⟨fun w1 hS1 => ?_, ?_⟩
            · have z := UR.out.trans hS1
              have lb := Nat.lt_of_lt_of_le hbc z.size
              have g0 := (z.cells _ _ hbc).trans g0
              have g1 := (z.cells _ _ hbc).trans g1
              have g2 := (z.cells _ _ hbc).trans g2
              clear hS1; go_simp
              try rfl
            go_simp; refine hWalk_take 10 (by kernel_rfl) rfl (by rfl) ?_; apply Exists.intro; refine ⟨fun w1 hS1 => ?_, ?_⟩
            · clear hS1
              go_simp
              try rfl
            go_simp; refine hWalk_take 11 (by kernel_rfl) rfl (by rfl) ?_; apply Exists.intro; refine ⟨fun w1 hS1 => ?_, ?_⟩
            · clear hS1
              go_simp
              try rfl
            go_simp; refine hWalk_take 12 (by kernel_rfl) rfl (by rfl) ?_; apply Exists.intro; refine ⟨fun w1 hS1 => ?_, ?_⟩
            · clear hS1
              go_simp
              try rfl
            go_simp; refine hWalk_take 13 (by kernel_rfl) rfl (by rfl) ?_; apply Exists.intro; refine ⟨fun w1 hS1 => ?_, ?_⟩
            · have z := UR.out.trans hS1
              have lb := Nat.lt_of_lt_of_le hbv z.size
              have p0 := (z.cells _ _ hbv).trans p0
              have p1 := (z.cells _ _ hbv).trans p1
              have p2 := (z.cells _ _ hbv).trans p2
              have p3 := (z.cells _ _ hbv).trans p3
              have p4 := (z.cells _ _ hbv).trans p4
              have p5 := (z.cells _ _ hbv).trans p5
              clear hS1; go_simp
              try rfl
            go_simp; refine hWalk_two (i := 14) (j := 18) (by kernel_rfl) ?_ ?_
            · refine next_mk rfl (by rfl) (fun K hK => ?_)
              go_simp; refine (CD.out _ (U.out.trans (Up.refl wr).drew) ⟨t0, t1, t2⟩ ⟨et, kt, efr, esq, ekd, edt⟩).mono ?_; rintro x wz ⟨v9, rfl, ow, u9⟩; obtain ⟨_, As, cs, rfl, hs1, hs2⟩ := own_slice ow
              have U9 := Lib.hid ((Up.refl wr).drew.trans u9)
              have OS := Lib.hid ow
              have SN := Lib.hid SN.out
              generalize (doM m ⟨t0, t1, t2⟩ ⟨et, kt, efr, esq, ekd, edt⟩).2 = ss at *
              generalize (doM m ⟨t0, t1, t2⟩ ⟨et, kt, efr, esq, ekd, edt⟩).1 = rs at *
              obtain ⟨r0, r1, r2⟩ := rs; unfold Cst.v; dsimp only; clear ow; refine hK _ _ U9.out ?_; clear hK K; refine hWalk_take 15 (by kernel_rfl) rfl (by rfl) ?_; apply Exists.intro; refine ⟨fun w1 hS1 => ?_, ?_⟩
              · clear hS1
                go_simp
                try rfl
              go_simp; refine hWalk_take 16 (by kernel_rfl) rfl (by rfl) ?_; apply Exists.intro; refine ⟨fun w1 hS1 => ?_, ?_⟩
              · clear hS1
                go_simp
                try rfl
              go_simp; refine hWalk_take 17 (by kernel_rfl) rfl (by rfl) ?_; apply Exists.intro; refine ⟨fun w1 hS1 => ?_, ?_⟩
              · clear hS1
                go_simp
                try rfl
              go_simp; refine hWalk_one (i := 18) (by kernel_rfl) (next_mk rfl (by rfl) (fun K hK => ?_))
              have ua := (Up.refl wz).alloc (.cells #[.int .i64 0, .int .i64 0, .int .i64 0] 76)
              go_simp; refine hK _ _ (U9.out.trans ua) ?_; clear hK K ua; refine hWalk_one (i := 19) (by kernel_rfl) (next_mk rfl (by rfl) (fun K hK => ?_)); go_simp
              have ub := (Up.refl wz).alloc (.cells #[.int .i64 r0, .int .i64 r1, .int .i64 r2] 76)
              have UZ := Lib.hid (U9.out.trans ub)
              have O8 := Lib.hid (own_up OS.out ub)
              refine hK _ _ UZ.out ?_; clear hK K ub; refine hWalk_take 20 (by kernel_rfl) rfl (by rfl) ?_; apply Exists.intro; refine ⟨fun w1 hS1 => ?_, ?_⟩
              · clear hS1
                go_simp
                try rfl
              go_simp; refine hWalk_nil (by kernel_rfl) ?_
              have UW := Lib.hid (UR.out.trans UZ.out)
              have ES := Lib.hid (own_evs O8.out)
              generalize hW8 : wz.alloc (.cells #[.int .i64 r0, .int .i64 r1, .int .i64 r2] 76) = W8 at *
              clear hW8 O8 OS U9; go_wp2
              go_loopw [10] (fun vi wi => (∃ j : Nat, j ≤ ss.length ∧ vi = .int .i64 j) ∧ Up W8 wi) (fun vi _ => ss.length - (intOf vi).toNat)
              case atStart => exact ⟨⟨0, by omega, rfl⟩, Up.refl _⟩
              case round =>
                obtain ⟨⟨j, hj, rfl⟩, uj⟩ := hrel
                have UJ := Lib.hid uj
                have ej := ES.out.up uj
                clear uj
                by_cases hjl : j < ss.length
                · have i5 : (j : Int) < ss.length := by omega
                  have i6 : IntKind.i64.wrap ((j : Int) + 1) = (j : Int) + 1 := IntWalk.i64_in _ (by omega)
                  obtain ⟨bs, os, hAs, hbs, hcs⟩ := ej.2 (by omega); subst hAs
                  have b0 := (hcs j hjl).1
                  have hmem : top ≤ (ss.getD j default).t := SN.out _ (by rw [List.getD, List.getElem?_eq_getElem hjl]; exact List.getElem_mem hjl)
                  generalize (ss.getD j default).t = yt at b0 hmem
                  have i11 : ¬ yt < top := by omega
                  clear hcs ej; go_wp2
                  go_roundw
                  case rel => exact ⟨⟨j + 1, by omega, by go_num⟩, UJ.out⟩
                  case measure => simp [intOf]; omega
                · have i5 : ¬ (j : Int) < ss.length := by omega
                  clear ej; go_wp2
                  go_roundw
                  case rel => exact ⟨⟨q + 1, by omega, by go_num⟩, UW.out.trans UJ.out⟩
                  case measure => simp [intOf]; omega
            · refine next_mk rfl (by rfl) (fun K hK => ?_)
              have ua := (Up.refl wr).drew.alloc (.cells #[.int .i64 0, .int .i64 0, .int .i64 0] 76)
              have X8 : Hid (Blk (wr.drew.alloc (.cells #[.int .i64 0, .int .i64 0, .int .i64 0] 76)) wr.heap.size 76 #[.int .i64 0, .int .i64 0, .int .i64 0]) := Lib.hid (Blk.new wr.drew #[.int .i64 0, .int .i64 0, .int .i64 0] 76)
              have hzr := ua.size
              go_simp; refine hK _ _ ua ?_; clear hK K; refine hWalk_one (i := 14) (by kernel_rfl) (next_mk rfl (by rfl) (fun K hK => ?_)); go_simp; refine (CD.out _ (U.out.trans ua) ⟨t0, t1, t2⟩ ⟨et, kt, efr, esq, ekd, edt⟩).mono ?_; rintro x wz ⟨v9, rfl, ow, u9⟩; obtain ⟨_, As, cs, rfl, hs1, hs2⟩ := own_slice ow
              have U9 := Lib.hid (ua.trans u9)
              have OS := Lib.hid ow
              have SN := Lib.hid SN.out
              generalize (doM m ⟨t0, t1, t2⟩ ⟨et, kt, efr, esq, ekd, edt⟩).2 = ss at *
              generalize (doM m ⟨t0, t1, t2⟩ ⟨et, kt, efr, esq, ekd, edt⟩).1 = rs at *
              obtain ⟨r0, r1, r2⟩ := rs; unfold Cst.v; dsimp only; clear ow; refine hK _ _ U9.out ?_; clear hK K
              replace X8 := Lib.hid (X8.out.up u9)
              refine hWalk_take 15 (by kernel_rfl) rfl (by rfl) ?_; apply Exists.intro; refine ⟨fun w1 hS1 => ?_, ?_⟩
              · clear hS1
                go_simp
                try rfl
              go_simp; refine hWalk_take 16 (by kernel_rfl) rfl (by rfl) ?_; apply Exists.intro; refine ⟨fun w1 hS1 => ?_, ?_⟩
              · clear hS1
                go_simp
                try rfl
              go_simp; refine hWalk_take 17 (by kernel_rfl) rfl (by rfl) ?_; apply Exists.intro; refine ⟨fun w1 hS1 => ?_, ?_⟩
              · clear hS1
                go_simp
                try rfl
              go_simp; refine hWalk_one (i := 19) (by kernel_rfl) (next_mk rfl (by rfl) (fun K hK => ?_)); obtain ⟨e0, e1, e2⟩ := And.intro (X8.out.cell (j := 0) rfl) (And.intro (X8.out.cell (j := 1) rfl) (X8.out.cell (j := 2) rfl))
              have l8 := X8.out.lt
              have f8 := X8.out.frozen
              go_simp
              have O8 := Lib.hid (own_keep (w := wz) (w' := ((wz.setCell ⟨wr.heap.size, 0, none⟩ (.int .i64 r0)).setCell ⟨wr.heap.size, 1, none⟩ (.int .i64 r1)).setCell ⟨wr.heap.size, 2, none⟩ (.int .i64 r2)) OS.out (fun g9 hg9 hl9 => by
                have hne : g9 ≠ wr.heap.size := by have := own_geR OS.out g9 hg9; simp only [World.size_alloc, World.size_drew] at this; omega
                exact (Below.heap_setCell _ ⟨wr.heap.size, 2, none⟩ _ g9 hne).trans ((Below.heap_setCell _ ⟨wr.heap.size, 1, none⟩ _ g9 hne).trans ((Below.heap_setCell _ ⟨wr.heap.size, 0, none⟩ _ g9 hne).trans rfl))))
              have UZ := Lib.hid (((U9.out.setCell (p := ⟨wr.heap.size, 0, none⟩) (by dsimp only; omega) (.int .i64 r0)).setCell (p := ⟨wr.heap.size, 1, none⟩) (by dsimp only; omega) (.int .i64 r1)).setCell (p := ⟨wr.heap.size, 2, none⟩) (by dsimp only; omega) (.int .i64 r2))
              refine hK _ _ UZ.out ?_; clear hK K e0 e1 e2 l8 f8; refine hWalk_take 20 (by kernel_rfl) rfl (by rfl) ?_; apply Exists.intro; refine ⟨fun w1 hS1 => ?_, ?_⟩
              · clear hS1
                go_simp
                try rfl
              go_simp; refine hWalk_nil (by kernel_rfl) ?_
              have UW := Lib.hid (UR.out.trans UZ.out)
              have ES := Lib.hid (own_evs O8.out)
              generalize hW8 : ((wz.setCell ⟨wr.heap.size, 0, none⟩ (.int .i64 r0)).setCell ⟨wr.heap.size, 1, none⟩ (.int .i64 r1)).setCell ⟨wr.heap.size, 2, none⟩ (.int .i64 r2) = W8 at *
              clear hW8 O8 OS U9; go_wp2
              go_loopw [10] (fun vi wi => (∃ j : Nat, j ≤ ss.length ∧ vi = .int .i64 j) ∧ Up W8 wi) (fun vi _ => ss.length - (intOf vi).toNat)
              case atStart => exact ⟨⟨0, by omega, rfl⟩, Up.refl _⟩
              case round =>
                obtain ⟨⟨j, hj, rfl⟩, uj⟩ := hrel
                have UJ := Lib.hid uj
                have ej := ES.out.up uj
                clear uj
                by_cases hjl : j < ss.length
                · have i5 : (j : Int) < ss.length := by omega
                  have i6 : IntKind.i64.wrap ((j : Int) + 1) = (j : Int) + 1 := IntWalk.i64_in _ (by omega)
                  obtain ⟨bs, os, hAs, hbs, hcs⟩ := ej.2 (by omega); subst hAs
                  have b0 := (hcs j hjl).1
                  have hmem : top ≤ (ss.getD j default).t := SN.out _ (by rw [List.getD, List.getElem?_eq_getElem hjl]; exact List.getElem_mem hjl)
                  generalize (ss.getD j default).t = yt at b0 hmem
                  have i11 : ¬ yt < top := by omega
                  clear hcs ej; go_wp2
                  go_roundw
                  case rel => exact ⟨⟨j + 1, by omega, by go_num⟩, UJ.out⟩
                  case measure => simp [intOf]; omega
                · have i5 : ¬ (j : Int) < ss.length := by omega
                  clear ej; go_wp2
                  go_roundw
                  case rel => exact ⟨⟨q + 1, by omega, by go_num⟩, UW.out.trans UJ.out⟩
                  case measure => simp [intOf]; omega
          · have i4 : ¬ (q : Int) < V.length := by omega
            have gV : (0 : Int) < V.length := by omega
            have gVn : 0 < V.length := vp
            have hcw := HCW.out
            have v5 : (V.length : Int) ≤ cw := by omega
            have v6 : V.length ≤ cw := by omega
            have v7 : ¬ ((V.length : Int) < 0) := by omega
            obtain ⟨q0, q1, q2⟩ := And.intro (X3.out.cell (j := 0) rfl) (And.intro (X3.out.cell (j := 1) rfl) (X3.out.cell (j := 2) rfl)); obtain ⟨c0, c1, c2⟩ := And.intro (X4.out.cell (j := 0) rfl) (And.intro (X4.out.cell (j := 1) rfl) (X4.out.cell (j := 2) rfl))
            have l3 := X3.out.lt
            have l4 := X4.out.lt
            go_wp2_with fail
            refine (tbEvts_any _ _ V.length V.length _ _ V (s.wait.take V.length) _ (by omega) LV.out (Evs.front (EW.out.up U.out) vlen)).mono ?_; rintro x wt ⟨rfl, ut⟩
            replace U := Lib.hid (U.out.trans ut)
            replace X3 := Lib.hid (X3.out.up ut)
            replace X4 := Lib.hid (X4.out.up ut)
            have dv : decide (V = s.wait.take V.length) = true := by rw [← VT.out]; simp
            rw [dv]; clear dv ut q0 q1 q2 c0 c1 c2 l3 l4; obtain ⟨q0, q1, q2⟩ := And.intro (X3.out.cell (j := 0) rfl) (And.intro (X3.out.cell (j := 1) rfl) (X3.out.cell (j := 2) rfl)); obtain ⟨c0, c1, c2⟩ := And.intro (X4.out.cell (j := 0) rfl) (And.intro (X4.out.cell (j := 1) rfl) (X4.out.cell (j := 2) rfl))
            have l3 := X3.out.lt
            have l4 := X4.out.lt
            by_cases heq : V.length = nw
            · have b1 : ((V.length : Int) == nw) = true := by simp [heq]
              have b2 : (V.length : Int) = nw := by omega
              go_wp2; go_ret
              exact ⟨rfl, UW1.out.trans U.out⟩
            · have b1 : ((V.length : Int) == nw) = false := by simp; omega
              have b2 : ¬ (V.length : Int) = nw := by omega
              have b3 : (V.length : Int) < nw := by omega
              have b4 : V.length < nw := by omega
              obtain ⟨_, _, hA9, hb9, hc9⟩ := (EW.out.up U.out).2 (by omega)
              injection hA9 with hA9
              injection hA9 with hA9 hA8 _
              subst hA9 hA8
              have p9 := (hc9 V.length b4).1
              have x9t : top ≤ (s.wait.getD V.length default).t := VE.out.resolve_left (by omega)
              generalize (s.wait.getD V.length default).t = x9 at p9 x9t
              have x9g : x9 ≥ top := x9t
              clear hc9; go_wp2; go_ret
              exact ⟨by first | rfl | simp, UW1.out.trans U.out⟩
end Go.Proofs.Ytklldniapombiaa

namespace Go.Proofs.Ytklldniapombiaa.fnWinEvents
set_option maxRecDepth 100000
open Go.ChangeShapes Go.WideShapes Go.ChangeAt Go.RowKit Go.Joins Go.Deep
set_option linter.unusedVariables false
set_option maxRecDepth 100000 in
theorem lifted (os : Os) (started : os.Started) (H : Type) (enc : TypeId × Value → H) :
    ReturnsInHanded {} Try.checked os 7 .any (Rows.fnWinEventsSpec.pre6 enc Try.prog Try.f7 Rows.fnWinEventsRow.domain false) (Rows.fnWinEventsSpec.post enc Try.prog Try.f7 false true false false) := by
  refine returnsInHanded_of_change (C := Try.checked) own started (by kernel_rfl) Try.func7
    (ChangeSpec.witness6 (enc := enc) (C := Try.checked) false ⟨#[], #[.slice none 0 0], []⟩ 8 (by kernel_rfl) (by kernel_rfl) (by kernel_rfl) (by kernel_rfl)) ?_
  intro W base args ds gs before hval0 hW hcnd _
  have hval : ∀ (j : Nat) t v, Try.f7.params[j]? = some t → args[j]? = some v → Value.okWide Try.prog W .any base t v := hval0
  have hW' := hW
  obtain ⟨p, q, hA0, hV, rfl, hfz, hnd⟩ := hW
  have hA : DataW.TrodAll enc Try.prog W 0 (fun _ => true) true Try.f7.params.toList args.toList ds p := hA0
  rw [Try.params7] at hA hval; obtain ⟨v0, vs0, d0, ds0, p0, q0, hargs, rfl, rfl, h0, r0⟩ := trodAll_cons hA; obtain ⟨rfl, rfl, rfl⟩ := trodAll_nil r0
  obtain rfl : args = #[v0] := by cases args; simp_all
  obtain ⟨rfl, rfl⟩ := trodVars_none hV
  have k0 := h0
  have lt0 : ∀ x ∈ p0, x.block < W.heap.size := by obtain ⟨m, hm⟩ := k0; exact DataW.trod_lt m _ _ _ hm
  obtain ⟨A0, len0, cap0, rfl⟩ := okWide_slice Try.underlying48 (hval 0 48 v0 rfl rfl)
  have w0 := open_bytes h0
  clear hA0 hval0
  refine (walkWev A0 len0 cap0 w0.2.1 w0.2.2 w0.1).mono fun e W' ⟨he, bel⟩ => ?_
  subst he
  exact ⟨_, rfl, _, _, _, [], _, [], hW', trodAll_mk1 (shut_bool Try.underlying4 _), (trodAll_cons_mk (Below.trod laidOut (by kernel_rfl) (of_decide_eq_true (by kernel_rfl)) k0 bel lt0) trodAll_mk0), rfl, bel.frame _, fun h => by cases h⟩
theorem over : Rows.fnWinEventsRow.holds Try.pinned (OpenSpec.ofChange Rows.fnWinEventsSpec) :=
  OpenClaim.holds_of_wide 7 Try.f7 rfl rfl rfl rfl rfl rfl rfl ⟨rfl, rfl, rfl, rfl, rfl⟩ rfl rfl rfl rfl rfl (by kernel_rfl) Try.func7 (by kernel_rfl)
    (of_decide_eq_true (by kernel_rfl)) (by unfold Func.isWrapper; first | (rw [if_pos (by decide +kernel)]; kernel_rfl) | (rw [if_neg (by decide +kernel)]; exact ⟨rfl, rfl⟩))
    (fun os started H enc _ => lifted os started H enc)
theorem proved : Rows.FnWinEventsSaid := over
end Go.Proofs.Ytklldniapombiaa.fnWinEvents

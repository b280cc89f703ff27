/-
  What FnSeqAll returns, in one sentence: true, with new blocks alone; for every code.
-/
import Derived.Test.YtjdoealcmokakaaDLSeqAll01
import Derived.Test.YtjdoealcmokakaaDLSeqAll15
import Derived.Test.YtjdoealcmokakaaDLSeqAll18
import Derived.Test.YtjdoealcmokakaaDLSeqAll19
import Derived.Test.YtjdoealcmokakaaDLSeqAll23
import Derived.Test.YtjdoealcmokakaaDLSeqAll44
import Derived.Test.YtjdoealcmokakaaDLSeqAll45
namespace Go.Proofs.Ytjdoealcmokakaa
set_option maxRecDepth 100000
open Go.RowKit
set_option maxHeartbeats 8000000 in
theorem walkSeqAll {w : World} (A : Option Addr) (n cap : Nat) (hc : n ≤ cap) (hmax : cap ≤ 9223372036854775807) (hB : Bys w A n w.heap.size) :
    Calls Try.prog 4 #[.slice A n cap] w fun x w' => x = .returned (.bool true) ∧ Up w w' := by
  have HB := Lib.hid hB
  clear hB
  by_cases h : 1048576 < n
  · have h' : (1048576 : Int) < n := by omega
    go_enter Try.func4, Try.ntmps4
    go_wp2; go_ret
    exact ⟨rfl, Up.refl _⟩
  · have h' : ¬ (1048576 : Int) < n := by omega
    go_enter Try.func4, Try.ntmps4
    go_wp2_with fail
    refine (drawSqA_any A n cap _ hc hmax HB.out).mono ?_; rintro x w1 ⟨A, n, c, B, k, d, m, rfl, MV, ⟨hn, hnc, hcm⟩, u1⟩
    have MV1 := Lib.hid MV
    have HU1 := Lib.hid u1
    clear HB h h' hc hmax u1
    have MR := Lib.hid MV.rules.1
    have MS := Lib.hid MV.starts.1
    have CI := Lib.hid (fun W (u : Up w1 W) => implSeqAll_any A n c B k d m W (MV.up u))
    have CP := Lib.hid (fun W (u : Up w1 W) => specSeqAll_any A n c B k d m W (MV.up u))
    have CM := Lib.hid (fun W (u : Up w1 W) => specMdl_any A n c B k d m W (MV.up u))
    have CO := Lib.hid (fun Ac nc cc Aw nw cw Ag na cg s W (u : Up w1 W) hS hV => implSeqOk_any A n c B k d m Ac nc cc Aw nw cw Ag na cg s W (MV.up u) hS hV)
    obtain ⟨fc, fw, fl⟩ := allR_small m
    have BAD := Lib.hid (fun h => allR_bad (m := m) h)
    have FA := Lib.hid (fun h => all_facts (m := m) h)
    have OK := Lib.hid (fun h => allR_ok (m := m) h (n := n) MV.rules.1)
    unfold AllP at CI CP
    generalize allR m = S at *
    generalize hlc : S.comps.length = nc at *
    generalize hlw : S.wait.length = nw at *
    generalize hla : S.log.length = na at *
    have LC := Lib.hid hlc
    have LW := Lib.hid hlw
    have LA := Lib.hid hla
    clear hlc hlw hla MV
    have CT := Lib.hid (fun Ac cc Aw cw Ag cg Bc dc Bw dw Bg dg W h1 h2 => tbSeq_same Ac nc cc Aw nw cw Ag na cg S Bc dc Bw dw Bg dg W (by omega) (by omega) (by omega) h1 h2)
    have B3 := Lib.hid (Blk.new w1 #[.slice A n c, .slice B k d, .int .i64 m.til] 26)
    have U3 := Lib.hid ((Up.refl w1).alloc (.cells #[.slice A n c, .slice B k d, .int .i64 m.til] 26))
    go_wp2_with fail
    generalize w1.alloc (.cells #[.slice A n c, .slice B k d, .int .i64 m.til] 26) = W3 at *
    generalize hb3 : w1.heap.size = b3 at *
    clear hb3; refine (CI.out _ U3.out).mono ?_; rintro x w4 ⟨⟨Ac, cc, Aw, cw, Ag, cg, rfl, own, hcap, hcapm⟩, u4⟩
    have U5 := Lib.hid ((U3.out.trans u4).alloc (.cells #[.slice Ac nc cc, .slice Aw nw cw, .slice Ag na cg] 36))
    have B3 := Lib.hid ((B3.out.up u4).alloc (.cells #[.slice Ac nc cc, .slice Aw nw cw, .slice Ag na cg] 36))
    have B4 := Lib.hid (Blk.new w4 #[.slice Ac nc cc, .slice Aw nw cw, .slice Ag na cg] 36)
    have V5 := Lib.hid (own.v.up ((Up.refl w4).alloc (.cells #[.slice Ac nc cc, .slice Aw nw cw, .slice Ag na cg] 36)))
    clear u4 own U3 CI
    go_wp2_with fail
    generalize w4.alloc (.cells #[.slice Ac nc cc, .slice Aw nw cw, .slice Ag na cg] 36) = W5 at *
    generalize hb4 : w4.heap.size = b4 at *
    clear hb4; refine region_mixH (fun w' => Up W5 w') [(0, true), (1, true), (2, false), (3, false), (4, true)] (by kernel_rfl) (by kernel_rfl) (Up.refl _).drew ?_; refine mixH_take rfl (by rfl) ?_; apply Exists.intro; refine ⟨fun w1 hS1 => ?_, ?_⟩
    · have m0 := (B3.out.up hS1).cell (j := 0) rfl
      have m1 := (B3.out.up hS1).cell (j := 1) rfl
      have m2 := (B3.out.up hS1).cell (j := 2) rfl
      have ltB3_ := (B3.out.up hS1).lt
      have s0 := (B4.out.up hS1).cell (j := 0) rfl
      have s1 := (B4.out.up hS1).cell (j := 1) rfl
      have s2 := (B4.out.up hS1).cell (j := 2) rfl
      have ltB4_ := (B4.out.up hS1).lt
      clear hS1; go_simp
      try rfl
    go_simp; refine mixH_take rfl (by rfl) ?_; apply Exists.intro; refine ⟨fun w1 hS1 => ?_, ?_⟩
    · have m0 := (B3.out.up hS1).cell (j := 0) rfl
      have m1 := (B3.out.up hS1).cell (j := 1) rfl
      have m2 := (B3.out.up hS1).cell (j := 2) rfl
      have ltB3_ := (B3.out.up hS1).lt
      have s0 := (B4.out.up hS1).cell (j := 0) rfl
      have s1 := (B4.out.up hS1).cell (j := 1) rfl
      have s2 := (B4.out.up hS1).cell (j := 2) rfl
      have ltB4_ := (B4.out.up hS1).lt
      clear hS1; go_simp
      try rfl
    go_simp; refine mixH_go rfl (by rfl) (fun K hK => ?_); go_simp; refine (CP.out _ (U5.out.trans (Up.refl _).drew)).mono ?_; rintro z wA ⟨⟨Bc, dc, Bw, dw, Bg, dg, rfl, ownB, _, _⟩, uA⟩; refine hK _ _ ((Up.refl _).drew.trans uA) ?_; clear hK K; go_simp; refine mixH_go rfl (by rfl) (fun K hK => ?_); go_simp; refine (CT.out _ _ _ _ _ _ _ _ _ _ _ _ _ (V5.out.up ((Up.refl _).drew.trans uA)) ownB.v).mono ?_; rintro z wB ⟨rfl, uB⟩; refine hK _ _ (((Up.refl _).drew.trans uA).trans uB) ?_; clear hK K; go_simp; refine mixH_take rfl (by rfl) ?_; apply Exists.intro; refine ⟨fun w1 hS1 => ?_, ?_⟩
    · clear hS1
      go_simp
      try rfl
    go_simp; refine mixH_nil ?_
    have U5 := Lib.hid (U5.out.trans (((Up.refl _).drew.trans uA).trans uB))
    have B3 := Lib.hid (B3.out.up (((Up.refl _).drew.trans uA).trans uB))
    have B4 := Lib.hid (B4.out.up (((Up.refl _).drew.trans uA).trans uB))
    have V5 := Lib.hid (V5.out.up (((Up.refl _).drew.trans uA).trans uB))
    clear ownB uA uB CP; obtain ⟨m0, m1, m2⟩ := And.intro (B3.out.cell (j := 0) rfl) (And.intro (B3.out.cell (j := 1) rfl) (B3.out.cell (j := 2) rfl))
    have lt3_ := B3.out.lt
    generalize hmb : mdlB m = mb at CM
    have HMB := Lib.hid hmb
    clear hmb
    go_wp2_with fail
    refine (CM.out _ U5.out).mono ?_; rintro x w6 ⟨rfl, u6⟩
    have U5 := Lib.hid (U5.out.trans u6)
    have B3 := Lib.hid (B3.out.up u6)
    have B4 := Lib.hid (B4.out.up u6)
    have V5 := Lib.hid (V5.out.up u6)
    clear u6 m0 m1 m2 lt3_ CM
    cases mb
    · have e0 : nc = 0 := by rw [← LC.out, BAD.out HMB.out]; rfl
      subst e0; obtain ⟨s0, s1, s2⟩ := And.intro (B4.out.cell (j := 0) rfl) (And.intro (B4.out.cell (j := 1) rfl) (B4.out.cell (j := 2) rfl))
      have lt4_ := B4.out.lt
      go_wp2_with fail
      refine (tbOk_any _).mono ?_; rintro x w9 ⟨rfl, u9⟩; go_wp2; go_ret
      exact ⟨rfl, HU1.out.trans (U5.out.trans u9)⟩
    · have FA := Lib.hid (FA.out HMB.out)
      have SQ := Lib.hid (OK.out HMB.out)
      have e0 : nw = 0 := by rw [← LW.out, FA.out.wait]; rfl
      subst e0
      have S1 := Lib.hid (fun q (h : q < nc) => sumC_take S.comps q (by rw [LC.out]; exact h))
      have S2 := Lib.hid (fun q => sumC_in FA.out.cst q)
      have S3 := Lib.hid (show sumC (S.comps.take nc) = (na : Int) by rw [← LC.out, List.take_length, FA.out.count, LA.out])
      have S4 := Lib.hid (show sumC S.comps = (na : Int) by rw [FA.out.count, LA.out])
      go_wp2
      go_loopw [5, 6] (fun v i wr => (∃ q : Nat, q ≤ nc ∧ i = .int .i64 q ∧ v = .int .i64 (sumC (S.comps.take q))) ∧ Up w6 wr) (fun _ i _ => nc - (intOf i).toNat)
      case atStart => exact ⟨⟨0, by omega, rfl, rfl⟩, Up.refl _⟩
      case round =>
        obtain ⟨⟨q, hq, rfl, rfl⟩, ur⟩ := hrel; obtain ⟨s0, s1, s2⟩ := And.intro ((B4.out.up ur).cell (j := 0) rfl) (And.intro ((B4.out.up ur).cell (j := 1) rfl) ((B4.out.up ur).cell (j := 2) rfl))
        have lt4_ := (B4.out.up ur).lt
        by_cases hlt : q < nc
        · obtain ⟨b, off, hA, hb, hc⟩ := (V5.out.up ur).comps.2 (by omega)
          subst hA
          have a0 := hc q hlt
          have e1 := S1.out q hlt
          have e2 := S2.out q
          have e3 := S2.out (q + 1)
          rw [S4.out] at e2 e3
          have E1 := Lib.hid e1
          rw [e1] at e3; clear hc e1
          generalize sumC (S.comps.take q) = z at E1 e2 e3 ⊢
          generalize S.comps.getD q default = p at a0 E1 e3
          obtain ⟨ps, psq, pct⟩ := p; unfold CstAt at a0; dsimp only at a0 e3; obtain ⟨p0, p1, p2⟩ := a0
          have i4 : (q : Int) < nc := by omega
          have i5 : IntKind.i64.wrap (z + pct) = z + pct := IntWalk.i64_in _ (by omega)
          have i6 : IntKind.i64.wrap ((q : Int) + 1) = (q : Int) + 1 := IntWalk.i64_in _ (by omega)
          go_wp2
          go_roundw
          case rel => exact ⟨⟨q + 1, by omega, by go_num, by rw [E1.out]⟩, ur⟩
          case measure => simp [intOf]; omega
        · obtain rfl : q = nc := by omega
          have i4 : ¬ (q : Int) < q := by omega
          have hv := S3.out
          rw [hv]
          have X0 := Lib.hid (extN_zero S.log)
          have X1 := Lib.hid (fun k (h : k < na) => extN_succ S.log k (by rw [LA.out]; exact h))
          have X2 := Lib.hid (extN_le S.log)
          have X3 := Lib.hid (show extN S.log na = k by rw [← LA.out, extN_all, FA.out.starts, MS.out])
          have C0 := Lib.hid (fun e => causB_zero S.log e)
          have C1 := Lib.hid (fun e j (h : j < na) => causB_succ S.log e j (by rw [LA.out]; exact h))
          have C2 := Lib.hid (fun k (h : k < na) => causB_all FA.out.cause k (by rw [LA.out]; exact h))
          have R1 := Lib.hid (fun k (h : k + 1 < na) => log_rise FA.out.rise k (by rw [LA.out]; exact h))
          have U5 := Lib.hid (U5.out.trans ur)
          have B3 := Lib.hid (B3.out.up ur)
          have B4 := Lib.hid (B4.out.up ur)
          have V5 := Lib.hid (V5.out.up ur)
          clear hv s0 s1 s2 lt4_ S1 S2 S3 S4 hq hlt ur
          have WQ : wr = wr := rfl
          generalize wr = wq at *
          clear WQ; obtain ⟨s0, s1, s2⟩ := And.intro (B4.out.cell (j := 0) rfl) (And.intro (B4.out.cell (j := 1) rfl) (B4.out.cell (j := 2) rfl))
          have lt4_ := B4.out.lt
          go_wp2; clear s0 s1 s2 lt4_
          go_loopw [7, 8] (fun v i wr => (∃ g : Nat, g ≤ na ∧ i = .int .i64 g ∧ v = .int .i64 (extN S.log g : Nat)) ∧ Up wq wr) (fun _ i _ => na - (intOf i).toNat)
          case atStart => exact ⟨⟨0, by omega, rfl, by rw [X0.out]; rfl⟩, Up.refl _⟩
          case round =>
            obtain ⟨⟨g, hg, rfl, rfl⟩, ur⟩ := hrel
            have hx2 := X2.out g
            by_cases hgl : g < na
            · obtain ⟨bG, oG, hA, LG, VG⟩ := V5.out.log.2 (by omega)
              subst hA
              have UR := Lib.hid ur
              have hx := X1.out g hgl
              have hcq := C2.out g hgl
              have hcz := C0.out (S.log.getD g default).ev
              have hcs := fun j h => C1.out (S.log.getD g default).ev j h
              have hri := fun j (h : j + 1 = g) => R1.out j (by omega)
              have hri : ∀ j, j + 1 = g → ltE (S.log.getD j default).ev (S.log.getD g default).ev = true := fun j h => by
                have := hri j h
                rwa [h] at this
              have a0 := (VG g hgl).up ur LG
              have VGH := Lib.hid VG
              generalize S.log.getD g default = p at hx hcq hcz hcs hri a0
              obtain ⟨⟨et, eto, efr, esq, ekd, edt⟩, es⟩ := p; unfold RecAt at a0; dsimp only at a0 hx hcq hcz hcs hri; obtain ⟨p0, p1, p2, p3, p4, p5, -⟩ := a0
              have RI := Lib.hid hri
              have CQ := Lib.hid hcq
              have CZ := Lib.hid hcz
              have CS := Lib.hid hcs
              clear hri hcq hcz hcs VG
              generalize hxe : extN S.log g = x0 at *
              generalize hxf : extN S.log (g + 1) = x1 at *
              have HX := Lib.hid hxf
              clear hxe hxf
              have i4 : (g : Int) < na := by omega
              have i6 : IntKind.i64.wrap ((g : Int) + 1) = (g : Int) + 1 := IntWalk.i64_in _ (by omega)
              have i7 : IntKind.i64.wrap ((x0 : Int) + 1) = (x0 : Int) + 1 := IntWalk.i64_in _ (by omega)
              have ltG : bG < wr.heap.size := Nat.lt_of_lt_of_le LG ur.size
              have UE := Lib.hid ((Up.refl wr).alloc (.cells #[.int .i64 et, .int .i64 eto, .int .i64 efr, .int .i64 esq, .int .i64 ekd, .int .i64 edt] 39))
              have BE := Lib.hid (Blk.new wr #[.int .i64 et, .int .i64 eto, .int .i64 efr, .int .i64 esq, .int .i64 ekd, .int .i64 edt] 39)
              have lE : wr.heap.size < (wr.alloc (.cells #[.int .i64 et, .int .i64 eto, .int .i64 efr, .int .i64 esq, .int .i64 ekd, .int .i64 edt] 39)).heap.size := BE.out.lt
              obtain ⟨s0, s1, s2⟩ := And.intro ((B4.out.up ur).cell (j := 0) rfl) (And.intro ((B4.out.up ur).cell (j := 1) rfl) ((B4.out.up ur).cell (j := 2) rfl))
              have lt4_ := (B4.out.up ur).lt
              unfold extE at hx CZ; clear ur
              by_cases hfr : efr < 0
              · have hx : x1 = x0 + 1 := by simpa [hfr] using hx
                go_wp2; clear s0 s1 s2 lt4_ p0 p1 p2 p3 p4 p5
                generalize wr.alloc (.cells #[.int .i64 et, .int .i64 eto, .int .i64 efr, .int .i64 esq, .int .i64 ekd, .int .i64 edt] 39) = wE at *
                generalize wr.heap.size = bE at *
                go_loopw [10, 11] (fun v i wx => (∃ j : Nat, j ≤ g ∧ i = .int .i64 j ∧ v = .bool true) ∧ Up wE wx) (fun _ i _ => g - (intOf i).toNat)
                case atStart => exact ⟨⟨0, by omega, rfl, rfl⟩, Up.refl _⟩
                case round =>
                  obtain ⟨⟨j, hj, rfl, rfl⟩, ux⟩ := hrel
                  by_cases hjl : j < g
                  · have j4 : (j : Int) < g := by omega
                    have j5 : (j : Int) < na := by omega
                    have j7 : j < na := by omega
                    have j6 : IntKind.i64.wrap ((j : Int) + 1) = (j : Int) + 1 := IntWalk.i64_in _ (by omega)
                    go_wp2_with fail
                    refine region_mixH (fun w' => Up wr w') [(0, true), (1, true), (2, true), (3, true), (4, true), (5, true), (6, true), (7, true), (8, true), (9, true), (10, true), (11, true), (12, true), (13, true), (14, true), (15, true), (16, true), (17, true), (18, true), (19, true), (20, true), (21, true), (22, true), (23, true), (24, true), (25, true)] (by kernel_rfl) (by kernel_rfl) (Up.refl _).drew ?_
                    iterate 2
                      refine mixH_take rfl (by rfl) ?_; apply Exists.intro; refine ⟨fun w1 hS1 => ?_, ?_⟩
                      · clear hS1
                        go_simp
                        try rfl
                      go_simp
                    iterate 22
                      refine mixH_skip rfl (by rfl) ?_; go_simp
                    iterate 2
                      refine mixH_take rfl (by rfl) ?_; apply Exists.intro; refine ⟨fun w1 hS1 => ?_, ?_⟩
                      · clear hS1
                        go_simp
                        try rfl
                      go_simp
                    refine mixH_nil ?_; go_wp2
                    go_roundw
                    case rel => exact ⟨⟨j + 1, by omega, by go_num, rfl⟩, ux.trans (Up.refl _).drew⟩
                    case measure => simp [intOf]; omega
                  · obtain rfl : j = g := by omega
                    have j4 : ¬ (j : Int) < j := by omega
                    by_cases hj0 : j = 0
                    · subst hj0
                      go_wp2_with fail
                      refine region_mixH (fun w' => Up wr w') [(0, true), (1, true), (2, true), (3, true), (4, true), (5, true), (6, true), (7, true), (8, true), (9, true), (10, true), (11, true), (12, true), (13, true), (14, true), (15, true), (16, true), (17, true)] (by kernel_rfl) (by kernel_rfl) (Up.refl _).drew ?_
                      iterate 6
                        refine mixH_take rfl (by rfl) ?_; apply Exists.intro; refine ⟨fun w1 hS1 => ?_, ?_⟩
                        · clear hS1
                          go_simp
                          try rfl
                        go_simp
                      iterate 10
                        refine mixH_skip rfl (by rfl) ?_; go_simp
                      iterate 2
                        refine mixH_take rfl (by rfl) ?_; apply Exists.intro; refine ⟨fun w1 hS1 => ?_, ?_⟩
                        · clear hS1
                          go_simp
                          try rfl
                        go_simp
                      refine mixH_nil ?_; go_wp2
                      go_roundw
                      case rel => exact ⟨⟨0 + 1, by omega, by go_num, by rw [HX.out, hx]; simp⟩, UR.out.trans (UE.out.trans (ux.trans (Up.refl _).drew))⟩
                      case measure => simp [intOf]; omega
                    · obtain ⟨j0, rfl⟩ : ∃ j0, j = j0 + 1 := ⟨j - 1, by omega⟩
                      have hl := RI.out j0 rfl
                      have HL := Lib.hid hl
                      clear hl
                      generalize hqr : S.log.getD j0 default = pj at HL
                      have HQ := Lib.hid hqr
                      clear hqr; obtain ⟨⟨jt, jto, jfr, jsq, jkd, jdt⟩, js⟩ := pj
                      have cls := fun W => implLess_any ⟨jt, jto, jfr, jsq, jkd, jdt⟩ ⟨et, eto, efr, esq, ekd, edt⟩ W
                      dsimp only at HL; rw [HL.out] at cls; unfold Evt.v at cls; dsimp only at cls
                      have CLS := Lib.hid cls
                      clear cls
                      have k1 : IntKind.i64.wrap ((j0 : Int) + 1 - 1) = (j0 : Int) := by rw [show (j0 : Int) + 1 - 1 = (j0 : Int) by omega]; exact IntWalk.i64_in _ (by omega)
                      have k2 : (j0 : Int) + 1 - 1 = (j0 : Int) := by omega
                      have k3 : IntKind.i64.wrap (j0 : Int) = (j0 : Int) := IntWalk.i64_in _ (by omega)
                      have k4 : (0 : Int) < (j0 : Int) + 1 := by omega
                      have k5 : (j0 : Int) < (na : Int) := by omega
                      go_wp2_with fail
                      refine region_mixH (fun w' => Up wr w') [(0, true), (1, true), (2, true), (3, true), (4, true), (5, true), (6, true), (7, true), (8, true), (9, true), (10, true), (11, true), (12, true), (13, true), (14, false), (15, true), (16, true), (17, true)] (by kernel_rfl) (by kernel_rfl) (Up.refl _).drew ?_
                      iterate 7
                        refine mixH_take rfl (by rfl) ?_; apply Exists.intro; refine ⟨fun w1 hS1 => ?_, ?_⟩
                        · clear hS1
                          go_simp
                          try rfl
                        go_simp
                      refine mixH_take rfl (by rfl) ?_; apply Exists.intro; refine ⟨fun w1 hS1 => ?_, ?_⟩
                      · have s0 := (B4.out.up (UR.out.trans (UE.out.trans (ux.trans hS1)))).cell (j := 0) rfl
                        have s1 := (B4.out.up (UR.out.trans (UE.out.trans (ux.trans hS1)))).cell (j := 1) rfl
                        have s2 := (B4.out.up (UR.out.trans (UE.out.trans (ux.trans hS1)))).cell (j := 2) rfl
                        have ltB4_ := (B4.out.up (UR.out.trans (UE.out.trans (ux.trans hS1)))).lt
                        clear hS1; go_simp
                        try rfl
                      go_simp
                      iterate 4
                        refine mixH_take rfl (by rfl) ?_; apply Exists.intro; refine ⟨fun w1 hS1 => ?_, ?_⟩
                        · clear hS1
                          go_simp
                          try rfl
                        go_simp
                      refine mixH_take rfl (by rfl) ?_; apply Exists.intro; refine ⟨fun w1 hS1 => ?_, ?_⟩
                      · have a1 := (VGH.out j0 (by omega)).up (UR.out.trans (UE.out.trans (ux.trans hS1))) LG
                        unfold RecAt at a1; rw [HQ.out] at a1; dsimp only at a1; obtain ⟨c0, c1, c2, c3, c4, c5, -⟩ := a1
                        have lG := Nat.lt_of_lt_of_le LG (UR.out.trans (UE.out.trans (ux.trans hS1))).size
                        clear hS1; go_simp
                        try rfl
                      go_simp; refine mixH_take rfl (by rfl) ?_; apply Exists.intro; refine ⟨fun w1 hS1 => ?_, ?_⟩
                      · have e0 := (BE.out.up (ux.trans hS1)).cell (j := 0) rfl
                        have e1 := (BE.out.up (ux.trans hS1)).cell (j := 1) rfl
                        have e2 := (BE.out.up (ux.trans hS1)).cell (j := 2) rfl
                        have e3 := (BE.out.up (ux.trans hS1)).cell (j := 3) rfl
                        have e4 := (BE.out.up (ux.trans hS1)).cell (j := 4) rfl
                        have e5 := (BE.out.up (ux.trans hS1)).cell (j := 5) rfl
                        have ltBE_ := (BE.out.up (ux.trans hS1)).lt
                        clear hS1; go_simp
                        try rfl
                      go_simp; refine mixH_go rfl (by rfl) (fun K hK => ?_); go_simp; refine (CLS.out _).mono ?_; rintro z wZ ⟨rfl, uZ⟩; refine hK _ _ ((Up.refl _).drew.trans uZ) ?_; clear hK K; go_simp
                      iterate 3
                        refine mixH_take rfl (by rfl) ?_; apply Exists.intro; refine ⟨fun w1 hS1 => ?_, ?_⟩
                        · clear hS1
                          go_simp
                          try rfl
                        go_simp
                      refine mixH_nil ?_; go_wp2
                      go_roundw
                      case rel => exact ⟨⟨j0 + 1 + 1, by omega, by go_num, by rw [HX.out, hx]; simp⟩, UR.out.trans (UE.out.trans (ux.trans ((Up.refl _).drew.trans uZ)))⟩
                      case measure => simp [intOf]; omega
              · have hx : x1 = x0 := by simpa [hfr] using hx
                go_wp2; clear s0 s1 s2 lt4_ p0 p1 p2 p3 p4 p5
                generalize wr.alloc (.cells #[.int .i64 et, .int .i64 eto, .int .i64 efr, .int .i64 esq, .int .i64 ekd, .int .i64 edt] 39) = wE at *
                generalize wr.heap.size = bE at *
                go_loopw [10, 11] (fun v i wx => (∃ j : Nat, j ≤ g ∧ i = .int .i64 j ∧ v = .bool (causB S.log ⟨et, eto, efr, esq, ekd, edt⟩ j)) ∧ Up wE wx) (fun _ i _ => g - (intOf i).toNat)
                case atStart => exact ⟨⟨0, by omega, rfl, by rw [CZ.out]; simp [hfr]⟩, Up.refl _⟩
                case round =>
                  obtain ⟨⟨j, hj, rfl, rfl⟩, ux⟩ := hrel
                  by_cases hjl : j < g
                  · have j4 : (j : Int) < g := by omega
                    have j5 : (j : Int) < na := by omega
                    have j7 : j < na := by omega
                    have j6 : IntKind.i64.wrap ((j : Int) + 1) = (j : Int) + 1 := IntWalk.i64_in _ (by omega)
                    have cs := CS.out j (by omega)
                    have CSH := Lib.hid cs
                    clear cs
                    generalize causB S.log ⟨et, eto, efr, esq, ekd, edt⟩ j = cb at CSH ⊢
                    generalize hqr : S.log.getD j default = pj at CSH
                    have HQR := Lib.hid hqr
                    clear hqr; obtain ⟨⟨jt, jto, jfr, jsq, jkd, jdt⟩, js⟩ := pj; dsimp only at CSH
                    cases cb
                    · by_cases hto : jto = efr
                      · subst hto
                        go_wp2_with fail
                        refine region_mixH (fun w' => Up wr w') [(0, true), (1, true), (2, true), (3, true), (4, true), (5, true), (6, true), (7, true), (8, true), (9, true), (10, true), (11, true), (12, true), (13, true), (14, true), (15, true), (16, true), (17, true), (18, true), (19, true), (20, true), (21, true), (22, true), (23, true), (24, true), (25, true)] (by kernel_rfl) (by kernel_rfl) (Up.refl _).drew ?_
                        iterate 3
                          refine mixH_take rfl (by rfl) ?_; apply Exists.intro; refine ⟨fun w1 hS1 => ?_, ?_⟩
                          · clear hS1
                            go_simp
                            try rfl
                          go_simp
                        refine mixH_take rfl (by rfl) ?_; apply Exists.intro; refine ⟨fun w1 hS1 => ?_, ?_⟩
                        · have s0 := (B4.out.up (UR.out.trans (UE.out.trans (ux.trans hS1)))).cell (j := 0) rfl
                          have s1 := (B4.out.up (UR.out.trans (UE.out.trans (ux.trans hS1)))).cell (j := 1) rfl
                          have s2 := (B4.out.up (UR.out.trans (UE.out.trans (ux.trans hS1)))).cell (j := 2) rfl
                          have ltB4_ := (B4.out.up (UR.out.trans (UE.out.trans (ux.trans hS1)))).lt
                          clear hS1; go_simp
                          try rfl
                        go_simp
                        iterate 4
                          refine mixH_take rfl (by rfl) ?_; apply Exists.intro; refine ⟨fun w1 hS1 => ?_, ?_⟩
                          · clear hS1
                            go_simp
                            try rfl
                          go_simp
                        refine mixH_take rfl (by rfl) ?_; apply Exists.intro; refine ⟨fun w1 hS1 => ?_, ?_⟩
                        · have a1 := (VGH.out j (by omega)).up (UR.out.trans (UE.out.trans (ux.trans hS1))) LG
                          rw [HQR.out] at a1; unfold RecAt at a1; dsimp only at a1; obtain ⟨c0, c1, -⟩ := a1
                          have lG := Nat.lt_of_lt_of_le LG (UR.out.trans (UE.out.trans (ux.trans hS1))).size
                          clear hS1; go_simp
                          try rfl
                        go_simp; refine mixH_take rfl (by rfl) ?_; apply Exists.intro; refine ⟨fun w1 hS1 => ?_, ?_⟩
                        · clear hS1
                          go_simp
                          try rfl
                        go_simp; refine mixH_take rfl (by rfl) ?_; apply Exists.intro; refine ⟨fun w1 hS1 => ?_, ?_⟩
                        · have e0 := (BE.out.up (ux.trans hS1)).cell (j := 0) rfl
                          have e1 := (BE.out.up (ux.trans hS1)).cell (j := 1) rfl
                          have e2 := (BE.out.up (ux.trans hS1)).cell (j := 2) rfl
                          have e3 := (BE.out.up (ux.trans hS1)).cell (j := 3) rfl
                          have e4 := (BE.out.up (ux.trans hS1)).cell (j := 4) rfl
                          have e5 := (BE.out.up (ux.trans hS1)).cell (j := 5) rfl
                          have ltBE_ := (BE.out.up (ux.trans hS1)).lt
                          clear hS1; go_simp
                          try rfl
                        go_simp
                        iterate 3
                          refine mixH_take rfl (by rfl) ?_; apply Exists.intro; refine ⟨fun w1 hS1 => ?_, ?_⟩
                          · clear hS1
                            go_simp
                            try rfl
                          go_simp
                        refine mixH_take rfl (by rfl) ?_; apply Exists.intro; refine ⟨fun w1 hS1 => ?_, ?_⟩
                        · have s0 := (B4.out.up (UR.out.trans (UE.out.trans (ux.trans hS1)))).cell (j := 0) rfl
                          have s1 := (B4.out.up (UR.out.trans (UE.out.trans (ux.trans hS1)))).cell (j := 1) rfl
                          have s2 := (B4.out.up (UR.out.trans (UE.out.trans (ux.trans hS1)))).cell (j := 2) rfl
                          have ltB4_ := (B4.out.up (UR.out.trans (UE.out.trans (ux.trans hS1)))).lt
                          clear hS1; go_simp
                          try rfl
                        go_simp
                        iterate 4
                          refine mixH_take rfl (by rfl) ?_; apply Exists.intro; refine ⟨fun w1 hS1 => ?_, ?_⟩
                          · clear hS1
                            go_simp
                            try rfl
                          go_simp
                        refine mixH_take rfl (by rfl) ?_; apply Exists.intro; refine ⟨fun w1 hS1 => ?_, ?_⟩
                        · have a1 := (VGH.out j (by omega)).up (UR.out.trans (UE.out.trans (ux.trans hS1))) LG
                          rw [HQR.out] at a1; unfold RecAt at a1; dsimp only at a1; obtain ⟨c0, c1, -⟩ := a1
                          have lG := Nat.lt_of_lt_of_le LG (UR.out.trans (UE.out.trans (ux.trans hS1))).size
                          clear hS1; go_simp
                          try rfl
                        go_simp; refine mixH_take rfl (by rfl) ?_; apply Exists.intro; refine ⟨fun w1 hS1 => ?_, ?_⟩
                        · clear hS1
                          go_simp
                          try rfl
                        go_simp; refine mixH_take rfl (by rfl) ?_; apply Exists.intro; refine ⟨fun w1 hS1 => ?_, ?_⟩
                        · have e0 := (BE.out.up (ux.trans hS1)).cell (j := 0) rfl
                          have e1 := (BE.out.up (ux.trans hS1)).cell (j := 1) rfl
                          have e2 := (BE.out.up (ux.trans hS1)).cell (j := 2) rfl
                          have e3 := (BE.out.up (ux.trans hS1)).cell (j := 3) rfl
                          have e4 := (BE.out.up (ux.trans hS1)).cell (j := 4) rfl
                          have e5 := (BE.out.up (ux.trans hS1)).cell (j := 5) rfl
                          have ltBE_ := (BE.out.up (ux.trans hS1)).lt
                          clear hS1; go_simp
                          try rfl
                        go_simp
                        iterate 4
                          refine mixH_take rfl (by rfl) ?_; apply Exists.intro; refine ⟨fun w1 hS1 => ?_, ?_⟩
                          · clear hS1
                            go_simp
                            try rfl
                          go_simp
                        refine mixH_nil ?_; go_wp2
                        go_roundw
                        case rel => exact ⟨⟨j + 1, by omega, by go_num, by rw [CSH.out]; simp⟩, ux.trans (Up.refl _).drew⟩
                        case measure => simp [intOf]; omega
                      · have hd1 : decide (jto = efr) = false := decide_eq_false hto
                        have hd2 : (jto == efr) = false := by simpa using hto
                        go_wp2_with fail
                        refine region_mixH (fun w' => Up wr w') [(0, true), (1, true), (2, true), (3, true), (4, true), (5, true), (6, true), (7, true), (8, true), (9, true), (10, true), (11, true), (12, true), (13, true), (14, true), (15, true), (16, true), (17, true), (18, true), (19, true), (20, true), (21, true), (22, true), (23, true), (24, true), (25, true)] (by kernel_rfl) (by kernel_rfl) (Up.refl _).drew ?_
                        iterate 3
                          refine mixH_take rfl (by rfl) ?_; apply Exists.intro; refine ⟨fun w1 hS1 => ?_, ?_⟩
                          · clear hS1
                            go_simp
                            try rfl
                          go_simp
                        refine mixH_take rfl (by rfl) ?_; apply Exists.intro; refine ⟨fun w1 hS1 => ?_, ?_⟩
                        · have s0 := (B4.out.up (UR.out.trans (UE.out.trans (ux.trans hS1)))).cell (j := 0) rfl
                          have s1 := (B4.out.up (UR.out.trans (UE.out.trans (ux.trans hS1)))).cell (j := 1) rfl
                          have s2 := (B4.out.up (UR.out.trans (UE.out.trans (ux.trans hS1)))).cell (j := 2) rfl
                          have ltB4_ := (B4.out.up (UR.out.trans (UE.out.trans (ux.trans hS1)))).lt
                          clear hS1; go_simp
                          try rfl
                        go_simp
                        iterate 4
                          refine mixH_take rfl (by rfl) ?_; apply Exists.intro; refine ⟨fun w1 hS1 => ?_, ?_⟩
                          · clear hS1
                            go_simp
                            try rfl
                          go_simp
                        refine mixH_take rfl (by rfl) ?_; apply Exists.intro; refine ⟨fun w1 hS1 => ?_, ?_⟩
                        · have a1 := (VGH.out j (by omega)).up (UR.out.trans (UE.out.trans (ux.trans hS1))) LG
                          rw [HQR.out] at a1; unfold RecAt at a1; dsimp only at a1; obtain ⟨c0, c1, -⟩ := a1
                          have lG := Nat.lt_of_lt_of_le LG (UR.out.trans (UE.out.trans (ux.trans hS1))).size
                          clear hS1; go_simp
                          try rfl
                        go_simp; refine mixH_take rfl (by rfl) ?_; apply Exists.intro; refine ⟨fun w1 hS1 => ?_, ?_⟩
                        · clear hS1
                          go_simp
                          try rfl
                        go_simp; refine mixH_take rfl (by rfl) ?_; apply Exists.intro; refine ⟨fun w1 hS1 => ?_, ?_⟩
                        · have e0 := (BE.out.up (ux.trans hS1)).cell (j := 0) rfl
                          have e1 := (BE.out.up (ux.trans hS1)).cell (j := 1) rfl
                          have e2 := (BE.out.up (ux.trans hS1)).cell (j := 2) rfl
                          have e3 := (BE.out.up (ux.trans hS1)).cell (j := 3) rfl
                          have e4 := (BE.out.up (ux.trans hS1)).cell (j := 4) rfl
                          have e5 := (BE.out.up (ux.trans hS1)).cell (j := 5) rfl
                          have ltBE_ := (BE.out.up (ux.trans hS1)).lt
                          clear hS1; go_simp
                          try rfl
                        go_simp
                        iterate 2
                          refine mixH_take rfl (by rfl) ?_; apply Exists.intro; refine ⟨fun w1 hS1 => ?_, ?_⟩
                          · clear hS1
                            go_simp
                            try rfl
                          go_simp
                        iterate 10
                          refine mixH_skip rfl (by rfl) ?_; go_simp
                        iterate 3
                          refine mixH_take rfl (by rfl) ?_; apply Exists.intro; refine ⟨fun w1 hS1 => ?_, ?_⟩
                          · clear hS1
                            go_simp
                            try rfl
                          go_simp
                        refine mixH_nil ?_; go_wp2
                        go_roundw
                        case rel => exact ⟨⟨j + 1, by omega, by go_num, by rw [CSH.out]; simp [hto]⟩, ux.trans (Up.refl _).drew⟩
                        case measure => simp [intOf]; omega
                    · go_wp2_with fail
                      refine region_mixH (fun w' => Up wr w') [(0, true), (1, true), (2, true), (3, true), (4, true), (5, true), (6, true), (7, true), (8, true), (9, true), (10, true), (11, true), (12, true), (13, true), (14, true), (15, true), (16, true), (17, true), (18, true), (19, true), (20, true), (21, true), (22, true), (23, true), (24, true), (25, true)] (by kernel_rfl) (by kernel_rfl) (Up.refl _).drew ?_
                      iterate 2
                        refine mixH_take rfl (by rfl) ?_; apply Exists.intro; refine ⟨fun w1 hS1 => ?_, ?_⟩
                        · clear hS1
                          go_simp
                          try rfl
                        go_simp
                      iterate 22
                        refine mixH_skip rfl (by rfl) ?_; go_simp
                      iterate 2
                        refine mixH_take rfl (by rfl) ?_; apply Exists.intro; refine ⟨fun w1 hS1 => ?_, ?_⟩
                        · clear hS1
                          go_simp
                          try rfl
                        go_simp
                      refine mixH_nil ?_; go_wp2
                      go_roundw
                      case rel => exact ⟨⟨j + 1, by omega, by go_num, by rw [CSH.out]; rfl⟩, ux.trans (Up.refl _).drew⟩
                      case measure => simp [intOf]; omega
                  · obtain rfl : j = g := by omega
                    have j4 : ¬ (j : Int) < j := by omega
                    have cq := CQ.out
                    rw [cq]; clear cq
                    by_cases hj0 : j = 0
                    · subst hj0
                      go_wp2_with fail
                      refine region_mixH (fun w' => Up wr w') [(0, true), (1, true), (2, true), (3, true), (4, true), (5, true), (6, true), (7, true), (8, true), (9, true), (10, true), (11, true), (12, true), (13, true), (14, true), (15, true), (16, true), (17, true)] (by kernel_rfl) (by kernel_rfl) (Up.refl _).drew ?_
                      iterate 6
                        refine mixH_take rfl (by rfl) ?_; apply Exists.intro; refine ⟨fun w1 hS1 => ?_, ?_⟩
                        · clear hS1
                          go_simp
                          try rfl
                        go_simp
                      iterate 10
                        refine mixH_skip rfl (by rfl) ?_; go_simp
                      iterate 2
                        refine mixH_take rfl (by rfl) ?_; apply Exists.intro; refine ⟨fun w1 hS1 => ?_, ?_⟩
                        · clear hS1
                          go_simp
                          try rfl
                        go_simp
                      refine mixH_nil ?_; go_wp2
                      go_roundw
                      case rel => exact ⟨⟨0 + 1, by omega, by go_num, by rw [HX.out, hx]⟩, UR.out.trans (UE.out.trans (ux.trans (Up.refl _).drew))⟩
                      case measure => simp [intOf]; omega
                    · obtain ⟨j0, rfl⟩ : ∃ j0, j = j0 + 1 := ⟨j - 1, by omega⟩
                      have hl := RI.out j0 rfl
                      have HL := Lib.hid hl
                      clear hl
                      generalize hqr : S.log.getD j0 default = pj at HL
                      have HQ := Lib.hid hqr
                      clear hqr; obtain ⟨⟨jt, jto, jfr, jsq, jkd, jdt⟩, js⟩ := pj
                      have cls := fun W => implLess_any ⟨jt, jto, jfr, jsq, jkd, jdt⟩ ⟨et, eto, efr, esq, ekd, edt⟩ W
                      dsimp only at HL; rw [HL.out] at cls; unfold Evt.v at cls; dsimp only at cls
                      have CLS := Lib.hid cls
                      clear cls
                      have k1 : IntKind.i64.wrap ((j0 : Int) + 1 - 1) = (j0 : Int) := by rw [show (j0 : Int) + 1 - 1 = (j0 : Int) by omega]; exact IntWalk.i64_in _ (by omega)
                      have k2 : (j0 : Int) + 1 - 1 = (j0 : Int) := by omega
                      have k3 : IntKind.i64.wrap (j0 : Int) = (j0 : Int) := IntWalk.i64_in _ (by omega)
                      have k4 : (0 : Int) < (j0 : Int) + 1 := by omega
                      have k5 : (j0 : Int) < (na : Int) := by omega
                      go_wp2_with fail
                      refine region_mixH (fun w' => Up wr w') [(0, true), (1, true), (2, true), (3, true), (4, true), (5, true), (6, true), (7, true), (8, true), (9, true), (10, true), (11, true), (12, true), (13, true), (14, false), (15, true), (16, true), (17, true)] (by kernel_rfl) (by kernel_rfl) (Up.refl _).drew ?_
                      iterate 7
                        refine mixH_take rfl (by rfl) ?_; apply Exists.intro; refine ⟨fun w1 hS1 => ?_, ?_⟩
                        · clear hS1
                          go_simp
                          try rfl
                        go_simp
                      refine mixH_take rfl (by rfl) ?_; apply Exists.intro; refine ⟨fun w1 hS1 => ?_, ?_⟩
                      · have s0 := (B4.out.up (UR.out.trans (UE.out.trans (ux.trans hS1)))).cell (j := 0) rfl
                        have s1 := (B4.out.up (UR.out.trans (UE.out.trans (ux.trans hS1)))).cell (j := 1) rfl
                        have s2 := (B4.out.up (UR.out.trans (UE.out.trans (ux.trans hS1)))).cell (j := 2) rfl
                        have ltB4_ := (B4.out.up (UR.out.trans (UE.out.trans (ux.trans hS1)))).lt
                        clear hS1; go_simp
                        try rfl
                      go_simp
                      iterate 4
                        refine mixH_take rfl (by rfl) ?_; apply Exists.intro; refine ⟨fun w1 hS1 => ?_, ?_⟩
                        · clear hS1
                          go_simp
                          try rfl
                        go_simp
                      refine mixH_take rfl (by rfl) ?_; apply Exists.intro; refine ⟨fun w1 hS1 => ?_, ?_⟩
                      · have a1 := (VGH.out j0 (by omega)).up (UR.out.trans (UE.out.trans (ux.trans hS1))) LG
                        unfold RecAt at a1; rw [HQ.out] at a1; dsimp only at a1; obtain ⟨c0, c1, c2, c3, c4, c5, -⟩ := a1
                        have lG := Nat.lt_of_lt_of_le LG (UR.out.trans (UE.out.trans (ux.trans hS1))).size
                        clear hS1; go_simp
                        try rfl
                      go_simp; refine mixH_take rfl (by rfl) ?_; apply Exists.intro; refine ⟨fun w1 hS1 => ?_, ?_⟩
                      · have e0 := (BE.out.up (ux.trans hS1)).cell (j := 0) rfl
                        have e1 := (BE.out.up (ux.trans hS1)).cell (j := 1) rfl
                        have e2 := (BE.out.up (ux.trans hS1)).cell (j := 2) rfl
                        have e3 := (BE.out.up (ux.trans hS1)).cell (j := 3) rfl
                        have e4 := (BE.out.up (ux.trans hS1)).cell (j := 4) rfl
                        have e5 := (BE.out.up (ux.trans hS1)).cell (j := 5) rfl
                        have ltBE_ := (BE.out.up (ux.trans hS1)).lt
                        clear hS1; go_simp
                        try rfl
                      go_simp; refine mixH_go rfl (by rfl) (fun K hK => ?_); go_simp; refine (CLS.out _).mono ?_; rintro z wZ ⟨rfl, uZ⟩; refine hK _ _ ((Up.refl _).drew.trans uZ) ?_; clear hK K; go_simp
                      iterate 3
                        refine mixH_take rfl (by rfl) ?_; apply Exists.intro; refine ⟨fun w1 hS1 => ?_, ?_⟩
                        · clear hS1
                          go_simp
                          try rfl
                        go_simp
                      refine mixH_nil ?_; go_wp2
                      go_roundw
                      case rel => exact ⟨⟨j0 + 1 + 1, by omega, by go_num, by rw [HX.out, hx]⟩, UR.out.trans (UE.out.trans (ux.trans ((Up.refl _).drew.trans uZ)))⟩
                      case measure => simp [intOf]; omega
            · obtain rfl : g = na := by omega
              have i4 : ¬ (g : Int) < g := by omega
              have hx3 := X3.out
              rw [hx3]; obtain ⟨s0, s1, s2⟩ := And.intro ((B4.out.up ur).cell (j := 0) rfl) (And.intro ((B4.out.up ur).cell (j := 1) rfl) ((B4.out.up ur).cell (j := 2) rfl))
              have lt4_ := (B4.out.up ur).lt
              have CO := Lib.hid (fun W (u : Up wr W) => CO.out Ac q cc Aw 0 cw Ag g cg S W (U5.out.trans (ur.trans u)) ⟨by omega, by omega, by omega⟩ (V5.out.up (ur.trans u)))
              have UR := Lib.hid ur
              clear ur hx2 hx3
              have QS := SQ.out
              rw [QS] at CO; clear QS; obtain ⟨m0, m1, m2⟩ := And.intro ((B3.out.up UR.out).cell (j := 0) rfl) (And.intro ((B3.out.up UR.out).cell (j := 1) rfl) ((B3.out.up UR.out).cell (j := 2) rfl))
              have lt3_ := (B3.out.up UR.out).lt
              go_wp2_with fail
              refine (CO.out _ (Up.refl _)).mono ?_; rintro x wZ ⟨rfl, uZ⟩; go_wp2; go_ret
              exact ⟨rfl, HU1.out.trans (U5.out.trans (UR.out.trans uZ))⟩
end Go.Proofs.Ytjdoealcmokakaa

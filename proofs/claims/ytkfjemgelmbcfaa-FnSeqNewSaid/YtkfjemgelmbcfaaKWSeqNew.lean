/-
  What FnSeqNew returns, in one sentence: true, with new blocks alone; for every code.
-/
import Derived.Test.YtkfjemgelmbcfaaKDrawSqN
import Derived.Test.YtkfjemgelmbcfaaKTbSeq
import Derived.Test.YtkfjemgelmbcfaaKSqZ
import Derived.Test.YtkfjemgelmbcfaaKSqImpl
import Derived.Test.YtkfjemgelmbcfaaKO
namespace Go.Proofs.Ytkfjemgelmbcfaa
set_option maxRecDepth 100000
open Go.RowKit

theorem sqS_new {m : Mdl} {n nc : Nat} (h : mdlB m = true) (hn : m.rules.length = n) (hc : nc = n) : sqS m n nc (sq0 m) = true := by
  unfold sqS
  rw [sq0_in h]
  have h' := h
  simp only [mdlB, startsB, Bool.and_eq_true] at h'
  obtain ⟨⟨⟨_, _⟩, ⟨⟨_, hr⟩, hs⟩⟩, _⟩ := h'
  subst hn
  have h1 : (List.replicate m.rules.length (⟨0, 0, 0⟩ : Cst)).all cstB = true := List.all_eq_true.2 fun x hx => by
    rw [List.eq_of_mem_replicate hx]
    decide
  have h2 : m.starts.all (takB m.rules.length m.til) = true := List.all_eq_true.2 fun e he => by
    have := List.all_eq_true.1 hs e he
    unfold startB at this
    unfold takB
    simp only [Bool.and_eq_true] at this ⊢
    exact ⟨this.2, this.1.2⟩
  have h3 : joinB (lastP none ([] : List Rec)) m.starts = true := by cases m.starts <;> simp [joinB, lastP, behind]
  rw [h, decide_eq_true hc, hr, h1, h2, h3]
  rfl

set_option maxHeartbeats 800000 in
theorem walkSeqNew {w : World} (A : Option Addr) (n cap : Nat) (hc : n ≤ cap) (hmax : cap ≤ 9223372036854775807) (hB : Bys w A n w.heap.size) :
    Calls Try.prog 12 #[.slice A n cap] w fun x w' => x = .returned (.bool true) ∧ Up w w' := by
  have HB := Lib.hid hB
  clear hB
  by_cases h : 1048576 < n
  · have h' : (1048576 : Int) < n := by omega
    go_enter Try.func12, Try.ntmps12
    go_wp2
    go_ret
    exact ⟨rfl, Up.refl _⟩
  · have h' : ¬ (1048576 : Int) < n := by omega
    go_enter Try.func12, Try.ntmps12
    go_wp2_with fail
    refine (drawSqN_any A n cap _ hc hmax HB.out).mono ?_
    rintro x w1 ⟨A, n, c, B, k, d, m, rfl, MV, ⟨hn, hnc, hcm⟩, u1⟩
    have MV1 := Lib.hid MV
    have CI := Lib.hid (fun W (u : Up w1 W) => implSqZ_any A n c B k d m W (MV.up u))
    have CP := Lib.hid (fun W (u : Up w1 W) => specSqZ_any A n c B k d m W (MV.up u))
    have CM := Lib.hid (fun W (u : Up w1 W) => specMdl_any A n c B k d m W (MV.up u))
    have FEW := sq0_few m
    have SIN := Lib.hid (fun (h : mdlB m = true) => sq0_in h)
    have SOUT := Lib.hid (fun (h : mdlB m = false) => sq0_out h)
    have SNEW := Lib.hid (fun (h : mdlB m = true) (nc : Nat) (hc : nc = n) => sqS_new h MV.rules.1 hc)
    have SBAD := Lib.hid (fun (h : mdlB m = false) (nc : Nat) (s : Sq) => show sqS m n nc s = false by unfold sqS; rw [h]; rfl)
    unfold SqZ at CI CP
    generalize sq0 m = s at CI CP FEW SIN SOUT SNEW
    generalize hlc : s.comps.length = nc at CI CP FEW
    generalize hlw : s.wait.length = nw at CI CP FEW
    obtain ⟨f1, f2⟩ := FEW
    have CT := Lib.hid (fun Ac cc Aw cw Bc dc Bw dw W h h' => tbSeq_same Ac nc cc Aw nw cw none 0 0 s Bc dc Bw dw none 0 W (by omega) (by omega) (by omega) h h')
    have CO := Lib.hid (fun Ac cc Aw cw W (u : Up w1 W) h => implSeqOk_any A n c B k d m Ac nc cc Aw nw cw none 0 0 s W (MV.up u) ⟨by omega, by omega, by omega⟩ h)
    have LC := Lib.hid hlc
    have LW := Lib.hid hlw
    clear hlc hlw
    have B3 := Lib.hid (Blk.new w1 #[.slice A n c, .slice B k d, .int .i64 m.til] 26)
    have U3 := Lib.hid ((Up.refl w1).alloc (.cells #[.slice A n c, .slice B k d, .int .i64 m.til] 26))
    clear MV
    go_wp2_with fail
    generalize w1.alloc (.cells #[.slice A n c, .slice B k d, .int .i64 m.til] 26) = W3 at *
    generalize hb3 : w1.heap.size = b3 at *
    clear hb3
    refine (CI.out _ U3.out).mono ?_
    rintro x w4 ⟨Ac, cc, Aw, cw, rfl, VI, u4⟩
    have U5 := Lib.hid ((U3.out.trans u4).alloc (.cells #[.slice Ac nc cc, .slice Aw nw cw, .slice none 0 0] 72))
    have B3 := Lib.hid ((B3.out.up u4).alloc (.cells #[.slice Ac nc cc, .slice Aw nw cw, .slice none 0 0] 72))
    have B4 := Lib.hid (Blk.new w4 #[.slice Ac nc cc, .slice Aw nw cw, .slice none 0 0] 72)
    have V5 := Lib.hid (VI.up ((Up.refl w4).alloc (.cells #[.slice Ac nc cc, .slice Aw nw cw, .slice none 0 0] 72)))
    clear u4 VI U3
    go_wp2_with fail
    generalize w4.alloc (.cells #[.slice Ac nc cc, .slice Aw nw cw, .slice none 0 0] 72) = W5 at *
    generalize hb4 : w4.heap.size = b4 at *
    clear hb4
    refine region_mixH (fun w' => Up W5 w') [(0, true), (1, true), (2, false), (3, false), (4, true)] (by kernel_rfl) (by kernel_rfl) (Up.refl _).drew ?_
    refine mixH_take rfl (by rfl) ?_
    apply Exists.intro
    refine ⟨fun w1 hS1 => ?_, ?_⟩
    · obtain ⟨m0, m1, m2⟩ := And.intro ((B3.out.up hS1).cell (j := 0) rfl) (And.intro ((B3.out.up hS1).cell (j := 1) rfl) ((B3.out.up hS1).cell (j := 2) rfl))
      obtain ⟨s0, s1, s2⟩ := And.intro ((B4.out.up hS1).cell (j := 0) rfl) (And.intro ((B4.out.up hS1).cell (j := 1) rfl) ((B4.out.up hS1).cell (j := 2) rfl))
      clear hS1
      go_simp
      try rfl
    go_simp
    refine mixH_take rfl (by rfl) ?_
    apply Exists.intro
    refine ⟨fun w1 hS1 => ?_, ?_⟩
    · obtain ⟨m0, m1, m2⟩ := And.intro ((B3.out.up hS1).cell (j := 0) rfl) (And.intro ((B3.out.up hS1).cell (j := 1) rfl) ((B3.out.up hS1).cell (j := 2) rfl))
      obtain ⟨s0, s1, s2⟩ := And.intro ((B4.out.up hS1).cell (j := 0) rfl) (And.intro ((B4.out.up hS1).cell (j := 1) rfl) ((B4.out.up hS1).cell (j := 2) rfl))
      clear hS1
      go_simp
      try rfl
    go_simp
    refine mixH_go rfl (by rfl) (fun K hK => ?_)
    go_simp
    refine (CP.out _ (U5.out.trans (Up.refl _).drew)).mono ?_
    rintro z wA ⟨Bc, dc, Bw, dw, rfl, VA, uA⟩
    refine hK _ _ ((Up.refl _).drew.trans uA) ?_
    clear hK K
    go_simp
    refine mixH_go rfl (by rfl) (fun K hK => ?_)
    go_simp
    refine (CT.out Ac cc Aw cw Bc dc Bw dw _ (V5.out.up ((Up.refl _).drew.trans uA)) VA).mono ?_
    rintro z wB ⟨rfl, uB⟩
    refine hK _ _ (((Up.refl _).drew.trans uA).trans uB) ?_
    clear hK K
    go_simp
    refine mixH_take rfl (by rfl) ?_
    apply Exists.intro
    refine ⟨fun w1 hS1 => ?_, ?_⟩
    · clear hS1
      go_simp
      try rfl
    go_simp
    refine mixH_nil ?_
    have U5 := Lib.hid (U5.out.trans (((Up.refl _).drew.trans uA).trans uB))
    have B3 := Lib.hid (B3.out.up (((Up.refl _).drew.trans uA).trans uB))
    have B4 := Lib.hid (B4.out.up (((Up.refl _).drew.trans uA).trans uB))
    have V5 := Lib.hid (V5.out.up (((Up.refl _).drew.trans uA).trans uB))
    clear VA uA uB
    obtain ⟨m0, m1, m2⟩ := And.intro (B3.out.cell (j := 0) rfl) (And.intro (B3.out.cell (j := 1) rfl) (B3.out.cell (j := 2) rfl))
    have lt3_ := B3.out.lt
    generalize hmb : mdlB m = mb at CM
    have HMB := Lib.hid hmb
    clear hmb
    go_wp2_with fail
    refine (CM.out _ U5.out).mono ?_
    rintro x w6 ⟨rfl, u6⟩
    have U5 := Lib.hid (U5.out.trans u6)
    have B3 := Lib.hid (B3.out.up u6)
    have B4 := Lib.hid (B4.out.up u6)
    have V5 := Lib.hid (V5.out.up u6)
    clear u6 m0 m1 m2 lt3_
    cases mb
    · have e0 : nc = 0 := by rw [← LC.out, SOUT.out HMB.out]; rfl
      subst e0
      obtain ⟨m0, m1, m2⟩ := And.intro (B3.out.cell (j := 0) rfl) (And.intro (B3.out.cell (j := 1) rfl) (B3.out.cell (j := 2) rfl))
      obtain ⟨s0, s1, s2⟩ := And.intro (B4.out.cell (j := 0) rfl) (And.intro (B4.out.cell (j := 1) rfl) (B4.out.cell (j := 2) rfl))
      have lt3_ := B3.out.lt
      have lt4_ := B4.out.lt
      go_wp2_with fail
      refine (CO.out Ac cc Aw cw _ U5.out V5.out).mono ?_
      rintro x w7 ⟨rfl, u7⟩
      rw [SBAD.out HMB.out]
      have U5 := Lib.hid (U5.out.trans u7)
      clear u7 m0 m1 m2 s0 s1 s2 lt3_ lt4_
      go_wp2_with fail
      refine (tbOk_any _).mono ?_
      rintro x w9 ⟨rfl, u9⟩
      go_wp2
      go_ret
      exact ⟨rfl, u1.trans (U5.out.trans u9)⟩
    · have eS := SIN.out HMB.out
      have e0 : nc = n := by rw [← LC.out, eS, ← MV1.out.rules.1]; simp
      have SV := Lib.hid (SNEW.out HMB.out nc e0)
      have ES := Lib.hid eS
      clear eS
      subst e0
      go_wp2
      go_loopw [5] (fun i wr => (∃ q : Nat, q ≤ nc ∧ i = .int .i64 q) ∧ Up w6 wr) (fun i _ => nc - (intOf i).toNat)
      case atStart => exact ⟨⟨0, by omega, rfl⟩, Up.refl _⟩
      case round =>
        obtain ⟨⟨q, hq, rfl⟩, ur⟩ := hrel
        obtain ⟨s0, s1, s2⟩ := And.intro ((B4.out.up ur).cell (j := 0) rfl) (And.intro ((B4.out.up ur).cell (j := 1) rfl) ((B4.out.up ur).cell (j := 2) rfl))
        have lt4_ := (B4.out.up ur).lt
        by_cases hlt : q < nc
        · obtain ⟨b, off, hA, hb, hc⟩ := (V5.out.up ur).comps.2 (by omega)
          subst hA
          have a0 := hc q hlt
          have e1 : s.comps.getD q default = ⟨0, 0, 0⟩ := by
            rw [ES.out]
            have : q < m.rules.length := by rw [MV1.out.rules.1]; omega
            simp [List.getD, this]
          rw [e1] at a0
          clear hc e1
          unfold CstAt at a0
          dsimp only at a0
          obtain ⟨p0, p1, p2⟩ := a0
          have cl := fun W => neq_cst ⟨0, 0, 0⟩ ⟨0, 0, 0⟩ W
          rw [eqD_refl] at cl
          unfold Cst.v at cl
          have gd := guard_cst
          have i4 : (q : Int) < nc := by omega
          go_wp2
          go_roundw
          case rel => exact ⟨⟨q + 1, by omega, by go_num⟩, ur⟩
          case measure => simp [intOf]; omega
        · obtain rfl : q = nc := by omega
          have i4 : ¬ (q : Int) < q := by omega
          obtain ⟨m0, m1, m2⟩ := And.intro ((B3.out.up ur).cell (j := 0) rfl) (And.intro ((B3.out.up ur).cell (j := 1) rfl) ((B3.out.up ur).cell (j := 2) rfl))
          have lt3_ := (B3.out.up ur).lt
          go_wp2_with fail
          refine (CO.out Ac cc Aw cw _ (U5.out.trans ur) (V5.out.up ur)).mono ?_
          rintro x w7 ⟨rfl, u7⟩
          rw [SV.out]
          have ur := ur.trans u7
          clear u7 m0 m1 m2 s0 s1 s2 lt3_ lt4_
          obtain ⟨m0, m1, m2⟩ := And.intro ((B3.out.up ur).cell (j := 0) rfl) (And.intro ((B3.out.up ur).cell (j := 1) rfl) ((B3.out.up ur).cell (j := 2) rfl))
          obtain ⟨s0, s1, s2⟩ := And.intro ((B4.out.up ur).cell (j := 0) rfl) (And.intro ((B4.out.up ur).cell (j := 1) rfl) ((B4.out.up ur).cell (j := 2) rfl))
          have lt3_ := (B3.out.up ur).lt
          have lt4_ := (B4.out.up ur).lt
          have CB := Lib.hid (tbEvts_any Aw B nw k cw d s.wait m.starts _ (by omega) (V5.out.up ur).wait ((MV1.out.up (U5.out.trans ur)).starts))
          have hEW : s.wait = m.starts := by rw [ES.out]
          rw [decide_eq_true hEW] at CB
          clear hEW
          go_wp2_with fail
          refine CB.out.mono ?_
          rintro x w8 ⟨rfl, u8⟩
          have u9 := Lib.hid u8
          have u8 := Lib.hid (U5.out.trans (ur.trans u8))
          clear m0 m1 m2 s0 s1 s2 lt3_ lt4_
          obtain ⟨s0, s1, s2⟩ := And.intro ((B4.out.up ur).cell (j := 0) rfl) (And.intro ((B4.out.up ur).cell (j := 1) rfl) ((B4.out.up ur).cell (j := 2) rfl))
          have t2 := (u9.out.cells _ _ (B4.out.up ur).lt).trans s2
          have lt4_ : b4 < w8.heap.size := Nat.lt_of_lt_of_le (B4.out.up ur).lt u9.out.size
          clear s0 s1 s2
          go_wp2
          go_ret
          exact ⟨rfl, u1.trans u8.out⟩

end Go.Proofs.Ytkfjemgelmbcfaa

/-
  What FnCmbNew returns, in one sentence: true, with new blocks alone; for every code.
  For every code the law FnCmbNew returns true and leaves its argument as it was; no condition.
-/
import Derived.Test.YtklldniapombiaaDLCbn01
import Derived.Test.YtklldniapombiaaDLCbn13
import Derived.Test.YtklldniapombiaaDLCbn19
import Derived.Test.YtklldniapombiaaDLCbn20
import Derived.Test.YtklldniapombiaaDLCbn22
import Derived.Test.YtklldniapombiaaDLCbn23
import Derived.Test.YtklldniapombiaaDLCbn28
import Derived.Test.YtklldniapombiaaRows
namespace Go.Proofs.Ytklldniapombiaa
set_option maxRecDepth 100000
open Go.RowKit
set_option maxHeartbeats 8000000 in
theorem walkCbn {w : World} (A : Option Addr) (n cap : Nat) (hc : n ≤ cap) (hmax : cap ≤ 9223372036854775807) (hB : Bys w A n w.heap.size) :
    Calls Try.prog 9 #[.slice A n cap] w fun x w' => x = .returned (.bool true) ∧ Up w w' := by
  have HB := Lib.hid hB
  clear hB
  by_cases h : 1048576 < n
  · have h' : (1048576 : Int) < n := by omega
    go_enter Try.func9, Try.ntmps9
    go_wp2; go_ret
    exact ⟨rfl, Up.refl _⟩
  · have h' : ¬ (1048576 : Int) < n := by omega
    go_enter Try.func9, Try.ntmps9
    go_wp2_with fail
    refine (drawCbn_any A n cap _ hc hmax HB.out).mono ?_; rintro x w1 ⟨A, n, c, B, k, d, m, rfl, MV, ⟨hn, hnc, hcm⟩, u1⟩
    have UW1 := Lib.hid u1
    have CI := Lib.hid (fun W (u : Up w1 W) => implCb_any A n c B k d m W (MV.up u))
    have CP := Lib.hid (fun W (u : Up w1 W) => specCb_any A n c B k d m W (MV.up u))
    have CM := Lib.hid (fun W (u : Up w1 W) => specMdl_any A n c B k d m W (MV.up u))
    have CO := Lib.hid (fun HA hc LB lc W (u : Up w1 W) (hV : CbV W HA (cbN m) LB (cbN m) (cbH m) (cbL m)) => implCbOk_any A n c B k d m HA (cbN m) hc LB (cbN m) lc (cbH m) (cbL m) W (MV.up u) hV)
    have CS := Lib.hid (fun HA hc LB lc W (u : Up w1 W) (hV : CbV W HA (cbN m) LB (cbN m) (cbH m) (cbL m)) (q : Nat) => implCbSafe_of cauSays A n c B k d m HA (cbN m) hc LB (cbN m) lc (cbH m) (cbL m) (q : Int) W (MV.up u) hV)
    have TB := Lib.hid (fun HA hc LB lc HA' hc' LB' lc' W h1 h2 => tbCmb_same HA (cbN m) hc LB (cbN m) lc HA' hc' LB' lc' (cbH m) (cbL m) W h1 h2)
    have SN := Lib.hid (fun hm (q : Nat) (hq : q < cbN m) => safV_new (m := m) hm hq)
    have WN := Lib.hid (fun (q : Nat) (hq : q < cbN m) => show ((cbH m).getD q default).wait = stk m.starts (q : Int) m.starts.length from by rw [cbH_at hq])
    have LGN := Lib.hid (fun q => cbL_at m q)
    have CNT := Lib.hid (fun hm => cntS_new (m := m) hm)
    have ST6 := Lib.hid (fun hm => mdlB_starts (m := m) hm)
    have NZ := Lib.hid (fun (hm : mdlB m = false) => show cbN m = 0 by unfold cbN; rw [hm]; rfl)
    have N4 := cbN_few m
    have KL := Lib.hid MV.starts.1
    simp only [cbB_new] at CO; unfold CbVal at CP
    have B3 := Lib.hid (Blk.new w1 #[.slice A n c, .slice B k d, .int .i64 m.til] 36)
    have U := Lib.hid ((Up.refl w1).alloc (.cells #[.slice A n c, .slice B k d, .int .i64 m.til] 36))
    clear MV u1; obtain ⟨q0, q1, q2⟩ := And.intro (B3.out.cell (j := 0) rfl) (And.intro (B3.out.cell (j := 1) rfl) (B3.out.cell (j := 2) rfl))
    have lt3_ := B3.out.lt
    go_wp2_with fail
    refine (CI.out _ U.out).mono ?_; rintro x w2 ⟨v, rfl, kp, u2⟩; obtain ⟨HA, hc, LB, lc, rfl, hV⟩ := kp.val; clear kp q0 q1 q2 lt3_ CI
    generalize hmb : mdlB m = bm at *
    generalize safV m (cbH m) (cbL m) = sf at *
    generalize cbN m = N at *
    generalize cbH m = hs at *
    generalize cbL m = ls at *
    clear hmb
    have ux := (Up.refl w2).alloc (.cells #[.slice HA N hc, .slice LB N lc] 41)
    have B4 := Lib.hid (Blk.new w2 #[.slice HA N hc, .slice LB N lc] 41)
    replace B3 := Lib.hid ((B3.out.up u2).up ux)
    have HV := Lib.hid (hV.up ux)
    replace U := Lib.hid ((U.out.trans u2).trans ux)
    clear u2 ux hV
    go_wp2_with fail
    generalize w2.alloc (.cells #[.slice HA N hc, .slice LB N lc] 41) = W4 at *
    generalize w2.heap.size = b4 at *
    generalize w1.heap.size = b3 at *
    have bne0 : (bm != bm) = false := by simp
    refine region_hWalk (fun w1 => Blk w1 b3 36 #[.slice A n c, .slice B k d, .int .i64 m.til] ∧ Blk w1 b4 41 #[.slice HA N hc, .slice LB N lc]) 13 (by kernel_rfl) rfl (by kernel_rfl) ⟨B3.out.up ((Up.refl _).drew), B4.out.up ((Up.refl _).drew)⟩ ?_
    have HU := Lib.hid ((Up.refl W4).drew)
    generalize W4.drew = wd at *
    refine hWalk_take 0 (by kernel_rfl) rfl (by rfl) ?_; apply Exists.intro; refine ⟨fun w1 hS1 => ?_, ?_⟩
    · obtain ⟨s1, s2⟩ := hS1
      obtain ⟨m0, m1⟩ := And.intro (s2.cell (j := 0) rfl) (s2.cell (j := 1) rfl)
      have lm := s2.lt
      clear s1 s2; go_simp
      try rfl
    go_simp; refine hWalk_take 1 (by kernel_rfl) rfl (by rfl) ?_; apply Exists.intro; refine ⟨fun w1 hS1 => ?_, ?_⟩
    · obtain ⟨s1, s2⟩ := hS1
      obtain ⟨m0, m1, m2⟩ := And.intro (s1.cell (j := 0) rfl) (And.intro (s1.cell (j := 1) rfl) (s1.cell (j := 2) rfl))
      have lm := s1.lt
      clear s1 s2; go_simp
      try rfl
    go_simp; refine hWalk_one (i := 2) (by kernel_rfl) (next_mk rfl (by rfl) (fun K hK => ?_)); go_simp; refine (CP.out _ (U.out.trans HU.out)).mono ?_; rintro x w5 ⟨v', rfl, ⟨HA', hc', LB', lc', rfl, hV'⟩, ux⟩; refine hK _ _ ⟨B3.out.up (HU.out.trans ux), B4.out.up (HU.out.trans ux)⟩ ?_; clear hK K
    replace HU := Lib.hid (HU.out.trans ux)
    clear ux; go_simp; refine hWalk_one (i := 3) (by kernel_rfl) (next_mk rfl (by rfl) (fun K hK => ?_)); go_simp; refine (TB.out HA hc LB lc HA' hc' LB' lc' _ (HV.out.up HU.out) hV').mono ?_; rintro x w6 ⟨rfl, ux⟩; refine hK _ _ ⟨B3.out.up (HU.out.trans ux), B4.out.up (HU.out.trans ux)⟩ ?_; clear hK K
    replace HU := Lib.hid (HU.out.trans ux)
    clear hV'; clear ux; go_simp; refine hWalk_take 4 (by kernel_rfl) rfl (by rfl) ?_; apply Exists.intro; refine ⟨fun w1 hS1 => ?_, ?_⟩
    · clear hS1
      go_simp
      try rfl
    go_simp; refine hWalk_take 5 (by kernel_rfl) rfl (by rfl) ?_; apply Exists.intro; refine ⟨fun w1 hS1 => ?_, ?_⟩
    · clear hS1
      go_simp
      try rfl
    go_simp; refine hWalk_take 6 (by kernel_rfl) rfl (by rfl) ?_; apply Exists.intro; refine ⟨fun w1 hS1 => ?_, ?_⟩
    · obtain ⟨s1, s2⟩ := hS1
      obtain ⟨m0, m1, m2⟩ := And.intro (s1.cell (j := 0) rfl) (And.intro (s1.cell (j := 1) rfl) (s1.cell (j := 2) rfl))
      have lm := s1.lt
      clear s1 s2; go_simp
      try rfl
    go_simp; refine hWalk_take 7 (by kernel_rfl) rfl (by rfl) ?_; apply Exists.intro; refine ⟨fun w1 hS1 => ?_, ?_⟩
    · obtain ⟨s1, s2⟩ := hS1
      obtain ⟨m0, m1⟩ := And.intro (s2.cell (j := 0) rfl) (s2.cell (j := 1) rfl)
      have lm := s2.lt
      clear s1 s2; go_simp
      try rfl
    go_simp; refine hWalk_take 9 (by kernel_rfl) rfl (by rfl) ?_; apply Exists.intro; refine ⟨fun w1 hS1 => ?_, ?_⟩
    · obtain ⟨s1, s2⟩ := hS1
      obtain ⟨m0, m1, m2⟩ := And.intro (s1.cell (j := 0) rfl) (And.intro (s1.cell (j := 1) rfl) (s1.cell (j := 2) rfl))
      have lm := s1.lt
      clear s1 s2; go_simp
      try rfl
    go_simp; refine hWalk_one (i := 8) (by kernel_rfl) (next_mk rfl (by rfl) (fun K hK => ?_)); go_simp; refine (CO.out HA hc LB lc _ (U.out.trans HU.out) (HV.out.up HU.out)).mono ?_; rintro x w7 ⟨rfl, ux⟩; refine hK _ _ ⟨B3.out.up (HU.out.trans ux), B4.out.up (HU.out.trans ux)⟩ ?_; clear hK K
    replace HU := Lib.hid (HU.out.trans ux)
    clear ux; go_simp; refine hWalk_one (i := 10) (by kernel_rfl) (next_mk rfl (by rfl) (fun K hK => ?_)); go_simp; refine (CM.out _ (U.out.trans HU.out)).mono ?_; rintro x w8 ⟨rfl, ux⟩; refine hK _ _ ⟨B3.out.up (HU.out.trans ux), B4.out.up (HU.out.trans ux)⟩ ?_; clear hK K
    replace HU := Lib.hid (HU.out.trans ux)
    clear ux; go_simp; refine hWalk_take 11 (by kernel_rfl) rfl (by rfl) ?_; apply Exists.intro; refine ⟨fun w1 hS1 => ?_, ?_⟩
    · clear hS1
      go_simp
      try rfl
    go_simp; refine hWalk_take 12 (by kernel_rfl) rfl (by rfl) ?_; apply Exists.intro; refine ⟨fun w1 hS1 => ?_, ?_⟩
    · clear hS1
      go_simp
      try rfl
    go_simp; refine hWalk_nil (by kernel_rfl) ?_
    replace B3 := Lib.hid (B3.out.up HU.out)
    replace B4 := Lib.hid (B4.out.up HU.out)
    replace HV := Lib.hid (HV.out.up HU.out)
    replace U := Lib.hid (U.out.trans HU.out)
    clear HU TB CP CO
    cases bm
    · obtain rfl : N = 0 := NZ.out rfl
      obtain ⟨q0, q1, q2⟩ := And.intro (B3.out.cell (j := 0) rfl) (And.intro (B3.out.cell (j := 1) rfl) (B3.out.cell (j := 2) rfl))
      have lt3_ := B3.out.lt
      obtain ⟨c0, c1⟩ := And.intro (B4.out.cell (j := 0) rfl) (B4.out.cell (j := 1) rfl)
      have lt4_ := B4.out.lt
      go_wp2; clear q0 q1 q2 c0 c1 lt3_ lt4_
      go_loopw [5, 6] (fun _ i wr => i = .int .i64 0 ∧ Up w8 wr) (fun _ _ _ => 0)
      case atStart => exact ⟨rfl, Up.refl _⟩
      case round =>
        obtain ⟨rfl, ur⟩ := hrel
        replace B3 := Lib.hid (B3.out.up ur)
        replace B4 := Lib.hid (B4.out.up ur)
        replace U := Lib.hid (U.out.trans ur)
        have CF := Lib.hid (fun W (u : Up wr W) => CM.out W (U.out.trans u))
        clear ur; obtain ⟨q0, q1, q2⟩ := And.intro (B3.out.cell (j := 0) rfl) (And.intro (B3.out.cell (j := 1) rfl) (B3.out.cell (j := 2) rfl))
        have lt3_ := B3.out.lt
        obtain ⟨c0, c1⟩ := And.intro (B4.out.cell (j := 0) rfl) (B4.out.cell (j := 1) rfl)
        have lt4_ := B4.out.lt
        go_wp2_with fail
        refine (CF.out _ (Up.refl _)).mono ?_; rintro x wA ⟨rfl, uA⟩
        have UA := Lib.hid (U.out.trans uA)
        clear uA q0 q1 q2 c0 c1 lt3_ lt4_; go_wp2; go_ret
        exact ⟨rfl, UW1.out.trans UA.out⟩
    · have st6 := ST6.out rfl
      have cnt := CNT.out rfl
      obtain ⟨q0, q1, q2⟩ := And.intro (B3.out.cell (j := 0) rfl) (And.intro (B3.out.cell (j := 1) rfl) (B3.out.cell (j := 2) rfl))
      have lt3_ := B3.out.lt
      obtain ⟨c0, c1⟩ := And.intro (B4.out.cell (j := 0) rfl) (B4.out.cell (j := 1) rfl)
      have lt4_ := B4.out.lt
      go_wp2; clear q0 q1 q2 c0 c1 lt3_ lt4_
      go_loopw [5, 6] (fun z i wr => (∃ q : Nat, q ≤ N ∧ i = .int .i64 q ∧ z = .int .i64 (cntS m.starts q : Nat)) ∧ Up w8 wr) (fun _ i _ => N - (intOf i).toNat)
      case atStart => exact ⟨⟨0, by omega, rfl, rfl⟩, Up.refl _⟩
      case round =>
        obtain ⟨⟨q, hq, rfl, rfl⟩, ur⟩ := hrel
        have UR := Lib.hid ur
        have R3 := Lib.hid (B3.out.up ur)
        have R4 := Lib.hid (B4.out.up ur)
        have RV := Lib.hid (HV.out.up ur)
        have UU := Lib.hid (U.out.trans ur)
        clear ur; obtain ⟨q0, q1, q2⟩ := And.intro (R3.out.cell (j := 0) rfl) (And.intro (R3.out.cell (j := 1) rfl) (R3.out.cell (j := 2) rfl))
        have lt3_ := R3.out.lt
        obtain ⟨c0, c1⟩ := And.intro (R4.out.cell (j := 0) rfl) (R4.out.cell (j := 1) rfl)
        have lt4_ := R4.out.lt
        by_cases hlt : q < N
        · obtain ⟨b, off, hA, hb, hcc⟩ := RV.out.hosts.2 (by omega)
          obtain ⟨bl, ol, hL, hbl, hll⟩ := RV.out.logs.2 (by omega); subst hA hL; obtain ⟨Aw, nw, cw, Ai, ni, ci, ⟨p0, p1, p2, p3, p4⟩, ⟨h5, h6⟩, h7, h8⟩ := hcc q hlt; obtain ⟨Al, nl, cl, l1, l2, l3⟩ := hll q hlt
          have hln := h5.1
          rw [WN.out q hlt] at hln
          have hl0 := l2.1
          rw [LGN.out q] at hl0
          have hnl : nl = 0 := hl0.symm
          subst hnl
          have step : cntS m.starts (q + 1) = cntS m.starts q + nw := by rw [← hln]; rfl
          have hle := cntS_len m.starts (q + 1)
          have STP := Lib.hid step
          have i4 : (q : Int) < N := by omega
          have i5 : IntKind.i64.wrap ((cntS m.starts q : Int) + nw) = (cntS m.starts q : Int) + nw := IntWalk.i64_in _ (by omega)
          have i6 : IntKind.i64.wrap ((q : Int) + 1) = (q : Int) + 1 := IntWalk.i64_in _ (by omega)
          have sn := SN.out (by first | trivial | rfl) q hlt
          have CQ := Lib.hid (fun W (u : Up wr W) => CS.out (some ⟨b, off, none⟩) hc (some ⟨bl, ol, none⟩) lc W (UU.out.trans u) (RV.out.up u) q)
          rw [sn] at CQ; clear hcc hll p0 p1 p2 p4 h5 h7 l2 hln step
          go_wp2_with fail
          refine (CQ.out _ (Up.refl _)).mono ?_; rintro x wA ⟨rfl, uA⟩
          have UA := Lib.hid (UR.out.trans uA)
          replace R3 := Lib.hid (R3.out.up uA)
          replace R4 := Lib.hid (R4.out.up uA)
          replace l1 := (uA.cells _ _ hbl).trans l1
          replace hbl : bl < wA.heap.size := Nat.lt_of_lt_of_le hbl uA.size
          clear uA q0 q1 q2 c0 c1 lt3_ lt4_ p3; obtain ⟨q0, q1, q2⟩ := And.intro (R3.out.cell (j := 0) rfl) (And.intro (R3.out.cell (j := 1) rfl) (R3.out.cell (j := 2) rfl))
          have lt3_ := R3.out.lt
          obtain ⟨c0, c1⟩ := And.intro (R4.out.cell (j := 0) rfl) (R4.out.cell (j := 1) rfl)
          have lt4_ := R4.out.lt
          go_wp2
          go_roundw
          case rel => exact ⟨⟨q + 1, by omega, by go_num, by rw [STP.out]; go_num⟩, UA.out⟩
          case measure => simp [intOf]; omega
        · obtain rfl : q = N := by omega
          have i4 : ¬ (q : Int) < q := by omega
          have CF := Lib.hid (fun W (u : Up wr W) => CM.out W (UU.out.trans u))
          have lk : (cntS m.starts q : Int) = k := by have := KL.out; omega
          go_wp2_with fail
          refine (CF.out _ (Up.refl _)).mono ?_; rintro x wA ⟨rfl, uA⟩
          have UA := Lib.hid (UU.out.trans uA)
          replace R3 := Lib.hid (R3.out.up uA)
          replace R4 := Lib.hid (R4.out.up uA)
          clear uA q0 q1 q2 c0 c1 lt3_ lt4_; obtain ⟨q0, q1, q2⟩ := And.intro (R3.out.cell (j := 0) rfl) (And.intro (R3.out.cell (j := 1) rfl) (R3.out.cell (j := 2) rfl))
          have lt3_ := R3.out.lt
          obtain ⟨c0, c1⟩ := And.intro (R4.out.cell (j := 0) rfl) (R4.out.cell (j := 1) rfl)
          have lt4_ := R4.out.lt
          go_wp2; go_ret
          have kl := KL.out
          exact ⟨by simp; omega, UW1.out.trans UA.out⟩
end Go.Proofs.Ytklldniapombiaa

namespace Go.Proofs.Ytklldniapombiaa.fnCmbNew
set_option maxRecDepth 100000
open Go.ChangeShapes Go.WideShapes Go.ChangeAt Go.RowKit Go.Joins Go.Deep
set_option linter.unusedVariables false
set_option maxRecDepth 100000 in
theorem lifted (os : Os) (started : os.Started) (H : Type) (enc : TypeId × Value → H) :
    ReturnsInHanded {} Try.checked os 9 .any (Rows.fnCmbNewSpec.pre6 enc Try.prog Try.f9 Rows.fnCmbNewRow.domain false) (Rows.fnCmbNewSpec.post enc Try.prog Try.f9 false true false false) := by
  refine returnsInHanded_of_change (C := Try.checked) own started (by kernel_rfl) Try.func9
    (ChangeSpec.witness6 (enc := enc) (C := Try.checked) false ⟨#[], #[.slice none 0 0], []⟩ 8 (by kernel_rfl) (by kernel_rfl) (by kernel_rfl) (by kernel_rfl)) ?_
  intro W base args ds gs before hval0 hW hcnd _
  have hval : ∀ (j : Nat) t v, Try.f9.params[j]? = some t → args[j]? = some v → Value.okWide Try.prog W .any base t v := hval0
  have hW' := hW
  obtain ⟨p, q, hA0, hV, rfl, hfz, hnd⟩ := hW
  have hA : DataW.TrodAll enc Try.prog W 0 (fun _ => true) true Try.f9.params.toList args.toList ds p := hA0
  rw [Try.params9] at hA hval; obtain ⟨v0, vs0, d0, ds0, p0, q0, hargs, rfl, rfl, h0, r0⟩ := trodAll_cons hA; obtain ⟨rfl, rfl, rfl⟩ := trodAll_nil r0
  obtain rfl : args = #[v0] := by cases args; simp_all
  obtain ⟨rfl, rfl⟩ := trodVars_none hV
  have k0 := h0
  have lt0 : ∀ x ∈ p0, x.block < W.heap.size := by obtain ⟨m, hm⟩ := k0; exact DataW.trod_lt m _ _ _ hm
  obtain ⟨A0, len0, cap0, rfl⟩ := okWide_slice Try.underlying48 (hval 0 48 v0 rfl rfl)
  have w0 := open_bytes h0
  clear hA0 hval0
  refine (walkCbn A0 len0 cap0 w0.2.1 w0.2.2 w0.1).mono fun e W' ⟨he, bel⟩ => ?_
  subst he
  exact ⟨_, rfl, _, _, _, [], _, [], hW', trodAll_mk1 (shut_bool Try.underlying4 _), (trodAll_cons_mk (Below.trod laidOut (by kernel_rfl) (of_decide_eq_true (by kernel_rfl)) k0 bel lt0) trodAll_mk0), rfl, bel.frame _, fun h => by cases h⟩
theorem over : Rows.fnCmbNewRow.holds Try.pinned (OpenSpec.ofChange Rows.fnCmbNewSpec) :=
  OpenClaim.holds_of_wide 9 Try.f9 rfl rfl rfl rfl rfl rfl rfl ⟨rfl, rfl, rfl, rfl, rfl⟩ rfl rfl rfl rfl rfl (by kernel_rfl) Try.func9 (by kernel_rfl)
    (of_decide_eq_true (by kernel_rfl)) (by unfold Func.isWrapper; first | (rw [if_pos (by decide +kernel)]; kernel_rfl) | (rw [if_neg (by decide +kernel)]; exact ⟨rfl, rfl⟩))
    (fun os started H enc _ => lifted os started H enc)
theorem proved : Rows.FnCmbNewSaid := over
end Go.Proofs.Ytklldniapombiaa.fnCmbNew

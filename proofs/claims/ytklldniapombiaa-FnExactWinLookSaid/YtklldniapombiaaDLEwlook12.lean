/-
  What impl.WinLook gives, in one sentence: the least delay of all sends, but at most the end and one, and -1 for a model that is none; for every model that lies in memory.
  What FnExactWinLook returns, in one sentence: true, with new blocks alone; for every model.
  For every model the law FnExactWinLook returns true and leaves its argument as it was; no condition.
-/
import Derived.Deep.RegionHeld3
import Derived.Test.YtklldniapombiaaDLEwlook01
import Derived.Test.YtklldniapombiaaDLEwlook02
import Derived.Test.YtklldniapombiaaDLEwlook05
import Derived.Test.YtklldniapombiaaDLEwlook08
import Derived.Test.YtklldniapombiaaDLEwlook09
import Derived.Test.YtklldniapombiaaDLEwlook10
import Derived.Test.YtklldniapombiaaDLEwlook11
import Derived.Test.YtklldniapombiaaRows
namespace Go.Proofs.Ytklldniapombiaa
set_option maxRecDepth 100000
open Go.RowKit
set_option maxHeartbeats 4000000 in
theorem leastLook_any (mb : Nat) (m : Mdl) (w : World) (hM : Mach w mb m) (hm : mdlB m = true) :
    Calls Try.prog 67 #[.agg #[.map (some mb), .int .i64 m.rules.length, .int .i64 m.til]] w fun x w' => x = .returned (.int .i64 (winL m)) ∧ Up w w' := by
  have few := mdlB_few hm
  have HM := Lib.hid hM
  have TL := mdlB_til hm
  have CN := Lib.hid (fun W => neverL_any (some mb) m.rules.length m.til W TL)
  have CK := Lib.hid (fun W (u : Up w W) (fr to : Nat) (h1 : fr < m.rules.length) => show Calls Try.prog 74 #[.agg #[.map (some mb), .int .i64 m.rules.length, .int .i64 m.til], .int .i64 fr, .int .i64 to] W (fun x w' => x = .returned (.int .i64 (lkM m fr to)) ∧ Up W w') from look_any mb m.rules.length m fr to W (HM.out.up u) hm (by omega) (by omega))
  unfold winL
  generalize lkM m = g at CK ⊢
  clear HM hM hm
  generalize m.rules.length = N at *
  generalize m.til = til at *
  obtain ⟨R, hR⟩ : ∃ R, R = wiV g N N 0 (til + 1) := ⟨_, rfl⟩; rw [← hR]
  have TG := Lib.hid (show wiV g N (N - 0) 0 (til + 1) = R from hR.symm)
  clear hR
  have X2 := Lib.hid (Box3.new w (.map (some mb)) (.int .i64 N) (.int .i64 til) 109)
  have U0 := Lib.hid ((Up.refl w).alloc (.cells #[.map (some mb), .int .i64 N, .int .i64 til] 109))
  go_enter Try.func67, Try.ntmps67
  go_wp2_with fail
  refine (CN.out _).mono ?_; rintro x w1 ⟨rfl, u1⟩
  have U1 := Lib.hid (U0.out.trans u1)
  have X2 := Lib.hid (X2.out.up u1)
  clear u1 U0 CN; obtain ⟨q0, q1, q2⟩ := And.intro X2.out.c0 (And.intro X2.out.c1 X2.out.c2)
  have lt2_ := X2.out.lt
  go_wp2; clear q0 q1 q2 lt2_
  go_loopw [3, 10] (fun l i wr => (∃ (q : Nat) (z : Int), q ≤ N ∧ i = .int .i64 q ∧ l = .int .i64 z ∧ Hid (wiV g N (N - q) q z = R)) ∧ Up w1 wr) (fun _ i _ => N - (intOf i).toNat)
  case atStart => exact ⟨⟨0, til + 1, by omega, rfl, rfl, TG⟩, Up.refl _⟩
  case round =>
    obtain ⟨⟨q, z, hq, rfl, rfl, HT⟩, ur⟩ := hrel; obtain ⟨wo, hwo⟩ : ∃ W, W = wr := ⟨_, rfl⟩; subst hwo
    have UR := Lib.hid ur
    have X3 := Lib.hid (X2.out.up ur)
    clear ur
    by_cases hlt : q < N
    · have i4 : (q : Int) < N := by omega
      have ST := Lib.hid (show wiV g N (N - (q + 1)) (q + 1) (wjV g q N 0 z) = R by rw [← HT.out, wiV_at hlt])
      obtain ⟨S, hS⟩ : ∃ S, S = wjV g q N 0 z := ⟨_, rfl⟩; rw [← hS] at ST
      have H0 := Lib.hid (show wjV g q (N - 0) 0 z = S from hS.symm)
      clear hS; obtain ⟨q0, q1, q2⟩ := And.intro X3.out.c0 (And.intro X3.out.c1 X3.out.c2)
      have lt2_ := X3.out.lt
      clear HT; go_wp2; clear q0 q1 q2 lt2_
      go_loopw [3, 15] (fun l i wj => (∃ (p : Nat) (y : Int), p ≤ N ∧ i = .int .i64 p ∧ l = .int .i64 y ∧ Hid (wjV g q (N - p) p y = S)) ∧ Up wo wj) (fun _ i _ => N - (intOf i).toNat)
      case atStart => exact ⟨⟨0, z, by omega, rfl, rfl, H0⟩, Up.refl _⟩
      case round =>
        obtain ⟨⟨p, y, hp, rfl, rfl, HY⟩, uj⟩ := hrel
        have UJ := Lib.hid uj
        have x4 := X3.out.up uj
        clear uj
        by_cases hlp : p < N
        · have i5 : (p : Int) < N := by omega
          have C := Lib.hid (fun W (u : Up w W) => CK.out W u q p hlt)
          have HZ := Lib.hid (show wjV g q (N - (p + 1)) (p + 1) (min y (g q p)) = S by rw [← HY.out, wjV_at hlp])
          generalize g q p = e at C HZ
          obtain ⟨q0, q1, q2⟩ := And.intro x4.c0 (And.intro x4.c1 x4.c2)
          have lt2_ := x4.lt
          clear HY CK
          go_wp2_with fail
          refine (C.out _ ((U1.out.trans UR.out).trans UJ.out)).mono ?_; rintro x w5 ⟨rfl, u5⟩
          have UX := Lib.hid (UJ.out.trans u5)
          clear q0 q1 q2 lt2_ x4 u5 C
          by_cases hmin : y ≤ e
          · rw [show min y e = y by omega] at HZ
            go_wp2
            go_roundw
            case rel => exact ⟨⟨p + 1, y, by omega, by go_num, rfl, HZ⟩, UX.out⟩
            case measure => simp [intOf]; omega
          · rw [show min y e = e by omega] at HZ
            go_wp2
            go_roundw
            case rel => exact ⟨⟨p + 1, e, by omega, by go_num, by first | rfl | rw [if_pos (by omega)], HZ⟩, UX.out⟩
            case measure => simp [intOf]; omega
        · have EN := HY.out
          rw [wjV_end (by omega)] at EN; subst EN
          have i5 : ¬ (p : Int) < N := by omega
          clear x4; go_wp2
          go_roundw
          case rel => exact ⟨⟨q + 1, y, by omega, by go_num, rfl, ST⟩, UR.out.trans UJ.out⟩
          case measure => simp [intOf]; omega
    · have EN := HT.out
      rw [wiV_end (by omega)] at EN; subst EN
      have i4 : ¬ (q : Int) < N := by omega
      go_wp2; go_ret
      exact ⟨rfl, U1.out.trans UR.out⟩
set_option maxHeartbeats 4000000 in
theorem implWin_any (A : Option Addr) (n c : Nat) (B : Option Addr) (k d : Nat) (m : Mdl) (w : World) (h : MdlV w A n B k m) :
    Calls Try.prog 20 #[.agg #[.slice A n c, .slice B k d, .int .i64 m.til]] w fun x w' => x = .returned (.int .i64 (winV m)) ∧ Up w w' := by
  have CM := Lib.hid (fun W (u : Up w W) => newMachine_any A n c B k d m W (h.up u))
  have U0 := Lib.hid ((Up.refl w).alloc (.cells #[.slice A n c, .slice B k d, .int .i64 m.til] 36))
  unfold MachPost at CM
  go_enter Try.func20, Try.ntmps20
  go_wp2_with fail
  refine (CM.out _ (by first | exact U0.out | exact Up.refl _)).mono ?_; rintro x w1 ⟨u1, ⟨hm, rfl⟩ | ⟨hm, mb, rfl, hb, hM⟩⟩
  · have U1 := Lib.hid (show Up w w1 from by first | exact U0.out.trans u1 | exact u1)
    have LV := Lib.hid (show winV m = -1 by unfold winV; rw [hm]; rfl)
    have UE := Lib.hid (U1.out.alloc (.cells #[.map none, .int .i64 0, .int .i64 0] 109))
    go_wp2; go_ret
    exact ⟨congrArg (fun z => Ending.returned (.int .i64 z)) LV.out.symm, by first | exact UE.out | exact U1.out⟩
  · have U1 := Lib.hid (show Up w w1 from by first | exact U0.out.trans u1 | exact u1)
    have HM := Lib.hid hM
    have LV := Lib.hid (show winV m = winL m by unfold winV; rw [hm]; rfl)
    have CK := Lib.hid (fun W (u : Up w1 W) => leastLook_any mb m W (HM.out.up u) hm)
    generalize winL m = R at LV CK
    generalize m.rules.length = many at *
    have UE := Lib.hid (U1.out.alloc (.cells #[.map (some mb), .int .i64 many, .int .i64 m.til] 109))
    have UF := Lib.hid ((Up.refl w1).alloc (.cells #[.map (some mb), .int .i64 many, .int .i64 m.til] 109))
    clear u1 hm hM hb CM h
    go_wp2_with fail
    refine (CK.out _ (by first | exact UF.out | exact Up.refl _)).mono ?_; rintro x w2 ⟨rfl, u2⟩
    have UG := Lib.hid (show Up w w2 from by first | exact UE.out.trans u2 | exact U1.out.trans u2)
    go_wp2; go_ret
    exact ⟨congrArg (fun z => Ending.returned (.int .i64 z)) LV.out.symm, UG.out⟩
end Go.Proofs.Ytklldniapombiaa

namespace Go.Proofs.Ytklldniapombiaa
set_option maxRecDepth 100000
open Go.RowKit
theorem two_upw {w w' : World} {b0 b1 : Nat} {x0 x1 x2 y0 y1 y2 : Value} (u : Up w w')
    (h : b0 < w.heap.size ∧ b1 < w.heap.size ∧ w.cell? ⟨b0, 0, none⟩ = some x0 ∧ w.cell? ⟨b0, 1, none⟩ = some x1 ∧ w.cell? ⟨b0, 2, none⟩ = some x2 ∧ w.cell? ⟨b1, 0, none⟩ = some y0 ∧ w.cell? ⟨b1, 1, none⟩ = some y1 ∧ w.cell? ⟨b1, 2, none⟩ = some y2) :
    b0 < w'.heap.size ∧ b1 < w'.heap.size ∧ w'.cell? ⟨b0, 0, none⟩ = some x0 ∧ w'.cell? ⟨b0, 1, none⟩ = some x1 ∧ w'.cell? ⟨b0, 2, none⟩ = some x2 ∧ w'.cell? ⟨b1, 0, none⟩ = some y0 ∧ w'.cell? ⟨b1, 1, none⟩ = some y1 ∧ w'.cell? ⟨b1, 2, none⟩ = some y2 := by
  obtain ⟨h0, h1, k0, k1, k2, l0, l1, l2⟩ := h
  have := u.size
  exact ⟨by omega, by omega, (u.cells _ _ h0).trans k0, (u.cells _ _ h0).trans k1, (u.cells _ _ h0).trans k2, (u.cells _ _ h1).trans l0, (u.cells _ _ h1).trans l1, (u.cells _ _ h1).trans l2⟩
set_option maxHeartbeats 8000000 in
theorem walkEwlook (v : Value) (m : Mdl) {w : World} (h : ∃ A n c B k d, v = .agg #[.slice A n c, .slice B k d, .int .i64 m.til] ∧ MdlV w A n B k m) :
    Calls Try.prog 4 #[v] w fun x w' => x = .returned (.bool true) ∧ Up w w' := by
  obtain ⟨A, n, c, B, k, d, rfl, hM⟩ := h
  have HM := Lib.hid hM
  have hk := hM.big
  have BX := Lib.hid (Box3.new w (.slice A n c) (.slice B k d) (.int .i64 m.til) 25)
  have CS := Lib.hid (fun W (u : Up w W) => szMdl_any A n c B k d m W (hM.up u))
  have CT := Lib.hid (fun W (u : Up w W) hS => toMdl_any A n c B k d m W (hM.up u) hS)
  have CP := Lib.hid (fun A n c B k d W (h : MdlV W A n B k m) => specWin_any A n c B k d m W h)
  have CI := Lib.hid (fun A n c B k d W (h : MdlV W A n B k m) => implWin_any A n c B k d m W h)
  have CE := Lib.hid (fun A n c B k d A' n' c' B' k' d' W (h1 : MdlV W A n B k m) (h2 : MdlV W A' n' B' k' m) (hS : FitM m) => eqMdl_any A n c B k d m A' n' c' B' k' d' m W h1 h2 hS)
  have DM := Lib.hid (show decide (m = m) = true from decide_eq_true rfl)
  generalize winV m = b at CP CI
  clear hM
  have bne0 : (b != b) = false := by simp
  unfold NewMdl at CT
  generalize htil : m.til = til at *
  go_enter Try.func4, Try.ntmps4
  go_wp2_with fail
  refine (CS.out _ ((Up.refl _).alloc _)).mono ?_; rintro x w1 ⟨z, rfl, hz, u1⟩
  have U1 := Lib.hid (((Up.refl w).alloc _).trans u1)
  have B1 := Lib.hid (BX.out.up u1)
  clear u1
  rcases hz with rfl | ⟨z0, z1, hS⟩
  · go_wp2
    go_ret
    exact ⟨rfl, U1.out⟩
  · have SH := Lib.hid hS
    have j0 : ¬ z < 0 := by omega
    clear hS; obtain ⟨q0, q1, q2⟩ := And.intro B1.out.c0 (And.intro B1.out.c1 B1.out.c2)
    go_wp2_with fail
    refine (CT.out _ U1.out SH.out).mono ?_; rintro x w2 ⟨g1, g2, rfl, hg1, hg2, o1, o2, u2⟩
    have O1 := Lib.hid o1
    have O2 := Lib.hid o2
    have U2 := Lib.hid (U1.out.trans u2)
    clear o1 o2
    go_wp2_with fail
    refine (CP.out (some ⟨g1, 0, none⟩) n n (some ⟨g2, 0, none⟩) k k _ (NewMdl.v O1.out O2.out hk)).mono ?_; rintro x w3 ⟨rfl, u3⟩
    have U3 := Lib.hid (U2.out.trans u3)
    have B3 := Lib.hid ((B1.out.up u2).up u3)
    clear u2 u3 O1 O2 hg1 hg2 q0 q1 q2; obtain ⟨q0, q1, q2⟩ := And.intro B3.out.c0 (And.intro B3.out.c1 B3.out.c2)
    go_wp2_with fail
    refine (CT.out _ U3.out SH.out).mono ?_; rintro x w4 ⟨g3, g4, rfl, hg3, hg4, o3, o4, u4⟩
    have ua := (Up.refl w4).alloc (.cells #[.slice (some ⟨g3, 0, none⟩) n n, .slice (some ⟨g4, 0, none⟩) k k, .int .i64 til] 36)
    have V4 := Lib.hid ((NewMdl.v o3 o4 hk).up ua)
    have U4 := Lib.hid ((U3.out.trans u4).trans ua)
    have B4 := Lib.hid ((B3.out.up u4).up ua)
    have X4 := Lib.hid (Box3.new w4 (.slice (some ⟨g3, 0, none⟩) n n) (.slice (some ⟨g4, 0, none⟩) k k) (.int .i64 til) 36)
    clear u4 o3 o4 hg3 hg4 q0 q1 q2 ua
    go_wp2_with fail
    generalize hb1 : w4.heap.size = b1 at X4 ⊢
    generalize w4.alloc (.cells #[.slice (some ⟨g3, 0, none⟩) n n, .slice (some ⟨g4, 0, none⟩) k k, .int .i64 til] 36) = W at V4 U4 B4 X4 ⊢
    clear hb1; refine (CI.out _ n n _ k k _ V4.out).mono ?_; rintro x w5 ⟨rfl, u5⟩
    have V5 := Lib.hid (V4.out.up u5)
    have U5 := Lib.hid (U4.out.trans u5)
    have B5 := B4.out.up u5
    have X5 := X4.out.up u5
    generalize hb0 : w.heap.size = b0 at B5
    have HB := And.intro B5.lt (And.intro X5.lt (And.intro B5.c0 (And.intro B5.c1 (And.intro B5.c2 (And.intro X5.c0 (And.intro X5.c1 X5.c2))))))
    have HH := Lib.hid HB
    clear u5 B5 X5 HB V4 U4 B4 X4 CI CP
    go_wp2_with fail
    try rw [hb0]
    clear hb0 BX B1 B3; obtain ⟨l0, l1, q0, q1, q2, r0, r1, r2⟩ := HH.out
    go_region_held3 (fun w' => b0 < w'.heap.size ∧ b1 < w'.heap.size ∧ w'.cell? ⟨b0, 0, none⟩ = some (.slice A n c) ∧ w'.cell? ⟨b0, 1, none⟩ = some (.slice B k d) ∧ w'.cell? ⟨b0, 2, none⟩ = some (.int .i64 til) ∧ w'.cell? ⟨b1, 0, none⟩ = some (.slice (some ⟨g3, 0, none⟩) n n) ∧ w'.cell? ⟨b1, 1, none⟩ = some (.slice (some ⟨g4, 0, none⟩) k k) ∧ w'.cell? ⟨b1, 2, none⟩ = some (.int .i64 til))
      (first | (exact HH.out) | (exact two_upw uF (by assumption)) | (exact two_upw uE (by assumption)))
      (first
        | (go_at_call 14; refine (CT.out _ (U5.out.trans (Up.refl _).drew) SH.out).mono ?_; rintro x wE ⟨g5, g6, rfl, hg5, hg6, o5, o6, uE⟩; have VE := Lib.hid (NewMdl.v o5 o6 hk); clear o5 o6)
        | (go_at_call 17; refine (CE.out _ n n _ k k _ n n _ k k _ (V5.out.up ((Up.refl _).drew.trans uE)) VE.out SH.out.fit).mono ?_; rintro x wF ⟨rfl, uF⟩))
    have U9 := Lib.hid (U5.out.trans (((Up.refl _).drew.trans uE).trans uF))
    clear uE uF l0 l1 q0 q1 q2 r0 r1 r2; go_wp2; go_ret
    exact ⟨rfl, U9.out⟩
end Go.Proofs.Ytklldniapombiaa

namespace Go.Proofs.Ytklldniapombiaa.fnExactWinLook
set_option maxRecDepth 100000
open Go.ChangeShapes Go.WideShapes Go.ChangeAt Go.RowKit Go.Joins Go.Deep
set_option linter.unusedVariables false
set_option maxRecDepth 100000 in
theorem lifted (os : Os) (started : os.Started) (H : Type) (enc : TypeId × Value → H) :
    ReturnsInHanded {} Try.checked os 4 .any (Rows.fnExactWinLookSpec.pre6 enc Try.prog Try.f4 Rows.fnExactWinLookRow.domain false) (Rows.fnExactWinLookSpec.post enc Try.prog Try.f4 false true false false) := by
  refine returnsInHanded_of_change (C := Try.checked) own started (by kernel_rfl) Try.func4
    (ChangeSpec.witness6 (enc := enc) (C := Try.checked) false ⟨#[], #[.agg #[.slice none 0 0, .slice none 0 0, .int .i64 0]], []⟩ 8 (by kernel_rfl) (by kernel_rfl) (by kernel_rfl) (by kernel_rfl)) ?_
  intro W base args ds gs before hval0 hW hcnd _
  have hval : ∀ (j : Nat) t v, Try.f4.params[j]? = some t → args[j]? = some v → Value.okWide Try.prog W .any base t v := hval0
  have hW' := hW
  obtain ⟨p, q, hA0, hV, rfl, hfz, hnd⟩ := hW
  have hA : DataW.TrodAll enc Try.prog W 0 (fun _ => true) true Try.f4.params.toList args.toList ds p := hA0
  rw [Try.params4] at hA hval; obtain ⟨v0, vs0, d0, ds0, p0, q0, hargs, rfl, rfl, h0, r0⟩ := trodAll_cons hA; obtain ⟨rfl, rfl, rfl⟩ := trodAll_nil r0
  obtain rfl : args = #[v0] := by cases args; simp_all
  obtain ⟨rfl, rfl⟩ := trodVars_none hV
  have k0 := h0
  have lt0 : ∀ x ∈ p0, x.block < W.heap.size := by obtain ⟨m, hm⟩ := k0; exact DataW.trod_lt m _ _ _ hm
  obtain ⟨a0, w0⟩ := open_mdl (hval 0 25 v0 rfl rfl) h0; clear hA0 hval0
  refine (walkEwlook v0 a0 w0).mono fun e W' ⟨he, bel⟩ => ?_
  subst he
  exact ⟨_, rfl, _, _, _, [], _, [], hW', trodAll_mk1 (shut_bool Try.underlying4 _), (trodAll_cons_mk (Below.trod laidOut (by kernel_rfl) (of_decide_eq_true (by kernel_rfl)) k0 bel lt0) trodAll_mk0), rfl, bel.frame _, fun h => by cases h⟩
theorem over : Rows.fnExactWinLookRow.holds Try.pinned (OpenSpec.ofChange Rows.fnExactWinLookSpec) :=
  OpenClaim.holds_of_wide 4 Try.f4 rfl rfl rfl rfl rfl rfl rfl ⟨rfl, rfl, rfl, rfl, rfl⟩ rfl rfl rfl rfl rfl (by kernel_rfl) Try.func4 (by kernel_rfl)
    (of_decide_eq_true (by kernel_rfl)) (by unfold Func.isWrapper; first | (rw [if_pos (by decide +kernel)]; kernel_rfl) | (rw [if_neg (by decide +kernel)]; exact ⟨rfl, rfl⟩))
    (fun os started H enc _ => lifted os started H enc)
theorem proved : Rows.FnExactWinLookSaid := over
end Go.Proofs.Ytklldniapombiaa.fnExactWinLook

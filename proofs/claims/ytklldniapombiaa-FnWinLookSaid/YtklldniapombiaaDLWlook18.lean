/-
  What spec.CmbLook gives, in one sentence: the least delay of the first component's sends to the second, but at most the end and one, and -1 for a model that is none or a component that does not exist; for every model that lies in memory.
  What spec.WinLook gives, in one sentence: the least delay of all sends, but at most the end and one, and -1 for a model that is none; for every model that lies in memory.
  The least delay, in one sentence: it is at most every delay of a send to the component, it is one of them or the bound, and what a component sends comes later by a delay; no condition.
  What FnWinLook returns, in one sentence: true, with new blocks alone; for every code.
  For every code the law FnWinLook returns true and leaves its argument as it was; no condition.
-/
import Derived.Test.YtklldniapombiaaDLWlook01
import Derived.Test.YtklldniapombiaaDLWlook06
import Derived.Test.YtklldniapombiaaDLWlook13
import Derived.Test.YtklldniapombiaaDLWlook14
import Derived.Test.YtklldniapombiaaDLWlook15
import Derived.Test.YtklldniapombiaaDLWlook17
import Derived.Test.YtklldniapombiaaRows
namespace Go.Proofs.Ytklldniapombiaa
set_option maxRecDepth 100000
open Go.RowKit
set_option maxHeartbeats 4000000 in
theorem l9Look_any (A : Option Addr) (n c : Nat) (B : Option Addr) (k d : Nat) (m : Mdl) (fr to : Int) (w : World) (hM : MdlV w A n B k m) (hm : mdlB m = true) (h0 : 0 ≤ fr) (h1 : fr < m.rules.length) :
    Calls Try.prog 65 #[.agg #[.slice A n c, .slice B k d, .int .i64 m.til], .int .i64 fr, .int .i64 to] w fun x w' => x = .returned (.int .i64 (lkR to (m.til + 1) (m.rules.getD fr.toNat []))) ∧ Up w w' := by
  have few := mdlB_few hm
  have TL := mdlB_til hm
  have hRB := mdlB_row hm fr.toNat (by omega)
  have hLN := hM.rules.1
  obtain ⟨b, off, hA, hb, hc⟩ := hM.rules.2.2 (by omega); subst hA; obtain ⟨A', n', c', cell, hrs⟩ := hc fr.toNat (by omega)
  have HRS := Lib.hid hrs
  have hn3 : n' ≤ 3 := by
    have h := rulesB_len hRB (by omega) (by omega)
    have := hrs.1
    omega
  have TG := Lib.hid (show lkR to (m.til + 1) ((m.rules.getD fr.toNat []).drop 0) = lkR to (m.til + 1) (m.rules.getD fr.toNat []) from rfl)
  have LR := Lib.hid hrs.1
  have CELL := Lib.hid (show w.cell? ⟨b, off + fr.toNat, none⟩ = some (.slice A' n' c') from cell)
  have BLT := Lib.hid hb
  have hfr : fr < n := by omega
  clear hc cell hrs hM few
  generalize m.rules.getD fr.toNat [] = rs at TG LR HRS hRB ⊢
  generalize lkR to (m.til + 1) rs = R at TG ⊢
  clear hm hRB
  generalize m.til = til at *
  obtain ⟨q_, hq_⟩ := Int.eq_ofNat_of_zero_le h0; subst hq_; rw [Int.toNat_natCast] at CELL; clear hLN h1
  have X2 := Lib.hid (Box3.new w (.slice (some ⟨b, off, none⟩) n c) (.slice B k d) (.int .i64 til) 36)
  have U0 := Lib.hid ((Up.refl w).alloc (.cells #[.slice (some ⟨b, off, none⟩) n c, .slice B k d, .int .i64 til] 36))
  have hb' : b < w.heap.size := BLT.out
  have i1 : IntKind.i64.wrap (til + 1) = til + 1 := IntWalk.i64_in _ (by omega)
  have j0 : ¬ (q_ : Int) < 0 := by omega
  obtain ⟨q0, q1, q2⟩ := And.intro X2.out.c0 (And.intro X2.out.c1 X2.out.c2)
  have lt2_ := X2.out.lt
  go_enter Try.func65, Try.ntmps65
  go_wp2; clear q0 q1 q2 lt2_
  have W0 := U0
  go_loopw [7, 8] (fun l i wr => (∃ (q : Nat) (z : Int), q ≤ n' ∧ i = .int .i64 q ∧ l = .int .i64 z ∧ Hid (lkR to z (rs.drop q) = R)) ∧ Up (w.alloc (.cells #[.slice (some ⟨b, off, none⟩) n c, .slice B k d, .int .i64 til] 36)) wr) (fun _ i _ => n' - (intOf i).toNat)
  case atStart => exact ⟨⟨0, til + 1, by omega, rfl, rfl, TG⟩, Up.refl _⟩
  case round =>
    obtain ⟨⟨q, z, hq, rfl, rfl, HT⟩, ur⟩ := hrel; obtain ⟨wo, hwo⟩ : ∃ W, W = wr := ⟨_, rfl⟩; subst hwo
    have UR := Lib.hid (U0.out.trans ur)
    have UR0 := Lib.hid ur
    have x2 := X2.out.up ur
    obtain ⟨q0, q1, q2⟩ := And.intro x2.c0 (And.intro x2.c1 x2.c2)
    have lt2_ := x2.lt
    have X3 := Lib.hid x2
    have cell := (UR.out.cells _ _ BLT.out).trans CELL.out
    have hbr : b < wo.heap.size := by have := UR.out.size; omega
    clear ur x2
    by_cases hlt : q < n'
    · obtain ⟨b2, off2, hA2, hb2, hc2⟩ := (HRS.out.up UR.out).2.2 (by omega)
      subst hA2
      have at2 := hc2 q hlt
      have DR := Lib.hid (lkR_drop to z rs q (by rw [LR.out]; exact hlt))
      clear hc2
      generalize rs.getD q default = r at at2 DR
      obtain ⟨kd, ra, rb, rc, ss⟩ := r; obtain ⟨A3, n3, c3, ⟨r0, r1, r2, r3, r4⟩, hn3', he3⟩ := at2; dsimp only at r0 r1 r2 r3 r4 DR he3
      have HE := Lib.hid he3
      have R4 := Lib.hid r4
      have i4 : (q : Int) < n' := by omega
      have ST := Lib.hid (show lkR to (lkS to z ss) (rs.drop (q + 1)) = R by rw [← HT.out, DR.out])
      have H0 := Lib.hid (show lkS to z (ss.drop 0) = lkS to z ss from rfl)
      generalize lkS to z ss = S at ST H0
      clear he3 HT DR; go_wp2; clear q0 q1 q2 lt2_ r0 r1 r2 r3 r4
      go_loopw [7, 9] (fun l i wj => (∃ (p : Nat) (y : Int), p ≤ n3 ∧ i = .int .i64 p ∧ l = .int .i64 y ∧ Hid (lkS to y (ss.drop p) = S)) ∧ Up wo wj) (fun _ i _ => n3 - (intOf i).toNat)
      case atStart => exact ⟨⟨0, z, by omega, rfl, rfl, H0⟩, Up.refl _⟩
      case round =>
        obtain ⟨⟨p, y, hp, rfl, rfl, HY⟩, uj⟩ := hrel
        have UJ := Lib.hid uj
        have ee := HE.out.up uj
        have x4 := X3.out.up uj
        obtain ⟨q0, q1, q2⟩ := And.intro x4.c0 (And.intro x4.c1 x4.c2)
        have lt2_ := x4.lt
        have cell2 := (uj.cells _ _ hbr).trans cell
        have r4 := (uj.cells _ _ hb2).trans R4.out
        have hbj : b < wr.heap.size := by have := uj.size; omega
        have hb2j : b2 < wr.heap.size := by have := uj.size; omega
        clear uj x4
        by_cases hlp : p < n3
        · obtain ⟨b3, off3, hA3, hb3, hc3⟩ := ee.2 (by omega)
          subst hA3
          have a0 := hc3 p hlp
          have DR := Lib.hid (lkS_drop to y ss p (by rw [ee.1]; exact hlp))
          clear hc3 ee
          generalize ss.getD p default = e at a0 DR
          obtain ⟨et, eto, efr, esq, ekd, edt⟩ := e; unfold EvAt at a0; dsimp only at a0 DR; obtain ⟨p0, p1, p2, p3, p4, p5⟩ := a0
          have i5 : (p : Int) < n3 := by omega
          have i6 : IntKind.i64.wrap ((p : Int) + 1) = (p : Int) + 1 := IntWalk.i64_in _ (by omega)
          have UX := Lib.hid (UJ.out.alloc (.cells #[.int .i64 et, .int .i64 eto, .int .i64 efr, .int .i64 esq, .int .i64 ekd, .int .i64 edt] 168))
          by_cases hto : et = to
          · have HZ := Lib.hid (show lkS to (min y eto) (ss.drop (p + 1)) = S by rw [← HY.out, DR.out, if_pos hto])
            subst hto
            by_cases hmin : y ≤ eto
            · rw [show min y eto = y by omega] at HZ
              go_wp2
              go_roundw
              case rel => exact ⟨⟨p + 1, y, by omega, by go_num, rfl, HZ⟩, UX.out⟩
              case measure => simp [intOf]; omega
            · rw [show min y eto = eto by omega] at HZ
              go_wp2
              go_roundw
              case rel => exact ⟨⟨p + 1, eto, by omega, by go_num, by rw [if_pos (by omega)], HZ⟩, UX.out⟩
              case measure => simp [intOf]; omega
          · have HZ := Lib.hid (show lkS to y (ss.drop (p + 1)) = S by rw [← HY.out, DR.out, if_neg hto])
            go_wp2
            go_roundw
            case rel => exact ⟨⟨p + 1, y, by omega, by go_num, rfl, HZ⟩, UX.out⟩
            case measure => simp [intOf]; omega
        · have EN := lkS_end to y ss p (by rw [ee.1]; omega)
          rw [HY.out] at EN; subst EN
          have i5 : ¬ (p : Int) < n3 := by omega
          have i6 : IntKind.i64.wrap ((q : Int) + 1) = (q : Int) + 1 := IntWalk.i64_in _ (by omega)
          go_wp2
          go_roundw
          case rel => exact ⟨⟨q + 1, S, by omega, by go_num, rfl, ST⟩, UR0.out.trans UJ.out⟩
          case measure => simp [intOf]; omega
    · have EN := lkR_end to z rs q (by rw [LR.out]; omega)
      rw [HT.out] at EN; subst EN
      have i4 : ¬ (q : Int) < n' := by omega
      go_wp2; go_ret
      exact ⟨rfl, UR.out⟩
end Go.Proofs.Ytklldniapombiaa

namespace Go.Proofs.Ytklldniapombiaa
set_option maxRecDepth 100000
open Go.RowKit
set_option maxHeartbeats 4000000 in
theorem specWin_any (A : Option Addr) (n c : Nat) (B : Option Addr) (k d : Nat) (m : Mdl) (w : World) (h : MdlV w A n B k m) :
    Calls Try.prog 19 #[.agg #[.slice A n c, .slice B k d, .int .i64 m.til]] w fun x w' => x = .returned (.int .i64 (winV m)) ∧ Up w w' := by
  have CM := Lib.hid (fun W (u : Up w W) => specMdl_any A n c B k d m W (h.up u))
  have CK := Lib.hid (fun W (u : Up w W) (fr to : Nat) hm (h1 : fr < m.rules.length) => show Calls Try.prog 65 #[.agg #[.slice A n c, .slice B k d, .int .i64 m.til], .int .i64 fr, .int .i64 to] W (fun x w' => x = .returned (.int .i64 (lkM m fr to)) ∧ Up W w') from l9Look_any A n c B k d m fr to W (h.up u) hm (by omega) (by omega))
  have FEW := Lib.hid (fun hm => mdlB_few (m := m) hm)
  have TIL := Lib.hid (fun hm => mdlB_til (m := m) hm)
  have NL := Lib.hid h.rules.1
  have X2 := Lib.hid (Box3.new w (.slice A n c) (.slice B k d) (.int .i64 m.til) 36)
  have U0 := Lib.hid ((Up.refl w).alloc (.cells #[.slice A n c, .slice B k d, .int .i64 m.til] 36))
  have LV := Lib.hid (show winV m = if mdlB m then wiV (lkM m) m.rules.length m.rules.length 0 (m.til + 1) else -1 from rfl)
  rw [NL.out] at CK FEW LV; clear h NL
  generalize mdlB m = bm at CM CK FEW LV TIL
  generalize lkM m = g at CK LV
  generalize winV m = Z at LV ⊢
  generalize m.til = til at *
  go_enter Try.func19, Try.ntmps19
  go_wp2_with fail
  refine (CM.out _ U0.out).mono ?_; rintro x w1 ⟨rfl, u1⟩
  have U1 := Lib.hid (U0.out.trans u1)
  have X2 := Lib.hid (X2.out.up u1)
  clear u1 CM U0
  cases bm
  · go_wp2
    go_ret
    exact ⟨congrArg (fun z => Ending.returned (.int .i64 z)) LV.out.symm, U1.out⟩
  · have few := FEW.out rfl
    have TL := TIL.out rfl
    have i1 : IntKind.i64.wrap (til + 1) = til + 1 := IntWalk.i64_in _ (by omega)
    have TG := Lib.hid (show wiV g n (n - 0) 0 (til + 1) = Z from LV.out.symm)
    obtain ⟨q0, q1, q2⟩ := And.intro X2.out.c0 (And.intro X2.out.c1 X2.out.c2)
    have lt2_ := X2.out.lt
    go_wp2; clear q0 q1 q2 lt2_
    go_loopw [3, 4] (fun l i wr => (∃ (q : Nat) (z : Int), q ≤ n ∧ i = .int .i64 q ∧ l = .int .i64 z ∧ Hid (wiV g n (n - q) q z = Z)) ∧ Up w1 wr) (fun _ i _ => n - (intOf i).toNat)
    case atStart => exact ⟨⟨0, til + 1, by omega, rfl, rfl, TG⟩, Up.refl _⟩
    case round =>
      obtain ⟨⟨q, z, hq, rfl, rfl, HT⟩, ur⟩ := hrel; obtain ⟨wo, hwo⟩ : ∃ W, W = wr := ⟨_, rfl⟩; subst hwo
      have UR := Lib.hid ur
      have X3 := Lib.hid (X2.out.up ur)
      clear ur; obtain ⟨q0, q1, q2⟩ := And.intro X3.out.c0 (And.intro X3.out.c1 X3.out.c2)
      have lt2_ := X3.out.lt
      by_cases hlt : q < n
      · have i4 : (q : Int) < n := by omega
        have ST := Lib.hid (show wiV g n (n - (q + 1)) (q + 1) (wjV g q n 0 z) = Z by rw [← HT.out, wiV_at hlt])
        obtain ⟨S, hS⟩ : ∃ S, S = wjV g q n 0 z := ⟨_, rfl⟩; rw [← hS] at ST
        have H0 := Lib.hid (show wjV g q (n - 0) 0 z = S from hS.symm)
        clear hS; clear HT; go_wp2; clear q0 q1 q2 lt2_
        go_loopw [3, 5] (fun l i wj => (∃ (p : Nat) (y : Int), p ≤ n ∧ i = .int .i64 p ∧ l = .int .i64 y ∧ Hid (wjV g q (n - p) p y = S)) ∧ Up wo wj) (fun _ i _ => n - (intOf i).toNat)
        case atStart => exact ⟨⟨0, z, by omega, rfl, rfl, H0⟩, Up.refl _⟩
        case round =>
          obtain ⟨⟨p, y, hp, rfl, rfl, HY⟩, uj⟩ := hrel
          have UJ := Lib.hid uj
          have x4 := X3.out.up uj
          clear uj; obtain ⟨q0, q1, q2⟩ := And.intro x4.c0 (And.intro x4.c1 x4.c2)
          have lt2_ := x4.lt
          by_cases hlp : p < n
          · have i5 : (p : Int) < n := by omega
            have i6 : IntKind.i64.wrap ((p : Int) + 1) = (p : Int) + 1 := IntWalk.i64_in _ (by omega)
            have C := Lib.hid (fun W (u : Up w W) => CK.out W u q p trivial hlt)
            have HZ := Lib.hid (show wjV g q (n - (p + 1)) (p + 1) (min y (g q p)) = S by rw [← HY.out, wjV_at hlp])
            generalize g q p = e at C HZ
            clear HY CK
            go_wp2_with fail
            refine (C.out _ ((U1.out.trans UR.out).trans UJ.out)).mono ?_; rintro x w5 ⟨rfl, u5⟩
            have UX := Lib.hid (UJ.out.trans u5)
            clear q0 q1 q2 lt2_ x4 u5 C
            by_cases hmin : y ≤ e
            · rw [show min y e = y by omega] at HZ
              go_wp2
              go_roundw
              case rel => exact ⟨⟨p + 1, y, by omega, by go_num, rfl, HZ⟩, UX.out⟩
              case measure => simp [intOf]; omega
            · rw [show min y e = e by omega] at HZ
              go_wp2
              go_roundw
              case rel => exact ⟨⟨p + 1, e, by omega, by go_num, by first | rfl | rw [if_pos (by omega)], HZ⟩, UX.out⟩
              case measure => simp [intOf]; omega
          · have EN := HY.out
            rw [wjV_end (by omega)] at EN; subst EN
            have i5 : ¬ (p : Int) < n := by omega
            have i6 : IntKind.i64.wrap ((q : Int) + 1) = (q : Int) + 1 := IntWalk.i64_in _ (by omega)
            go_wp2
            go_roundw
            case rel => exact ⟨⟨q + 1, y, by omega, by go_num, rfl, ST⟩, UR.out.trans UJ.out⟩
            case measure => simp [intOf]; omega
      · have EN := HT.out
        rw [wiV_end (by omega)] at EN; subst EN
        have i4 : ¬ (q : Int) < n := by omega
        go_wp2; go_ret
        exact ⟨rfl, U1.out.trans UR.out⟩
end Go.Proofs.Ytklldniapombiaa

namespace Go.Proofs.Ytklldniapombiaa
set_option maxRecDepth 100000
open Go.RowKit
theorem lkS_low {many : Int} (to : Int) : ∀ (es : List Evt) (l : Int), (∀ x ∈ es, sndB x many = true) → 1 ≤ l → 1 ≤ lkS to l es
  | [], l, _, h => by rw [lkS]; exact h
  | s :: ss, l, hs, h => by
    rw [lkS]
    have hb := hs s List.mem_cons_self
    unfold sndB at hb; simp only [Bool.and_eq_true, inB_iff] at hb; refine lkS_low to ss _ (fun x hx => hs x (List.mem_cons_of_mem _ hx)) ?_
    split <;> omega
theorem lkR_low {many : Int} (to : Int) : ∀ (bf : Int) (rs : List Rule) (l : Int), rulesB many bf rs = true → 1 ≤ l → 1 ≤ lkR to l rs
  | _, [], l, _, h => by rw [lkR]; exact h
  | bf, r :: rs, l, hr, h => by
    rw [lkR]; rw [rulesB, Bool.and_eq_true, Bool.and_eq_true] at hr
    have k2 := hr.1.2
    simp only [ruleB, Bool.and_eq_true, List.all_eq_true] at k2
    exact lkR_low to r.kd rs _ hr.2 (lkS_low (many := many) to r.sends l k2.1.1.1.1.1 h)
end Go.Proofs.Ytklldniapombiaa

namespace Go.Proofs.Ytklldniapombiaa
set_option maxRecDepth 100000
open Go.RowKit
theorem winL_pos {m : Mdl} (hm : mdlB m = true) : 1 ≤ winL m := by
  unfold winL; refine wiV_low _ _ _ (by have := mdlB_til hm; omega) (fun p q _ hp hq => ?_); unfold lkM
  exact lkR_low _ (-1) _ _ (mdlB_row hm _ (by omega)) (by have := mdlB_til hm; omega)
theorem look_lkM {m : Mdl} (hm : mdlB m = true) (i j : Nat) (hi : i < m.rules.length) (hj : j < m.rules.length) : lookV m i j = lkM m i j := by
  unfold lookV lkM; rw [if_pos]; simp only [Bool.and_eq_true, inB_iff, hm]
  exact ⟨⟨trivial, by omega⟩, by omega⟩
set_option maxHeartbeats 4000000 in
theorem walkWlook {w : World} (A : Option Addr) (n cap : Nat) (hc : n ≤ cap) (hmax : cap ≤ 9223372036854775807) (hB : Bys w A n w.heap.size) :
    Calls Try.prog 5 #[.slice A n cap] w fun x w' => x = .returned (.bool true) ∧ Up w w' := by
  have HB := Lib.hid hB
  clear hB
  by_cases h : 1048576 < n
  · have h' : (1048576 : Int) < n := by omega
    go_enter Try.func5, Try.ntmps5
    go_wp2; go_ret
    exact ⟨rfl, Up.refl _⟩
  · have h' : ¬ (1048576 : Int) < n := by omega
    go_enter Try.func5, Try.ntmps5
    go_wp2_with fail
    refine (drawWinL_any A n cap _ hc hmax HB.out).mono ?_; rintro x w1 ⟨A, n, c, B, k, d, m, rfl, MV, ⟨hn, hnc, hcm⟩, u1⟩
    have UW1 := Lib.hid u1
    have NL := Lib.hid MV.rules.1
    have CI := Lib.hid (fun W (u : Up w1 W) => implWin_any A n c B k d m W (MV.up u))
    have CP := Lib.hid (fun W (u : Up w1 W) => specWin_any A n c B k d m W (MV.up u))
    have CM := Lib.hid (fun W (u : Up w1 W) => specMdl_any A n c B k d m W (MV.up u))
    have CL := Lib.hid (fun W (u : Up w1 W) (i j : Nat) => implLook_any A n c B k d m i j W (MV.up u))
    have LL := Lib.hid (fun hm i j hi hj => look_lkM (m := m) hm i j hi hj)
    have TIL := Lib.hid (fun hm => mdlB_til (m := m) hm)
    have FEW := Lib.hid (fun hm => mdlB_few (m := m) hm)
    have POS := Lib.hid (fun hm => winL_pos (m := m) hm)
    have LV := Lib.hid (show winV m = if mdlB m then winL m else -1 from rfl)
    have WL := Lib.hid (show winL m = wiV (lkM m) m.rules.length m.rules.length 0 (m.til + 1) from rfl)
    rw [NL.out] at LL FEW WL
    generalize mdlB m = bm at CM LL TIL FEW POS LV
    generalize lkM m = g at LL WL
    generalize lookV m = lo at CL LL
    generalize winL m = S at POS LV WL
    generalize winV m = z at CI CP LV
    have bne0 : (z != z) = false := by simp
    generalize m.til = til at *
    have X2 := Lib.hid (Box3.new w1 (.slice A n c) (.slice B k d) (.int .i64 til) 36)
    have U := Lib.hid ((Up.refl w1).alloc (.cells #[.slice A n c, .slice B k d, .int .i64 til] 36))
    clear MV u1 NL; obtain ⟨q0, q1, q2⟩ := And.intro X2.out.c0 (And.intro X2.out.c1 X2.out.c2)
    have lt2_ := X2.out.lt
    go_wp2_with fail
    refine (CI.out _ U.out).mono ?_; rintro x w2 ⟨rfl, u2⟩
    replace U := Lib.hid (U.out.trans u2)
    replace X2 := Lib.hid (X2.out.up u2)
    clear u2 q0 q1 q2 lt2_; obtain ⟨q0, q1, q2⟩ := And.intro X2.out.c0 (And.intro X2.out.c1 X2.out.c2)
    have lt2_ := X2.out.lt
    go_wp2_with fail
    refine (CP.out _ U.out).mono ?_; rintro x w3 ⟨rfl, u3⟩
    replace U := Lib.hid (U.out.trans u3)
    replace X2 := Lib.hid (X2.out.up u3)
    clear u3 q0 q1 q2 lt2_; obtain ⟨q0, q1, q2⟩ := And.intro X2.out.c0 (And.intro X2.out.c1 X2.out.c2)
    have lt2_ := X2.out.lt
    go_wp2_with fail
    refine (CM.out _ U.out).mono ?_; rintro x w4 ⟨rfl, u4⟩
    replace U := Lib.hid (U.out.trans u4)
    replace X2 := Lib.hid (X2.out.up u4)
    clear u4 q0 q1 q2 lt2_ CI CP CM
    cases bm
    · have hz : z = -1 := LV.out
      subst hz; go_wp2; go_ret
      exact ⟨rfl, UW1.out.trans U.out⟩
    · have hz : z = S := LV.out
      subst hz
      have few := FEW.out rfl
      have TL := TIL.out rfl
      have POS1 := POS.out rfl
      have i1 : IntKind.i64.wrap (til + 1) = til + 1 := IntWalk.i64_in _ (by omega)
      have TG := Lib.hid (show wiV g n (n - 0) 0 (til + 1) = z from WL.out.symm)
      have LLn := Lib.hid (fun i j hi hj => LL.out rfl i j hi hj)
      clear LL FEW TIL POS LV WL; obtain ⟨q0, q1, q2⟩ := And.intro X2.out.c0 (And.intro X2.out.c1 X2.out.c2)
      have lt2_ := X2.out.lt
      go_wp2; clear q0 q1 q2 lt2_
      go_loopw [5, 6] (fun l i wr => (∃ (q : Nat) (y : Int), q ≤ n ∧ i = .int .i64 q ∧ l = .int .i64 y ∧ Hid (wiV g n (n - q) q y = z)) ∧ Up w4 wr) (fun _ i _ => n - (intOf i).toNat)
      case atStart => exact ⟨⟨0, til + 1, by omega, rfl, rfl, TG⟩, Up.refl _⟩
      case round =>
        obtain ⟨⟨q, y, hq, rfl, rfl, HT⟩, ur⟩ := hrel; obtain ⟨wo, hwo⟩ : ∃ W, W = wr := ⟨_, rfl⟩; subst hwo
        have UR := Lib.hid ur
        have X3 := Lib.hid (X2.out.up ur)
        clear ur; obtain ⟨q0, q1, q2⟩ := And.intro X3.out.c0 (And.intro X3.out.c1 X3.out.c2)
        have lt2_ := X3.out.lt
        by_cases hlt : q < n
        · have i4 : (q : Int) < n := by omega
          have ST := Lib.hid (show wiV g n (n - (q + 1)) (q + 1) (wjV g q n 0 y) = z by rw [← HT.out, wiV_at hlt])
          obtain ⟨T, hS⟩ : ∃ S, S = wjV g q n 0 y := ⟨_, rfl⟩; rw [← hS] at ST
          have H0 := Lib.hid (show wjV g q (n - 0) 0 y = T from hS.symm)
          clear hS; clear HT; go_wp2; clear q0 q1 q2 lt2_
          go_loopw [5, 7] (fun l i wj => (∃ (p : Nat) (x : Int), p ≤ n ∧ i = .int .i64 p ∧ l = .int .i64 x ∧ Hid (wjV g q (n - p) p x = T)) ∧ Up wo wj) (fun _ i _ => n - (intOf i).toNat)
          case atStart => exact ⟨⟨0, y, by omega, rfl, rfl, H0⟩, Up.refl _⟩
          case round =>
            obtain ⟨⟨p, x, hp, rfl, rfl, HY⟩, uj⟩ := hrel
            have UJ := Lib.hid uj
            have x4 := X3.out.up uj
            clear uj; obtain ⟨q0, q1, q2⟩ := And.intro x4.c0 (And.intro x4.c1 x4.c2)
            have lt2_ := x4.lt
            by_cases hlp : p < n
            · have i5 : (p : Int) < n := by omega
              have i6 : IntKind.i64.wrap ((p : Int) + 1) = (p : Int) + 1 := IntWalk.i64_in _ (by omega)
              have LQ := Lib.hid (LLn.out q p hlt hlp)
              have C := Lib.hid (fun W (u : Up w1 W) => CL.out W u q p)
              have HZ := Lib.hid (show wjV g q (n - (p + 1)) (p + 1) (min x (g q p)) = T by rw [← HY.out, wjV_at hlp])
              generalize lo q p = e2 at C LQ
              generalize g q p = e at LQ HZ
              have hee := LQ.out
              subst hee; clear HY LQ
              go_wp2_with fail
              refine (C.out _ ((U.out.trans UR.out).trans UJ.out)).mono ?_; rintro x5 w5 ⟨rfl, u5⟩
              have UX := Lib.hid (UJ.out.trans u5)
              clear q0 q1 q2 lt2_ x4 u5 C
              by_cases hmin : x ≤ e2
              · rw [show min x e2 = x by omega] at HZ
                go_wp2
                go_roundw
                case rel => exact ⟨⟨p + 1, x, by omega, by go_num, rfl, HZ⟩, UX.out⟩
                case measure => simp [intOf]; omega
              · rw [show min x e2 = e2 by omega] at HZ
                go_wp2
                go_roundw
                case rel => exact ⟨⟨p + 1, e2, by omega, by go_num, by first | rfl | rw [if_pos (by omega)], HZ⟩, UX.out⟩
                case measure => simp [intOf]; omega
            · have EN := HY.out
              rw [wjV_end (by omega)] at EN; subst EN
              have i5 : ¬ (p : Int) < n := by omega
              have i6 : IntKind.i64.wrap ((q : Int) + 1) = (q : Int) + 1 := IntWalk.i64_in _ (by omega)
              go_wp2
              go_roundw
              case rel => exact ⟨⟨q + 1, x, by omega, by go_num, rfl, ST⟩, UR.out.trans UJ.out⟩
              case measure => simp [intOf]; omega
        · have EN := HT.out
          rw [wiV_end (by omega)] at EN; subst EN
          have i4 : ¬ (q : Int) < n := by omega
          have f1 : (y == y) = true := by simp
          go_wp2; go_ret
          exact ⟨by first | rfl | simp, UW1.out.trans (U.out.trans UR.out)⟩
end Go.Proofs.Ytklldniapombiaa

namespace Go.Proofs.Ytklldniapombiaa.fnWinLook
set_option maxRecDepth 100000
open Go.ChangeShapes Go.WideShapes Go.ChangeAt Go.RowKit Go.Joins Go.Deep
set_option linter.unusedVariables false
set_option maxRecDepth 100000 in
theorem lifted (os : Os) (started : os.Started) (H : Type) (enc : TypeId × Value → H) :
    ReturnsInHanded {} Try.checked os 5 .any (Rows.fnWinLookSpec.pre6 enc Try.prog Try.f5 Rows.fnWinLookRow.domain false) (Rows.fnWinLookSpec.post enc Try.prog Try.f5 false true false false) := by
  refine returnsInHanded_of_change (C := Try.checked) own started (by kernel_rfl) Try.func5
    (ChangeSpec.witness6 (enc := enc) (C := Try.checked) false ⟨#[], #[.slice none 0 0], []⟩ 8 (by kernel_rfl) (by kernel_rfl) (by kernel_rfl) (by kernel_rfl)) ?_
  intro W base args ds gs before hval0 hW hcnd _
  have hval : ∀ (j : Nat) t v, Try.f5.params[j]? = some t → args[j]? = some v → Value.okWide Try.prog W .any base t v := hval0
  have hW' := hW
  obtain ⟨p, q, hA0, hV, rfl, hfz, hnd⟩ := hW
  have hA : DataW.TrodAll enc Try.prog W 0 (fun _ => true) true Try.f5.params.toList args.toList ds p := hA0
  rw [Try.params5] at hA hval; obtain ⟨v0, vs0, d0, ds0, p0, q0, hargs, rfl, rfl, h0, r0⟩ := trodAll_cons hA; obtain ⟨rfl, rfl, rfl⟩ := trodAll_nil r0
  obtain rfl : args = #[v0] := by cases args; simp_all
  obtain ⟨rfl, rfl⟩ := trodVars_none hV
  have k0 := h0
  have lt0 : ∀ x ∈ p0, x.block < W.heap.size := by obtain ⟨m, hm⟩ := k0; exact DataW.trod_lt m _ _ _ hm
  obtain ⟨A0, len0, cap0, rfl⟩ := okWide_slice Try.underlying48 (hval 0 48 v0 rfl rfl)
  have w0 := open_bytes h0
  clear hA0 hval0
  refine (walkWlook A0 len0 cap0 w0.2.1 w0.2.2 w0.1).mono fun e W' ⟨he, bel⟩ => ?_
  subst he
  exact ⟨_, rfl, _, _, _, [], _, [], hW', trodAll_mk1 (shut_bool Try.underlying4 _), (trodAll_cons_mk (Below.trod laidOut (by kernel_rfl) (of_decide_eq_true (by kernel_rfl)) k0 bel lt0) trodAll_mk0), rfl, bel.frame _, fun h => by cases h⟩
theorem over : Rows.fnWinLookRow.holds Try.pinned (OpenSpec.ofChange Rows.fnWinLookSpec) :=
  OpenClaim.holds_of_wide 5 Try.f5 rfl rfl rfl rfl rfl rfl rfl ⟨rfl, rfl, rfl, rfl, rfl⟩ rfl rfl rfl rfl rfl (by kernel_rfl) Try.func5 (by kernel_rfl)
    (of_decide_eq_true (by kernel_rfl)) (by unfold Func.isWrapper; first | (rw [if_pos (by decide +kernel)]; kernel_rfl) | (rw [if_neg (by decide +kernel)]; exact ⟨rfl, rfl⟩))
    (fun os started H enc _ => lifted os started H enc)
theorem proved : Rows.FnWinLookSaid := over
end Go.Proofs.Ytklldniapombiaa.fnWinLook

/-
  What impl.WinLook gives, in one sentence: the least delay of all sends, but at most the end and one, and -1 for a model that is none; for every model that lies in memory.
  The least delay, in one sentence: it is at most every delay of a send to the component, it is one of them or the bound, and what a component sends comes later by a delay; no condition.
  What spec.CmbLook gives, in one sentence: the least delay of the first component's sends to the second, but at most the end and one, and -1 for a model that is none or a component that does not exist; for every model that lies in memory.
  What spec.WinLook gives, in one sentence: the least delay of all sends, but at most the end and one, and -1 for a model that is none; for every model that lies in memory.
  What a component does, where it may, in one sentence: it stays valid and sends later, valid events; for every valid model, component and event.
  What tbEvts returns, in one sentence: whether two lists of events are the same; for every two lists that lie in memory.
-/
import Derived.Test.YtklldniapombiaaDLWev06
import Derived.Test.YtklldniapombiaaDLWev08
import Derived.Test.YtklldniapombiaaDLWev15
import Derived.Test.YtklldniapombiaaDLWev19
import Derived.Test.YtklldniapombiaaDLWev36
namespace Go.Proofs.Ytklldniapombiaa
set_option maxRecDepth 100000
open Go.RowKit
set_option maxHeartbeats 4000000 in
theorem leastLook_any (mb : Nat) (m : Mdl) (w : World) (hM : Mach w mb m) (hm : mdlB m = true) :
    Calls Try.prog 67 #[.agg #[.map (some mb), .int .i64 m.rules.length, .int .i64 m.til]] w fun x w' => x = .returned (.int .i64 (winL m)) ∧ Up w w' := by
  have few := mdlB_few hm
  have HM := Lib.hid hM
  have TL := mdlB_til hm
  have CN := Lib.hid (fun W => neverL_any (some mb) m.rules.length m.til W TL)
  have CK := Lib.hid (fun W (u : Up w W) (fr to : Nat) (h1 : fr < m.rules.length) => show Calls Try.prog 74 #[.agg #[.map (some mb), .int .i64 m.rules.length, .int .i64 m.til], .int .i64 fr, .int .i64 to] W (fun x w' => x = .returned (.int .i64 (lkM m fr to)) ∧ Up W w') from look_any mb m.rules.length m fr to W (HM.out.up u) hm (by omega) (by omega))
  unfold winL
  generalize lkM m = g at CK ⊢
  clear HM hM hm
  generalize m.rules.length = N at *
  generalize m.til = til at *
  obtain ⟨R, hR⟩ : ∃ R, R = wiV g N N 0 (til + 1) := ⟨_, rfl⟩; rw [← hR]
  have TG := Lib.hid (show wiV g N (N - 0) 0 (til + 1) = R from hR.symm)
  clear hR
  have X2 := Lib.hid (Box3.new w (.map (some mb)) (.int .i64 N) (.int .i64 til) 109)
  have U0 := Lib.hid ((Up.refl w).alloc (.cells #[.map (some mb), .int .i64 N, .int .i64 til] 109))
  go_enter Try.func67, Try.ntmps67
  go_wp2_with fail
  refine (CN.out _).mono ?_; rintro x w1 ⟨rfl, u1⟩
  have U1 := Lib.hid (U0.out.trans u1)
  have X2 := Lib.hid (X2.out.up u1)
  clear u1 U0 CN; obtain ⟨q0, q1, q2⟩ := And.intro X2.out.c0 (And.intro X2.out.c1 X2.out.c2)
  have lt2_ := X2.out.lt
  go_wp2; clear q0 q1 q2 lt2_
  go_loopw [3, 10] (fun l i wr => (∃ (q : Nat) (z : Int), q ≤ N ∧ i = .int .i64 q ∧ l = .int .i64 z ∧ Hid (wiV g N (N - q) q z = R)) ∧ Up w1 wr) (fun _ i _ => N - (intOf i).toNat)
  case atStart => exact ⟨⟨0, til + 1, by omega, rfl, rfl, TG⟩, Up.refl _⟩
  case round =>
    obtain ⟨⟨q, z, hq, rfl, rfl, HT⟩, ur⟩ := hrel; obtain ⟨wo, hwo⟩ : ∃ W, W = wr := ⟨_, rfl⟩; subst hwo
    have UR := Lib.hid ur
    have X3 := Lib.hid (X2.out.up ur)
    clear ur
    by_cases hlt : q < N
    · have i4 : (q : Int) < N := by omega
      have ST := Lib.hid (show wiV g N (N - (q + 1)) (q + 1) (wjV g q N 0 z) = R by rw [← HT.out, wiV_at hlt])
      obtain ⟨S, hS⟩ : ∃ S, S = wjV g q N 0 z := ⟨_, rfl⟩; rw [← hS] at ST
      have H0 := Lib.hid (show wjV g q (N - 0) 0 z = S from hS.symm)
      clear hS; obtain ⟨q0, q1, q2⟩ := And.intro X3.out.c0 (And.intro X3.out.c1 X3.out.c2)
      have lt2_ := X3.out.lt
      clear HT; go_wp2; clear q0 q1 q2 lt2_
      go_loopw [3, 15] (fun l i wj => (∃ (p : Nat) (y : Int), p ≤ N ∧ i = .int .i64 p ∧ l = .int .i64 y ∧ Hid (wjV g q (N - p) p y = S)) ∧ Up wo wj) (fun _ i _ => N - (intOf i).toNat)
      case atStart => exact ⟨⟨0, z, by omega, rfl, rfl, H0⟩, Up.refl _⟩
      case round =>
        obtain ⟨⟨p, y, hp, rfl, rfl, HY⟩, uj⟩ := hrel
        have UJ := Lib.hid uj
        have x4 := X3.out.up uj
        clear uj
        by_cases hlp : p < N
        · have i5 : (p : Int) < N := by omega
          have C := Lib.hid (fun W (u : Up w W) => CK.out W u q p hlt)
          have HZ := Lib.hid (show wjV g q (N - (p + 1)) (p + 1) (min y (g q p)) = S by rw [← HY.out, wjV_at hlp])
          generalize g q p = e at C HZ
          obtain ⟨q0, q1, q2⟩ := And.intro x4.c0 (And.intro x4.c1 x4.c2)
          have lt2_ := x4.lt
          clear HY CK
          go_wp2_with fail
          refine (C.out _ ((U1.out.trans UR.out).trans UJ.out)).mono ?_; rintro x w5 ⟨rfl, u5⟩
          have UX := Lib.hid (UJ.out.trans u5)
          clear q0 q1 q2 lt2_ x4 u5 C
          by_cases hmin : y ≤ e
          · rw [show min y e = y by omega] at HZ
            go_wp2
            go_roundw
            case rel => exact ⟨⟨p + 1, y, by omega, by go_num, rfl, HZ⟩, UX.out⟩
            case measure => simp [intOf]; omega
          · rw [show min y e = e by omega] at HZ
            go_wp2
            go_roundw
            case rel => exact ⟨⟨p + 1, e, by omega, by go_num, by first | rfl | rw [if_pos (by omega)], HZ⟩, UX.out⟩
            case measure => simp [intOf]; omega
        · have EN := HY.out
          rw [wjV_end (by omega)] at EN; subst EN
          have i5 : ¬ (p : Int) < N := by omega
          clear x4; go_wp2
          go_roundw
          case rel => exact ⟨⟨q + 1, y, by omega, by go_num, rfl, ST⟩, UR.out.trans UJ.out⟩
          case measure => simp [intOf]; omega
    · have EN := HT.out
      rw [wiV_end (by omega)] at EN; subst EN
      have i4 : ¬ (q : Int) < N := by omega
      go_wp2; go_ret
      exact ⟨rfl, U1.out.trans UR.out⟩
set_option maxHeartbeats 4000000 in
theorem implWin_any (A : Option Addr) (n c : Nat) (B : Option Addr) (k d : Nat) (m : Mdl) (w : World) (h : MdlV w A n B k m) :
    Calls Try.prog 20 #[.agg #[.slice A n c, .slice B k d, .int .i64 m.til]] w fun x w' => x = .returned (.int .i64 (winV m)) ∧ Up w w' := by
  have CM := Lib.hid (fun W (u : Up w W) => newMachine_any A n c B k d m W (h.up u))
  have U0 := Lib.hid ((Up.refl w).alloc (.cells #[.slice A n c, .slice B k d, .int .i64 m.til] 36))
  unfold MachPost at CM
  go_enter Try.func20, Try.ntmps20
  go_wp2_with fail
  refine (CM.out _ (by first | exact U0.out | exact Up.refl _)).mono ?_; rintro x w1 ⟨u1, ⟨hm, rfl⟩ | ⟨hm, mb, rfl, hb, hM⟩⟩
  · have U1 := Lib.hid (show Up w w1 from by first | exact U0.out.trans u1 | exact u1)
    have LV := Lib.hid (show winV m = -1 by unfold winV; rw [hm]; rfl)
    have UE := Lib.hid (U1.out.alloc (.cells #[.map none, .int .i64 0, .int .i64 0] 109))
    go_wp2; go_ret
    exact ⟨congrArg (fun z => Ending.returned (.int .i64 z)) LV.out.symm, by first | exact UE.out | exact U1.out⟩
  · have U1 := Lib.hid (show Up w w1 from by first | exact U0.out.trans u1 | exact u1)
    have HM := Lib.hid hM
    have LV := Lib.hid (show winV m = winL m by unfold winV; rw [hm]; rfl)
    have CK := Lib.hid (fun W (u : Up w1 W) => leastLook_any mb m W (HM.out.up u) hm)
    generalize winL m = R at LV CK
    generalize m.rules.length = many at *
    have UE := Lib.hid (U1.out.alloc (.cells #[.map (some mb), .int .i64 many, .int .i64 m.til] 109))
    have UF := Lib.hid ((Up.refl w1).alloc (.cells #[.map (some mb), .int .i64 many, .int .i64 m.til] 109))
    clear u1 hm hM hb CM h
    go_wp2_with fail
    refine (CK.out _ (by first | exact UF.out | exact Up.refl _)).mono ?_; rintro x w2 ⟨rfl, u2⟩
    have UG := Lib.hid (show Up w w2 from by first | exact UE.out.trans u2 | exact U1.out.trans u2)
    go_wp2; go_ret
    exact ⟨congrArg (fun z => Ending.returned (.int .i64 z)) LV.out.symm, UG.out⟩
end Go.Proofs.Ytklldniapombiaa

namespace Go.Proofs.Ytklldniapombiaa
set_option maxRecDepth 100000
open Go.RowKit
theorem lkS_each (to : Int) : ∀ (es : List Evt) (l : Int) (x : Evt), x ∈ es → x.t = to → lkS to l es ≤ x.to
  | [], _, _, h, _ => absurd h (by simp)
  | s :: ss, l, x, h, hx => by
    rw [lkS]
    rcases List.mem_cons.1 h with rfl | h
    · rw [if_pos hx]
      have := lkS_le to ss (min l x.to)
      omega
    · exact lkS_each to ss _ x h hx
theorem lkR_each (to : Int) : ∀ (rs : List Rule) (l : Int) (r : Rule) (x : Evt), r ∈ rs → x ∈ r.sends → x.t = to → lkR to l rs ≤ x.to
  | [], _, _, _, h, _, _ => absurd h (by simp)
  | s :: ss, l, r, x, h, hs, hx => by
    rw [lkR]
    rcases List.mem_cons.1 h with rfl | h
    · have := lkR_le to ss (lkS to l r.sends)
      have := lkS_each to r.sends l x hs hx
      omega
    · exact lkR_each to ss _ r x h hs hx
theorem lkS_low {many : Int} (to : Int) : ∀ (es : List Evt) (l : Int), (∀ x ∈ es, sndB x many = true) → 1 ≤ l → 1 ≤ lkS to l es
  | [], l, _, h => by rw [lkS]; exact h
  | s :: ss, l, hs, h => by
    rw [lkS]
    have hb := hs s List.mem_cons_self
    unfold sndB at hb; simp only [Bool.and_eq_true, inB_iff] at hb; refine lkS_low to ss _ (fun x hx => hs x (List.mem_cons_of_mem _ hx)) ?_
    split <;> omega
theorem lkR_low {many : Int} (to : Int) : ∀ (bf : Int) (rs : List Rule) (l : Int), rulesB many bf rs = true → 1 ≤ l → 1 ≤ lkR to l rs
  | _, [], l, _, h => by rw [lkR]; exact h
  | bf, r :: rs, l, hr, h => by
    rw [lkR]; rw [rulesB, Bool.and_eq_true, Bool.and_eq_true] at hr
    have k2 := hr.1.2
    simp only [ruleB, Bool.and_eq_true, List.all_eq_true] at k2
    exact lkR_low to r.kd rs _ hr.2 (lkS_low (many := many) to r.sends l k2.1.1.1.1.1 h)
/-- What is sent comes from a send. -/
theorem sendsE_from (til s : Int) (e : Evt) : ∀ (xs : List Evt) (q : Int) (y : Evt), y ∈ (sendsE til s e xs q).1 → ∃ x ∈ xs, y.to = x.t ∧ y.t = e.t + x.to
  | [], _, _, h => by simp [sendsE] at h
  | x :: xs, q, y, h => by
    rw [sendsE] at h
    split at h
    · obtain ⟨z, h1, h2⟩ := sendsE_from til s e xs q y h
      exact ⟨z, List.mem_cons_of_mem _ h1, h2⟩
    · split at h
      · rcases List.mem_cons.1 h with rfl | h
        · exact ⟨x, List.mem_cons_self, rfl, rfl⟩
        · obtain ⟨z, h1, h2⟩ := sendsE_from til s e xs (q + 1) y h
          exact ⟨z, List.mem_cons_of_mem _ h1, h2⟩
      · obtain ⟨z, h1, h2⟩ := sendsE_from til s e xs (q + 1) y h
        exact ⟨z, List.mem_cons_of_mem _ h1, h2⟩
end Go.Proofs.Ytklldniapombiaa

namespace Go.Proofs.Ytklldniapombiaa
set_option maxRecDepth 100000
open Go.RowKit
set_option maxHeartbeats 4000000 in
theorem l9Look_any (A : Option Addr) (n c : Nat) (B : Option Addr) (k d : Nat) (m : Mdl) (fr to : Int) (w : World) (hM : MdlV w A n B k m) (hm : mdlB m = true) (h0 : 0 ≤ fr) (h1 : fr < m.rules.length) :
    Calls Try.prog 65 #[.agg #[.slice A n c, .slice B k d, .int .i64 m.til], .int .i64 fr, .int .i64 to] w fun x w' => x = .returned (.int .i64 (lkR to (m.til + 1) (m.rules.getD fr.toNat []))) ∧ Up w w' := by
  have few := mdlB_few hm
  have TL := mdlB_til hm
  have hRB := mdlB_row hm fr.toNat (by omega)
  have hLN := hM.rules.1
  obtain ⟨b, off, hA, hb, hc⟩ := hM.rules.2.2 (by omega); subst hA; obtain ⟨A', n', c', cell, hrs⟩ := hc fr.toNat (by omega)
  have HRS := Lib.hid hrs
  have hn3 : n' ≤ 3 := by
    have h := rulesB_len hRB (by omega) (by omega)
    have := hrs.1
    omega
  have TG := Lib.hid (show lkR to (m.til + 1) ((m.rules.getD fr.toNat []).drop 0) = lkR to (m.til + 1) (m.rules.getD fr.toNat []) from rfl)
  have LR := Lib.hid hrs.1
  have CELL := Lib.hid (show w.cell? ⟨b, off + fr.toNat, none⟩ = some (.slice A' n' c') from cell)
  have BLT := Lib.hid hb
  have hfr : fr < n := by omega
  clear hc cell hrs hM few
  generalize m.rules.getD fr.toNat [] = rs at TG LR HRS hRB ⊢
  generalize lkR to (m.til + 1) rs = R at TG ⊢
  clear hm hRB
  generalize m.til = til at *
  obtain ⟨q_, hq_⟩ := Int.eq_ofNat_of_zero_le h0; subst hq_; rw [Int.toNat_natCast] at CELL; clear hLN h1
  have X2 := Lib.hid (Box3.new w (.slice (some ⟨b, off, none⟩) n c) (.slice B k d) (.int .i64 til) 36)
  have U0 := Lib.hid ((Up.refl w).alloc (.cells #[.slice (some ⟨b, off, none⟩) n c, .slice B k d, .int .i64 til] 36))
  have hb' : b < w.heap.size := BLT.out
  have i1 : IntKind.i64.wrap (til + 1) = til + 1 := IntWalk.i64_in _ (by omega)
  have j0 : ¬ (q_ : Int) < 0 := by omega
  obtain ⟨q0, q1, q2⟩ := And.intro X2.out.c0 (And.intro X2.out.c1 X2.out.c2)
  have lt2_ := X2.out.lt
  go_enter Try.func65, Try.ntmps65
  go_wp2; clear q0 q1 q2 lt2_
  have W0 := U0
  go_loopw [7, 8] (fun l i wr => (∃ (q : Nat) (z : Int), q ≤ n' ∧ i = .int .i64 q ∧ l = .int .i64 z ∧ Hid (lkR to z (rs.drop q) = R)) ∧ Up (w.alloc (.cells #[.slice (some ⟨b, off, none⟩) n c, .slice B k d, .int .i64 til] 36)) wr) (fun _ i _ => n' - (intOf i).toNat)
  case atStart => exact ⟨⟨0, til + 1, by omega, rfl, rfl, TG⟩, Up.refl _⟩
  case round =>
    obtain ⟨⟨q, z, hq, rfl, rfl, HT⟩, ur⟩ := hrel; obtain ⟨wo, hwo⟩ : ∃ W, W = wr := ⟨_, rfl⟩; subst hwo
    have UR := Lib.hid (U0.out.trans ur)
    have UR0 := Lib.hid ur
    have x2 := X2.out.up ur
    obtain ⟨q0, q1, q2⟩ := And.intro x2.c0 (And.intro x2.c1 x2.c2)
    have lt2_ := x2.lt
    have X3 := Lib.hid x2
    have cell := (UR.out.cells _ _ BLT.out).trans CELL.out
    have hbr : b < wo.heap.size := by have := UR.out.size; omega
    clear ur x2
    by_cases hlt : q < n'
    · obtain ⟨b2, off2, hA2, hb2, hc2⟩ := (HRS.out.up UR.out).2.2 (by omega)
      subst hA2
      have at2 := hc2 q hlt
      have DR := Lib.hid (lkR_drop to z rs q (by rw [LR.out]; exact hlt))
      clear hc2
      generalize rs.getD q default = r at at2 DR
      obtain ⟨kd, ra, rb, rc, ss⟩ := r; obtain ⟨A3, n3, c3, ⟨r0, r1, r2, r3, r4⟩, hn3', he3⟩ := at2; dsimp only at r0 r1 r2 r3 r4 DR he3
      have HE := Lib.hid he3
      have R4 := Lib.hid r4
      have i4 : (q : Int) < n' := by omega
      have ST := Lib.hid (show lkR to (lkS to z ss) (rs.drop (q + 1)) = R by rw [← HT.out, DR.out])
      have H0 := Lib.hid (show lkS to z (ss.drop 0) = lkS to z ss from rfl)
      generalize lkS to z ss = S at ST H0
      clear he3 HT DR; go_wp2; clear q0 q1 q2 lt2_ r0 r1 r2 r3 r4
      go_loopw [7, 9] (fun l i wj => (∃ (p : Nat) (y : Int), p ≤ n3 ∧ i = .int .i64 p ∧ l = .int .i64 y ∧ Hid (lkS to y (ss.drop p) = S)) ∧ Up wo wj) (fun _ i _ => n3 - (intOf i).toNat)
      case atStart => exact ⟨⟨0, z, by omega, rfl, rfl, H0⟩, Up.refl _⟩
      case round =>
        obtain ⟨⟨p, y, hp, rfl, rfl, HY⟩, uj⟩ := hrel
        have UJ := Lib.hid uj
        have ee := HE.out.up uj
        have x4 := X3.out.up uj
        obtain ⟨q0, q1, q2⟩ := And.intro x4.c0 (And.intro x4.c1 x4.c2)
        have lt2_ := x4.lt
        have cell2 := (uj.cells _ _ hbr).trans cell
        have r4 := (uj.cells _ _ hb2).trans R4.out
        have hbj : b < wr.heap.size := by have := uj.size; omega
        have hb2j : b2 < wr.heap.size := by have := uj.size; omega
        clear uj x4
        by_cases hlp : p < n3
        · obtain ⟨b3, off3, hA3, hb3, hc3⟩ := ee.2 (by omega)
          subst hA3
          have a0 := hc3 p hlp
          have DR := Lib.hid (lkS_drop to y ss p (by rw [ee.1]; exact hlp))
          clear hc3 ee
          generalize ss.getD p default = e at a0 DR
          obtain ⟨et, eto, efr, esq, ekd, edt⟩ := e; unfold EvAt at a0; dsimp only at a0 DR; obtain ⟨p0, p1, p2, p3, p4, p5⟩ := a0
          have i5 : (p : Int) < n3 := by omega
          have i6 : IntKind.i64.wrap ((p : Int) + 1) = (p : Int) + 1 := IntWalk.i64_in _ (by omega)
          have UX := Lib.hid (UJ.out.alloc (.cells #[.int .i64 et, .int .i64 eto, .int .i64 efr, .int .i64 esq, .int .i64 ekd, .int .i64 edt] 168))
          by_cases hto : et = to
          · have HZ := Lib.hid (show lkS to (min y eto) (ss.drop (p + 1)) = S by rw [← HY.out, DR.out, if_pos hto])
            subst hto
            by_cases hmin : y ≤ eto
            · rw [show min y eto = y by omega] at HZ
              go_wp2
              go_roundw
              case rel => exact ⟨⟨p + 1, y, by omega, by go_num, rfl, HZ⟩, UX.out⟩
              case measure => simp [intOf]; omega
            · rw [show min y eto = eto by omega] at HZ
              go_wp2
              go_roundw
              case rel => exact ⟨⟨p + 1, eto, by omega, by go_num, by rw [if_pos (by omega)], HZ⟩, UX.out⟩
              case measure => simp [intOf]; omega
          · have HZ := Lib.hid (show lkS to y (ss.drop (p + 1)) = S by rw [← HY.out, DR.out, if_neg hto])
            go_wp2
            go_roundw
            case rel => exact ⟨⟨p + 1, y, by omega, by go_num, rfl, HZ⟩, UX.out⟩
            case measure => simp [intOf]; omega
        · have EN := lkS_end to y ss p (by rw [ee.1]; omega)
          rw [HY.out] at EN; subst EN
          have i5 : ¬ (p : Int) < n3 := by omega
          have i6 : IntKind.i64.wrap ((q : Int) + 1) = (q : Int) + 1 := IntWalk.i64_in _ (by omega)
          go_wp2
          go_roundw
          case rel => exact ⟨⟨q + 1, S, by omega, by go_num, rfl, ST⟩, UR0.out.trans UJ.out⟩
          case measure => simp [intOf]; omega
    · have EN := lkR_end to z rs q (by rw [LR.out]; omega)
      rw [HT.out] at EN; subst EN
      have i4 : ¬ (q : Int) < n' := by omega
      go_wp2; go_ret
      exact ⟨rfl, UR.out⟩
end Go.Proofs.Ytklldniapombiaa

namespace Go.Proofs.Ytklldniapombiaa
set_option maxRecDepth 100000
open Go.RowKit
set_option maxHeartbeats 4000000 in
theorem specWin_any (A : Option Addr) (n c : Nat) (B : Option Addr) (k d : Nat) (m : Mdl) (w : World) (h : MdlV w A n B k m) :
    Calls Try.prog 19 #[.agg #[.slice A n c, .slice B k d, .int .i64 m.til]] w fun x w' => x = .returned (.int .i64 (winV m)) ∧ Up w w' := by
  have CM := Lib.hid (fun W (u : Up w W) => specMdl_any A n c B k d m W (h.up u))
  have CK := Lib.hid (fun W (u : Up w W) (fr to : Nat) hm (h1 : fr < m.rules.length) => show Calls Try.prog 65 #[.agg #[.slice A n c, .slice B k d, .int .i64 m.til], .int .i64 fr, .int .i64 to] W (fun x w' => x = .returned (.int .i64 (lkM m fr to)) ∧ Up W w') from l9Look_any A n c B k d m fr to W (h.up u) hm (by omega) (by omega))
  have FEW := Lib.hid (fun hm => mdlB_few (m := m) hm)
  have TIL := Lib.hid (fun hm => mdlB_til (m := m) hm)
  have NL := Lib.hid h.rules.1
  have X2 := Lib.hid (Box3.new w (.slice A n c) (.slice B k d) (.int .i64 m.til) 36)
  have U0 := Lib.hid ((Up.refl w).alloc (.cells #[.slice A n c, .slice B k d, .int .i64 m.til] 36))
  have LV := Lib.hid (show winV m = if mdlB m then wiV (lkM m) m.rules.length m.rules.length 0 (m.til + 1) else -1 from rfl)
  rw [NL.out] at CK FEW LV; clear h NL
  generalize mdlB m = bm at CM CK FEW LV TIL
  generalize lkM m = g at CK LV
  generalize winV m = Z at LV ⊢
  generalize m.til = til at *
  go_enter Try.func19, Try.ntmps19
  go_wp2_with fail
  refine (CM.out _ U0.out).mono ?_; rintro x w1 ⟨rfl, u1⟩
  have U1 := Lib.hid (U0.out.trans u1)
  have X2 := Lib.hid (X2.out.up u1)
  clear u1 CM U0
  cases bm
  · go_wp2
    go_ret
    exact ⟨congrArg (fun z => Ending.returned (.int .i64 z)) LV.out.symm, U1.out⟩
  · have few := FEW.out rfl
    have TL := TIL.out rfl
    have i1 : IntKind.i64.wrap (til + 1) = til + 1 := IntWalk.i64_in _ (by omega)
    have TG := Lib.hid (show wiV g n (n - 0) 0 (til + 1) = Z from LV.out.symm)
    obtain ⟨q0, q1, q2⟩ := And.intro X2.out.c0 (And.intro X2.out.c1 X2.out.c2)
    have lt2_ := X2.out.lt
    go_wp2; clear q0 q1 q2 lt2_
    go_loopw [3, 4] (fun l i wr => (∃ (q : Nat) (z : Int), q ≤ n ∧ i = .int .i64 q ∧ l = .int .i64 z ∧ Hid (wiV g n (n - q) q z = Z)) ∧ Up w1 wr) (fun _ i _ => n - (intOf i).toNat)
    case atStart => exact ⟨⟨0, til + 1, by omega, rfl, rfl, TG⟩, Up.refl _⟩
    case round =>
      obtain ⟨⟨q, z, hq, rfl, rfl, HT⟩, ur⟩ := hrel; obtain ⟨wo, hwo⟩ : ∃ W, W = wr := ⟨_, rfl⟩; subst hwo
      have UR := Lib.hid ur
      have X3 := Lib.hid (X2.out.up ur)
      clear ur; obtain ⟨q0, q1, q2⟩ := And.intro X3.out.c0 (And.intro X3.out.c1 X3.out.c2)
      have lt2_ := X3.out.lt
      by_cases hlt : q < n
      · have i4 : (q : Int) < n := by omega
        have ST := Lib.hid (show wiV g n (n - (q + 1)) (q + 1) (wjV g q n 0 z) = Z by rw [← HT.out, wiV_at hlt])
        obtain ⟨S, hS⟩ : ∃ S, S = wjV g q n 0 z := ⟨_, rfl⟩; rw [← hS] at ST
        have H0 := Lib.hid (show wjV g q (n - 0) 0 z = S from hS.symm)
        clear hS; clear HT; go_wp2; clear q0 q1 q2 lt2_
        go_loopw [3, 5] (fun l i wj => (∃ (p : Nat) (y : Int), p ≤ n ∧ i = .int .i64 p ∧ l = .int .i64 y ∧ Hid (wjV g q (n - p) p y = S)) ∧ Up wo wj) (fun _ i _ => n - (intOf i).toNat)
        case atStart => exact ⟨⟨0, z, by omega, rfl, rfl, H0⟩, Up.refl _⟩
        case round =>
          obtain ⟨⟨p, y, hp, rfl, rfl, HY⟩, uj⟩ := hrel
          have UJ := Lib.hid uj
          have x4 := X3.out.up uj
          clear uj; obtain ⟨q0, q1, q2⟩ := And.intro x4.c0 (And.intro x4.c1 x4.c2)
          have lt2_ := x4.lt
          by_cases hlp : p < n
          · have i5 : (p : Int) < n := by omega
            have i6 : IntKind.i64.wrap ((p : Int) + 1) = (p : Int) + 1 := IntWalk.i64_in _ (by omega)
            have C := Lib.hid (fun W (u : Up w W) => CK.out W u q p trivial hlt)
            have HZ := Lib.hid (show wjV g q (n - (p + 1)) (p + 1) (min y (g q p)) = S by rw [← HY.out, wjV_at hlp])
            generalize g q p = e at C HZ
            clear HY CK
            go_wp2_with fail
            refine (C.out _ ((U1.out.trans UR.out).trans UJ.out)).mono ?_; rintro x w5 ⟨rfl, u5⟩
            have UX := Lib.hid (UJ.out.trans u5)
            clear q0 q1 q2 lt2_ x4 u5 C
            by_cases hmin : y ≤ e
            · rw [show min y e = y by omega] at HZ
              go_wp2
              go_roundw
              case rel => exact ⟨⟨p + 1, y, by omega, by go_num, rfl, HZ⟩, UX.out⟩
              case measure => simp [intOf]; omega
            · rw [show min y e = e by omega] at HZ
              go_wp2
              go_roundw
              case rel => exact ⟨⟨p + 1, e, by omega, by go_num, by first | rfl | rw [if_pos (by omega)], HZ⟩, UX.out⟩
              case measure => simp [intOf]; omega
          · have EN := HY.out
            rw [wjV_end (by omega)] at EN; subst EN
            have i5 : ¬ (p : Int) < n := by omega
            have i6 : IntKind.i64.wrap ((q : Int) + 1) = (q : Int) + 1 := IntWalk.i64_in _ (by omega)
            go_wp2
            go_roundw
            case rel => exact ⟨⟨q + 1, y, by omega, by go_num, rfl, ST⟩, UR.out.trans UJ.out⟩
            case measure => simp [intOf]; omega
      · have EN := HT.out
        rw [wiV_end (by omega)] at EN; subst EN
        have i4 : ¬ (q : Int) < n := by omega
        go_wp2; go_ret
        exact ⟨rfl, U1.out.trans UR.out⟩
end Go.Proofs.Ytklldniapombiaa

namespace Go.Proofs.Ytklldniapombiaa
set_option maxRecDepth 100000
open Go.RowKit
theorem inRule {kd : Int} : ∀ {rs : List Rule} {r : Rule}, ruleOf kd rs = some r → r ∈ rs
  | [], _, h => by cases h
  | x :: rs, r, h => by
    rw [ruleOf] at h
    split at h
    · injection h with h
      exact h ▸ List.mem_cons_self
    · exact List.mem_cons_of_mem _ (inRule h)
end Go.Proofs.Ytklldniapombiaa

namespace Go.Proofs.Ytklldniapombiaa
set_option maxRecDepth 100000
open Go.RowKit
set_option maxHeartbeats 1000000 in
theorem tbEvts_any (A B : Option Addr) (n m capa capb : Nat) (es fs : List Evt) (w : World) (hn : n ≤ 1000000000) (hE : Evs w A n es) (hF : Evs w B m fs) :
    Calls Try.prog 35 #[.slice A n capa, .slice B m capb] w fun x w' => x = .returned (.bool (decide (es = fs))) ∧ Up w w' := by
  by_cases hnm : n = m
  · subst hnm
    have H0 := Lib.hid (show decide (es.drop 0 = fs.drop 0) = decide (es = fs) from rfl)
    have ST := Lib.hid (eqL_drop es fs (by rw [hE.1, hF.1]))
    have HE := Lib.hid hE
    have HF := Lib.hid hF
    have LE := Lib.hid hE.1
    have LF := Lib.hid hF.1
    have CL := Lib.hid (fun p q W => neq_evt p q W)
    have gd := guard_evt
    generalize hr : decide (es = fs) = res at H0 ⊢
    clear hE hF hr
    go_enter Try.func35, Try.ntmps35
    go_wp2
    go_loopw [5] (fun i wr => (∃ k : Nat, k ≤ n ∧ i = .int .i64 k ∧ decide (es.drop k = fs.drop k) = res) ∧ Up w wr) (fun i _ => n - (intOf i).toNat)
    case atStart => exact ⟨⟨0, by omega, rfl, H0.out⟩, Up.refl _⟩
    case round =>
      obtain ⟨⟨k, hk, rfl, hr⟩, ur⟩ := hrel
      have HR := Lib.hid hr
      clear hr
      by_cases hlt : k < n
      · obtain ⟨b, off, hA, hb, hc⟩ := HE.out.2 (by omega)
        obtain ⟨b2, off2, hA2, hb2, hc2⟩ := HF.out.2 (by omega); subst hA hA2
        have a0 := (hc k hlt).up ur hb
        have a1 := (hc2 k hlt).up ur hb2
        have hb' : b < wr.heap.size := by have := ur.size; omega
        have hb2' : b2 < wr.heap.size := by have := ur.size; omega
        clear hc hc2
        have S := ST.out k (by rw [LE.out]; exact hlt)
        have cl := CL.out (es.getD k default) (fs.getD k default)
        generalize es.getD k default = p at a0 S cl
        generalize fs.getD k default = q at a1 S cl
        have S' := Lib.hid S
        clear S
        generalize eqB p q = r at S' cl
        obtain ⟨pt, pto, pfr, psq, pkd, pdt⟩ := p; obtain ⟨qt, qto, qfr, qsq, qkd, qdt⟩ := q; unfold EvAt at a0 a1; unfold Evt.v at cl; dsimp only at a0 a1 cl; obtain ⟨p0, p1, p2, p3, p4, p5⟩ := a0; obtain ⟨q0, q1, q2, q3, q4, q5⟩ := a1
        have i4 : (k : Int) < n := by omega
        go_wp2; refine region_up (by kernel_rfl) (by kernel_rfl) ?_; refine up_step rfl ?_; apply Exists.intro; refine ⟨fun w1 hw1 => ?_, ?_⟩
        · go_simp
          try rfl
        go_simp; refine up_step rfl ?_; apply Exists.intro; refine ⟨fun w1 hw1 => ?_, ?_⟩
        · go_simp
          try rfl
        go_simp; refine up_step rfl ?_; apply Exists.intro; refine ⟨fun w1 hw1 => ?_, ?_⟩
        · go_simp
          try rfl
        go_simp; refine up_step rfl ?_; apply Exists.intro; refine ⟨fun w1 hw1 => ?_, ?_⟩
        · obtain ⟨hc, hf, hz⟩ := hw1.facts
          try simp at hz
          go_simp
          try rfl
        go_simp; refine up_step rfl ?_; apply Exists.intro; refine ⟨fun w1 hw1 => ?_, ?_⟩
        · go_simp
          try rfl
        go_simp; refine up_step rfl ?_; apply Exists.intro; refine ⟨fun w1 hw1 => ?_, ?_⟩
        · go_simp
          try rfl
        go_simp; refine up_step rfl ?_; apply Exists.intro; refine ⟨fun w1 hw1 => ?_, ?_⟩
        · go_simp
          try rfl
        go_simp; refine up_step rfl ?_; apply Exists.intro; refine ⟨fun w1 hw1 => ?_, ?_⟩
        · obtain ⟨hc, hf, hz⟩ := hw1.facts
          try simp at hz
          go_simp
          try rfl
        go_simp; refine up_step rfl ?_; apply Exists.intro; refine ⟨fun w1 hw1 => ?_, ?_⟩
        · go_simp
          try rfl
        go_simp; refine wpQuiet_nil ?_; intro wA uA; clear i4 p0 p1 p2 p3 p4 p5 q0 q1 q2 q3 q4 q5 cl
        cases r
        · go_wp2
          go_ret
          exact ⟨ret_bool (by rw [← HR.out, S'.out]; rfl), ur.trans uA⟩
        · go_wp2
          go_roundw
          case rel => exact ⟨⟨k + 1, by omega, by go_num, by rw [← HR.out, S'.out]; rfl⟩, ur.trans uA⟩
          case measure => simp [intOf]; omega
      · have e : decide (es.drop k = fs.drop k) = true := by rw [List.drop_eq_nil_of_le (by rw [LE.out]; omega), List.drop_eq_nil_of_le (by rw [LF.out]; omega)]; rfl
        have E := Lib.hid e
        clear e; go_wp2; go_ret
        exact ⟨ret_bool (by rw [← HR.out, E.out]), ur⟩
  · have hf := Lib.hid (show decide (es = fs) = false from decide_eq_false fun h => hnm (by rw [← hE.1, ← hF.1, h]))
    generalize decide (es = fs) = r at hf ⊢
    have hne : ((n : Int) != (m : Int)) = true := by rw [bne_iff_ne]; omega
    have HN := Lib.hid hnm
    clear hE hF hnm
    go_enter Try.func35, Try.ntmps35
    go_wp2; go_ret
    exact ⟨ret_bool hf.out.symm, Up.refl _⟩
end Go.Proofs.Ytklldniapombiaa

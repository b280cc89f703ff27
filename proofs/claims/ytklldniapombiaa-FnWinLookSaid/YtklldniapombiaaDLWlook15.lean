/-
  What impl.CmbLook gives, in one sentence: the least delay of the first component's sends to the second, but at most the end and one, and -1 for a model that is none or a component that does not exist; for every model that lies in memory.
  What impl.WinLook gives, in one sentence: the least delay of all sends, but at most the end and one, and -1 for a model that is none; for every model that lies in memory.
-/
import Derived.Test.YtklldniapombiaaDLWlook14
namespace Go.Proofs.Ytklldniapombiaa
set_option maxRecDepth 100000
open Go.RowKit
theorem RMap.look1 {w : World} {b n : Nat} {f : Int → Int → Option Value} (h : RMap w b n f) (c k : Int) (hc : I64 c) (hk : I64 k) :
    (Instr.lookup 107 (.map (some b)) (.agg #[.int .i64 c, .int .i64 k]) false).run Try.prog w = .ok ((f c k).getD ZRv) w := by
  obtain ⟨D, ho, _, hr⟩ := h; obtain ⟨l, hl⟩ := key_ex c k hc hk; obtain ⟨h1, h2⟩ := hr c k l hl; obtain ⟨v, ps, hrun, hv⟩ := ho.lookup keyLaw Try.underlying107 (zeroRule w) (zd := .held ZRv) (zp := []) rfl hl
  have e : v = (f c k).getD ZRv := by
    rw [h1 (.held ZRv)] at hv; simp only [valR, Option.some.injEq, Prod.mk.injEq] at hv
    cases hf : f c k with
    | none => rw [hf] at hv; simpa using hv.1
    | some u => rw [hf] at hv; simpa using hv.1
  rw [← e]
  exact hrun
/-- A rule looked up without a word whether it is there: its sends, or none. -/
theorem Mach.look1 {w W : World} {b : Nat} {m : Mdl} (h : Mach w b m) (u : Up w W) (c k : Int) (hc : I64 c) (hk : I64 k) (h0 : 0 ≤ c) :
    ∃ kd ra rb rc A n cp ss, (Instr.lookup 107 (.map (some b)) (.agg #[.int .i64 c, .int .i64 k]) false).run Try.prog W = .ok (.agg #[.int .i64 kd, .int .i64 ra, .int .i64 rb, .int .i64 rc, .slice A n cp]) W ∧
      n ≤ 9223372036854775807 ∧ Evs W A n ss ∧ ∀ to l, lkO to l (ruleOf k (m.rules.getD c.toNat [])) = lkS to l ss := by
  obtain ⟨N, f, h1, h2⟩ := h
  have hr := h2 c k
  rw [if_pos h0] at hr
  have hl := (h1.up u).look1 c k hc hk
  cases ho : ruleOf k (m.rules.getD c.toNat []) with
  | none =>
    rw [ho] at hr; unfold RowV at hr; dsimp only at hr; rw [hr] at hl
    exact ⟨0, 0, 0, 0, none, 0, 0, [], hl, by omega, Evs.none_ W, fun _ _ => rfl⟩
  | some r =>
    rw [ho] at hr; obtain ⟨A, n, cp, e, hn, he⟩ := hr; rw [e] at hl
    exact ⟨r.kd, r.a, r.b, r.c, A, n, cp, r.sends, hl, hn, he.up u, fun _ _ => rfl⟩
theorem neverL_any (mb : Option Nat) (many til : Int) (w : World) (h0 : 0 ≤ til ∧ til ≤ 99) :
    Calls Try.prog 120 #[.agg #[.map mb, .int .i64 many, .int .i64 til]] w fun x w' => x = .returned (.int .i64 (til + 1)) ∧ Up w w' := by
  have i1 : IntKind.i64.wrap (til + 1) = til + 1 := IntWalk.i64_in _ (by omega)
  go_enter Try.func120, Try.ntmps120
  go_wp2; go_ret
  exact ⟨rfl, (Up.refl w).alloc _⟩
set_option maxHeartbeats 4000000 in
theorem look_any (mb : Nat) (many : Int) (m : Mdl) (fr to : Int) (w : World) (hM : Mach w mb m) (hm : mdlB m = true) (h0 : 0 ≤ fr) (h1 : fr < m.rules.length) :
    Calls Try.prog 74 #[.agg #[.map (some mb), .int .i64 many, .int .i64 m.til], .int .i64 fr, .int .i64 to] w fun x w' => x = .returned (.int .i64 (lkR to (m.til + 1) (m.rules.getD fr.toNat []))) ∧ Up w w' := by
  have few := mdlB_few hm
  have RB := Lib.hid (mdlB_row hm fr.toNat (by omega))
  have HM := Lib.hid hM
  have TL := mdlB_til hm
  have CN := Lib.hid (fun W => neverL_any (some mb) many m.til W TL)
  have LK := Lib.hid (fun W (u : Up w W) q (hq : 0 ≤ q ∧ q ≤ 2) => HM.out.look1 u fr q (by unfold I64; omega) (by unfold I64; omega) h0)
  have TG := Lib.hid (lkU_lkR (many := m.rules.length) (to := to) 3 0 (m.til + 1) (m.rules.getD fr.toNat []) RB.out (by omega))
  generalize m.rules.getD fr.toNat [] = rs at RB LK TG ⊢
  generalize lkR to (m.til + 1) rs = R at TG ⊢
  generalize m.til = til at *
  have X2 := Lib.hid (Box3.new w (.map (some mb)) (.int .i64 many) (.int .i64 til) 109)
  have U0 := Lib.hid ((Up.refl w).alloc (.cells #[.map (some mb), .int .i64 many, .int .i64 til] 109))
  clear hM hm RB
  go_enter Try.func74, Try.ntmps74
  go_wp2_with fail
  refine (CN.out _).mono ?_; rintro x w1 ⟨rfl, u1⟩
  have U1 := Lib.hid (U0.out.trans u1)
  have X2 := Lib.hid (X2.out.up u1)
  clear u1 U0 CN; go_wp2
  go_loopw [7, 13] (fun l i wr => (∃ (q : Nat) (z : Int), q ≤ 3 ∧ i = .int .i64 q ∧ l = .int .i64 z ∧ Hid (lkU to (3 - q) q z rs = R)) ∧ Up w1 wr) (fun _ i _ => 3 - (intOf i).toNat)
  case atStart => exact ⟨⟨0, til + 1, by omega, rfl, rfl, TG⟩, Up.refl _⟩
  case round =>
    obtain ⟨⟨q, z, hq, rfl, rfl, HT⟩, ur⟩ := hrel
    have UR := Lib.hid ur
    have x2 := X2.out.up ur
    obtain ⟨q0, q1, q2⟩ := And.intro x2.c0 (And.intro x2.c1 x2.c2)
    have lt2_ := x2.lt
    clear ur x2
    by_cases hlt : q < 3
    · obtain ⟨kd, ra, rb, rc, A, n, cp, ss, hrun, hn, he, hlk⟩ := LK.out wr (U1.out.trans UR.out) q (by omega)
      have HE := Lib.hid he
      have HS := Lib.hid (hlk to z)
      have i4 : (q : Int) < 3 := by omega
      have ST := Lib.hid (show lkU to (3 - (q + 1)) ((q + 1 : Nat) : Int) (lkS to z ss) rs = R by
        have := HT.out
        rw [show 3 - q = (3 - (q + 1)) + 1 by omega, lkU_step, HS.out] at this; rw [← this]
        congr 1)
      clear he hlk HT HS
      have FL := fun W : World => (show (Instr.field 166 (.agg #[.int .i64 kd, .int .i64 ra, .int .i64 rb, .int .i64 rc, .slice A n cp]) 4).run Try.prog W = .ok (.slice A n cp) W from rfl)
      go_wp2; clear q0 q1 q2 lt2_ hrun
      have H0 := Lib.hid (show lkS to z (ss.drop 0) = lkS to z ss from rfl)
      generalize lkS to z ss = S at ST H0
      go_loopw [7, 24] (fun l i wj => (∃ (p : Nat) (y : Int), p ≤ n ∧ i = .int .i64 p ∧ l = .int .i64 y ∧ Hid (lkS to y (ss.drop p) = S)) ∧ Up wr wj) (fun _ i _ => n - (intOf i).toNat)
      case atStart => exact ⟨⟨0, z, by omega, rfl, rfl, H0⟩, Up.refl _⟩
      case round =>
        obtain ⟨⟨p, y, hp, rfl, rfl, HY⟩, uj⟩ := hrel
        have UJ := Lib.hid uj
        have ee := HE.out.up uj
        clear uj
        by_cases hlp : p < n
        · obtain ⟨b, off, hA, hb, hc⟩ := ee.2 (by omega)
          subst hA
          have a0 := hc p hlp
          have DR := Lib.hid (lkS_drop to y ss p (by rw [ee.1]; exact hlp))
          clear hc ee
          generalize ss.getD p default = e at a0 DR
          obtain ⟨et, eto, efr, esq, ekd, edt⟩ := e; unfold EvAt at a0; dsimp only at a0 DR; obtain ⟨p0, p1, p2, p3, p4, p5⟩ := a0
          have i4 : (p : Int) < n := by omega
          have UX := Lib.hid (UJ.out.alloc (.cells #[.int .i64 et, .int .i64 eto, .int .i64 efr, .int .i64 esq, .int .i64 ekd, .int .i64 edt] 168))
          by_cases hto : et = to
          · have HZ := Lib.hid (show lkS to (min y eto) (ss.drop (p + 1)) = S by rw [← HY.out, DR.out, if_pos hto])
            subst hto
            by_cases hmin : y ≤ eto
            · rw [show min y eto = y by omega] at HZ
              go_wp2
              go_roundw
              case rel => exact ⟨⟨p + 1, y, by omega, by go_num, rfl, HZ⟩, UX.out⟩
              case measure => simp [intOf]; omega
            · rw [show min y eto = eto by omega] at HZ
              go_wp2
              go_roundw
              case rel => exact ⟨⟨p + 1, eto, by omega, by go_num, by rw [if_pos (by omega)], HZ⟩, UX.out⟩
              case measure => simp [intOf]; omega
          · have HZ := Lib.hid (show lkS to y (ss.drop (p + 1)) = S by rw [← HY.out, DR.out, if_neg hto])
            go_wp2
            go_roundw
            case rel => exact ⟨⟨p + 1, y, by omega, by go_num, rfl, HZ⟩, UX.out⟩
            case measure => simp [intOf]; omega
        · have EN := lkS_end to y ss p (by rw [ee.1]; omega)
          rw [HY.out] at EN; subst EN
          have i4 : ¬ (p : Int) < n := by omega
          go_wp2
          go_roundw
          case rel => exact ⟨⟨q + 1, S, by omega, by go_num, rfl, ST⟩, UR.out.trans UJ.out⟩
          case measure => simp [intOf]; omega
    · obtain rfl : q = 3 := by omega
      have hz : z = R := by have := HT.out; rw [show 3 - 3 = 0 by omega, lkU_zero] at this; exact this
      subst hz; go_wp2; go_ret
      exact ⟨rfl, U1.out.trans UR.out⟩
set_option maxHeartbeats 4000000 in
theorem implLook_any (A : Option Addr) (n c : Nat) (B : Option Addr) (k d : Nat) (m : Mdl) (fr to : Int) (w : World) (h : MdlV w A n B k m) :
    Calls Try.prog 23 #[.agg #[.slice A n c, .slice B k d, .int .i64 m.til], .int .i64 fr, .int .i64 to] w fun x w' => x = .returned (.int .i64 (lookV m fr to)) ∧ Up w w' := by
  have CM := Lib.hid (fun W (u : Up w W) => newMachine_any A n c B k d m W (h.up u))
  have U0 := Lib.hid ((Up.refl w).alloc (.cells #[.slice A n c, .slice B k d, .int .i64 m.til] 36))
  unfold MachPost at CM
  go_enter Try.func23, Try.ntmps23
  go_wp2_with fail
  refine (CM.out _ U0.out).mono ?_; rintro x w1 ⟨u1, ⟨hm, rfl⟩ | ⟨hm, mb, rfl, hb, hM⟩⟩
  · have U1 := Lib.hid (U0.out.trans u1)
    have LV := Lib.hid (show lookV m fr to = -1 by unfold lookV; rw [hm]; rfl)
    have UE := Lib.hid (U1.out.alloc (.cells #[.map none, .int .i64 0, .int .i64 0] 109))
    go_wp2; go_ret
    exact ⟨congrArg (fun z => Ending.returned (.int .i64 z)) LV.out.symm, UE.out⟩
  · have U1 := Lib.hid (U0.out.trans u1)
    have few := mdlB_few hm
    have HM := Lib.hid hM
    have LV := Lib.hid (show lookV m fr to = if inB fr 0 ((m.rules.length : Int) - 1) && inB to 0 ((m.rules.length : Int) - 1) then lkR to (m.til + 1) (m.rules.getD fr.toNat []) else -1 by unfold lookV; rw [hm]; rfl)
    have CK := Lib.hid (fun W (u : Up w1 W) (h0 : 0 ≤ fr) (h1 : fr < m.rules.length) => look_any mb m.rules.length m fr to W (HM.out.up u) hm h0 h1)
    have IN := Lib.hid (inB_iff (n := fr) (lo := 0) (hi := (m.rules.length : Int) - 1))
    generalize m.rules.length = many at few LV CK IN ⊢
    have CF := Lib.hid (fun W => within_any fr 0 ((many : Int) - 1) W)
    have CT := Lib.hid (fun W => within_any to 0 ((many : Int) - 1) W)
    have i1 : IntKind.i64.wrap ((many : Int) - 1) = (many : Int) - 1 := IntWalk.i64_in _ (by omega)
    generalize inB to 0 ((many : Int) - 1) = b2 at LV CT
    generalize inB fr 0 ((many : Int) - 1) = b1 at LV CF IN
    generalize hR : lkR to (m.til + 1) (m.rules.getD fr.toNat []) = R at LV CK
    have UE := Lib.hid (U1.out.alloc (.cells #[.map (some mb), .int .i64 many, .int .i64 m.til] 109))
    have UF := Lib.hid ((Up.refl w1).alloc (.cells #[.map (some mb), .int .i64 many, .int .i64 m.til] 109))
    clear u1 hm hM hb CM h
    cases b1
    · go_wp2_with fail
      refine (CF.out _).mono ?_; rintro x w2 ⟨rfl, rfl⟩; go_wp2; go_ret
      exact ⟨congrArg (fun z => Ending.returned (.int .i64 z)) LV.out.symm, UE.out⟩
    · have INF := Lib.hid (IN.out.1 rfl)
      cases b2
      · go_wp2_with fail
        refine (CF.out _).mono ?_; rintro x w2 ⟨rfl, rfl⟩
        go_wp2_with fail
        refine (CT.out _).mono ?_; rintro x w2 ⟨rfl, rfl⟩; go_wp2; go_ret
        exact ⟨congrArg (fun z => Ending.returned (.int .i64 z)) LV.out.symm, UE.out⟩
      · go_wp2_with fail
        refine (CF.out _).mono ?_; rintro x w2 ⟨rfl, rfl⟩
        go_wp2_with fail
        refine (CT.out _).mono ?_; rintro x w2 ⟨rfl, rfl⟩
        go_wp2_with fail
        refine (CK.out _ UF.out (by have := INF.out; omega) (by have := INF.out; omega)).mono ?_; rintro x w2 ⟨rfl, u2⟩; go_wp2; go_ret
        exact ⟨congrArg (fun z => Ending.returned (.int .i64 z)) LV.out.symm, UE.out.trans u2⟩
end Go.Proofs.Ytklldniapombiaa

namespace Go.Proofs.Ytklldniapombiaa
set_option maxRecDepth 100000
open Go.RowKit
set_option maxHeartbeats 4000000 in
theorem leastLook_any (mb : Nat) (m : Mdl) (w : World) (hM : Mach w mb m) (hm : mdlB m = true) :
    Calls Try.prog 67 #[.agg #[.map (some mb), .int .i64 m.rules.length, .int .i64 m.til]] w fun x w' => x = .returned (.int .i64 (winL m)) ∧ Up w w' := by
  have few := mdlB_few hm
  have HM := Lib.hid hM
  have TL := mdlB_til hm
  have CN := Lib.hid (fun W => neverL_any (some mb) m.rules.length m.til W TL)
  have CK := Lib.hid (fun W (u : Up w W) (fr to : Nat) (h1 : fr < m.rules.length) => show Calls Try.prog 74 #[.agg #[.map (some mb), .int .i64 m.rules.length, .int .i64 m.til], .int .i64 fr, .int .i64 to] W (fun x w' => x = .returned (.int .i64 (lkM m fr to)) ∧ Up W w') from look_any mb m.rules.length m fr to W (HM.out.up u) hm (by omega) (by omega))
  unfold winL
  generalize lkM m = g at CK ⊢
  clear HM hM hm
  generalize m.rules.length = N at *
  generalize m.til = til at *
  obtain ⟨R, hR⟩ : ∃ R, R = wiV g N N 0 (til + 1) := ⟨_, rfl⟩; rw [← hR]
  have TG := Lib.hid (show wiV g N (N - 0) 0 (til + 1) = R from hR.symm)
  clear hR
  have X2 := Lib.hid (Box3.new w (.map (some mb)) (.int .i64 N) (.int .i64 til) 109)
  have U0 := Lib.hid ((Up.refl w).alloc (.cells #[.map (some mb), .int .i64 N, .int .i64 til] 109))
  go_enter Try.func67, Try.ntmps67
  go_wp2_with fail
  refine (CN.out _).mono ?_; rintro x w1 ⟨rfl, u1⟩
  have U1 := Lib.hid (U0.out.trans u1)
  have X2 := Lib.hid (X2.out.up u1)
  clear u1 U0 CN; obtain ⟨q0, q1, q2⟩ := And.intro X2.out.c0 (And.intro X2.out.c1 X2.out.c2)
  have lt2_ := X2.out.lt
  go_wp2; clear q0 q1 q2 lt2_
  go_loopw [3, 10] (fun l i wr => (∃ (q : Nat) (z : Int), q ≤ N ∧ i = .int .i64 q ∧ l = .int .i64 z ∧ Hid (wiV g N (N - q) q z = R)) ∧ Up w1 wr) (fun _ i _ => N - (intOf i).toNat)
  case atStart => exact ⟨⟨0, til + 1, by omega, rfl, rfl, TG⟩, Up.refl _⟩
  case round =>
    obtain ⟨⟨q, z, hq, rfl, rfl, HT⟩, ur⟩ := hrel; obtain ⟨wo, hwo⟩ : ∃ W, W = wr := ⟨_, rfl⟩; subst hwo
    have UR := Lib.hid ur
    have X3 := Lib.hid (X2.out.up ur)
    clear ur
    by_cases hlt : q < N
    · have i4 : (q : Int) < N := by omega
      have ST := Lib.hid (show wiV g N (N - (q + 1)) (q + 1) (wjV g q N 0 z) = R by rw [← HT.out, wiV_at hlt])
      obtain ⟨S, hS⟩ : ∃ S, S = wjV g q N 0 z := ⟨_, rfl⟩; rw [← hS] at ST
      have H0 := Lib.hid (show wjV g q (N - 0) 0 z = S from hS.symm)
      clear hS; obtain ⟨q0, q1, q2⟩ := And.intro X3.out.c0 (And.intro X3.out.c1 X3.out.c2)
      have lt2_ := X3.out.lt
      clear HT; go_wp2; clear q0 q1 q2 lt2_
      go_loopw [3, 15] (fun l i wj => (∃ (p : Nat) (y : Int), p ≤ N ∧ i = .int .i64 p ∧ l = .int .i64 y ∧ Hid (wjV g q (N - p) p y = S)) ∧ Up wo wj) (fun _ i _ => N - (intOf i).toNat)
      case atStart => exact ⟨⟨0, z, by omega, rfl, rfl, H0⟩, Up.refl _⟩
      case round =>
        obtain ⟨⟨p, y, hp, rfl, rfl, HY⟩, uj⟩ := hrel
        have UJ := Lib.hid uj
        have x4 := X3.out.up uj
        clear uj
        by_cases hlp : p < N
        · have i5 : (p : Int) < N := by omega
          have C := Lib.hid (fun W (u : Up w W) => CK.out W u q p hlt)
          have HZ := Lib.hid (show wjV g q (N - (p + 1)) (p + 1) (min y (g q p)) = S by rw [← HY.out, wjV_at hlp])
          generalize g q p = e at C HZ
          obtain ⟨q0, q1, q2⟩ := And.intro x4.c0 (And.intro x4.c1 x4.c2)
          have lt2_ := x4.lt
          clear HY CK
          go_wp2_with fail
          refine (C.out _ ((U1.out.trans UR.out).trans UJ.out)).mono ?_; rintro x w5 ⟨rfl, u5⟩
          have UX := Lib.hid (UJ.out.trans u5)
          clear q0 q1 q2 lt2_ x4 u5 C
          by_cases hmin : y ≤ e
          · rw [show min y e = y by omega] at HZ
            go_wp2
            go_roundw
            case rel => exact ⟨⟨p + 1, y, by omega, by go_num, rfl, HZ⟩, UX.out⟩
            case measure => simp [intOf]; omega
          · rw [show min y e = e by omega] at HZ
            go_wp2
            go_roundw
            case rel => exact ⟨⟨p + 1, e, by omega, by go_num, by first | rfl | rw [if_pos (by omega)], HZ⟩, UX.out⟩
            case measure => simp [intOf]; omega
        · have EN := HY.out
          rw [wjV_end (by omega)] at EN; subst EN
          have i5 : ¬ (p : Int) < N := by omega
          clear x4; go_wp2
          go_roundw
          case rel => exact ⟨⟨q + 1, y, by omega, by go_num, rfl, ST⟩, UR.out.trans UJ.out⟩
          case measure => simp [intOf]; omega
    · have EN := HT.out
      rw [wiV_end (by omega)] at EN; subst EN
      have i4 : ¬ (q : Int) < N := by omega
      go_wp2; go_ret
      exact ⟨rfl, U1.out.trans UR.out⟩
set_option maxHeartbeats 4000000 in
theorem implWin_any (A : Option Addr) (n c : Nat) (B : Option Addr) (k d : Nat) (m : Mdl) (w : World) (h : MdlV w A n B k m) :
    Calls Try.prog 20 #[.agg #[.slice A n c, .slice B k d, .int .i64 m.til]] w fun x w' => x = .returned (.int .i64 (winV m)) ∧ Up w w' := by
  have CM := Lib.hid (fun W (u : Up w W) => newMachine_any A n c B k d m W (h.up u))
  have U0 := Lib.hid ((Up.refl w).alloc (.cells #[.slice A n c, .slice B k d, .int .i64 m.til] 36))
  unfold MachPost at CM
  go_enter Try.func20, Try.ntmps20
  go_wp2_with fail
  refine (CM.out _ (by first | exact U0.out | exact Up.refl _)).mono ?_; rintro x w1 ⟨u1, ⟨hm, rfl⟩ | ⟨hm, mb, rfl, hb, hM⟩⟩
  · have U1 := Lib.hid (show Up w w1 from by first | exact U0.out.trans u1 | exact u1)
    have LV := Lib.hid (show winV m = -1 by unfold winV; rw [hm]; rfl)
    have UE := Lib.hid (U1.out.alloc (.cells #[.map none, .int .i64 0, .int .i64 0] 109))
    go_wp2; go_ret
    exact ⟨congrArg (fun z => Ending.returned (.int .i64 z)) LV.out.symm, by first | exact UE.out | exact U1.out⟩
  · have U1 := Lib.hid (show Up w w1 from by first | exact U0.out.trans u1 | exact u1)
    have HM := Lib.hid hM
    have LV := Lib.hid (show winV m = winL m by unfold winV; rw [hm]; rfl)
    have CK := Lib.hid (fun W (u : Up w1 W) => leastLook_any mb m W (HM.out.up u) hm)
    generalize winL m = R at LV CK
    generalize m.rules.length = many at *
    have UE := Lib.hid (U1.out.alloc (.cells #[.map (some mb), .int .i64 many, .int .i64 m.til] 109))
    have UF := Lib.hid ((Up.refl w1).alloc (.cells #[.map (some mb), .int .i64 many, .int .i64 m.til] 109))
    clear u1 hm hM hb CM h
    go_wp2_with fail
    refine (CK.out _ (by first | exact UF.out | exact Up.refl _)).mono ?_; rintro x w2 ⟨rfl, u2⟩
    have UG := Lib.hid (show Up w w2 from by first | exact UE.out.trans u2 | exact U1.out.trans u2)
    go_wp2; go_ret
    exact ⟨congrArg (fun z => Ending.returned (.int .i64 z)) LV.out.symm, UG.out⟩
end Go.Proofs.Ytklldniapombiaa

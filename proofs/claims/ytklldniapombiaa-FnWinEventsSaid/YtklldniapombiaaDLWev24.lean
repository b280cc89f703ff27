/-
  What process returns, in one sentence: the component's new state and what it sends, in a new block; for every machine that holds a model's rules and every event that it takes.
  What the sequential simulator's state returns, in one sentence: its component list and its log as they lie, and its pending events in order in a row of the call's own; for every simulator that lies in memory.
  What a step of the sequential simulator does, in one sentence: the first event is taken, the component's state is replaced, what it sends joins the heap, and the log has one record more; for every simulator with pending events.
-/
import Derived.Lib.AppendZeros
import Derived.RegionTactic
import Derived.Test.YtklldniapombiaaDLWev01
import Derived.Test.YtklldniapombiaaDLWev03
import Derived.Test.YtklldniapombiaaDLWev09
import Derived.Test.YtklldniapombiaaDLWev14
import Derived.Test.YtklldniapombiaaDLWev16
import Derived.Test.YtklldniapombiaaDLWev17
import Derived.Test.YtklldniapombiaaDLWev20
import Derived.Test.YtklldniapombiaaDLWev21
import Derived.Test.YtklldniapombiaaDLWev22
import Derived.Test.YtklldniapombiaaDLWev23
namespace Go.Proofs.Ytklldniapombiaa
set_option maxRecDepth 100000
open Go.RowKit
/-- The new state, and the sent events in a block of the call's own. -/
def ProcPost (m : Mdl) (s : Cst) (e : Evt) (w : World) (x : Ending) (w' : World) : Prop :=
  ∃ v, x = .returned (.tuple #[(doE m s e).1.v, v]) ∧ w'.ownsRow w.heap.size 74 6 v (doE m s e).2.length (flat (doE m s e).2) ∧ Up w w'
set_option maxHeartbeats 40000000 in
theorem process_any (mb : Nat) (many : Int) (m : Mdl) (s : Cst) (e : Evt) (w : World) (hM : Mach w mb m) (hok : mayB m s e = true) :
    Calls Try.prog 94 #[.agg #[.map (some mb), .int .i64 many, .int .i64 m.til], s.v, e.v] w (ProcPost m s e w) := by
  obtain ⟨i0, hi0, hz0, hz1, hz2⟩ := info_parts info74
  have INF := Lib.hid (And.intro hi0 (And.intro hz0 (And.intro hz1 hz2)))
  have SIX := Lib.hid (show 0 < 6 by omega)
  clear hi0 hz0 hz1 hz2; obtain ⟨rss, es, til⟩ := m; obtain ⟨ss, sq, st⟩ := s; obtain ⟨et, eto, efr, esq, ekd, edt⟩ := e; simp only [mayB, cstB, okB, Bool.and_eq_true, inB_iff, decide_eq_true_eq] at hok; obtain ⟨⟨⟨hmd, hcs⟩, hev⟩, htl⟩ := hok; dsimp only at hcs hev htl ⊢
  have MB := Lib.hid hmd
  have few := mdlB_few hmd
  dsimp only at few
  have hto : eto.toNat < rss.length := by omega
  have hto0 : 0 ≤ eto := by omega
  have UW := Lib.hid (((((Up.refl w).alloc (.cells #[.map (some mb), .int .i64 many, .int .i64 til] 109)).alloc (.cells #[.int .i64 ss, .int .i64 sq, .int .i64 (wrap64 (st + 1))] 76)).alloc (.cells #[.int .i64 et, .int .i64 eto, .int .i64 efr, .int .i64 esq, .int .i64 ekd, .int .i64 edt] 74)).alloc (.cells #[.int .i64 0, .int .i64 0, .int .i64 0] 76))
  have LK := Lib.hid (hM.look UW.out eto ekd (by unfold I64; omega) (by unfold I64; omega) hto0)
  dsimp only at LK
  have X3 := Lib.hid ((((Box3.new w (.map (some mb)) (.int .i64 many) (.int .i64 til) 109).up ((Up.refl _).alloc (.cells #[.int .i64 ss, .int .i64 sq, .int .i64 (wrap64 (st + 1))] 76))).up ((Up.refl _).alloc (.cells #[.int .i64 et, .int .i64 eto, .int .i64 efr, .int .i64 esq, .int .i64 ekd, .int .i64 edt] 74))).up ((Up.refl _).alloc (.cells #[.int .i64 0, .int .i64 0, .int .i64 0] 76)))
  have X4 := Lib.hid (((Cell3.new (w.alloc (.cells #[.map (some mb), .int .i64 many, .int .i64 til] 109)) ss sq (wrap64 (st + 1)) 76).mv ((Up.refl _).alloc (.cells #[.int .i64 et, .int .i64 eto, .int .i64 efr, .int .i64 esq, .int .i64 ekd, .int .i64 edt] 74) |>.mv 0) (by simp)).mv ((Up.refl _).alloc (.cells #[.int .i64 0, .int .i64 0, .int .i64 0] 76) |>.mv 0) (by simp))
  have X5 := Lib.hid ((Box.new ((w.alloc (.cells #[.map (some mb), .int .i64 many, .int .i64 til] 109)).alloc (.cells #[.int .i64 ss, .int .i64 sq, .int .i64 (wrap64 (st + 1))] 76)) ⟨et, eto, efr, esq, ekd, edt⟩ 74).up ((Up.refl _).alloc (.cells #[.int .i64 0, .int .i64 0, .int .i64 0] 76)))
  have X6 := Lib.hid (Cell3.new (((w.alloc (.cells #[.map (some mb), .int .i64 many, .int .i64 til] 109)).alloc (.cells #[.int .i64 ss, .int .i64 sq, .int .i64 (wrap64 (st + 1))] 76)).alloc (.cells #[.int .i64 et, .int .i64 eto, .int .i64 efr, .int .i64 esq, .int .i64 ekd, .int .i64 edt] 74)) 0 0 0 76)
  simp only [World.size_alloc] at X4 X5 X6
  have hct0 : IntKind.i64.wrap (st + 1) = wrap64 (st + 1) := IntWalk.i64_left _
  have HCT := Lib.hid hct0
  have HMB := Lib.hid hM
  clear hM hct0 hmd; unfold Cst.v Evt.v; unfold ProcPost
  rcases LK.out with ⟨hno, hrun⟩ | ⟨RU, As, ns, cs, hyes, hns, hev3, hrun⟩
  · have DE := Lib.hid (show doE ⟨rss, es, til⟩ ⟨ss, sq, st⟩ ⟨et, eto, efr, esq, ekd, edt⟩ = (⟨ss, sq, wrap64 (st + 1)⟩, []) by
      unfold doE; dsimp only; rw [hno]; dsimp only
      rw [HCT.out])
    clear hno LK
    go_enter Try.func94, Try.ntmps94
    go_wp2
    exact bodyPost_ret (v := .tuple #[.agg #[.int .i64 ss, .int .i64 sq, .int .i64 (wrap64 (st + 1))], .slice none 0 0]) (by simp [results, Try.results94, go_sem]) rfl (by
      rw [DE.out]
      exact ⟨.slice none 0 0, rfl, ⟨rfl, .inl ⟨rfl, rfl⟩⟩, (((((Up.refl w).alloc _).alloc _).alloc _).alloc _).alloc _⟩)
  · have hrb := mdlB_rule (m := ⟨rss, es, til⟩) (i := eto.toNat) (kd := ekd) MB.out (by dsimp only; omega) hyes
    obtain ⟨hsn, hlen, hra, hrb', hrc⟩ := ruleB_parts hrb
    have htl2 := mdlB_til MB.out
    dsimp only at htl2 hsn
    have SN := Lib.hid (fun i hi => sndB_parts (hsn i hi))
    have E3 := Lib.hid hev3
    have hns2 : ns ≤ 2 := by have := hev3.1; omega
    have NX := Lib.hid (fun W => next_any RU (.slice As ns cs) ss edt hra hrb' hrc hcs.1.1 hev.2 W ns cs As rfl)
    have hS1 : 0 ≤ (RU.a * ss + RU.b * edt + RU.c) % 97 ∧ (RU.a * ss + RU.b * edt + RU.c) % 97 ≤ 96 := by omega
    have TG0 := Lib.hid (show doE ⟨rss, es, til⟩ ⟨ss, sq, st⟩ ⟨et, eto, efr, esq, ekd, edt⟩ = (⟨(RU.a * ss + RU.b * edt + RU.c) % 97, ([] ++ (sendsE til ((RU.a * ss + RU.b * edt + RU.c) % 97) ⟨et, eto, efr, esq, ekd, edt⟩ (RU.sends.drop 0) sq).1, (sendsE til ((RU.a * ss + RU.b * edt + RU.c) % 97) ⟨et, eto, efr, esq, ekd, edt⟩ (RU.sends.drop 0) sq).2).2, wrap64 (st + 1)⟩, ([] ++ (sendsE til ((RU.a * ss + RU.b * edt + RU.c) % 97) ⟨et, eto, efr, esq, ekd, edt⟩ (RU.sends.drop 0) sq).1, (sendsE til ((RU.a * ss + RU.b * edt + RU.c) % 97) ⟨et, eto, efr, esq, ekd, edt⟩ (RU.sends.drop 0) sq).2).1) by
      unfold doE; dsimp only; rw [hyes]; dsimp only; rw [HCT.out]
      rfl)
    have UR0 := Lib.hid (UW.out.alloc (.cells #[.int .i64 RU.kd, .int .i64 RU.a, .int .i64 RU.b, .int .i64 RU.c, .slice As ns cs] 166))
    have Y3 := Lib.hid (X3.out.up ((Up.refl _).alloc (.cells #[.int .i64 RU.kd, .int .i64 RU.a, .int .i64 RU.b, .int .i64 RU.c, .slice As ns cs] 166)))
    have Y4 := Lib.hid (X4.out.mv ((Up.refl _).alloc (.cells #[.int .i64 RU.kd, .int .i64 RU.a, .int .i64 RU.b, .int .i64 RU.c, .slice As ns cs] 166) |>.mv 0) (by simp))
    have Y5 := Lib.hid (X5.out.up ((Up.refl _).alloc (.cells #[.int .i64 RU.kd, .int .i64 RU.a, .int .i64 RU.b, .int .i64 RU.c, .slice As ns cs] 166)))
    have Y6 := Lib.hid (X6.out.mv ((Up.refl _).alloc (.cells #[.int .i64 RU.kd, .int .i64 RU.a, .int .i64 RU.b, .int .i64 RU.c, .slice As ns cs] 166) |>.mv 0) (by simp))
    have Y9 := Lib.hid (Box5.new ((((w.alloc (.cells #[.map (some mb), .int .i64 many, .int .i64 til] 109)).alloc (.cells #[.int .i64 ss, .int .i64 sq, .int .i64 (wrap64 (st + 1))] 76)).alloc (.cells #[.int .i64 et, .int .i64 eto, .int .i64 efr, .int .i64 esq, .int .i64 ekd, .int .i64 edt] 74)).alloc (.cells #[.int .i64 0, .int .i64 0, .int .i64 0] 76)) (.int .i64 RU.kd) (.int .i64 RU.a) (.int .i64 RU.b) (.int .i64 RU.c) (.slice As ns cs) 166)
    simp only [World.size_alloc] at Y9; clear hyes hev3 hrb hsn hra hrb' hrc LK; unfold Rule.v at NX
    go_enter Try.func94, Try.ntmps94
    go_wp2_with fail
    generalize hb3 : w.heap.size = b3 at *
    generalize hb4 : b3 + 1 = b4 at *
    generalize hb5 : b4 + 1 = b5 at *
    generalize hb6 : b5 + 1 = b6 at *
    generalize hb9 : b6 + 1 = b9 at *
    refine (NX.out _).mono ?_; rintro x w1 ⟨rfl, u1⟩
    have UW := Lib.hid (UR0.out.trans u1)
    have Y3 := Lib.hid (Y3.out.up u1)
    have Y4 := Lib.hid (Y4.out.up u1)
    have Y5 := Lib.hid (Y5.out.up u1)
    have Y6 := Lib.hid (Y6.out.up u1)
    have y9 := Y9.out.up u1
    have Y9 := Lib.hid (show Laid5 w1 b9 _ _ _ _ _ from ⟨y9.lt, y9.c0, y9.c1, y9.c2, y9.c3, y9.c4⟩)
    clear u1 y9 hrun X3 X4 X5 X6 UR0 NX
    have c4 := Y4.out.set0 ((RU.a * ss + RU.b * edt + RU.c) % 97)
    have KP := Lib.hid ((Kept.mk Y3.out Y4.out Y5.out Y6.out Y9.out).set4 (by omega) (by omega) (by omega) (by omega) c4)
    have UP1 := Lib.hid (UW.out.setCell (p := ⟨b4, 0, none⟩) (by dsimp only; omega) (.int .i64 ((RU.a * ss + RU.b * edt + RU.c) % 97)))
    obtain ⟨p0, p1, p2⟩ := And.intro Y4.out.c0 (And.intro Y4.out.c1 Y4.out.c2)
    have pf := Y4.out.f
    obtain ⟨lL, z0, z1, z2, z3, z4⟩ := Y9.out
    have l4 := Y4.out.lt
    have n49 : b9 ≠ b4 := by omega
    generalize hs1 : (RU.a * ss + RU.b * edt + RU.c) % 97 = S1 at hS1 TG0 KP UP1 c4 ⊢
    clear hs1 c4 Y3 Y4 Y5 Y6 Y9; go_wp2; clear p0 p1 p2 pf lL z0 z1 z2 z3 z4 l4
    have hb7 : b9 < b9 + 1 := by omega
    have SZ := Lib.hid (show b9 + 1 ≤ (w1.setCell ⟨b4, 0, none⟩ (.int .i64 S1)).heap.size by have := KP.out.k9.1; omega)
    have OW1 := Lib.hid (show (w1.setCell ⟨b4, 0, none⟩ (.int .i64 S1)).ownsRow (b9 + 1) 74 6 (.slice none 0 0) ([] : List Evt).length (flat []) from ⟨rfl, .inl ⟨rfl, rfl⟩⟩)
    generalize w1.setCell ⟨b4, 0, none⟩ (.int .i64 S1) = W1 at KP UP1 OW1 SZ ⊢
    go_loopw [10, 42] (fun v i wr => (∃ (q : Nat) (acc : List Evt) (q' : Int), q ≤ ns ∧ i = .int .i64 q ∧ 0 ≤ q' ∧ q' ≤ 12 ∧ acc.length ≤ q ∧
      Hid (doE ⟨rss, es, til⟩ ⟨ss, sq, st⟩ ⟨et, eto, efr, esq, ekd, edt⟩ = (⟨S1, (sendsE til S1 ⟨et, eto, efr, esq, ekd, edt⟩ (RU.sends.drop q) q').2, wrap64 (st + 1)⟩, acc ++ (sendsE til S1 ⟨et, eto, efr, esq, ekd, edt⟩ (RU.sends.drop q) q').1)) ∧
      Hid (wr.ownsRow (b9 + 1) 74 6 v acc.length (flat acc)) ∧ Hid (Kept wr b3 b4 b5 b6 b9 (.map (some mb)) (.int .i64 many) (.int .i64 til) S1 q' (wrap64 (st + 1)) ⟨et, eto, efr, esq, ekd, edt⟩ (.int .i64 RU.kd) (.int .i64 RU.a) (.int .i64 RU.b) (.int .i64 RU.c) (.slice As ns cs))) ∧ Up w wr) (fun _ i _ => ns - (intOf i).toNat)
    case atStart => exact ⟨⟨0, [], sq, by omega, rfl, by omega, by omega, by simp, TG0, OW1, KP⟩, UP1.out⟩
    case round =>
      obtain ⟨⟨q, acc, q', hq, rfl, hq0, hq12, hacc, TG, HOW, KP⟩, ur⟩ := hrel
      have UR := Lib.hid ur
      obtain ⟨p0, p1, p2⟩ := And.intro KP.out.k4.c0 (And.intro KP.out.k4.c1 KP.out.k4.c2)
      have pl := KP.out.k4.lt
      have pf := KP.out.k4.f
      clear ur
      by_cases hlt : q < ns
      · obtain ⟨bS, oS, hAS, hbS, hcS⟩ := (E3.out.up UR.out).2 (by omega)
        subst hAS
        have a0 := hcS q hlt
        have SD := sendsE_drop til S1 ⟨et, eto, efr, esq, ekd, edt⟩ RU.sends q q' (by rw [E3.out.1]; exact hlt)
        have SQ := SN.out q (by rw [E3.out.1]; exact hlt)
        clear hcS
        generalize RU.sends.getD q default = x at a0 SD SQ
        obtain ⟨xt, xto, xfr, xsq, xkd, xdt⟩ := x; unfold EvAt at a0; dsimp only at a0 SD SQ; obtain ⟨v0, v1, v2', v3, v4, v5⟩ := a0; obtain ⟨hx1, hx2, hx3⟩ := SQ
        have SD := Lib.hid SD
        have i4 : (q : Int) < ns := by omega
        have i5 : IntKind.i64.wrap ((q : Int) + 1) = (q : Int) + 1 := IntWalk.i64_in _ (by omega)
        have r1 : S1.tmod xkd = S1 % xkd := Int.tmod_eq_emod_of_nonneg hS1.1
        have r0 : ¬ xkd = 0 := by omega
        have rb : 0 ≤ S1 % xkd ∧ S1 % xkd ≤ 96 := ⟨Int.emod_nonneg _ r0, by have := Int.emod_lt_of_pos S1 (show 0 < xkd by omega); omega⟩
        have r2 : IntKind.i64.wrap (S1 % xkd) = S1 % xkd := IntWalk.i64_in _ (by omega)
        have nx4 : wr.heap.size ≠ b4 := by omega
        by_cases h2 : q' = 12
        · have TN := Lib.hid (TG.out.trans (by rw [SD.out, if_pos (Or.inr h2)]) : doE ⟨rss, es, til⟩ ⟨ss, sq, st⟩ ⟨et, eto, efr, esq, ekd, edt⟩ = (⟨S1, (sendsE til S1 ⟨et, eto, efr, esq, ekd, edt⟩ (RU.sends.drop (q + 1)) q').2, wrap64 (st + 1)⟩, acc ++ (sendsE til S1 ⟨et, eto, efr, esq, ekd, edt⟩ (RU.sends.drop (q + 1)) q').1))
          subst h2
          go_wp2_with fail
          go_quiet (fail)
          have UA := Lib.hid ((UR.out.alloc (.cells #[.int .i64 xt, .int .i64 xto, .int .i64 xfr, .int .i64 xsq, .int .i64 xkd, .int .i64 xdt] 168)))
          have KA := Lib.hid (KP.out.up ((Up.refl _).alloc (.cells #[.int .i64 xt, .int .i64 xto, .int .i64 xfr, .int .i64 xsq, .int .i64 xkd, .int .i64 xdt] 168)))
          have OA := Lib.hid (own_up HOW.out ((Up.refl _).alloc (.cells #[.int .i64 xt, .int .i64 xto, .int .i64 xfr, .int .i64 xsq, .int .i64 xkd, .int .i64 xdt] 168)))
          go_wp2
          go_roundw
          case rel => exact ⟨⟨q + 1, acc, 12, by omega, by first | rfl | go_num, by omega, by omega, by omega, TN, own_up OA.out ((Up.refl _).drewN _) |> Lib.hid, KA.out.up ((Up.refl _).drewN _) |> Lib.hid⟩, UA.out.drewN _⟩
          case measure => (simp [intOf]; try omega)
        · by_cases h1 : S1 % xkd = xdt
          · have UA := Lib.hid ((UR.out.alloc (.cells #[.int .i64 xt, .int .i64 xto, .int .i64 xfr, .int .i64 xsq, .int .i64 xkd, .int .i64 xdt] 168)))
            have KA := Lib.hid (KP.out.up ((Up.refl _).alloc (.cells #[.int .i64 xt, .int .i64 xto, .int .i64 xfr, .int .i64 xsq, .int .i64 xkd, .int .i64 xdt] 168)))
            have OA := Lib.hid (own_up HOW.out ((Up.refl _).alloc (.cells #[.int .i64 xt, .int .i64 xto, .int .i64 xfr, .int .i64 xsq, .int .i64 xkd, .int .i64 xdt] 168)))
            have XA := Lib.hid (Box.new wr ⟨xt, xto, xfr, xsq, xkd, xdt⟩ 168)
            have hb2 : (S1 % xkd != xdt) = false := by simp [h1]
            have q1 : IntKind.i64.wrap (q' + 1) = q' + 1 := IntWalk.i64_in _ (by omega)
            have CE := Lib.hid (fun W => event_any S1 q' (wrap64 (st + 1)) et eto efr esq ekd edt xt xto xfr xsq xkd xdt (by omega) (by omega) (by omega) (by omega) W)
            go_wp2_with fail
            go_quiet (fail)
            obtain ⟨⟨y0, y1, y2, y3, y4, y5⟩, -⟩ := KP.out.k5.mk6
            have yl := KP.out.k5.lt
            go_wp2_with fail
            refine (CE.out _).mono ?_; rintro x w2 ⟨rfl, u2⟩
            have u2 : Up (wr.alloc (.cells #[.int .i64 xt, .int .i64 xto, .int .i64 xfr, .int .i64 xsq, .int .i64 xkd, .int .i64 xdt] 168)) w2 := ((Up.refl _).drewN _).trans u2
            have UA := Lib.hid (UA.out.trans u2)
            have KA := Lib.hid (KA.out.up u2)
            have OA := Lib.hid (own_up OA.out u2)
            have SW := Lib.hid (show wr.heap.size < w2.heap.size by have := u2.size; simp at this; omega)
            clear u2 y0 y1 y2 y3 y4 y5 yl p0 p1 p2 pl pf v0 v1 v2' v3 v4 v5 XA nx4; obtain ⟨p0, p1, p2⟩ := And.intro KA.out.k4.c0 (And.intro KA.out.k4.c1 KA.out.k4.c2)
            have pf := KA.out.k4.f
            have pl := KA.out.k4.lt
            obtain ⟨t0, t1, t2⟩ := And.intro KA.out.k3.c0 (And.intro KA.out.k3.c1 KA.out.k3.c2)
            have tl := KA.out.k3.lt
            have hb4w : w2.heap.size ≠ b4 := by omega
            have hb3w : w2.heap.size ≠ b3 := by omega
            have uB := (Up.refl w2).alloc (.cells #[.int .i64 (et + xto), .int .i64 xt, .int .i64 eto, .int .i64 q', .int .i64 xfr, .int .i64 ((S1 + xsq) % 97)] 74)
            have HRD := Lib.hid (Evs.new w2 ⟨et + xto, xt, eto, q', xfr, (S1 + xsq) % 97⟩ 74)
            have HOA := Lib.hid (own_up OA.out uB)
            have KB := Lib.hid (KA.out.up uB)
            have UB := Lib.hid (UA.out.trans uB)
            by_cases h3 : et + xto ≤ til
            · have TN := Lib.hid (TG.out.trans (by rw [SD.out, if_neg (by simp [h1, h2]), if_pos h3]; simp) : (doE ⟨rss, es, til⟩ ⟨ss, sq, st⟩ ⟨et, eto, efr, esq, ekd, edt⟩ = (⟨S1, (sendsE til S1 ⟨et, eto, efr, esq, ekd, edt⟩ (RU.sends.drop (q + 1)) (q' + 1)).2, wrap64 (st + 1)⟩, (acc ++ [⟨et + xto, xt, eto, q', xfr, (S1 + xsq) % 97⟩]) ++ (sendsE til S1 ⟨et, eto, efr, esq, ekd, edt⟩ (RU.sends.drop (q + 1)) (q' + 1)).1)))
              have HMX := Lib.hid (show acc.length + 1 ≤ maxLen by simp only [maxLen]; omega)
              have HBY := Lib.hid (show (acc.length + 1) * 48 ≤ 140737488355328 by omega)
              have uC := uB.alloc (.cells #[.int .i64 (et + xto), .int .i64 xt, .int .i64 eto, .int .i64 q', .int .i64 xfr, .int .i64 ((S1 + xsq) % 97)] 74)
              have hrd := (Evs.new (w2.alloc (.cells #[.int .i64 (et + xto), .int .i64 xt, .int .i64 eto, .int .i64 q', .int .i64 xfr, .int .i64 ((S1 + xsq) % 97)] 74)) ⟨et + xto, xt, eto, q', xfr, (S1 + xsq) % 97⟩ 74).reads
              simp only [World.size_alloc] at hrd
              have HRD := Lib.hid hrd
              clear hrd
              have HOA := Lib.hid (own_up OA.out uC)
              have KB := Lib.hid (KA.out.up uC)
              have UB := Lib.hid (UA.out.trans uC)
              have HBS := Lib.hid (show b9 + 1 ≤ ((w2.alloc (.cells #[.int .i64 (et + xto), .int .i64 xt, .int .i64 eto, .int .i64 q', .int .i64 xfr, .int .i64 ((S1 + xsq) % 97)] 74)).alloc (.cells #[.int .i64 (et + xto), .int .i64 xt, .int .i64 eto, .int .i64 q', .int .i64 xfr, .int .i64 ((S1 + xsq) % 97)] 74)).heap.size by have := KA.out.k9.1; simp; omega)
              clear uC uB
              go_wp2_with (at_builtin; refine wpList_append_any _ rfl (.tmp 68) (.tmp 70) 34 rfl (b9 + 1) 74 i0 _ 6 48 Try.underlying34 INF.out.1 INF.out.2.1 INF.out.2.2.1 INF.out.2.2.2 rfl SIX.out _ _ (flat acc) rfl HOA.out _ _ 1 1 (flat [⟨et + xto, xt, eto, q', xfr, (S1 + xsq) % 97⟩]) (by first | rfl | simp) HRD.out (flat_one _) HMX.out HBY.out HBS.out ?_; intro v2 w3 ho2 hg2 hv2; have HO2 := Lib.hid ho2; have HG2 := Lib.hid hg2; clear ho2 hg2 hv2; have KC := Lib.hid (KB.out.grown HG2.out (own_ne HOA.out (by omega)) (own_ne HOA.out (by omega)) (own_ne HOA.out (by omega)) (own_ne HOA.out (by omega)) (own_ne HOA.out (by omega))); obtain ⟨s0, s1, s2⟩ := And.intro KC.out.k4.c0 (And.intro KC.out.k4.c1 KC.out.k4.c2); have sf := KC.out.k4.f; have sl := KC.out.k4.lt)
              have UC := Lib.hid (UB.out.grown HG2.out (fun k hk => by have := (HOA.out.lt k hk).1; omega))
              have OC := Lib.hid (own_snoc HO2.out rfl)
              have K4 := Lib.hid (KC.out.set4 (by omega) (by omega) (by omega) (by omega) (KC.out.k4.set1 (q' + 1)))
              have O4 := Lib.hid (ownsRow_setCell_below OC.out (a := ⟨b4, 1, none⟩) (by dsimp only; omega) (.int .i64 (q' + 1)))
              have U4 := Lib.hid (UC.out.setCell (p := ⟨b4, 1, none⟩) (by dsimp only; omega) (.int .i64 (q' + 1)))
              go_roundw
              case rel => exact ⟨⟨q + 1, acc ++ [⟨et + xto, xt, eto, q', xfr, (S1 + xsq) % 97⟩], q' + 1, by omega, by first | rfl | go_num, by omega, by omega, by simp; omega, TN, O4, K4⟩, U4.out⟩
              case measure => (simp [intOf]; try omega)
            · have TN := Lib.hid (TG.out.trans (by rw [SD.out, if_neg (by simp [h1, h2]), if_neg h3]) : (doE ⟨rss, es, til⟩ ⟨ss, sq, st⟩ ⟨et, eto, efr, esq, ekd, edt⟩ = (⟨S1, (sendsE til S1 ⟨et, eto, efr, esq, ekd, edt⟩ (RU.sends.drop (q + 1)) (q' + 1)).2, wrap64 (st + 1)⟩, acc ++ (sendsE til S1 ⟨et, eto, efr, esq, ekd, edt⟩ (RU.sends.drop (q + 1)) (q' + 1)).1)))
              have K4 := Lib.hid ((KA.out.set4 (by omega) (by omega) (by omega) (by omega) (KA.out.k4.set1 (q' + 1))).up ((Up.refl _).alloc (.cells #[.int .i64 (et + xto), .int .i64 xt, .int .i64 eto, .int .i64 q', .int .i64 xfr, .int .i64 ((S1 + xsq) % 97)] 74)))
              have O4 := Lib.hid (own_up (ownsRow_setCell_below OA.out (a := ⟨b4, 1, none⟩) (by dsimp only; omega) (.int .i64 (q' + 1))) ((Up.refl _).alloc (.cells #[.int .i64 (et + xto), .int .i64 xt, .int .i64 eto, .int .i64 q', .int .i64 xfr, .int .i64 ((S1 + xsq) % 97)] 74)))
              have U4 := Lib.hid ((UA.out.setCell (p := ⟨b4, 1, none⟩) (by dsimp only; omega) (.int .i64 (q' + 1))).alloc (.cells #[.int .i64 (et + xto), .int .i64 xt, .int .i64 eto, .int .i64 q', .int .i64 xfr, .int .i64 ((S1 + xsq) % 97)] 74))
              have h3' : til < et + xto := by omega
              go_wp2
              go_roundw
              case rel => exact ⟨⟨q + 1, acc, q' + 1, by omega, by first | rfl | go_num, by omega, by omega, by omega, TN, O4, K4⟩, U4.out⟩
              case measure => (simp [intOf]; try omega)
          · have TN := Lib.hid (TG.out.trans (by rw [SD.out, if_pos (Or.inl h1)]) : (doE ⟨rss, es, til⟩ ⟨ss, sq, st⟩ ⟨et, eto, efr, esq, ekd, edt⟩ = (⟨S1, (sendsE til S1 ⟨et, eto, efr, esq, ekd, edt⟩ (RU.sends.drop (q + 1)) q').2, wrap64 (st + 1)⟩, acc ++ (sendsE til S1 ⟨et, eto, efr, esq, ekd, edt⟩ (RU.sends.drop (q + 1)) q').1)))
            have hb1 : (S1 % xkd == xdt) = false := by simp [h1]
            have hb2 : (S1 % xkd != xdt) = true := by simp [h1]
            go_wp2_with fail
            go_quiet (fail)
            have UA := Lib.hid ((UR.out.alloc (.cells #[.int .i64 xt, .int .i64 xto, .int .i64 xfr, .int .i64 xsq, .int .i64 xkd, .int .i64 xdt] 168)))
            have KA := Lib.hid (KP.out.up ((Up.refl _).alloc (.cells #[.int .i64 xt, .int .i64 xto, .int .i64 xfr, .int .i64 xsq, .int .i64 xkd, .int .i64 xdt] 168)))
            have OA := Lib.hid (own_up HOW.out ((Up.refl _).alloc (.cells #[.int .i64 xt, .int .i64 xto, .int .i64 xfr, .int .i64 xsq, .int .i64 xkd, .int .i64 xdt] 168)))
            go_wp2
            go_roundw
            case rel => exact ⟨⟨q + 1, acc, q', by omega, by first | rfl | go_num, by omega, by omega, by omega, TN, own_up OA.out ((Up.refl _).drewN _) |> Lib.hid, KA.out.up ((Up.refl _).drewN _) |> Lib.hid⟩, UA.out.drewN _⟩
            case measure => (simp [intOf]; try omega)
      · have TF := Lib.hid (TG.out.trans (by rw [List.drop_eq_nil_of_le (by rw [E3.out.1]; omega)]; simp [sendsE]) : doE ⟨rss, es, til⟩ ⟨ss, sq, st⟩ ⟨et, eto, efr, esq, ekd, edt⟩ = (⟨S1, q', wrap64 (st + 1)⟩, acc))
        have i4 : ¬ (q : Int) < ns := by omega
        have X6 := KP.out.k6
        obtain ⟨d0, d1, d2⟩ := And.intro X6.c0 (And.intro X6.c1 X6.c2)
        have df := X6.f
        have dl := X6.lt
        obtain ⟨k0, k1, k2⟩ := And.intro (X6.laid' S1 q' (wrap64 (st + 1))).c0 (And.intro (X6.laid' S1 q' (wrap64 (st + 1))).c1 (X6.laid' S1 q' (wrap64 (st + 1))).c2)
        have b67 : ∀ j, (⟨b6, j, none⟩ : Addr).block < b9 + 1 := fun j => by dsimp only; omega
        have b6w : ∀ j, w.heap.size ≤ (⟨b6, j, none⟩ : Addr).block := fun j => by dsimp only; omega
        have UE := Lib.hid (((UR.out.setCell (b6w 0) (.int .i64 S1)).setCell (b6w 1) (.int .i64 q')).setCell (b6w 2) (.int .i64 (wrap64 (st + 1))))
        have OZ := Lib.hid (own_mono (ownsRow_setCell_below (ownsRow_setCell_below (ownsRow_setCell_below HOW.out (b67 0) (.int .i64 S1)) (b67 1) (.int .i64 q')) (b67 2) (.int .i64 (wrap64 (st + 1)))) (show b3 ≤ b9 + 1 by omega))
        clear X6; go_wp2
        exact bodyPost_ret (v := .tuple #[.agg #[.int .i64 S1, .int .i64 q', .int .i64 (wrap64 (st + 1))], u10]) (by simp [results, Try.results94, go_sem, k0, k1, k2]) rfl (by
          rw [TF.out]
          exact ⟨u10, rfl, OZ.out, UE.out⟩)
end Go.Proofs.Ytklldniapombiaa

namespace Go.Proofs.Ytklldniapombiaa
set_option maxRecDepth 100000
open Go.RowKit
/-- A new block of three that may be written. -/
structure BoxF (w : World) (b : Nat) (x y z : Value) : Prop where
  k : Box3 w b x y z
  f : ∀ j, w.frozen? ⟨b, j, none⟩ = false
theorem BoxF.new (w : World) (x y z : Value) (t : TypeId) : BoxF (w.alloc (.cells #[x, y, z] t)) w.heap.size x y z := by
  have hh := heap_alloc_new w (.cells #[x, y, z] t)
  exact ⟨Box3.new w x y z t, fun j => by unfold World.frozen?; rw [hh]; simp⟩
theorem BoxF.up {w w' : World} {b : Nat} {x y z : Value} (h : BoxF w b x y z) (u : Up w w') : BoxF w' b x y z := ⟨h.k.up u, fun j => (u.frozens _ _ h.k.lt).trans (h.f j)⟩
theorem BoxF.laid {w : World} {b : Nat} {x0 y0 z0 : Value} (h : BoxF w b x0 y0 z0) (x y z : Value) : Box3 (((w.setCell ⟨b, 0, none⟩ x).setCell ⟨b, 1, none⟩ y).setCell ⟨b, 2, none⟩ z) b x y z := by
  have ne : ∀ k j, k ≠ j → (⟨b, k, none⟩ : Addr) ≠ ⟨b, j, none⟩ := fun k j hk => addr_ne (by omega)
  refine ⟨by simpa using h.k.lt, ?_, ?_, ?_⟩
  · rw [World.cell?_setCell_other _ _ _ _ (ne 2 0 (by omega)), World.cell?_setCell_other _ _ _ _ (ne 1 0 (by omega))]
    exact World.cell?_setCell_same _ _ _ h.k.c0
  · rw [World.cell?_setCell_other _ _ _ _ (ne 2 1 (by omega))]
    exact World.cell?_setCell_same _ _ _ ((World.cell?_setCell_other _ _ _ _ (ne 0 1 (by omega))).trans h.k.c1)
  · exact World.cell?_setCell_same _ _ _ ((World.cell?_setCell_other _ _ _ _ (ne 1 2 (by omega))).trans ((World.cell?_setCell_other _ _ _ _ (ne 0 2 (by omega))).trans h.k.c2))
end Go.Proofs.Ytklldniapombiaa

namespace Go.Proofs.Ytklldniapombiaa
set_option maxRecDepth 100000
open Go.RowKit
theorem own_ge {w : World} {b e size n : Nat} {v : Value} {xs : List Value} (h : w.ownsRow b e size v n xs) : ∀ x, v.ownBlock = some x → b ≤ x ∧ x < w.heap.size := fun x hx => by
  rcases h.2 with ⟨rfl, _⟩ | ⟨g, cap, cur, rfl, hg, hb, _⟩
  · cases hx
  injection hx with hx
  have hx : g = x := hx
  subst hx
  exact ⟨hg, (Array.getElem?_eq_some_iff.1 hb).1⟩
theorem cst_at {w : World} {b e n k g c : Nat} {es : List Cst} (h : w.ownsRow b e 3 (.slice (some ⟨g, 0, none⟩) n c) n (flat3 es)) (hk : k < n) : CstAt w g (k * 3) (es.getD k default) := by
  obtain ⟨b, off, hA, hb, hc⟩ := (own3_csts h).2 (by omega)
  injection hA with hA
  injection hA with h1 h2 _
  subst h1 h2
  have := hc k hk
  rwa [Nat.zero_add] at this
theorem own_setCell {w : World} {b e size n g cap j : Nat} {xs : List Value} (h : w.ownsRow b e size (.slice (some ⟨g, 0, none⟩) n cap) n xs) (u : Value) : (w.setCell ⟨g, j, none⟩ u).ownsRow b e size (.slice (some ⟨g, 0, none⟩) n cap) n (xs.set j u) := by
  refine ⟨by simp [h.1], ?_⟩
  rcases h.2 with ⟨h0, _⟩ | ⟨g', cap', cur, hv, hg, hb, hnc, hm, hs, ht⟩
  · cases h0
  injection hv with h1 _ h2
  injection h1 with h1
  injection h1 with h1 _ _
  subst h1; subst h2; refine .inr ⟨g, cap, cur.setIfInBounds j u, rfl, hg, heap_setC _ _ _ _ hb, hnc, hm, by simpa using hs, ?_⟩; rw [Array.toList_setIfInBounds, List.take_set, ht]
theorem flat3_set : ∀ (es : List Cst) (k : Nat) (t : Cst), k < es.length → (((flat3 es).set (k * 3) (.int .i64 t.s)).set (k * 3 + 1) (.int .i64 t.sq)).set (k * 3 + 2) (.int .i64 t.ct) = flat3 (es.set k t)
  | [], _, _, h => absurd h (by simp)
  | _ :: _, 0, _, _ => rfl
  | e :: r, k + 1, t, h => by
    have ih := flat3_set r k t (by simpa using h)
    rw [Nat.succ_mul, List.set_cons_succ, flat3, flat3, ← ih]
    rfl
theorem rec1_new (w : World) (z0 z1 z2 z3 z4 z5 z6 : Int) (t : TypeId) : Reads (w.alloc (.cells #[.int .i64 z0, .int .i64 z1, .int .i64 z2, .int .i64 z3, .int .i64 z4, .int .i64 z5, .int .i64 z6] t)) (w.alloc (.cells #[.int .i64 z0, .int .i64 z1, .int .i64 z2, .int .i64 z3, .int .i64 z4, .int .i64 z5, .int .i64 z6] t)).heap.size 7 (some ⟨w.heap.size, 0, none⟩) 1 (flat7 [⟨⟨z0, z1, z2, z3, z4, z5⟩, z6⟩]) := by
  have hh := heap_alloc_new w (.cells #[.int .i64 z0, .int .i64 z1, .int .i64 z2, .int .i64 z3, .int .i64 z4, .int .i64 z5, .int .i64 z6] t)
  refine ⟨by rw [flat7_len]; simp, fun _ => ⟨_, rfl, by simp, fun j u hu => ?_⟩⟩; rw [Addr.add_lit, Nat.zero_add, cell_of_row _ _ j _ _ _ hh]
  have hu : [Value.int .i64 z0, .int .i64 z1, .int .i64 z2, .int .i64 z3, .int .i64 z4, .int .i64 z5, .int .i64 z6][j]? = some u := hu
  have hj : j < 7 := (List.getElem?_eq_some_iff.1 hu).1
  have h7 : j = 0 ∨ j = 1 ∨ j = 2 ∨ j = 3 ∨ j = 4 ∨ j = 5 ∨ j = 6 := by omega
  rcases h7 with rfl | rfl | rfl | rfl | rfl | rfl | rfl <;> exact hu
/-- One event's six cells. -/
def Ev6 (w : World) (b : Nat) (z0 z1 z2 z3 z4 z5 : Int) : Prop := b < w.heap.size ∧ w.cell? ⟨b, 0, none⟩ = some (.int .i64 z0) ∧ w.cell? ⟨b, 1, none⟩ = some (.int .i64 z1) ∧ w.cell? ⟨b, 2, none⟩ = some (.int .i64 z2) ∧ w.cell? ⟨b, 3, none⟩ = some (.int .i64 z3) ∧ w.cell? ⟨b, 4, none⟩ = some (.int .i64 z4) ∧ w.cell? ⟨b, 5, none⟩ = some (.int .i64 z5)
theorem Ev6.keep {w w' : World} {b : Nat} {z0 z1 z2 z3 z4 z5 : Int} (h : Ev6 w b z0 z1 z2 z3 z4 z5) (hs : w.heap.size ≤ w'.heap.size) (k : w'.heap[b]? = w.heap[b]?) : Ev6 w' b z0 z1 z2 z3 z4 z5 := by
  have M := fun j => World.cell?_of_block (a := ⟨b, j, none⟩) k
  obtain ⟨h, a0, a1, a2, a3, a4, a5⟩ := h
  exact ⟨Nat.lt_of_lt_of_le h hs, (M 0).trans a0, (M 1).trans a1, (M 2).trans a2, (M 3).trans a3, (M 4).trans a4, (M 5).trans a5⟩
theorem Box.ev6 {w : World} {b : Nat} {z0 z1 z2 z3 z4 z5 : Int} (h : Box w b ⟨z0, z1, z2, z3, z4, z5⟩) : Ev6 w b z0 z1 z2 z3 z4 z5 := ⟨h.lt, h.mk6.1⟩
theorem Box3.keepB {w w' : World} {b : Nat} {x y z : Value} (h : Box3 w b x y z) (hs : w.heap.size ≤ w'.heap.size) (k : w'.heap[b]? = w.heap[b]?) : Box3 w' b x y z := by
  have M := fun j => World.cell?_of_block (a := ⟨b, j, none⟩) k
  exact ⟨Nat.lt_of_lt_of_le h.lt hs, (M 0).trans h.c0, (M 1).trans h.c1, (M 2).trans h.c2⟩
end Go.Proofs.Ytklldniapombiaa

/-
  What process returns, in one sentence: the component's new state and what it sends, in a new block; for every machine that holds a model's rules and every event that it takes.
  What newMachine returns, in one sentence: false for a model that is none; else a new map with the model's rules, their number and its end; for every model that lies in memory.
-/
import Derived.Test.YtakmlfgkppekoaaDLEcdo09
import Derived.Test.YtakmlfgkppekoaaDLEcdo14
import Derived.Test.YtakmlfgkppekoaaDLEcdo17
import Derived.Test.YtakmlfgkppekoaaDLEcdo18
namespace Go.Proofs.Ytakmlfgkppekoaa
set_option maxRecDepth 100000
open Go.RowKit
/-- The new state, and the sent events in a block of the call's own. -/
def ProcPost (m : Mdl) (s : Cst) (e : Evt) (w : World) (x : Ending) (w' : World) : Prop :=
  ∃ v, x = .returned (.tuple #[(doE m s e).1.v, v]) ∧ w'.ownsRow w.heap.size 45 6 v (doE m s e).2.length (flat (doE m s e).2) ∧ Up w w'
set_option maxHeartbeats 40000000 in
theorem process_any (mb : Nat) (many : Int) (m : Mdl) (s : Cst) (e : Evt) (w : World) (hM : Mach w mb m) (hok : mayB m s e = true) :
    Calls Try.prog 85 #[.agg #[.map (some mb), .int .i64 many, .int .i64 m.til], s.v, e.v] w (ProcPost m s e w) := by
  obtain ⟨i0, hi0, hz0, hz1, hz2⟩ := info_parts info45
  have INF := Lib.hid (And.intro hi0 (And.intro hz0 (And.intro hz1 hz2)))
  have SIX := Lib.hid (show 0 < 6 by omega)
  clear hi0 hz0 hz1 hz2; obtain ⟨rss, es, til⟩ := m; obtain ⟨ss, sq, st⟩ := s; obtain ⟨et, eto, efr, esq, ekd, edt⟩ := e; simp only [mayB, cstB, okB, Bool.and_eq_true, inB_iff, decide_eq_true_eq] at hok; obtain ⟨⟨⟨hmd, hcs⟩, hev⟩, htl⟩ := hok; dsimp only at hcs hev htl ⊢
  have MB := Lib.hid hmd
  have few := mdlB_few hmd
  dsimp only at few
  have hto : eto.toNat < rss.length := by omega
  have hto0 : 0 ≤ eto := by omega
  have UW := Lib.hid (((((Up.refl w).alloc (.cells #[.map (some mb), .int .i64 many, .int .i64 til] 106)).alloc (.cells #[.int .i64 ss, .int .i64 sq, .int .i64 (wrap64 (st + 1))] 41)).alloc (.cells #[.int .i64 et, .int .i64 eto, .int .i64 efr, .int .i64 esq, .int .i64 ekd, .int .i64 edt] 45)).alloc (.cells #[.int .i64 0, .int .i64 0, .int .i64 0] 41))
  have LK := Lib.hid (hM.look UW.out eto ekd (by unfold I64; omega) (by unfold I64; omega) hto0)
  dsimp only at LK
  have X3 := Lib.hid ((((Box3.new w (.map (some mb)) (.int .i64 many) (.int .i64 til) 106).up ((Up.refl _).alloc (.cells #[.int .i64 ss, .int .i64 sq, .int .i64 (wrap64 (st + 1))] 41))).up ((Up.refl _).alloc (.cells #[.int .i64 et, .int .i64 eto, .int .i64 efr, .int .i64 esq, .int .i64 ekd, .int .i64 edt] 45))).up ((Up.refl _).alloc (.cells #[.int .i64 0, .int .i64 0, .int .i64 0] 41)))
  have X4 := Lib.hid (((Cell3.new (w.alloc (.cells #[.map (some mb), .int .i64 many, .int .i64 til] 106)) ss sq (wrap64 (st + 1)) 41).mv ((Up.refl _).alloc (.cells #[.int .i64 et, .int .i64 eto, .int .i64 efr, .int .i64 esq, .int .i64 ekd, .int .i64 edt] 45) |>.mv 0) (by simp)).mv ((Up.refl _).alloc (.cells #[.int .i64 0, .int .i64 0, .int .i64 0] 41) |>.mv 0) (by simp))
  have X5 := Lib.hid ((Box.new ((w.alloc (.cells #[.map (some mb), .int .i64 many, .int .i64 til] 106)).alloc (.cells #[.int .i64 ss, .int .i64 sq, .int .i64 (wrap64 (st + 1))] 41)) ⟨et, eto, efr, esq, ekd, edt⟩ 45).up ((Up.refl _).alloc (.cells #[.int .i64 0, .int .i64 0, .int .i64 0] 41)))
  have X6 := Lib.hid (Cell3.new (((w.alloc (.cells #[.map (some mb), .int .i64 many, .int .i64 til] 106)).alloc (.cells #[.int .i64 ss, .int .i64 sq, .int .i64 (wrap64 (st + 1))] 41)).alloc (.cells #[.int .i64 et, .int .i64 eto, .int .i64 efr, .int .i64 esq, .int .i64 ekd, .int .i64 edt] 45)) 0 0 0 41)
  simp only [World.size_alloc] at X4 X5 X6
  have hct0 : IntKind.i64.wrap (st + 1) = wrap64 (st + 1) := IntWalk.i64_left _
  have HCT := Lib.hid hct0
  have HMB := Lib.hid hM
  clear hM hct0 hmd; unfold Cst.v Evt.v; unfold ProcPost
  rcases LK.out with ⟨hno, hrun⟩ | ⟨RU, As, ns, cs, hyes, hns, hev3, hrun⟩
  · have DE := Lib.hid (show doE ⟨rss, es, til⟩ ⟨ss, sq, st⟩ ⟨et, eto, efr, esq, ekd, edt⟩ = (⟨ss, sq, wrap64 (st + 1)⟩, []) by
      unfold doE; dsimp only; rw [hno]; dsimp only
      rw [HCT.out])
    clear hno LK
    go_enter Try.func85, Try.ntmps85
    go_wp2
    exact bodyPost_ret (v := .tuple #[.agg #[.int .i64 ss, .int .i64 sq, .int .i64 (wrap64 (st + 1))], .slice none 0 0]) (by simp [results, Try.results85, go_sem]) rfl (by
      rw [DE.out]
      exact ⟨.slice none 0 0, rfl, ⟨rfl, .inl ⟨rfl, rfl⟩⟩, (((((Up.refl w).alloc _).alloc _).alloc _).alloc _).alloc _⟩)
  · have hrb := mdlB_rule (m := ⟨rss, es, til⟩) (i := eto.toNat) (kd := ekd) MB.out (by dsimp only; omega) hyes
    obtain ⟨hsn, hlen, hra, hrb', hrc⟩ := ruleB_parts hrb
    have htl2 := mdlB_til MB.out
    dsimp only at htl2 hsn
    have SN := Lib.hid (fun i hi => sndB_parts (hsn i hi))
    have E3 := Lib.hid hev3
    have hns2 : ns ≤ 2 := by have := hev3.1; omega
    have NX := Lib.hid (fun W => next_any RU (.slice As ns cs) ss edt hra hrb' hrc hcs.1.1 hev.2 W ns cs As rfl)
    have hS1 : 0 ≤ (RU.a * ss + RU.b * edt + RU.c) % 97 ∧ (RU.a * ss + RU.b * edt + RU.c) % 97 ≤ 96 := by omega
    have TG0 := Lib.hid (show doE ⟨rss, es, til⟩ ⟨ss, sq, st⟩ ⟨et, eto, efr, esq, ekd, edt⟩ = (⟨(RU.a * ss + RU.b * edt + RU.c) % 97, ([] ++ (sendsE til ((RU.a * ss + RU.b * edt + RU.c) % 97) ⟨et, eto, efr, esq, ekd, edt⟩ (RU.sends.drop 0) sq).1, (sendsE til ((RU.a * ss + RU.b * edt + RU.c) % 97) ⟨et, eto, efr, esq, ekd, edt⟩ (RU.sends.drop 0) sq).2).2, wrap64 (st + 1)⟩, ([] ++ (sendsE til ((RU.a * ss + RU.b * edt + RU.c) % 97) ⟨et, eto, efr, esq, ekd, edt⟩ (RU.sends.drop 0) sq).1, (sendsE til ((RU.a * ss + RU.b * edt + RU.c) % 97) ⟨et, eto, efr, esq, ekd, edt⟩ (RU.sends.drop 0) sq).2).1) by
      unfold doE; dsimp only; rw [hyes]; dsimp only; rw [HCT.out]
      rfl)
    have UR0 := Lib.hid (UW.out.alloc (.cells #[.int .i64 RU.kd, .int .i64 RU.a, .int .i64 RU.b, .int .i64 RU.c, .slice As ns cs] 63))
    have Y3 := Lib.hid (X3.out.up ((Up.refl _).alloc (.cells #[.int .i64 RU.kd, .int .i64 RU.a, .int .i64 RU.b, .int .i64 RU.c, .slice As ns cs] 63)))
    have Y4 := Lib.hid (X4.out.mv ((Up.refl _).alloc (.cells #[.int .i64 RU.kd, .int .i64 RU.a, .int .i64 RU.b, .int .i64 RU.c, .slice As ns cs] 63) |>.mv 0) (by simp))
    have Y5 := Lib.hid (X5.out.up ((Up.refl _).alloc (.cells #[.int .i64 RU.kd, .int .i64 RU.a, .int .i64 RU.b, .int .i64 RU.c, .slice As ns cs] 63)))
    have Y6 := Lib.hid (X6.out.mv ((Up.refl _).alloc (.cells #[.int .i64 RU.kd, .int .i64 RU.a, .int .i64 RU.b, .int .i64 RU.c, .slice As ns cs] 63) |>.mv 0) (by simp))
    have Y9 := Lib.hid (Box5.new ((((w.alloc (.cells #[.map (some mb), .int .i64 many, .int .i64 til] 106)).alloc (.cells #[.int .i64 ss, .int .i64 sq, .int .i64 (wrap64 (st + 1))] 41)).alloc (.cells #[.int .i64 et, .int .i64 eto, .int .i64 efr, .int .i64 esq, .int .i64 ekd, .int .i64 edt] 45)).alloc (.cells #[.int .i64 0, .int .i64 0, .int .i64 0] 41)) (.int .i64 RU.kd) (.int .i64 RU.a) (.int .i64 RU.b) (.int .i64 RU.c) (.slice As ns cs) 63)
    simp only [World.size_alloc] at Y9; clear hyes hev3 hrb hsn hra hrb' hrc LK; unfold Rule.v at NX
    go_enter Try.func85, Try.ntmps85
    go_wp2_with fail
    generalize hb3 : w.heap.size = b3 at *
    generalize hb4 : b3 + 1 = b4 at *
    generalize hb5 : b4 + 1 = b5 at *
    generalize hb6 : b5 + 1 = b6 at *
    generalize hb9 : b6 + 1 = b9 at *
    refine (NX.out _).mono ?_; rintro x w1 ⟨rfl, u1⟩
    have UW := Lib.hid (UR0.out.trans u1)
    have Y3 := Lib.hid (Y3.out.up u1)
    have Y4 := Lib.hid (Y4.out.up u1)
    have Y5 := Lib.hid (Y5.out.up u1)
    have Y6 := Lib.hid (Y6.out.up u1)
    have y9 := Y9.out.up u1
    have Y9 := Lib.hid (show Laid5 w1 b9 _ _ _ _ _ from ⟨y9.lt, y9.c0, y9.c1, y9.c2, y9.c3, y9.c4⟩)
    clear u1 y9 hrun X3 X4 X5 X6 UR0 NX
    have c4 := Y4.out.set0 ((RU.a * ss + RU.b * edt + RU.c) % 97)
    have KP := Lib.hid ((Kept.mk Y3.out Y4.out Y5.out Y6.out Y9.out).set4 (by omega) (by omega) (by omega) (by omega) c4)
    have UP1 := Lib.hid (UW.out.setCell (p := ⟨b4, 0, none⟩) (by dsimp only; omega) (.int .i64 ((RU.a * ss + RU.b * edt + RU.c) % 97)))
    obtain ⟨p0, p1, p2⟩ := And.intro Y4.out.c0 (And.intro Y4.out.c1 Y4.out.c2)
    have pf := Y4.out.f
    obtain ⟨lL, z0, z1, z2, z3, z4⟩ := Y9.out
    have l4 := Y4.out.lt
    have n49 : b9 ≠ b4 := by omega
    generalize hs1 : (RU.a * ss + RU.b * edt + RU.c) % 97 = S1 at hS1 TG0 KP UP1 c4 ⊢
    clear hs1 c4 Y3 Y4 Y5 Y6 Y9; go_wp2; clear p0 p1 p2 pf lL z0 z1 z2 z3 z4 l4
    have hb7 : b9 < b9 + 1 := by omega
    have SZ := Lib.hid (show b9 + 1 ≤ (w1.setCell ⟨b4, 0, none⟩ (.int .i64 S1)).heap.size by have := KP.out.k9.1; omega)
    have OW1 := Lib.hid (show (w1.setCell ⟨b4, 0, none⟩ (.int .i64 S1)).ownsRow (b9 + 1) 45 6 (.slice none 0 0) ([] : List Evt).length (flat []) from ⟨rfl, .inl ⟨rfl, rfl⟩⟩)
    generalize w1.setCell ⟨b4, 0, none⟩ (.int .i64 S1) = W1 at KP UP1 OW1 SZ ⊢
    go_loopw [10, 42] (fun v i wr => (∃ (q : Nat) (acc : List Evt) (q' : Int), q ≤ ns ∧ i = .int .i64 q ∧ 0 ≤ q' ∧ q' ≤ 12 ∧ acc.length ≤ q ∧
      Hid (doE ⟨rss, es, til⟩ ⟨ss, sq, st⟩ ⟨et, eto, efr, esq, ekd, edt⟩ = (⟨S1, (sendsE til S1 ⟨et, eto, efr, esq, ekd, edt⟩ (RU.sends.drop q) q').2, wrap64 (st + 1)⟩, acc ++ (sendsE til S1 ⟨et, eto, efr, esq, ekd, edt⟩ (RU.sends.drop q) q').1)) ∧
      Hid (wr.ownsRow (b9 + 1) 45 6 v acc.length (flat acc)) ∧ Hid (Kept wr b3 b4 b5 b6 b9 (.map (some mb)) (.int .i64 many) (.int .i64 til) S1 q' (wrap64 (st + 1)) ⟨et, eto, efr, esq, ekd, edt⟩ (.int .i64 RU.kd) (.int .i64 RU.a) (.int .i64 RU.b) (.int .i64 RU.c) (.slice As ns cs))) ∧ Up w wr) (fun _ i _ => ns - (intOf i).toNat)
    case atStart => exact ⟨⟨0, [], sq, by omega, rfl, by omega, by omega, by simp, TG0, OW1, KP⟩, UP1.out⟩
    case round =>
      obtain ⟨⟨q, acc, q', hq, rfl, hq0, hq12, hacc, TG, HOW, KP⟩, ur⟩ := hrel
      have UR := Lib.hid ur
      obtain ⟨p0, p1, p2⟩ := And.intro KP.out.k4.c0 (And.intro KP.out.k4.c1 KP.out.k4.c2)
      have pl := KP.out.k4.lt
      have pf := KP.out.k4.f
      clear ur
      by_cases hlt : q < ns
      · obtain ⟨bS, oS, hAS, hbS, hcS⟩ := (E3.out.up UR.out).2 (by omega)
        subst hAS
        have a0 := hcS q hlt
        have SD := sendsE_drop til S1 ⟨et, eto, efr, esq, ekd, edt⟩ RU.sends q q' (by rw [E3.out.1]; exact hlt)
        have SQ := SN.out q (by rw [E3.out.1]; exact hlt)
        clear hcS
        generalize RU.sends.getD q default = x at a0 SD SQ
        obtain ⟨xt, xto, xfr, xsq, xkd, xdt⟩ := x; unfold EvAt at a0; dsimp only at a0 SD SQ; obtain ⟨v0, v1, v2', v3, v4, v5⟩ := a0; obtain ⟨hx1, hx2, hx3⟩ := SQ
        have SD := Lib.hid SD
        have i4 : (q : Int) < ns := by omega
        have i5 : IntKind.i64.wrap ((q : Int) + 1) = (q : Int) + 1 := IntWalk.i64_in _ (by omega)
        have r1 : S1.tmod xkd = S1 % xkd := Int.tmod_eq_emod_of_nonneg hS1.1
        have r0 : ¬ xkd = 0 := by omega
        have rb : 0 ≤ S1 % xkd ∧ S1 % xkd ≤ 96 := ⟨Int.emod_nonneg _ r0, by have := Int.emod_lt_of_pos S1 (show 0 < xkd by omega); omega⟩
        have r2 : IntKind.i64.wrap (S1 % xkd) = S1 % xkd := IntWalk.i64_in _ (by omega)
        have nx4 : wr.heap.size ≠ b4 := by omega
        by_cases h2 : q' = 12
        · have TN := Lib.hid (TG.out.trans (by rw [SD.out, if_pos (Or.inr h2)]) : doE ⟨rss, es, til⟩ ⟨ss, sq, st⟩ ⟨et, eto, efr, esq, ekd, edt⟩ = (⟨S1, (sendsE til S1 ⟨et, eto, efr, esq, ekd, edt⟩ (RU.sends.drop (q + 1)) q').2, wrap64 (st + 1)⟩, acc ++ (sendsE til S1 ⟨et, eto, efr, esq, ekd, edt⟩ (RU.sends.drop (q + 1)) q').1))
          subst h2
          have UA := Lib.hid ((UR.out.alloc (.cells #[.int .i64 xt, .int .i64 xto, .int .i64 xfr, .int .i64 xsq, .int .i64 xkd, .int .i64 xdt] 140)))
          have KA := Lib.hid (KP.out.up ((Up.refl _).alloc (.cells #[.int .i64 xt, .int .i64 xto, .int .i64 xfr, .int .i64 xsq, .int .i64 xkd, .int .i64 xdt] 140)))
          have OA := Lib.hid (own_up HOW.out ((Up.refl _).alloc (.cells #[.int .i64 xt, .int .i64 xto, .int .i64 xfr, .int .i64 xsq, .int .i64 xkd, .int .i64 xdt] 140)))
          go_wp2
          go_roundw
          case rel => exact ⟨⟨q + 1, acc, 12, by omega, by first | rfl | go_num, by omega, by omega, by omega, TN, OA, KA⟩, UA.out⟩
          case measure => (simp [intOf]; try omega)
        · by_cases h1 : S1 % xkd = xdt
          · have UA := Lib.hid ((UR.out.alloc (.cells #[.int .i64 xt, .int .i64 xto, .int .i64 xfr, .int .i64 xsq, .int .i64 xkd, .int .i64 xdt] 140)))
            have KA := Lib.hid (KP.out.up ((Up.refl _).alloc (.cells #[.int .i64 xt, .int .i64 xto, .int .i64 xfr, .int .i64 xsq, .int .i64 xkd, .int .i64 xdt] 140)))
            have OA := Lib.hid (own_up HOW.out ((Up.refl _).alloc (.cells #[.int .i64 xt, .int .i64 xto, .int .i64 xfr, .int .i64 xsq, .int .i64 xkd, .int .i64 xdt] 140)))
            have XA := Lib.hid (Box.new wr ⟨xt, xto, xfr, xsq, xkd, xdt⟩ 140)
            have q1 : IntKind.i64.wrap (q' + 1) = q' + 1 := IntWalk.i64_in _ (by omega)
            have CE := Lib.hid (fun W => event_any S1 q' (wrap64 (st + 1)) et eto efr esq ekd edt xt xto xfr xsq xkd xdt (by omega) (by omega) (by omega) (by omega) W)
            have CH := Lib.hid (fun W => (holds_any ⟨xt, xto, xfr, xsq, xkd, xdt⟩ S1 (by omega) (by dsimp only; omega) W).mono (by rintro z w' ⟨rfl, u⟩; exact ⟨ret_bool (decide_eq_true h1), u⟩) : ∀ W, Calls Try.prog 121 #[.agg #[.int .i64 xt, .int .i64 xto, .int .i64 xfr, .int .i64 xsq, .int .i64 xkd, .int .i64 xdt], .int .i64 S1] W fun z w' => z = .returned (.bool true) ∧ Up W w')
            go_wp2_with fail
            refine (CH.out _).mono ?_; rintro x wH ⟨rfl, uH⟩
            have SWH := Lib.hid (show wr.heap.size < wH.heap.size by have := uH.size; simp at this; omega)
            have UA := Lib.hid (UA.out.trans uH)
            have KA := Lib.hid (KA.out.up uH)
            have OA := Lib.hid (own_up OA.out uH)
            have XA := Lib.hid (XA.out.up uH)
            clear p0 p1 p2 pl pf v0 v1 v2' v3 v4 v5 uH; obtain ⟨p0, p1, p2⟩ := And.intro KA.out.k4.c0 (And.intro KA.out.k4.c1 KA.out.k4.c2)
            have pf := KA.out.k4.f
            have pl := KA.out.k4.lt
            obtain ⟨⟨y0, y1, y2, y3, y4, y5⟩, -⟩ := KA.out.k5.mk6
            have yl := KA.out.k5.lt
            obtain ⟨⟨v0, v1, v2', v3, v4, v5⟩, -⟩ := XA.out.mk6
            have vl := XA.out.lt
            go_wp2_with fail
            refine (CE.out _).mono ?_; rintro x w2 ⟨rfl, u2⟩
            have UA := Lib.hid (UA.out.trans u2)
            have KA := Lib.hid (KA.out.up u2)
            have OA := Lib.hid (own_up OA.out u2)
            have SW := Lib.hid (show wr.heap.size < w2.heap.size by have := u2.size; have := SWH.out; omega)
            clear vl u2 y0 y1 y2 y3 y4 y5 yl p0 p1 p2 pl pf v0 v1 v2' v3 v4 v5 XA nx4; obtain ⟨p0, p1, p2⟩ := And.intro KA.out.k4.c0 (And.intro KA.out.k4.c1 KA.out.k4.c2)
            have pf := KA.out.k4.f
            have pl := KA.out.k4.lt
            obtain ⟨t0, t1, t2⟩ := And.intro KA.out.k3.c0 (And.intro KA.out.k3.c1 KA.out.k3.c2)
            have tl := KA.out.k3.lt
            have hb4w : w2.heap.size ≠ b4 := by omega
            have hb3w : w2.heap.size ≠ b3 := by omega
            have uB := (Up.refl w2).alloc (.cells #[.int .i64 (et + xto), .int .i64 xt, .int .i64 eto, .int .i64 q', .int .i64 xfr, .int .i64 ((S1 + xsq) % 97)] 45)
            have HRD := Lib.hid (Evs.new w2 ⟨et + xto, xt, eto, q', xfr, (S1 + xsq) % 97⟩ 45)
            have HOA := Lib.hid (own_up OA.out uB)
            have KB := Lib.hid (KA.out.up uB)
            have UB := Lib.hid (UA.out.trans uB)
            by_cases h3 : et + xto ≤ til
            · have TN := Lib.hid (TG.out.trans (by rw [SD.out, if_neg (by simp [h1, h2]), if_pos h3]; simp) : (doE ⟨rss, es, til⟩ ⟨ss, sq, st⟩ ⟨et, eto, efr, esq, ekd, edt⟩ = (⟨S1, (sendsE til S1 ⟨et, eto, efr, esq, ekd, edt⟩ (RU.sends.drop (q + 1)) (q' + 1)).2, wrap64 (st + 1)⟩, (acc ++ [⟨et + xto, xt, eto, q', xfr, (S1 + xsq) % 97⟩]) ++ (sendsE til S1 ⟨et, eto, efr, esq, ekd, edt⟩ (RU.sends.drop (q + 1)) (q' + 1)).1)))
              have HMX := Lib.hid (show acc.length + 1 ≤ maxLen by simp only [maxLen]; omega)
              have HBY := Lib.hid (show (acc.length + 1) * 48 ≤ 140737488355328 by omega)
              have uC := uB.alloc (.cells #[.int .i64 (et + xto), .int .i64 xt, .int .i64 eto, .int .i64 q', .int .i64 xfr, .int .i64 ((S1 + xsq) % 97)] 45)
              have hrd := (Evs.new (w2.alloc (.cells #[.int .i64 (et + xto), .int .i64 xt, .int .i64 eto, .int .i64 q', .int .i64 xfr, .int .i64 ((S1 + xsq) % 97)] 45)) ⟨et + xto, xt, eto, q', xfr, (S1 + xsq) % 97⟩ 45).reads
              simp only [World.size_alloc] at hrd
              have HRD := Lib.hid hrd
              clear hrd
              have HOA := Lib.hid (own_up OA.out uC)
              have KB := Lib.hid (KA.out.up uC)
              have UB := Lib.hid (UA.out.trans uC)
              have HBS := Lib.hid (show b9 + 1 ≤ ((w2.alloc (.cells #[.int .i64 (et + xto), .int .i64 xt, .int .i64 eto, .int .i64 q', .int .i64 xfr, .int .i64 ((S1 + xsq) % 97)] 45)).alloc (.cells #[.int .i64 (et + xto), .int .i64 xt, .int .i64 eto, .int .i64 q', .int .i64 xfr, .int .i64 ((S1 + xsq) % 97)] 45)).heap.size by have := KA.out.k9.1; simp; omega)
              clear uC uB
              go_wp2_with (at_builtin; refine wpList_append_any _ rfl (.tmp 65) (.tmp 67) 31 rfl (b9 + 1) 45 i0 _ 6 48 Try.underlying31 INF.out.1 INF.out.2.1 INF.out.2.2.1 INF.out.2.2.2 rfl SIX.out _ _ (flat acc) rfl HOA.out _ _ 1 1 (flat [⟨et + xto, xt, eto, q', xfr, (S1 + xsq) % 97⟩]) (by first | rfl | simp) HRD.out (flat_one _) HMX.out HBY.out HBS.out ?_; intro v2 w3 ho2 hg2 hv2; have HO2 := Lib.hid ho2; have HG2 := Lib.hid hg2; clear ho2 hg2 hv2; have KC := Lib.hid (KB.out.grown HG2.out (own_ne HOA.out (by omega)) (own_ne HOA.out (by omega)) (own_ne HOA.out (by omega)) (own_ne HOA.out (by omega)) (own_ne HOA.out (by omega))); obtain ⟨s0, s1, s2⟩ := And.intro KC.out.k4.c0 (And.intro KC.out.k4.c1 KC.out.k4.c2); have sf := KC.out.k4.f; have sl := KC.out.k4.lt)
              have UC := Lib.hid (UB.out.grown HG2.out (fun k hk => by have := (HOA.out.lt k hk).1; omega))
              have OC := Lib.hid (own_snoc HO2.out rfl)
              have K4 := Lib.hid (KC.out.set4 (by omega) (by omega) (by omega) (by omega) (KC.out.k4.set1 (q' + 1)))
              have O4 := Lib.hid (ownsRow_setCell_below OC.out (a := ⟨b4, 1, none⟩) (by dsimp only; omega) (.int .i64 (q' + 1)))
              have U4 := Lib.hid (UC.out.setCell (p := ⟨b4, 1, none⟩) (by dsimp only; omega) (.int .i64 (q' + 1)))
              go_roundw
              case rel => exact ⟨⟨q + 1, acc ++ [⟨et + xto, xt, eto, q', xfr, (S1 + xsq) % 97⟩], q' + 1, by omega, by first | rfl | go_num, by omega, by omega, by simp; omega, TN, O4, K4⟩, U4.out⟩
              case measure => (simp [intOf]; try omega)
            · have TN := Lib.hid (TG.out.trans (by rw [SD.out, if_neg (by simp [h1, h2]), if_neg h3]) : (doE ⟨rss, es, til⟩ ⟨ss, sq, st⟩ ⟨et, eto, efr, esq, ekd, edt⟩ = (⟨S1, (sendsE til S1 ⟨et, eto, efr, esq, ekd, edt⟩ (RU.sends.drop (q + 1)) (q' + 1)).2, wrap64 (st + 1)⟩, acc ++ (sendsE til S1 ⟨et, eto, efr, esq, ekd, edt⟩ (RU.sends.drop (q + 1)) (q' + 1)).1)))
              have K4 := Lib.hid ((KA.out.set4 (by omega) (by omega) (by omega) (by omega) (KA.out.k4.set1 (q' + 1))).up ((Up.refl _).alloc (.cells #[.int .i64 (et + xto), .int .i64 xt, .int .i64 eto, .int .i64 q', .int .i64 xfr, .int .i64 ((S1 + xsq) % 97)] 45)))
              have O4 := Lib.hid (own_up (ownsRow_setCell_below OA.out (a := ⟨b4, 1, none⟩) (by dsimp only; omega) (.int .i64 (q' + 1))) ((Up.refl _).alloc (.cells #[.int .i64 (et + xto), .int .i64 xt, .int .i64 eto, .int .i64 q', .int .i64 xfr, .int .i64 ((S1 + xsq) % 97)] 45)))
              have U4 := Lib.hid ((UA.out.setCell (p := ⟨b4, 1, none⟩) (by dsimp only; omega) (.int .i64 (q' + 1))).alloc (.cells #[.int .i64 (et + xto), .int .i64 xt, .int .i64 eto, .int .i64 q', .int .i64 xfr, .int .i64 ((S1 + xsq) % 97)] 45))
              have h3' : til < et + xto := by omega
              go_wp2
              go_roundw
              case rel => exact ⟨⟨q + 1, acc, q' + 1, by omega, by first | rfl | go_num, by omega, by omega, by omega, TN, O4, K4⟩, U4.out⟩
              case measure => (simp [intOf]; try omega)
          · have TN := Lib.hid (TG.out.trans (by rw [SD.out, if_pos (Or.inl h1)]) : (doE ⟨rss, es, til⟩ ⟨ss, sq, st⟩ ⟨et, eto, efr, esq, ekd, edt⟩ = (⟨S1, (sendsE til S1 ⟨et, eto, efr, esq, ekd, edt⟩ (RU.sends.drop (q + 1)) q').2, wrap64 (st + 1)⟩, acc ++ (sendsE til S1 ⟨et, eto, efr, esq, ekd, edt⟩ (RU.sends.drop (q + 1)) q').1)))
            have CH := Lib.hid (fun W => (holds_any ⟨xt, xto, xfr, xsq, xkd, xdt⟩ S1 (by omega) (by dsimp only; omega) W).mono (by rintro z w' ⟨rfl, u⟩; exact ⟨ret_bool (decide_eq_false h1), u⟩) : ∀ W, Calls Try.prog 121 #[.agg #[.int .i64 xt, .int .i64 xto, .int .i64 xfr, .int .i64 xsq, .int .i64 xkd, .int .i64 xdt], .int .i64 S1] W fun z w' => z = .returned (.bool false) ∧ Up W w')
            go_wp2_with fail
            refine (CH.out _).mono ?_; rintro x wH ⟨rfl, uH⟩
            have UA := Lib.hid ((UR.out.alloc (.cells #[.int .i64 xt, .int .i64 xto, .int .i64 xfr, .int .i64 xsq, .int .i64 xkd, .int .i64 xdt] 140)))
            have KA := Lib.hid (KP.out.up ((Up.refl _).alloc (.cells #[.int .i64 xt, .int .i64 xto, .int .i64 xfr, .int .i64 xsq, .int .i64 xkd, .int .i64 xdt] 140)))
            have OA := Lib.hid (own_up HOW.out ((Up.refl _).alloc (.cells #[.int .i64 xt, .int .i64 xto, .int .i64 xfr, .int .i64 xsq, .int .i64 xkd, .int .i64 xdt] 140)))
            have UA := Lib.hid (UA.out.trans uH)
            have KA := Lib.hid (KA.out.up uH)
            have OA := Lib.hid (own_up OA.out uH)
            clear uH; go_wp2
            go_roundw
            case rel => exact ⟨⟨q + 1, acc, q', by omega, by first | rfl | go_num, by omega, by omega, by omega, TN, OA, KA⟩, UA.out⟩
            case measure => (simp [intOf]; try omega)
      · have TF := Lib.hid (TG.out.trans (by rw [List.drop_eq_nil_of_le (by rw [E3.out.1]; omega)]; simp [sendsE]) : doE ⟨rss, es, til⟩ ⟨ss, sq, st⟩ ⟨et, eto, efr, esq, ekd, edt⟩ = (⟨S1, q', wrap64 (st + 1)⟩, acc))
        have i4 : ¬ (q : Int) < ns := by omega
        have X6 := KP.out.k6
        obtain ⟨d0, d1, d2⟩ := And.intro X6.c0 (And.intro X6.c1 X6.c2)
        have df := X6.f
        have dl := X6.lt
        obtain ⟨k0, k1, k2⟩ := And.intro (X6.laid' S1 q' (wrap64 (st + 1))).c0 (And.intro (X6.laid' S1 q' (wrap64 (st + 1))).c1 (X6.laid' S1 q' (wrap64 (st + 1))).c2)
        have b67 : ∀ j, (⟨b6, j, none⟩ : Addr).block < b9 + 1 := fun j => by dsimp only; omega
        have b6w : ∀ j, w.heap.size ≤ (⟨b6, j, none⟩ : Addr).block := fun j => by dsimp only; omega
        have UE := Lib.hid (((UR.out.setCell (b6w 0) (.int .i64 S1)).setCell (b6w 1) (.int .i64 q')).setCell (b6w 2) (.int .i64 (wrap64 (st + 1))))
        have OZ := Lib.hid (own_mono (ownsRow_setCell_below (ownsRow_setCell_below (ownsRow_setCell_below HOW.out (b67 0) (.int .i64 S1)) (b67 1) (.int .i64 q')) (b67 2) (.int .i64 (wrap64 (st + 1)))) (show b3 ≤ b9 + 1 by omega))
        clear X6; go_wp2
        exact bodyPost_ret (v := .tuple #[.agg #[.int .i64 S1, .int .i64 q', .int .i64 (wrap64 (st + 1))], u10]) (by simp [results, Try.results85, go_sem, k0, k1, k2]) rfl (by
          rw [TF.out]
          exact ⟨u10, rfl, OZ.out, UE.out⟩)
end Go.Proofs.Ytakmlfgkppekoaa

namespace Go.Proofs.Ytakmlfgkppekoaa
set_option maxRecDepth 100000
open Go.RowKit
def MachPost (m : Mdl) (w : World) (x : Ending) (w' : World) : Prop :=
  Up w w' ∧ ((mdlB m = false ∧ x = .returned (.tuple #[.agg #[.map none, .int .i64 0, .int .i64 0], .bool false])) ∨
    (mdlB m = true ∧ ∃ b, x = .returned (.tuple #[.agg #[.map (some b), .int .i64 m.rules.length, .int .i64 m.til], .bool true]) ∧ w.heap.size ≤ b ∧ Mach w' b m))
set_option maxHeartbeats 8000000 in
theorem newMachine_any (A : Option Addr) (n c : Nat) (B : Option Addr) (k d : Nat) (m : Mdl) (w : World) (hM : MdlV w A n B k m) :
    Calls Try.prog 74 #[.agg #[.slice A n c, .slice B k d, .int .i64 m.til]] w (MachPost m w) := by
  have HM := Lib.hid hM
  have HR := Lib.hid hM.rules
  have LR := Lib.hid hM.rules.1
  have U0 := Lib.hid (((Up.refl w).alloc (.cells #[.slice A n c, .slice B k d, .int .i64 m.til] 33)).alloc (.cells #[.map none, .int .i64 0, .int .i64 0] 106))
  have X1 := Lib.hid ((Box3.new w (.slice A n c) (.slice B k d) (.int .i64 m.til) 33).up ((Up.refl _).alloc (.cells #[.map none, .int .i64 0, .int .i64 0] 106)))
  have X2 := Lib.hid (Box3.new (w.alloc (.cells #[.slice A n c, .slice B k d, .int .i64 m.til] 33)) (.map none) (.int .i64 0) (.int .i64 0) 106)
  have F2 := Lib.hid (fun j => free_new (w.alloc (.cells #[.slice A n c, .slice B k d, .int .i64 m.til] 33)) #[.map none, .int .i64 0, .int .i64 0] 106 j)
  simp only [World.size_alloc] at X2 F2
  have CI := Lib.hid (fun W (u : Up w W) => implMdl_any A n c B k d m W (hM.up u))
  generalize hmb : mdlB m = g at CI
  have HB := Lib.hid hmb
  clear hM hmb
  go_enter Try.func74, Try.ntmps74
  go_wp2_with fail
  refine (CI.out _ U0.out).mono ?_; rintro x w1 ⟨rfl, u1⟩
  have U1 := Lib.hid (U0.out.trans u1)
  have X1 := Lib.hid (X1.out.up u1)
  have x2 := X2.out.up u1
  have f2 : ∀ j, w1.frozen? ⟨w.heap.size + 1, j, none⟩ = false := fun j => (u1.frozens _ _ (by simp)).trans (F2.out j)
  have X2 := Lib.hid x2
  have F2 := Lib.hid f2
  clear u1 x2 f2
  cases g
  · have K := set3_at (w := w1) (b := w.heap.size + 1) (x := .map none) (y := .int .i64 0) (z := .int .i64 0) (fun j hj => by
      have h3 : j = 0 ∨ j = 1 ∨ j = 2 := by omega
      rcases h3 with rfl | rfl | rfl
      · exact ⟨_, X2.out.c0⟩
      · exact ⟨_, X2.out.c1⟩
      · exact ⟨_, X2.out.c2⟩)
    have UE := Lib.hid (((U1.out.setCell (p := ⟨w.heap.size + 1, 0, none⟩) (by dsimp only; omega) (.map none)).setCell (p := ⟨w.heap.size + 1, 1, none⟩) (by dsimp only; omega) (.int .i64 0)).setCell (p := ⟨w.heap.size + 1, 2, none⟩) (by dsimp only; omega) (.int .i64 0))
    obtain ⟨k0, k1, k2⟩ := K; obtain ⟨q0, q1, q2⟩ := And.intro X2.out.c0 (And.intro X2.out.c1 X2.out.c2)
    have qf := F2.out
    go_wp2
    exact bodyPost_ret (v := .tuple #[.agg #[.map none, .int .i64 0, .int .i64 0], .bool false]) (by simp [results, Try.results74, go_sem, k0, k1, k2]) rfl ⟨UE.out, .inl ⟨HB.out, rfl⟩⟩
  · obtain ⟨q0, q1, q2⟩ := And.intro X1.out.c0 (And.intro X1.out.c1 X1.out.c2)
    have hsz1 : w.heap.size + 1 < w1.heap.size := X2.out.lt
    have FEW := Lib.hid (mdlB_few HB.out)
    have hn4 : n ≤ 4 := by have := FEW.out; have := LR.out; omega
    have H0 := RMap.made w1
    have F0 := Lib.hid (Filled.start w m.rules)
    have hmm := run_makeMap (P := Try.prog) 104 w1
    have u2 : Up w1 (w1.alloc (.map #[] 0)) := (Up.refl _).alloc _
    generalize w1.alloc (.map #[] 0) = w2 at H0 hmm u2
    generalize hmb : w1.heap.size = mb at H0 hmm
    have HMB := Lib.hid hmb
    have H0 := Lib.hid H0
    have x1 := X1.out.up u2
    obtain ⟨p0, p1, p2⟩ := And.intro x1.c0 (And.intro x1.c1 x1.c2)
    have U2 := Lib.hid u2
    clear hmb x1 u2 q0 q1 q2; go_wp2; clear hmm p0 p1 p2
    go_loopw [17] (fun i wr => (∃ (q N : Nat) (f : Int → Int → Option Value), q ≤ n ∧ i = .int .i64 q ∧ N ≤ 3 * q ∧ Hid (RMap wr mb N f) ∧ Hid (Filled w m.rules q 0 f)) ∧ Up w1 wr) (fun i _ => n - (intOf i).toNat)
    case atStart => exact ⟨⟨0, 0, _, by omega, rfl, by omega, H0, F0⟩, U2.out⟩
    case round =>
      obtain ⟨⟨q, N, f, hq, rfl, hN, HMAP, HF⟩, ur⟩ := hrel; obtain ⟨wo, hwo⟩ : ∃ W, W = wr := ⟨_, rfl⟩; subst hwo
      have UR := Lib.hid ur
      by_cases hlt : q < n
      · obtain ⟨b, off, hA, hb, hc⟩ := HR.out.2.2 (by omega)
        subst hA; obtain ⟨A', n', c', hcell, hrs⟩ := hc q hlt
        have cell := ((U1.out.trans ur).cells _ _ hb).trans hcell
        have HS := Lib.hid hrs
        have hb' : b < wo.heap.size := by have := (U1.out.trans ur).size; omega
        have RB := Lib.hid (mdlB_row HB.out q (by rw [LR.out]; exact hlt))
        have hn'3 : n' ≤ 3 := by
          have h := rulesB_len RB.out (by omega) (by omega)
          have := hrs.1
          omega
        clear hc hcell hrs ur
        have i4 : (q : Int) < n := by omega
        have i5 : IntKind.i64.wrap ((q : Int) + 1) = (q : Int) + 1 := IntWalk.i64_in _ (by omega)
        have RN : (m.rules.getD q []).length = n' := HS.out.1
        have RNH := Lib.hid RN
        clear RN
        go_wp2_with fail
        go_loopw [24] (fun j wj => (∃ (p N : Nat) (f : Int → Int → Option Value), p ≤ n' ∧ j = .int .i64 p ∧ N ≤ 3 * q + p ∧ Hid (RMap wj mb N f) ∧ Hid (Filled w m.rules q p f)) ∧ Up w1 wj) (fun j _ => n' - (intOf j).toNat)
        case atStart => exact ⟨⟨0, N, f, by omega, rfl, by omega, HMAP, HF⟩, UR.out⟩
        case round =>
          obtain ⟨⟨p, N2, f2, hp, rfl, hN2, HMAP2, HF2⟩, uj⟩ := hrel
          have UJ := Lib.hid uj
          by_cases hlp : p < n'
          · obtain ⟨b2, off2, hA2, hb2, hc2⟩ := HS.out.2.2 (by omega)
            subst hA2
            have at2 := (hc2 p hlp).up (U1.out.trans uj) hb2
            have hb2' : b2 < wr.heap.size := by have := (U1.out.trans uj).size; omega
            have at0 := hc2 p hlp
            clear hc2
            have ST := Lib.hid (fun r (hr : (m.rules.getD q []).getD p default = r) A n c hn he => HF2.out.step (r := r) (A := A) (n := n) (c := c) (by rw [RNH.out]; exact hlp) hr hn he)
            have RB2 := rulesB_mem RB.out p (by rw [RNH.out]; exact hlp)
            generalize hgr : (m.rules.getD q []).getD p default = r at at2 at0 RB2 ST
            obtain ⟨A3, n3, c3, ⟨r0, r1, r2, r3, r4⟩, hn3, he3⟩ := at0; obtain ⟨A4, n4, c4, ⟨s0, s1, s2, s3, s4⟩, hn4', he4⟩ := at2
            have e4 := ((U1.out.trans uj).cells _ _ hb2).trans r4
            rw [s4] at e4
            injection e4 with e4
            injection e4 with e41 e42 e43
            subst e41 e42 e43
            have HF3 := Lib.hid (ST.out r rfl A4 n4 c4 hn3 he3)
            have hkd : 0 ≤ r.kd ∧ r.kd ≤ 2 := by
              simp only [ruleB, Bool.and_eq_true, inB_iff] at RB2
              exact RB2.1.1.1.2
            obtain ⟨kd, ra, rb, rc, es⟩ := r; dsimp only at s0 s1 s2 s3 s4 hkd; unfold Rule.v at HF3; dsimp only at HF3
            have HM3 := Lib.hid (HMAP2.out.up ((Up.refl wr).alloc (.cells #[.int .i64 kd, .int .i64 ra, .int .i64 rb, .int .i64 rc, .slice A4 n4 c4] 63)))
            have UJ2 := Lib.hid (uj.alloc (.cells #[.int .i64 kd, .int .i64 ra, .int .i64 rb, .int .i64 rc, .slice A4 n4 c4] 63))
            clear uj r0 r1 r2 r3 r4 he3 he4 RB2 ST hgr
            have hmb1 : w1.heap.size ≤ mb := by have := HMB.out; omega
            have i6 : (p : Int) < n' := by omega
            have i7 : IntKind.i64.wrap ((p : Int) + 1) = (p : Int) + 1 := IntWalk.i64_in _ (by omega)
            go_wp2_with (at_mapUpdate; refine wpList_store_R rfl _ rfl _ _ _ rfl mb N2 f2 rfl HM3.out (by simp only [maxLen]; omega) q kd rfl (by unfold I64; omega) (by unfold I64; omega) _ rfl ?_; intro w5 h5 m5; have H5 := Lib.hid h5; have U5 := Lib.hid (m5.up UJ2.out hmb1); clear h5 m5)
            go_roundw
            case rel => exact ⟨⟨p + 1, N2 + 1, _, by omega, by first | rfl | go_num, by omega, H5, HF3⟩, U5.out⟩
            case measure => (simp [intOf]; try omega)
          · have HR2 := Lib.hid (HF2.out.row (by rw [RNH.out]; omega))
            have i6 : ¬ (p : Int) < n' := by omega
            clear uj; go_wp2
            go_roundw
            case rel => exact ⟨⟨q + 1, N2, f2, by omega, by first | rfl | go_num, by omega, HMAP2, HR2⟩, UJ.out⟩
            case measure => (simp [intOf]; try omega)
      · have hqn : q = n := by omega
        have DN := Lib.hid ((show Filled w m.rules m.rules.length 0 f by rw [LR.out, ← hqn]; exact HF.out).done HB.out)
        have i4 : ¬ (q : Int) < n := by omega
        clear ur hqn
        have x1 := X1.out.up UR.out
        obtain ⟨q0, q1, q2⟩ := And.intro x1.c0 (And.intro x1.c1 x1.c2)
        have x2 := X2.out.up UR.out
        obtain ⟨p0, p1, p2⟩ := And.intro x2.c0 (And.intro x2.c1 x2.c2)
        have qf : ∀ j, wo.frozen? ⟨w.heap.size + 1, j, none⟩ = false := fun j => (UR.out.frozens _ _ hsz1).trans (F2.out j)
        have K := set3_at (w := wo) (b := w.heap.size + 1) (x := .map (some mb)) (y := .int .i64 n) (z := .int .i64 m.til) (fun j hj => by
          have h3 : j = 0 ∨ j = 1 ∨ j = 2 := by omega
          rcases h3 with rfl | rfl | rfl
          · exact ⟨_, x2.c0⟩
          · exact ⟨_, x2.c1⟩
          · exact ⟨_, x2.c2⟩)
        obtain ⟨k0, k1, k2⟩ := K
        have UE := Lib.hid ((((U1.out.trans UR.out).setCell (p := ⟨w.heap.size + 1, 0, none⟩) (by dsimp only; omega) (.map (some mb))).setCell (p := ⟨w.heap.size + 1, 1, none⟩) (by dsimp only; omega) (.int .i64 n)).setCell (p := ⟨w.heap.size + 1, 2, none⟩) (by dsimp only; omega) (.int .i64 m.til))
        have hmbw : w.heap.size + 1 < mb := by have := HMB.out; omega
        have ME := Lib.hid (show Mach _ mb m from ⟨N, f, ((HMAP.out.setFar (p := ⟨w.heap.size + 1, 0, none⟩) (by dsimp only; omega) (.map (some mb))).setFar (p := ⟨w.heap.size + 1, 1, none⟩) (by dsimp only; omega) (.int .i64 n)).setFar (p := ⟨w.heap.size + 1, 2, none⟩) (by dsimp only; omega) (.int .i64 m.til), fun c k => (DN.out c k).up UE.out⟩)
        clear x1 x2; go_wp2
        exact bodyPost_ret (v := .tuple #[.agg #[.map (some mb), .int .i64 n, .int .i64 m.til], .bool true]) (by simp [results, Try.results74, go_sem, k0, k1, k2]) rfl ⟨UE.out, .inr ⟨HB.out, mb, by rw [LR.out], by omega, ME.out⟩⟩
end Go.Proofs.Ytakmlfgkppekoaa

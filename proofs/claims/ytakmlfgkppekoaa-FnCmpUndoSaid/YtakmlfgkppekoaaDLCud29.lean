/-
  What process returns, in one sentence: the component's new state and what it sends, in a new block; for every machine that holds a model's rules and every event that it takes.
  What impl.CmpDo returns, in one sentence: the new state and what is sent in a new block, nothing where one of the three is not ok; for every model that lies in memory.
-/
import Derived.Test.YtakmlfgkppekoaaDLCud15
import Derived.Test.YtakmlfgkppekoaaDLCud18
import Derived.Test.YtakmlfgkppekoaaDLCud23
import Derived.Test.YtakmlfgkppekoaaDLCud24
import Derived.Test.YtakmlfgkppekoaaDLCud25
import Derived.Test.YtakmlfgkppekoaaDLCud28
namespace Go.Proofs.Ytakmlfgkppekoaa
set_option maxRecDepth 100000
open Go.RowKit
/-- The new state, and the sent events in a block of the call's own. -/
def ProcPost (m : Mdl) (s : Cst) (e : Evt) (w : World) (x : Ending) (w' : World) : Prop :=
  ∃ v, x = .returned (.tuple #[(doE m s e).1.v, v]) ∧ w'.ownsRow w.heap.size 45 6 v (doE m s e).2.length (flat (doE m s e).2) ∧ Up w w'
set_option maxHeartbeats 40000000 in
theorem process_any (mb : Nat) (many : Int) (m : Mdl) (s : Cst) (e : Evt) (w : World) (hM : Mach w mb m) (hok : mayB m s e = true) :
    Calls Try.prog 85 #[.agg #[.map (some mb), .int .i64 many, .int .i64 m.til], s.v, e.v] w (ProcPost m s e w) := by
  obtain ⟨i0, hi0, hz0, hz1, hz2⟩ := info_parts info45
  have INF := Lib.hid (And.intro hi0 (And.intro hz0 (And.intro hz1 hz2)))
  have SIX := Lib.hid (show 0 < 6 by omega)
  clear hi0 hz0 hz1 hz2; obtain ⟨rss, es, til⟩ := m; obtain ⟨ss, sq, st⟩ := s; obtain ⟨et, eto, efr, esq, ekd, edt⟩ := e; simp only [mayB, cstB, okB, Bool.and_eq_true, inB_iff, decide_eq_true_eq] at hok; obtain ⟨⟨⟨hmd, hcs⟩, hev⟩, htl⟩ := hok; dsimp only at hcs hev htl ⊢
  have MB := Lib.hid hmd
  have few := mdlB_few hmd
  dsimp only at few
  have hto : eto.toNat < rss.length := by omega
  have hto0 : 0 ≤ eto := by omega
  have UW := Lib.hid (((((Up.refl w).alloc (.cells #[.map (some mb), .int .i64 many, .int .i64 til] 106)).alloc (.cells #[.int .i64 ss, .int .i64 sq, .int .i64 (wrap64 (st + 1))] 41)).alloc (.cells #[.int .i64 et, .int .i64 eto, .int .i64 efr, .int .i64 esq, .int .i64 ekd, .int .i64 edt] 45)).alloc (.cells #[.int .i64 0, .int .i64 0, .int .i64 0] 41))
  have LK := Lib.hid (hM.look UW.out eto ekd (by unfold I64; omega) (by unfold I64; omega) hto0)
  dsimp only at LK
  have X3 := Lib.hid ((((Box3.new w (.map (some mb)) (.int .i64 many) (.int .i64 til) 106).up ((Up.refl _).alloc (.cells #[.int .i64 ss, .int .i64 sq, .int .i64 (wrap64 (st + 1))] 41))).up ((Up.refl _).alloc (.cells #[.int .i64 et, .int .i64 eto, .int .i64 efr, .int .i64 esq, .int .i64 ekd, .int .i64 edt] 45))).up ((Up.refl _).alloc (.cells #[.int .i64 0, .int .i64 0, .int .i64 0] 41)))
  have X4 := Lib.hid (((Cell3.new (w.alloc (.cells #[.map (some mb), .int .i64 many, .int .i64 til] 106)) ss sq (wrap64 (st + 1)) 41).mv ((Up.refl _).alloc (.cells #[.int .i64 et, .int .i64 eto, .int .i64 efr, .int .i64 esq, .int .i64 ekd, .int .i64 edt] 45) |>.mv 0) (by simp)).mv ((Up.refl _).alloc (.cells #[.int .i64 0, .int .i64 0, .int .i64 0] 41) |>.mv 0) (by simp))
  have X5 := Lib.hid ((Box.new ((w.alloc (.cells #[.map (some mb), .int .i64 many, .int .i64 til] 106)).alloc (.cells #[.int .i64 ss, .int .i64 sq, .int .i64 (wrap64 (st + 1))] 41)) ⟨et, eto, efr, esq, ekd, edt⟩ 45).up ((Up.refl _).alloc (.cells #[.int .i64 0, .int .i64 0, .int .i64 0] 41)))
  have X6 := Lib.hid (Cell3.new (((w.alloc (.cells #[.map (some mb), .int .i64 many, .int .i64 til] 106)).alloc (.cells #[.int .i64 ss, .int .i64 sq, .int .i64 (wrap64 (st + 1))] 41)).alloc (.cells #[.int .i64 et, .int .i64 eto, .int .i64 efr, .int .i64 esq, .int .i64 ekd, .int .i64 edt] 45)) 0 0 0 41)
  simp only [World.size_alloc] at X4 X5 X6
  have hct0 : IntKind.i64.wrap (st + 1) = wrap64 (st + 1) := IntWalk.i64_left _
  have HCT := Lib.hid hct0
  have HMB := Lib.hid hM
  clear hM hct0 hmd; unfold Cst.v Evt.v; unfold ProcPost
  rcases LK.out with ⟨hno, hrun⟩ | ⟨RU, As, ns, cs, hyes, hns, hev3, hrun⟩
  · have DE := Lib.hid (show doE ⟨rss, es, til⟩ ⟨ss, sq, st⟩ ⟨et, eto, efr, esq, ekd, edt⟩ = (⟨ss, sq, wrap64 (st + 1)⟩, []) by
      unfold doE; dsimp only; rw [hno]; dsimp only
      rw [HCT.out])
    clear hno LK
    go_enter Try.func85, Try.ntmps85
    go_wp2
    exact bodyPost_ret (v := .tuple #[.agg #[.int .i64 ss, .int .i64 sq, .int .i64 (wrap64 (st + 1))], .slice none 0 0]) (by simp [results, Try.results85, go_sem]) rfl (by
      rw [DE.out]
      exact ⟨.slice none 0 0, rfl, ⟨rfl, .inl ⟨rfl, rfl⟩⟩, (((((Up.refl w).alloc _).alloc _).alloc _).alloc _).alloc _⟩)
  · have hrb := mdlB_rule (m := ⟨rss, es, til⟩) (i := eto.toNat) (kd := ekd) MB.out (by dsimp only; omega) hyes
    obtain ⟨hsn, hlen, hra, hrb', hrc⟩ := ruleB_parts hrb
    have htl2 := mdlB_til MB.out
    dsimp only at htl2 hsn
    have SN := Lib.hid (fun i hi => sndB_parts (hsn i hi))
    have E3 := Lib.hid hev3
    have hns2 : ns ≤ 2 := by have := hev3.1; omega
    have NX := Lib.hid (fun W => next_any RU (.slice As ns cs) ss edt hra hrb' hrc hcs.1.1 hev.2 W ns cs As rfl)
    have hS1 : 0 ≤ (RU.a * ss + RU.b * edt + RU.c) % 97 ∧ (RU.a * ss + RU.b * edt + RU.c) % 97 ≤ 96 := by omega
    have TG0 := Lib.hid (show doE ⟨rss, es, til⟩ ⟨ss, sq, st⟩ ⟨et, eto, efr, esq, ekd, edt⟩ = (⟨(RU.a * ss + RU.b * edt + RU.c) % 97, ([] ++ (sendsE til ((RU.a * ss + RU.b * edt + RU.c) % 97) ⟨et, eto, efr, esq, ekd, edt⟩ (RU.sends.drop 0) sq).1, (sendsE til ((RU.a * ss + RU.b * edt + RU.c) % 97) ⟨et, eto, efr, esq, ekd, edt⟩ (RU.sends.drop 0) sq).2).2, wrap64 (st + 1)⟩, ([] ++ (sendsE til ((RU.a * ss + RU.b * edt + RU.c) % 97) ⟨et, eto, efr, esq, ekd, edt⟩ (RU.sends.drop 0) sq).1, (sendsE til ((RU.a * ss + RU.b * edt + RU.c) % 97) ⟨et, eto, efr, esq, ekd, edt⟩ (RU.sends.drop 0) sq).2).1) by
      unfold doE; dsimp only; rw [hyes]; dsimp only; rw [HCT.out]
      rfl)
    have UR0 := Lib.hid (UW.out.alloc (.cells #[.int .i64 RU.kd, .int .i64 RU.a, .int .i64 RU.b, .int .i64 RU.c, .slice As ns cs] 63))
    have Y3 := Lib.hid (X3.out.up ((Up.refl _).alloc (.cells #[.int .i64 RU.kd, .int .i64 RU.a, .int .i64 RU.b, .int .i64 RU.c, .slice As ns cs] 63)))
    have Y4 := Lib.hid (X4.out.mv ((Up.refl _).alloc (.cells #[.int .i64 RU.kd, .int .i64 RU.a, .int .i64 RU.b, .int .i64 RU.c, .slice As ns cs] 63) |>.mv 0) (by simp))
    have Y5 := Lib.hid (X5.out.up ((Up.refl _).alloc (.cells #[.int .i64 RU.kd, .int .i64 RU.a, .int .i64 RU.b, .int .i64 RU.c, .slice As ns cs] 63)))
    have Y6 := Lib.hid (X6.out.mv ((Up.refl _).alloc (.cells #[.int .i64 RU.kd, .int .i64 RU.a, .int .i64 RU.b, .int .i64 RU.c, .slice As ns cs] 63) |>.mv 0) (by simp))
    have Y9 := Lib.hid (Box5.new ((((w.alloc (.cells #[.map (some mb), .int .i64 many, .int .i64 til] 106)).alloc (.cells #[.int .i64 ss, .int .i64 sq, .int .i64 (wrap64 (st + 1))] 41)).alloc (.cells #[.int .i64 et, .int .i64 eto, .int .i64 efr, .int .i64 esq, .int .i64 ekd, .int .i64 edt] 45)).alloc (.cells #[.int .i64 0, .int .i64 0, .int .i64 0] 41)) (.int .i64 RU.kd) (.int .i64 RU.a) (.int .i64 RU.b) (.int .i64 RU.c) (.slice As ns cs) 63)
    simp only [World.size_alloc] at Y9; clear hyes hev3 hrb hsn hra hrb' hrc LK; unfold Rule.v at NX
    go_enter Try.func85, Try.ntmps85
    go_wp2_with fail
    generalize hb3 : w.heap.size = b3 at *
    generalize hb4 : b3 + 1 = b4 at *
    generalize hb5 : b4 + 1 = b5 at *
    generalize hb6 : b5 + 1 = b6 at *
    generalize hb9 : b6 + 1 = b9 at *
    refine (NX.out _).mono ?_; rintro x w1 ⟨rfl, u1⟩
    have UW := Lib.hid (UR0.out.trans u1)
    have Y3 := Lib.hid (Y3.out.up u1)
    have Y4 := Lib.hid (Y4.out.up u1)
    have Y5 := Lib.hid (Y5.out.up u1)
    have Y6 := Lib.hid (Y6.out.up u1)
    have y9 := Y9.out.up u1
    have Y9 := Lib.hid (show Laid5 w1 b9 _ _ _ _ _ from ⟨y9.lt, y9.c0, y9.c1, y9.c2, y9.c3, y9.c4⟩)
    clear u1 y9 hrun X3 X4 X5 X6 UR0 NX
    have c4 := Y4.out.set0 ((RU.a * ss + RU.b * edt + RU.c) % 97)
    have KP := Lib.hid ((Kept.mk Y3.out Y4.out Y5.out Y6.out Y9.out).set4 (by omega) (by omega) (by omega) (by omega) c4)
    have UP1 := Lib.hid (UW.out.setCell (p := ⟨b4, 0, none⟩) (by dsimp only; omega) (.int .i64 ((RU.a * ss + RU.b * edt + RU.c) % 97)))
    obtain ⟨p0, p1, p2⟩ := And.intro Y4.out.c0 (And.intro Y4.out.c1 Y4.out.c2)
    have pf := Y4.out.f
    obtain ⟨lL, z0, z1, z2, z3, z4⟩ := Y9.out
    have l4 := Y4.out.lt
    have n49 : b9 ≠ b4 := by omega
    generalize hs1 : (RU.a * ss + RU.b * edt + RU.c) % 97 = S1 at hS1 TG0 KP UP1 c4 ⊢
    clear hs1 c4 Y3 Y4 Y5 Y6 Y9; go_wp2; clear p0 p1 p2 pf lL z0 z1 z2 z3 z4 l4
    have hb7 : b9 < b9 + 1 := by omega
    have SZ := Lib.hid (show b9 + 1 ≤ (w1.setCell ⟨b4, 0, none⟩ (.int .i64 S1)).heap.size by have := KP.out.k9.1; omega)
    have OW1 := Lib.hid (show (w1.setCell ⟨b4, 0, none⟩ (.int .i64 S1)).ownsRow (b9 + 1) 45 6 (.slice none 0 0) ([] : List Evt).length (flat []) from ⟨rfl, .inl ⟨rfl, rfl⟩⟩)
    generalize w1.setCell ⟨b4, 0, none⟩ (.int .i64 S1) = W1 at KP UP1 OW1 SZ ⊢
    go_loopw [10, 42] (fun v i wr => (∃ (q : Nat) (acc : List Evt) (q' : Int), q ≤ ns ∧ i = .int .i64 q ∧ 0 ≤ q' ∧ q' ≤ 12 ∧ acc.length ≤ q ∧
      Hid (doE ⟨rss, es, til⟩ ⟨ss, sq, st⟩ ⟨et, eto, efr, esq, ekd, edt⟩ = (⟨S1, (sendsE til S1 ⟨et, eto, efr, esq, ekd, edt⟩ (RU.sends.drop q) q').2, wrap64 (st + 1)⟩, acc ++ (sendsE til S1 ⟨et, eto, efr, esq, ekd, edt⟩ (RU.sends.drop q) q').1)) ∧
      Hid (wr.ownsRow (b9 + 1) 45 6 v acc.length (flat acc)) ∧ Hid (Kept wr b3 b4 b5 b6 b9 (.map (some mb)) (.int .i64 many) (.int .i64 til) S1 q' (wrap64 (st + 1)) ⟨et, eto, efr, esq, ekd, edt⟩ (.int .i64 RU.kd) (.int .i64 RU.a) (.int .i64 RU.b) (.int .i64 RU.c) (.slice As ns cs))) ∧ Up w wr) (fun _ i _ => ns - (intOf i).toNat)
    case atStart => exact ⟨⟨0, [], sq, by omega, rfl, by omega, by omega, by simp, TG0, OW1, KP⟩, UP1.out⟩
    case round =>
      obtain ⟨⟨q, acc, q', hq, rfl, hq0, hq12, hacc, TG, HOW, KP⟩, ur⟩ := hrel
      have UR := Lib.hid ur
      obtain ⟨p0, p1, p2⟩ := And.intro KP.out.k4.c0 (And.intro KP.out.k4.c1 KP.out.k4.c2)
      have pl := KP.out.k4.lt
      have pf := KP.out.k4.f
      clear ur
      by_cases hlt : q < ns
      · obtain ⟨bS, oS, hAS, hbS, hcS⟩ := (E3.out.up UR.out).2 (by omega)
        subst hAS
        have a0 := hcS q hlt
        have SD := sendsE_drop til S1 ⟨et, eto, efr, esq, ekd, edt⟩ RU.sends q q' (by rw [E3.out.1]; exact hlt)
        have SQ := SN.out q (by rw [E3.out.1]; exact hlt)
        clear hcS
        generalize RU.sends.getD q default = x at a0 SD SQ
        obtain ⟨xt, xto, xfr, xsq, xkd, xdt⟩ := x; unfold EvAt at a0; dsimp only at a0 SD SQ; obtain ⟨v0, v1, v2', v3, v4, v5⟩ := a0; obtain ⟨hx1, hx2, hx3⟩ := SQ
        have SD := Lib.hid SD
        have i4 : (q : Int) < ns := by omega
        have i5 : IntKind.i64.wrap ((q : Int) + 1) = (q : Int) + 1 := IntWalk.i64_in _ (by omega)
        have r1 : S1.tmod xkd = S1 % xkd := Int.tmod_eq_emod_of_nonneg hS1.1
        have r0 : ¬ xkd = 0 := by omega
        have rb : 0 ≤ S1 % xkd ∧ S1 % xkd ≤ 96 := ⟨Int.emod_nonneg _ r0, by have := Int.emod_lt_of_pos S1 (show 0 < xkd by omega); omega⟩
        have r2 : IntKind.i64.wrap (S1 % xkd) = S1 % xkd := IntWalk.i64_in _ (by omega)
        have nx4 : wr.heap.size ≠ b4 := by omega
        by_cases h2 : q' = 12
        · have TN := Lib.hid (TG.out.trans (by rw [SD.out, if_pos (Or.inr h2)]) : doE ⟨rss, es, til⟩ ⟨ss, sq, st⟩ ⟨et, eto, efr, esq, ekd, edt⟩ = (⟨S1, (sendsE til S1 ⟨et, eto, efr, esq, ekd, edt⟩ (RU.sends.drop (q + 1)) q').2, wrap64 (st + 1)⟩, acc ++ (sendsE til S1 ⟨et, eto, efr, esq, ekd, edt⟩ (RU.sends.drop (q + 1)) q').1))
          subst h2
          have UA := Lib.hid ((UR.out.alloc (.cells #[.int .i64 xt, .int .i64 xto, .int .i64 xfr, .int .i64 xsq, .int .i64 xkd, .int .i64 xdt] 140)))
          have KA := Lib.hid (KP.out.up ((Up.refl _).alloc (.cells #[.int .i64 xt, .int .i64 xto, .int .i64 xfr, .int .i64 xsq, .int .i64 xkd, .int .i64 xdt] 140)))
          have OA := Lib.hid (own_up HOW.out ((Up.refl _).alloc (.cells #[.int .i64 xt, .int .i64 xto, .int .i64 xfr, .int .i64 xsq, .int .i64 xkd, .int .i64 xdt] 140)))
          go_wp2
          go_roundw
          case rel => exact ⟨⟨q + 1, acc, 12, by omega, by first | rfl | go_num, by omega, by omega, by omega, TN, OA, KA⟩, UA.out⟩
          case measure => (simp [intOf]; try omega)
        · by_cases h1 : S1 % xkd = xdt
          · have UA := Lib.hid ((UR.out.alloc (.cells #[.int .i64 xt, .int .i64 xto, .int .i64 xfr, .int .i64 xsq, .int .i64 xkd, .int .i64 xdt] 140)))
            have KA := Lib.hid (KP.out.up ((Up.refl _).alloc (.cells #[.int .i64 xt, .int .i64 xto, .int .i64 xfr, .int .i64 xsq, .int .i64 xkd, .int .i64 xdt] 140)))
            have OA := Lib.hid (own_up HOW.out ((Up.refl _).alloc (.cells #[.int .i64 xt, .int .i64 xto, .int .i64 xfr, .int .i64 xsq, .int .i64 xkd, .int .i64 xdt] 140)))
            have XA := Lib.hid (Box.new wr ⟨xt, xto, xfr, xsq, xkd, xdt⟩ 140)
            have q1 : IntKind.i64.wrap (q' + 1) = q' + 1 := IntWalk.i64_in _ (by omega)
            have CE := Lib.hid (fun W => event_any S1 q' (wrap64 (st + 1)) et eto efr esq ekd edt xt xto xfr xsq xkd xdt (by omega) (by omega) (by omega) (by omega) W)
            have CH := Lib.hid (fun W => (holds_any ⟨xt, xto, xfr, xsq, xkd, xdt⟩ S1 (by omega) (by dsimp only; omega) W).mono (by rintro z w' ⟨rfl, u⟩; exact ⟨ret_bool (decide_eq_true h1), u⟩) : ∀ W, Calls Try.prog 121 #[.agg #[.int .i64 xt, .int .i64 xto, .int .i64 xfr, .int .i64 xsq, .int .i64 xkd, .int .i64 xdt], .int .i64 S1] W fun z w' => z = .returned (.bool true) ∧ Up W w')
            go_wp2_with fail
            refine (CH.out _).mono ?_; rintro x wH ⟨rfl, uH⟩
            have SWH := Lib.hid (show wr.heap.size < wH.heap.size by have := uH.size; simp at this; omega)
            have UA := Lib.hid (UA.out.trans uH)
            have KA := Lib.hid (KA.out.up uH)
            have OA := Lib.hid (own_up OA.out uH)
            have XA := Lib.hid (XA.out.up uH)
            clear p0 p1 p2 pl pf v0 v1 v2' v3 v4 v5 uH; obtain ⟨p0, p1, p2⟩ := And.intro KA.out.k4.c0 (And.intro KA.out.k4.c1 KA.out.k4.c2)
            have pf := KA.out.k4.f
            have pl := KA.out.k4.lt
            obtain ⟨⟨y0, y1, y2, y3, y4, y5⟩, -⟩ := KA.out.k5.mk6
            have yl := KA.out.k5.lt
            obtain ⟨⟨v0, v1, v2', v3, v4, v5⟩, -⟩ := XA.out.mk6
            have vl := XA.out.lt
            go_wp2_with fail
            refine (CE.out _).mono ?_; rintro x w2 ⟨rfl, u2⟩
            have UA := Lib.hid (UA.out.trans u2)
            have KA := Lib.hid (KA.out.up u2)
            have OA := Lib.hid (own_up OA.out u2)
            have SW := Lib.hid (show wr.heap.size < w2.heap.size by have := u2.size; have := SWH.out; omega)
            clear vl u2 y0 y1 y2 y3 y4 y5 yl p0 p1 p2 pl pf v0 v1 v2' v3 v4 v5 XA nx4; obtain ⟨p0, p1, p2⟩ := And.intro KA.out.k4.c0 (And.intro KA.out.k4.c1 KA.out.k4.c2)
            have pf := KA.out.k4.f
            have pl := KA.out.k4.lt
            obtain ⟨t0, t1, t2⟩ := And.intro KA.out.k3.c0 (And.intro KA.out.k3.c1 KA.out.k3.c2)
            have tl := KA.out.k3.lt
            have hb4w : w2.heap.size ≠ b4 := by omega
            have hb3w : w2.heap.size ≠ b3 := by omega
            have uB := (Up.refl w2).alloc (.cells #[.int .i64 (et + xto), .int .i64 xt, .int .i64 eto, .int .i64 q', .int .i64 xfr, .int .i64 ((S1 + xsq) % 97)] 45)
            have HRD := Lib.hid (Evs.new w2 ⟨et + xto, xt, eto, q', xfr, (S1 + xsq) % 97⟩ 45)
            have HOA := Lib.hid (own_up OA.out uB)
            have KB := Lib.hid (KA.out.up uB)
            have UB := Lib.hid (UA.out.trans uB)
            by_cases h3 : et + xto ≤ til
            · have TN := Lib.hid (TG.out.trans (by rw [SD.out, if_neg (by simp [h1, h2]), if_pos h3]; simp) : (doE ⟨rss, es, til⟩ ⟨ss, sq, st⟩ ⟨et, eto, efr, esq, ekd, edt⟩ = (⟨S1, (sendsE til S1 ⟨et, eto, efr, esq, ekd, edt⟩ (RU.sends.drop (q + 1)) (q' + 1)).2, wrap64 (st + 1)⟩, (acc ++ [⟨et + xto, xt, eto, q', xfr, (S1 + xsq) % 97⟩]) ++ (sendsE til S1 ⟨et, eto, efr, esq, ekd, edt⟩ (RU.sends.drop (q + 1)) (q' + 1)).1)))
              have HMX := Lib.hid (show acc.length + 1 ≤ maxLen by simp only [maxLen]; omega)
              have HBY := Lib.hid (show (acc.length + 1) * 48 ≤ 140737488355328 by omega)
              have uC := uB.alloc (.cells #[.int .i64 (et + xto), .int .i64 xt, .int .i64 eto, .int .i64 q', .int .i64 xfr, .int .i64 ((S1 + xsq) % 97)] 45)
              have hrd := (Evs.new (w2.alloc (.cells #[.int .i64 (et + xto), .int .i64 xt, .int .i64 eto, .int .i64 q', .int .i64 xfr, .int .i64 ((S1 + xsq) % 97)] 45)) ⟨et + xto, xt, eto, q', xfr, (S1 + xsq) % 97⟩ 45).reads
              simp only [World.size_alloc] at hrd
              have HRD := Lib.hid hrd
              clear hrd
              have HOA := Lib.hid (own_up OA.out uC)
              have KB := Lib.hid (KA.out.up uC)
              have UB := Lib.hid (UA.out.trans uC)
              have HBS := Lib.hid (show b9 + 1 ≤ ((w2.alloc (.cells #[.int .i64 (et + xto), .int .i64 xt, .int .i64 eto, .int .i64 q', .int .i64 xfr, .int .i64 ((S1 + xsq) % 97)] 45)).alloc (.cells #[.int .i64 (et + xto), .int .i64 xt, .int .i64 eto, .int .i64 q', .int .i64 xfr, .int .i64 ((S1 + xsq) % 97)] 45)).heap.size by have := KA.out.k9.1; simp; omega)
              clear uC uB
              go_wp2_with (at_builtin; refine wpList_append_any _ rfl (.tmp 65) (.tmp 67) 31 rfl (b9 + 1) 45 i0 _ 6 48 Try.underlying31 INF.out.1 INF.out.2.1 INF.out.2.2.1 INF.out.2.2.2 rfl SIX.out _ _ (flat acc) rfl HOA.out _ _ 1 1 (flat [⟨et + xto, xt, eto, q', xfr, (S1 + xsq) % 97⟩]) (by first | rfl | simp) HRD.out (flat_one _) HMX.out HBY.out HBS.out ?_; intro v2 w3 ho2 hg2 hv2; have HO2 := Lib.hid ho2; have HG2 := Lib.hid hg2; clear ho2 hg2 hv2; have KC := Lib.hid (KB.out.grown HG2.out (own_ne HOA.out (by omega)) (own_ne HOA.out (by omega)) (own_ne HOA.out (by omega)) (own_ne HOA.out (by omega)) (own_ne HOA.out (by omega))); obtain ⟨s0, s1, s2⟩ := And.intro KC.out.k4.c0 (And.intro KC.out.k4.c1 KC.out.k4.c2); have sf := KC.out.k4.f; have sl := KC.out.k4.lt)
              have UC := Lib.hid (UB.out.grown HG2.out (fun k hk => by have := (HOA.out.lt k hk).1; omega))
              have OC := Lib.hid (own_snoc HO2.out rfl)
              have K4 := Lib.hid (KC.out.set4 (by omega) (by omega) (by omega) (by omega) (KC.out.k4.set1 (q' + 1)))
              have O4 := Lib.hid (ownsRow_setCell_below OC.out (a := ⟨b4, 1, none⟩) (by dsimp only; omega) (.int .i64 (q' + 1)))
              have U4 := Lib.hid (UC.out.setCell (p := ⟨b4, 1, none⟩) (by dsimp only; omega) (.int .i64 (q' + 1)))
              go_roundw
              case rel => exact ⟨⟨q + 1, acc ++ [⟨et + xto, xt, eto, q', xfr, (S1 + xsq) % 97⟩], q' + 1, by omega, by first | rfl | go_num, by omega, by omega, by simp; omega, TN, O4, K4⟩, U4.out⟩
              case measure => (simp [intOf]; try omega)
            · have TN := Lib.hid (TG.out.trans (by rw [SD.out, if_neg (by simp [h1, h2]), if_neg h3]) : (doE ⟨rss, es, til⟩ ⟨ss, sq, st⟩ ⟨et, eto, efr, esq, ekd, edt⟩ = (⟨S1, (sendsE til S1 ⟨et, eto, efr, esq, ekd, edt⟩ (RU.sends.drop (q + 1)) (q' + 1)).2, wrap64 (st + 1)⟩, acc ++ (sendsE til S1 ⟨et, eto, efr, esq, ekd, edt⟩ (RU.sends.drop (q + 1)) (q' + 1)).1)))
              have K4 := Lib.hid ((KA.out.set4 (by omega) (by omega) (by omega) (by omega) (KA.out.k4.set1 (q' + 1))).up ((Up.refl _).alloc (.cells #[.int .i64 (et + xto), .int .i64 xt, .int .i64 eto, .int .i64 q', .int .i64 xfr, .int .i64 ((S1 + xsq) % 97)] 45)))
              have O4 := Lib.hid (own_up (ownsRow_setCell_below OA.out (a := ⟨b4, 1, none⟩) (by dsimp only; omega) (.int .i64 (q' + 1))) ((Up.refl _).alloc (.cells #[.int .i64 (et + xto), .int .i64 xt, .int .i64 eto, .int .i64 q', .int .i64 xfr, .int .i64 ((S1 + xsq) % 97)] 45)))
              have U4 := Lib.hid ((UA.out.setCell (p := ⟨b4, 1, none⟩) (by dsimp only; omega) (.int .i64 (q' + 1))).alloc (.cells #[.int .i64 (et + xto), .int .i64 xt, .int .i64 eto, .int .i64 q', .int .i64 xfr, .int .i64 ((S1 + xsq) % 97)] 45))
              have h3' : til < et + xto := by omega
              go_wp2
              go_roundw
              case rel => exact ⟨⟨q + 1, acc, q' + 1, by omega, by first | rfl | go_num, by omega, by omega, by omega, TN, O4, K4⟩, U4.out⟩
              case measure => (simp [intOf]; try omega)
          · have TN := Lib.hid (TG.out.trans (by rw [SD.out, if_pos (Or.inl h1)]) : (doE ⟨rss, es, til⟩ ⟨ss, sq, st⟩ ⟨et, eto, efr, esq, ekd, edt⟩ = (⟨S1, (sendsE til S1 ⟨et, eto, efr, esq, ekd, edt⟩ (RU.sends.drop (q + 1)) q').2, wrap64 (st + 1)⟩, acc ++ (sendsE til S1 ⟨et, eto, efr, esq, ekd, edt⟩ (RU.sends.drop (q + 1)) q').1)))
            have CH := Lib.hid (fun W => (holds_any ⟨xt, xto, xfr, xsq, xkd, xdt⟩ S1 (by omega) (by dsimp only; omega) W).mono (by rintro z w' ⟨rfl, u⟩; exact ⟨ret_bool (decide_eq_false h1), u⟩) : ∀ W, Calls Try.prog 121 #[.agg #[.int .i64 xt, .int .i64 xto, .int .i64 xfr, .int .i64 xsq, .int .i64 xkd, .int .i64 xdt], .int .i64 S1] W fun z w' => z = .returned (.bool false) ∧ Up W w')
            go_wp2_with fail
            refine (CH.out _).mono ?_; rintro x wH ⟨rfl, uH⟩
            have UA := Lib.hid ((UR.out.alloc (.cells #[.int .i64 xt, .int .i64 xto, .int .i64 xfr, .int .i64 xsq, .int .i64 xkd, .int .i64 xdt] 140)))
            have KA := Lib.hid (KP.out.up ((Up.refl _).alloc (.cells #[.int .i64 xt, .int .i64 xto, .int .i64 xfr, .int .i64 xsq, .int .i64 xkd, .int .i64 xdt] 140)))
            have OA := Lib.hid (own_up HOW.out ((Up.refl _).alloc (.cells #[.int .i64 xt, .int .i64 xto, .int .i64 xfr, .int .i64 xsq, .int .i64 xkd, .int .i64 xdt] 140)))
            have UA := Lib.hid (UA.out.trans uH)
            have KA := Lib.hid (KA.out.up uH)
            have OA := Lib.hid (own_up OA.out uH)
            clear uH; go_wp2
            go_roundw
            case rel => exact ⟨⟨q + 1, acc, q', by omega, by first | rfl | go_num, by omega, by omega, by omega, TN, OA, KA⟩, UA.out⟩
            case measure => (simp [intOf]; try omega)
      · have TF := Lib.hid (TG.out.trans (by rw [List.drop_eq_nil_of_le (by rw [E3.out.1]; omega)]; simp [sendsE]) : doE ⟨rss, es, til⟩ ⟨ss, sq, st⟩ ⟨et, eto, efr, esq, ekd, edt⟩ = (⟨S1, q', wrap64 (st + 1)⟩, acc))
        have i4 : ¬ (q : Int) < ns := by omega
        have X6 := KP.out.k6
        obtain ⟨d0, d1, d2⟩ := And.intro X6.c0 (And.intro X6.c1 X6.c2)
        have df := X6.f
        have dl := X6.lt
        obtain ⟨k0, k1, k2⟩ := And.intro (X6.laid' S1 q' (wrap64 (st + 1))).c0 (And.intro (X6.laid' S1 q' (wrap64 (st + 1))).c1 (X6.laid' S1 q' (wrap64 (st + 1))).c2)
        have b67 : ∀ j, (⟨b6, j, none⟩ : Addr).block < b9 + 1 := fun j => by dsimp only; omega
        have b6w : ∀ j, w.heap.size ≤ (⟨b6, j, none⟩ : Addr).block := fun j => by dsimp only; omega
        have UE := Lib.hid (((UR.out.setCell (b6w 0) (.int .i64 S1)).setCell (b6w 1) (.int .i64 q')).setCell (b6w 2) (.int .i64 (wrap64 (st + 1))))
        have OZ := Lib.hid (own_mono (ownsRow_setCell_below (ownsRow_setCell_below (ownsRow_setCell_below HOW.out (b67 0) (.int .i64 S1)) (b67 1) (.int .i64 q')) (b67 2) (.int .i64 (wrap64 (st + 1)))) (show b3 ≤ b9 + 1 by omega))
        clear X6; go_wp2
        exact bodyPost_ret (v := .tuple #[.agg #[.int .i64 S1, .int .i64 q', .int .i64 (wrap64 (st + 1))], u10]) (by simp [results, Try.results85, go_sem, k0, k1, k2]) rfl (by
          rw [TF.out]
          exact ⟨u10, rfl, OZ.out, UE.out⟩)
end Go.Proofs.Ytakmlfgkppekoaa

namespace Go.Proofs.Ytakmlfgkppekoaa
set_option maxRecDepth 100000
open Go.RowKit
def ImplDoPost (m : Mdl) (s : Cst) (e : Evt) (w : World) (x : Ending) (w' : World) : Prop :=
  ∃ v, x = .returned (.tuple #[(doM m s e).1.v, v]) ∧ w'.ownsRow w.heap.size 45 6 v (doM m s e).2.length (flat (doM m s e).2) ∧ Up w w'
set_option maxHeartbeats 8000000 in
theorem implCmpDo_any (A : Option Addr) (n c : Nat) (B : Option Addr) (k d : Nat) (m : Mdl) (s : Cst) (e : Evt) (w : World) (hM : MdlV w A n B k m) :
    Calls Try.prog 37 #[.agg #[.slice A n c, .slice B k d, .int .i64 m.til], s.v, e.v] w (ImplDoPost m s e w) := by
  have hnr := hM.rules.1
  obtain ⟨et, eto, efr, esq, ekd, edt⟩ := e
  have MB := Lib.hid (show mayB m s ⟨et, eto, efr, esq, ekd, edt⟩ = (mdlB m && cstB s && (okB ⟨et, eto, efr, esq, ekd, edt⟩ m.rules.length && decide (et ≤ m.til))) by simp only [mayB, Bool.and_assoc])
  have CM := Lib.hid (fun W (u : Up w W) => newMachine_any A n c B k d m W (hM.up u))
  have CC := Lib.hid (fun W => implCst_any s W)
  have CD := Lib.hid (fun mb W (h : Mach W mb m) ho => process_any mb m.rules.length m s ⟨et, eto, efr, esq, ekd, edt⟩ W h ho)
  have U0 := Lib.hid ((((Up.refl w).alloc (.cells #[.slice A n c, .slice B k d, .int .i64 m.til] 33)).alloc (.cells #[.int .i64 s.s, .int .i64 s.sq, .int .i64 s.ct] 41)).alloc (.cells #[.int .i64 et, .int .i64 eto, .int .i64 efr, .int .i64 esq, .int .i64 ekd, .int .i64 edt] 45) |>.alloc (.cells #[.int .i64 0, .int .i64 0, .int .i64 0] 41))
  have X3 := Lib.hid ((((Box3.new w (.slice A n c) (.slice B k d) (.int .i64 m.til) 33).up ((Up.refl _).alloc (.cells #[.int .i64 s.s, .int .i64 s.sq, .int .i64 s.ct] 41))).up ((Up.refl _).alloc (.cells #[.int .i64 et, .int .i64 eto, .int .i64 efr, .int .i64 esq, .int .i64 ekd, .int .i64 edt] 45))).up ((Up.refl _).alloc (.cells #[.int .i64 0, .int .i64 0, .int .i64 0] 41)))
  have X4 := Lib.hid (((Box3.new (w.alloc (.cells #[.slice A n c, .slice B k d, .int .i64 m.til] 33)) (.int .i64 s.s) (.int .i64 s.sq) (.int .i64 s.ct) 41).up ((Up.refl _).alloc (.cells #[.int .i64 et, .int .i64 eto, .int .i64 efr, .int .i64 esq, .int .i64 ekd, .int .i64 edt] 45))).up ((Up.refl _).alloc (.cells #[.int .i64 0, .int .i64 0, .int .i64 0] 41)))
  have X5 := Lib.hid ((Box.new ((w.alloc (.cells #[.slice A n c, .slice B k d, .int .i64 m.til] 33)).alloc (.cells #[.int .i64 s.s, .int .i64 s.sq, .int .i64 s.ct] 41)) ⟨et, eto, efr, esq, ekd, edt⟩ 45).up ((Up.refl _).alloc (.cells #[.int .i64 0, .int .i64 0, .int .i64 0] 41)))
  have X6 := Lib.hid (Cell3.new (((w.alloc (.cells #[.slice A n c, .slice B k d, .int .i64 m.til] 33)).alloc (.cells #[.int .i64 s.s, .int .i64 s.sq, .int .i64 s.ct] 41)).alloc (.cells #[.int .i64 et, .int .i64 eto, .int .i64 efr, .int .i64 esq, .int .i64 ekd, .int .i64 edt] 45)) 0 0 0 41)
  simp only [World.size_alloc] at X4 X5 X6
  generalize hmb : mdlB m = g1 at MB
  have HG1 := Lib.hid hmb
  generalize hcb : cstB s = g2 at MB CC
  unfold Cst.v at CC CD ⊢; unfold Evt.v at CD ⊢; dsimp only at CC CD ⊢; clear hM hnr hmb hcb
  go_enter Try.func37, Try.ntmps37
  go_wp2_with fail
  refine (CM.out _ U0.out).mono ?_; rintro x w1 ⟨u1, ho⟩
  have UU := Lib.hid (U0.out.trans u1)
  have X4 := Lib.hid (X4.out.up u1)
  have X5 := Lib.hid (X5.out.up u1)
  have X6 := Lib.hid (X6.out.up u1)
  generalize hb6 : w.heap.size + 1 + 1 + 1 = b6 at X6 ⊢
  have hb6w : w.heap.size ≤ b6 := by omega
  clear u1
  rcases ho with ⟨hg, rfl⟩ | ⟨hg, mb, rfl, hmbw, hmach⟩
  · obtain rfl : g1 = false := HG1.out.symm.trans hg
    clear hg
    have DN := Lib.hid (show doM m s ⟨et, eto, efr, esq, ekd, edt⟩ = (⟨0, 0, 0⟩, []) by unfold doM; rw [if_neg (by rw [MB.out]; simp)])
    obtain ⟨q0, q1, q2⟩ := And.intro X6.out.c0 (And.intro X6.out.c1 X6.out.c2)
    have qf := X6.out.f
    have ql := X6.out.lt
    have XA := (X6.out.laid' 0 0 0).up ((Up.refl _).alloc (.cells #[.map none, .int .i64 0, .int .i64 0] 106))
    obtain ⟨k0, k1, k2⟩ := And.intro XA.c0 (And.intro XA.c1 XA.c2)
    have UE := Lib.hid ((((UU.out.setCell (p := ⟨b6, 0, none⟩) hb6w (.int .i64 0)).setCell (p := ⟨b6, 1, none⟩) hb6w (.int .i64 0)).setCell (p := ⟨b6, 2, none⟩) hb6w (.int .i64 0)).alloc (.cells #[.map none, .int .i64 0, .int .i64 0] 106))
    clear XA; go_wp2
    exact bodyPost_ret (v := .tuple #[.agg #[.int .i64 0, .int .i64 0, .int .i64 0], .slice none 0 0]) (by simp [results, Try.results37, go_sem, k0, k1, k2]) rfl (by
      unfold ImplDoPost; rw [DN.out]
      exact ⟨.slice none 0 0, rfl, ⟨rfl, .inl ⟨rfl, rfl⟩⟩, UE.out⟩)
  · obtain rfl : g1 = true := HG1.out.symm.trans hg
    have HMA := Lib.hid hmach
    clear hg hmach hmbw; obtain ⟨p0, p1, p2⟩ := And.intro X4.out.c0 (And.intro X4.out.c1 X4.out.c2)
    have pl := X4.out.lt
    have u3 : Up w1 (w1.alloc (.cells #[.map (some mb), .int .i64 m.rules.length, .int .i64 m.til] 106)) := (Up.refl _).alloc _
    have X7 := Lib.hid (Box3.new w1 (.map (some mb)) (.int .i64 m.rules.length) (.int .i64 m.til) 106)
    go_wp2_with fail
    refine (CC.out _).mono ?_; rintro x w2 ⟨rfl, u2⟩
    have X7 := Lib.hid (X7.out.up u2)
    have u2 := u3.trans u2
    have UU := Lib.hid (UU.out.trans u2)
    have X4 := Lib.hid (X4.out.up u2)
    have X5 := Lib.hid (X5.out.up u2)
    have X6 := Lib.hid (X6.out.up u2)
    have HMA := Lib.hid (HMA.out.up u2)
    clear u2 u3 p0 p1 p2 pl
    generalize w1.heap.size = b8 at X7 ⊢
    cases g2
    · have DN := Lib.hid (show doM m s ⟨et, eto, efr, esq, ekd, edt⟩ = (⟨0, 0, 0⟩, []) by unfold doM; rw [if_neg (by rw [MB.out]; simp)])
      obtain ⟨q0, q1, q2⟩ := And.intro X6.out.c0 (And.intro X6.out.c1 X6.out.c2)
      have qf := X6.out.f
      have ql := X6.out.lt
      have XA := (X6.out.laid' 0 0 0).up (Up.refl _)
      obtain ⟨k0, k1, k2⟩ := And.intro XA.c0 (And.intro XA.c1 XA.c2)
      have UE := Lib.hid ((((UU.out.setCell (p := ⟨b6, 0, none⟩) hb6w (.int .i64 0)).setCell (p := ⟨b6, 1, none⟩) hb6w (.int .i64 0)).setCell (p := ⟨b6, 2, none⟩) hb6w (.int .i64 0)))
      clear XA; go_wp2
      exact bodyPost_ret (v := .tuple #[.agg #[.int .i64 0, .int .i64 0, .int .i64 0], .slice none 0 0]) (by simp [results, Try.results37, go_sem, k0, k1, k2]) rfl (by
        unfold ImplDoPost; rw [DN.out]
        exact ⟨.slice none 0 0, rfl, ⟨rfl, .inl ⟨rfl, rfl⟩⟩, UE.out⟩)
    · obtain ⟨t0, t1, t2⟩ := And.intro X7.out.c0 (And.intro X7.out.c1 X7.out.c2)
      obtain ⟨⟨y0, y1, y2, y3, y4, y5⟩, -⟩ := X5.out.mk6
      have TK := Lib.hid (fun W => takes_any _ m.rules.length m.til ⟨et, eto, efr, esq, ekd, edt⟩ (some mb) rfl W)
      generalize hok : (okB ⟨et, eto, efr, esq, ekd, edt⟩ m.rules.length && decide (et ≤ m.til)) = g3 at MB
      have HOK := Lib.hid hok
      have TK2 := Lib.hid (fun W => (show Calls Try.prog 84 #[.agg #[.map (some mb), .int .i64 m.rules.length, .int .i64 m.til], .agg #[.int .i64 et, .int .i64 eto, .int .i64 efr, .int .i64 esq, .int .i64 ekd, .int .i64 edt]] W fun z w' => z = .returned (.bool g3) ∧ Up W w' by have h := TK.out W; rw [HOK.out] at h; exact h))
      clear TK hok
      go_wp2_with fail
      refine (TK2.out _).mono ?_; rintro x w3 ⟨rfl, u2⟩
      have X7 := Lib.hid (X7.out.up u2)
      have UU := Lib.hid (UU.out.trans u2)
      have X4 := Lib.hid (X4.out.up u2)
      have X5 := Lib.hid (X5.out.up u2)
      have X6 := Lib.hid (X6.out.up u2)
      have HMA := Lib.hid (HMA.out.up u2)
      clear u2 t0 t1 t2 y0 y1 y2 y3 y4 y5
      cases g3
      · have DN := Lib.hid (show doM m s ⟨et, eto, efr, esq, ekd, edt⟩ = (⟨0, 0, 0⟩, []) by unfold doM; rw [if_neg (by rw [MB.out]; simp)])
        obtain ⟨q0, q1, q2⟩ := And.intro X6.out.c0 (And.intro X6.out.c1 X6.out.c2)
        have qf := X6.out.f
        have ql := X6.out.lt
        have XA := (X6.out.laid' 0 0 0).up (Up.refl _)
        obtain ⟨k0, k1, k2⟩ := And.intro XA.c0 (And.intro XA.c1 XA.c2)
        have UE := Lib.hid ((((UU.out.setCell (p := ⟨b6, 0, none⟩) hb6w (.int .i64 0)).setCell (p := ⟨b6, 1, none⟩) hb6w (.int .i64 0)).setCell (p := ⟨b6, 2, none⟩) hb6w (.int .i64 0)))
        clear XA; go_wp2
        exact bodyPost_ret (v := .tuple #[.agg #[.int .i64 0, .int .i64 0, .int .i64 0], .slice none 0 0]) (by simp [results, Try.results37, go_sem, k0, k1, k2]) rfl (by
          unfold ImplDoPost; rw [DN.out]
          exact ⟨.slice none 0 0, rfl, ⟨rfl, .inl ⟨rfl, rfl⟩⟩, UE.out⟩)
      · obtain ⟨p0, p1, p2⟩ := And.intro X4.out.c0 (And.intro X4.out.c1 X4.out.c2)
        obtain ⟨t0, t1, t2⟩ := And.intro X7.out.c0 (And.intro X7.out.c1 X7.out.c2); obtain ⟨⟨y0, y1, y2, y3, y4, y5⟩, -⟩ := X5.out.mk6
        have HM1 : mayB m s ⟨et, eto, efr, esq, ekd, edt⟩ = true := by rw [MB.out]; rfl
        have DD := Lib.hid (show doM m s ⟨et, eto, efr, esq, ekd, edt⟩ = doE m s ⟨et, eto, efr, esq, ekd, edt⟩ from if_pos HM1)
        have CD := Lib.hid (CD.out mb w3 HMA.out HM1)
        clear HM1
        go_wp2_with fail
        refine CD.out.mono ?_; rintro x w4 ⟨v, rfl, ho, u4⟩; rw [← DD.out] at ho ⊢
        generalize hdm : doM m s ⟨et, eto, efr, esq, ekd, edt⟩ = dm at ho ⊢
        obtain ⟨⟨z0, z1, z2⟩, out⟩ := dm; unfold Cst.v; dsimp only at ho ⊢
        have HD := Lib.hid hdm
        have hl3 : b6 < w3.heap.size := X6.out.lt
        have X6 := Lib.hid (X6.out.up u4)
        have hw3 := UU.out.size
        have UU := Lib.hid (UU.out.trans u4)
        obtain ⟨q0, q1, q2⟩ := And.intro X6.out.c0 (And.intro X6.out.c1 X6.out.c2)
        have qf := X6.out.f
        have ql := X6.out.lt
        obtain ⟨k0, k1, k2⟩ := And.intro (X6.out.laid' z0 z1 z2).c0 (And.intro (X6.out.laid' z0 z1 z2).c1 (X6.out.laid' z0 z1 z2).c2)
        have UE := Lib.hid (((UU.out.setCell (p := ⟨b6, 0, none⟩) hb6w (.int .i64 z0)).setCell (p := ⟨b6, 1, none⟩) hb6w (.int .i64 z1)).setCell (p := ⟨b6, 2, none⟩) hb6w (.int .i64 z2))
        have b67 : ∀ j, (⟨b6, j, none⟩ : Addr).block < w3.heap.size := fun j => hl3
        have OZ := Lib.hid (own_mono (ownsRow_setCell_below (ownsRow_setCell_below (ownsRow_setCell_below ho (b67 0) (.int .i64 z0)) (b67 1) (.int .i64 z1)) (b67 2) (.int .i64 z2)) hw3)
        clear u4 ho hdm b67; go_wp2
        exact bodyPost_ret (v := .tuple #[.agg #[.int .i64 z0, .int .i64 z1, .int .i64 z2], v]) (by simp [results, Try.results37, go_sem, k0, k1, k2]) rfl (by
          unfold ImplDoPost; rw [HD.out]
          exact ⟨v, rfl, OZ.out, UE.out⟩)
end Go.Proofs.Ytakmlfgkppekoaa

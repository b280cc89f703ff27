/-
  What FnExactEvtTake returns, in one sentence: true, with new blocks alone; for every list of events and every event.
-/
import Derived.Test.YtodbdehnindlbaaWTake
import Derived.Test.YtodbdehnindlbaaWErise
import Derived.Test.YtodbdehnindlbaaMark
import Derived.Test.YtodbdehnindlbaaBox
import Derived.Deep.RegionHeld3
namespace Go.Proofs.Ytodbdehnindlbaa
open Go.RowKit

theorem six_up {w1 w2 : World} {b0 : Nat} {et eto efr esq ekd edt : Int} (u : Up w1 w2)
    (h : b0 < w1.heap.size ∧ w1.cell? ⟨b0, 0, none⟩ = some (.int .i64 et) ∧ w1.cell? ⟨b0, 1, none⟩ = some (.int .i64 eto) ∧ w1.cell? ⟨b0, 2, none⟩ = some (.int .i64 efr) ∧ w1.cell? ⟨b0, 3, none⟩ = some (.int .i64 esq) ∧ w1.cell? ⟨b0, 4, none⟩ = some (.int .i64 ekd) ∧ w1.cell? ⟨b0, 5, none⟩ = some (.int .i64 edt)) :
    b0 < w2.heap.size ∧ w2.cell? ⟨b0, 0, none⟩ = some (.int .i64 et) ∧ w2.cell? ⟨b0, 1, none⟩ = some (.int .i64 eto) ∧ w2.cell? ⟨b0, 2, none⟩ = some (.int .i64 efr) ∧ w2.cell? ⟨b0, 3, none⟩ = some (.int .i64 esq) ∧ w2.cell? ⟨b0, 4, none⟩ = some (.int .i64 ekd) ∧ w2.cell? ⟨b0, 5, none⟩ = some (.int .i64 edt) := by
  obtain ⟨h, h0, h1, h2, h3, h4, h5⟩ := h
  exact ⟨Nat.lt_of_lt_of_le h u.size, (u.cells _ _ h).trans h0, (u.cells _ _ h).trans h1, (u.cells _ _ h).trans h2, (u.cells _ _ h).trans h3, (u.cells _ _ h).trans h4, (u.cells _ _ h).trans h5⟩

theorem own_own {w : World} {base q c : Nat} {A : Option Addr} {fs : List Evt} (h : w.ownsRow base 24 6 (.slice A q c) q (flat fs)) (hq : 0 < q) : ∃ g, A = some ⟨g, 0, none⟩ ∧ base ≤ g ∧ Own w g q fs := by
  have hl : fs.length = q := by have := h.1; rw [flat_len] at this; omega
  have hE := own_evs h
  rcases h.2 with ⟨_, h0⟩ | ⟨g, cap, cur, hv, hb, hh, _⟩
  · omega
  · injection hv with hA _ _
    subst hA
    obtain ⟨b, off, hA, hlt, hc⟩ := hE.2 hq
    injection hA with hA
    injection hA with h1 h2
    subst h1 h2
    exact ⟨g, rfl, hb, hl, hlt, fun i hi => by have := hc i hi; rwa [Nat.zero_add] at this, fun j hj => by unfold World.frozen?; rw [hh]; simp⟩
theorem mark_own (A : Option Addr) (q c : Nat) {base : Nat} {fs : List Evt} (w : World) (hq : q ≤ 1100000) (h : w.ownsRow base 24 6 (.slice A q c) q (flat fs)) :
    Calls Try.prog 35 #[.slice A q c, .int .i64 1] w fun x w' => x = .returned (.int .i64 (1 + 6 * (q : Int))) ∧ Evs w' A q (marks q) ∧ ∃ g, base ≤ g ∧ Mv g w w' := by
  rcases Nat.eq_zero_or_pos q with h0 | h0
  · subst h0
    refine (mark_none A c w).mono ?_
    rintro x w' ⟨rfl, u⟩
    exact ⟨rfl, ⟨rfl, fun h => absurd h (by omega)⟩, base, Nat.le_refl _, u.mv base⟩
  · obtain ⟨g, rfl, hb, ho⟩ := own_own h h0
    refine (mark_any g q c w hq (ho.part _)).mono ?_
    rintro x w' ⟨rfl, hp, m⟩
    exact ⟨rfl, ⟨marks_len q, fun _ => ⟨g, 0, rfl, hp.1, fun i hi => by rw [Nat.zero_add]; exact hp.2.1 i hi⟩⟩, g, hb, m⟩

set_option maxRecDepth 100000 in
set_option maxHeartbeats 40000000 in
theorem walkEtake {w : World} (A : Option Addr) (n cap : Nat) (es : List Evt) (hE : Evs w A n es) (hn : n ≤ 9223372036854775807) (e : Evt) :
    Calls Try.prog 13 #[.slice A n cap, e.v] w fun x w' => x = .returned (.bool true) ∧ Up w w' := by
  obtain ⟨et, eto, efr, esq, ekd, edt⟩ := e
  unfold Evt.v
  dsimp only
  by_cases h : 1048576 < n
  · have c0 := fun W => sz_any A n cap 1048576 W (by omega) (by omega) hn
    rw [if_pos (by omega)] at c0
    have C0 := Lib.hid c0
    clear c0
    go_enter Try.func13, Try.ntmps13
    go_wp2_with fail
    refine (C0.out _).mono ?_
    rintro x w1 ⟨rfl, rfl⟩
    go_wp2
    go_ret
    exact ⟨rfl, (Up.refl _).alloc _⟩
  · have c0 := fun W => sz_any A n cap 1048576 W (by omega) (by omega) hn
    rw [if_neg (by omega)] at c0
    have hlt : ¬ (1048576 - (n : Int) < 0) := by omega
    have C0 := Lib.hid c0
    have HE := Lib.hid (hE.up ((Up.refl w).alloc (.cells #[.int .i64 et, .int .i64 eto, .int .i64 efr, .int .i64 esq, .int .i64 ekd, .int .i64 edt] 43)))
    have U0 := Lib.hid ((Up.refl w).alloc (.cells #[.int .i64 et, .int .i64 eto, .int .i64 efr, .int .i64 esq, .int .i64 ekd, .int .i64 edt] 43))
    have BX := Lib.hid (Box.new w ⟨et, eto, efr, esq, ekd, edt⟩ 43)
    clear c0 hE
    go_enter Try.func13, Try.ntmps13
    go_wp2_with fail
    refine (C0.out _).mono ?_
    rintro x w1 ⟨rfl, rfl⟩
    go_wp2_with fail
    generalize hW : w.alloc (.cells #[.int .i64 et, .int .i64 eto, .int .i64 efr, .int .i64 esq, .int .i64 ekd, .int .i64 edt] 43) = W0 at HE U0 BX ⊢
    generalize hb0' : w.heap.size = b0 at BX ⊢
    clear hW hb0' C0
    have UW := Lib.hid (Up.refl W0)
    obtain ⟨⟨p0, p1, p2, p3, p4, p5⟩, -⟩ := (BX.out.up UW.out).mk6
    have hb0 := (BX.out.up UW.out).lt
    have HEW := Lib.hid (HE.out.up (UW.out.trans (Up.refl W0).drew))
    go_region_held3 (fun w' => b0 < w'.heap.size ∧ w'.cell? ⟨b0, 0, none⟩ = some (.int .i64 et) ∧ w'.cell? ⟨b0, 1, none⟩ = some (.int .i64 eto) ∧ w'.cell? ⟨b0, 2, none⟩ = some (.int .i64 efr) ∧ w'.cell? ⟨b0, 3, none⟩ = some (.int .i64 esq) ∧ w'.cell? ⟨b0, 4, none⟩ = some (.int .i64 ekd) ∧ w'.cell? ⟨b0, 5, none⟩ = some (.int .i64 edt))
      (first | (exact ⟨hb0, p0, p1, p2, p3, p4, p5⟩) | (exact six_up uT (by assumption)) | (exact six_up uE (by assumption)) | (exact six_up uS (by assumption)))
      (first
        | (go_at_call 29; refine (specTake_any _ n n es ⟨et, eto, efr, esq, ekd, edt⟩ _ (by omega) (Nat.le_refl _) (by omega) (by first | exact (OS.out.up uE).evs | exact OS.out.evs)).mono ?_; rintro x wT1 hT; obtain ⟨r1, fs1, q1, A1, c1, b1, rfl, hat, hf, hq, hb, hqc, hcm, hE1, uT⟩ := hT.cases)
        | (go_at_call 33; refine (toS_any A n cap es _ (by omega) (by first | exact HEW.out.up uE | exact HEW.out)).mono ?_; rintro x wS ⟨gS, rfl, hgS, oS, uS⟩; have OS := Lib.hid oS; clear oS)
        | (go_at_call 31; refine (toEvt_any ⟨et, eto, efr, esq, ekd, edt⟩ _).mono ?_; rintro x wE ⟨rfl, uE⟩))
    have U1 := Lib.hid (by first | exact (((Up.refl W0).drew.trans uS).trans uE).trans uT | exact (((Up.refl W0).drew.trans uE).trans uS).trans uT : Up W0 wT1)
    have HAT := Lib.hid hat
    have HF := Lib.hid hf
    have HQ := Lib.hid hq
    have HBB := Lib.hid hb
    have E1 := Lib.hid hE1
    have hq1 : q1 ≤ n := by have := outE_le es r1; rw [HF.out, HQ.out, HE.out.1] at this; exact this
    have UT := Lib.hid (Up.refl wT1)
    clear hat hf hq hb hE1 uS uE uT OS HEW hT p0 p1 p2 p3 p4 p5 UW
    unfold Evt.v
    have bne0 : (b1 != b1) = false := by cases b1 <;> rfl
    have beq1 : (b1 == b1) = true := by cases b1 <;> rfl
    go_wp2_with fail
    refine (toS_any A n cap es _ (by omega) (HE.out.up (U1.out.trans UT.out))).mono ?_
    rintro x w8 ⟨g8, rfl, hg8, o8, u8⟩
    have O8 := Lib.hid o8
    have UT := Lib.hid (UT.out.trans u8)
    clear o8 u8
    obtain ⟨⟨p0, p1, p2, p3, p4, p5⟩, -⟩ := (BX.out.up (U1.out.trans UT.out)).mk6
    go_wp2_with fail
    refine (toEvt_any ⟨et, eto, efr, esq, ekd, edt⟩ _).mono ?_
    rintro x w9 ⟨rfl, u9⟩
    have O9 := Lib.hid (O8.out.up u9)
    have UT := Lib.hid (UT.out.trans u9)
    have hs9 : g8 < w9.heap.size := O9.out.2.1
    clear u9 O8 p0 p1 p2 p3 p4 p5
    go_wp2_with fail
    refine (implTake_any _ n n es ⟨et, eto, efr, esq, ekd, edt⟩ _ (by omega) (Nat.le_refl _) (by omega) O9.out.evs).mono ?_
    rintro x w10 ⟨r2, A2, c2, hat2, rfl, hqc2, hcm2, ho2, u10⟩
    obtain rfl : r2 = r1 := hat2.one HAT.out
    rw [HF.out, HQ.out] at ho2 hqc2
    rw [HF.out, HQ.out, HBB.out]
    have OR := Lib.hid ho2
    have OX := Lib.hid (O9.out.up u10)
    have UT := Lib.hid (UT.out.trans u10)
    clear hat2 ho2 u10 O9
    go_wp2_with fail
    refine (eqS_any _ _ q1 q1 c2 c1 fs1 fs1 _ (by omega) (own_evs OR.out) (E1.out.up UT.out)).mono ?_
    rw [decide_eq_true (rfl : fs1 = fs1)]
    rintro x w11 ⟨rfl, u11⟩
    have OR := Lib.hid (own_up OR.out u11)
    have OX := Lib.hid (OX.out.up u11)
    have UT := Lib.hid (UT.out.trans u11)
    clear u11
    go_wp2_with fail
    refine (toS_any A n cap es _ (by omega) (HE.out.up (U1.out.trans UT.out))).mono ?_
    rintro x w12 ⟨g12, rfl, hg12, o12, u12⟩
    have O12 := Lib.hid o12
    have OR := Lib.hid (own_up OR.out u12)
    have OX := Lib.hid (OX.out.up u12)
    have UT := Lib.hid (UT.out.trans u12)
    clear u12 o12
    go_wp2_with fail
    refine (eqS_any _ _ n n n n es es _ (by omega) OX.out.evs O12.out.evs).mono ?_
    rw [decide_eq_true (rfl : es = es)]
    rintro x w13 ⟨rfl, u13⟩
    have OR := Lib.hid (own_up OR.out u13)
    have OX := Lib.hid (OX.out.up u13)
    have UT := Lib.hid (UT.out.trans u13)
    clear u13 O12 hg12
    go_wp2_with fail
    refine (mark_any g8 n n _ (by omega) (OX.out.part _)).mono ?_
    rintro x w14 ⟨rfl, -, m14⟩
    have OR := Lib.hid (own_mv OR.out m14 hs9)
    have UT := Lib.hid (m14.up UT.out (by omega))
    clear m14 OX
    generalize hK : 1 + 6 * (n : Int) = K
    have k0 : ¬ K < 0 := by omega
    clear hK
    go_wp2_with fail
    refine (eqS_any _ _ q1 q1 c2 c1 fs1 fs1 _ (by omega) (own_evs OR.out) (E1.out.up UT.out)).mono ?_
    rw [decide_eq_true (rfl : fs1 = fs1)]
    rintro x w15 ⟨rfl, u15⟩
    have OR := Lib.hid (own_up OR.out u15)
    have UT := Lib.hid (UT.out.trans u15)
    clear u15
    have HSW : wT1.heap.size ≤ w9.heap.size := by have := hg8; omega
    go_wp2_with fail
    refine (mark_own A2 q1 c2 _ (by omega) OR.out).mono ?_
    rintro x w16 ⟨rfl, e16, g16, hg16, m16⟩
    have EM := Lib.hid e16
    have UT := Lib.hid (m16.up UT.out (by omega))
    clear e16 m16 OR
    go_wp2_with fail
    refine (held_any A2 q1 c2 _ (by omega) EM.out).mono ?_
    rintro x w17 ⟨rfl, u17⟩
    have EM := Lib.hid (EM.out.up u17)
    have UT := Lib.hid (UT.out.trans u17)
    clear u17
    have HELD := Lib.hid (fun W h => held_any A2 q1 c2 W (by omega) h)
    generalize hK2 : 1 + 6 * (q1 : Int) = K2 at HELD ⊢
    have k2 : ¬ K2 < 0 := by omega
    clear hK2
    go_wp2_with fail
    have UW := Lib.hid (U1.out.trans UT.out)
    obtain ⟨⟨p0, p1, p2, p3, p4, p5⟩, -⟩ := (BX.out.up UW.out).mk6
    have hb0 := (BX.out.up UW.out).lt
    have HEW := Lib.hid (HE.out.up (UW.out.trans (Up.refl w17).drew))
    go_region_held3 (fun w' => b0 < w'.heap.size ∧ w'.cell? ⟨b0, 0, none⟩ = some (.int .i64 et) ∧ w'.cell? ⟨b0, 1, none⟩ = some (.int .i64 eto) ∧ w'.cell? ⟨b0, 2, none⟩ = some (.int .i64 efr) ∧ w'.cell? ⟨b0, 3, none⟩ = some (.int .i64 esq) ∧ w'.cell? ⟨b0, 4, none⟩ = some (.int .i64 ekd) ∧ w'.cell? ⟨b0, 5, none⟩ = some (.int .i64 edt))
      (first | (exact ⟨hb0, p0, p1, p2, p3, p4, p5⟩) | (exact six_up uT (by assumption)) | (exact six_up uE (by assumption)) | (exact six_up uS (by assumption)))
      (first
        | (go_at_call 27; refine (implTake_any _ n n es ⟨et, eto, efr, esq, ekd, edt⟩ _ (by omega) (Nat.le_refl _) (by omega) (by first | exact (OS.out.up uE).evs | exact OS.out.evs)).mono ?_; rintro x wT3 hT; obtain ⟨r3, fs3, q3, A3, c3, b3, rfl, hat, hf, hq, hb, hqc, hcm, hE1, uT⟩ := hT.cases)
        | (go_at_call 33; refine (toS_any A n cap es _ (by omega) (by first | exact HEW.out.up uE | exact HEW.out)).mono ?_; rintro x wS ⟨gS, rfl, hgS, oS, uS⟩; have OS := Lib.hid oS; clear oS)
        | (go_at_call 31; refine (toEvt_any ⟨et, eto, efr, esq, ekd, edt⟩ _).mono ?_; rintro x wE ⟨rfl, uE⟩))
    obtain rfl : r3 = r2 := hat.one HAT.out
    obtain rfl : fs3 = fs1 := hf.symm.trans HF.out
    obtain rfl : q3 = q1 := hq.symm.trans HQ.out
    obtain rfl : b3 = b1 := hb.symm.trans HBB.out
    have U3 := Lib.hid (by first | exact (((Up.refl w17).drew.trans uS).trans uE).trans uT | exact (((Up.refl w17).drew.trans uE).trans uS).trans uT : Up w17 wT3)
    have E3 := Lib.hid hE1
    have EM := Lib.hid (EM.out.up U3.out)
    have UT := Lib.hid (UT.out.trans U3.out)
    clear hat hf hq hb hE1 uS uE uT OS HEW hT p0 p1 p2 p3 p4 p5 UW U3
    unfold Evt.v
    go_wp2_with fail
    refine (eqS_any _ _ q3 q3 c3 c1 fs3 fs3 _ (by omega) E3.out (E1.out.up UT.out)).mono ?_
    rw [decide_eq_true (rfl : fs3 = fs3)]
    rintro x w18 ⟨rfl, u18⟩
    have EM := Lib.hid (EM.out.up u18)
    have UT := Lib.hid (UT.out.trans u18)
    clear u18
    go_wp2_with fail
    refine (HELD.out _ EM.out).mono ?_
    rintro x w19 ⟨rfl, u19⟩
    have UT := Lib.hid (UT.out.trans u19)
    clear u19
    go_wp2
    go_ret
    exact ⟨rfl, U0.out.trans (U1.out.trans UT.out)⟩

end Go.Proofs.Ytodbdehnindlbaa

/-
  What FnExactEvtPut returns, in one sentence: true, with new blocks alone; for every list of events and every event.
-/
import Derived.Test.YtkfjemgelmbcfaaKPutAll
import Derived.Test.YtkfjemgelmbcfaaKC
import Derived.Test.YtkfjemgelmbcfaaKM
import Derived.Test.YtkfjemgelmbcfaaKA
import Derived.Test.YtkfjemgelmbcfaaKF
import Derived.Test.YtkfjemgelmbcfaaKCa
import Derived.Deep.RegionHeld3
namespace Go.Proofs.Ytkfjemgelmbcfaa
set_option maxRecDepth 100000
open Go.RowKit

theorem six_up {w1 w2 : World} {b0 : Nat} {et eto efr esq ekd edt : Int} (u : Up w1 w2)
    (h : b0 < w1.heap.size ∧ w1.cell? ⟨b0, 0, none⟩ = some (.int .i64 et) ∧ w1.cell? ⟨b0, 1, none⟩ = some (.int .i64 eto) ∧ w1.cell? ⟨b0, 2, none⟩ = some (.int .i64 efr) ∧ w1.cell? ⟨b0, 3, none⟩ = some (.int .i64 esq) ∧ w1.cell? ⟨b0, 4, none⟩ = some (.int .i64 ekd) ∧ w1.cell? ⟨b0, 5, none⟩ = some (.int .i64 edt)) :
    b0 < w2.heap.size ∧ w2.cell? ⟨b0, 0, none⟩ = some (.int .i64 et) ∧ w2.cell? ⟨b0, 1, none⟩ = some (.int .i64 eto) ∧ w2.cell? ⟨b0, 2, none⟩ = some (.int .i64 efr) ∧ w2.cell? ⟨b0, 3, none⟩ = some (.int .i64 esq) ∧ w2.cell? ⟨b0, 4, none⟩ = some (.int .i64 ekd) ∧ w2.cell? ⟨b0, 5, none⟩ = some (.int .i64 edt) := by
  obtain ⟨h, h0, h1, h2, h3, h4, h5⟩ := h
  exact ⟨Nat.lt_of_lt_of_le h u.size, (u.cells _ _ h).trans h0, (u.cells _ _ h).trans h1, (u.cells _ _ h).trans h2, (u.cells _ _ h).trans h3, (u.cells _ _ h).trans h4, (u.cells _ _ h).trans h5⟩

/-- The list, in a block of the call's own if it has any event. -/
structure OwnL (lo : Nat) (w : World) (A : Option Addr) (q : Nat) (fs : List Evt) : Prop where
  evs : Evs w A q fs
  own : 0 < q → ∃ g, A = some ⟨g, 0, none⟩ ∧ lo ≤ g ∧ Own w g q fs
theorem OwnL.up {lo : Nat} {w w' : World} {A : Option Addr} {q : Nat} {fs : List Evt} (h : OwnL lo w A q fs) (u : Up w w') : OwnL lo w' A q fs :=
  ⟨h.evs.up u, fun hq => by
    obtain ⟨g, hA, hl, ho⟩ := h.own hq
    exact ⟨g, hA, hl, ho.up' u⟩⟩
theorem OwnL.mv {lo k : Nat} {w w' : World} {A : Option Addr} {q : Nat} {fs : List Evt} (h : OwnL lo w A q fs) (m : Mv k w w') (hk : k < lo) : OwnL lo w' A q fs := by
  refine ⟨⟨h.evs.1, fun hq => ?_⟩, fun hq => ?_⟩
  · obtain ⟨g, hA, hl, ho⟩ := h.own hq
    have := h.evs.mv m (fun b off hA' => by rw [hA] at hA'; injection hA' with e; injection e with e _ _; omega)
    exact this.2 hq
  · obtain ⟨g, hA, hl, ho⟩ := h.own hq
    have hne : g ≠ k := by omega
    refine ⟨g, hA, hl, ho.1, Nat.lt_of_lt_of_le ho.2.1 m.size, fun i hi => ?_, fun j hj => (m.frozens _ _ ho.2.1 hne).trans (ho.2.2.2 j hj)⟩
    obtain ⟨c0, c1, c2, c3, c4, c5⟩ := ho.2.2.1 i hi
    exact ⟨(m.cells _ _ ho.2.1 hne).trans c0, (m.cells _ _ ho.2.1 hne).trans c1, (m.cells _ _ ho.2.1 hne).trans c2, (m.cells _ _ ho.2.1 hne).trans c3, (m.cells _ _ ho.2.1 hne).trans c4, (m.cells _ _ ho.2.1 hne).trans c5⟩
theorem mark_ownL (A : Option Addr) (q c : Nat) {lo : Nat} {fs : List Evt} (w : World) (hq : q ≤ 1100000) (h : OwnL lo w A q fs) :
    Calls Try.prog 34 #[.slice A q c, .int .i64 1] w fun x w' => x = .returned (.int .i64 (1 + 6 * (q : Int))) ∧ Evs w' A q (marks q) ∧ ∃ g, lo ≤ g ∧ Mv g w w' := by
  rcases Nat.eq_zero_or_pos q with h0 | h0
  · subst h0
    refine (mark_none A c w).mono ?_
    rintro x w' ⟨rfl, u⟩
    exact ⟨rfl, ⟨rfl, fun h => absurd h (by omega)⟩, lo, Nat.le_refl _, u.mv lo⟩
  · obtain ⟨g, rfl, hb, ho⟩ := h.own h0
    refine (mark_any g q c w hq (ho.part _)).mono ?_
    rintro x w' ⟨rfl, hp, m⟩
    exact ⟨rfl, ⟨marks_len q, fun _ => ⟨g, 0, rfl, hp.1, fun i hi => by rw [Nat.zero_add]; exact hp.2.1 i hi⟩⟩, g, hb, m⟩

/-- The events that EvtPut gives. -/
def putL (e : Evt) (es : List Evt) : List Evt := if riseB es = true then ins e es else []
theorem putL_len (e : Evt) (es : List Evt) : (putL e es).length ≤ es.length + 1 := by
  unfold putL
  split
  · rw [ins_len]
    exact Nat.le_refl _
  · simp
theorem implPut_u (A : Option Addr) (n cap : Nat) (es : List Evt) (e : Evt) (w : World) (hn : n ≤ 1048576) (hE : Evs w A n es) :
    Calls Try.prog 29 #[.slice A n cap, e.v] w fun x w' => ∃ A' c', x = .returned (.slice A' (putL e es).length c') ∧ OwnL w.heap.size w' A' (putL e es).length (putL e es) ∧ Up w w' := by
  refine (implPut_all A n cap es e w hn hE).mono ?_
  rintro x w' ⟨h1, h2⟩
  cases hr : riseB es with
  | true =>
    obtain ⟨g, c, rfl, hg, ho, u⟩ := h1 hr
    have e1 : putL e es = ins e es := by unfold putL; rw [if_pos hr]
    rw [e1, show (ins e es).length = n + 1 by rw [ins_len, hE.1]]
    exact ⟨_, c, rfl, ⟨ho.evs', fun _ => ⟨g, rfl, hg, ho⟩⟩, u⟩
  | false =>
    obtain ⟨rfl, u⟩ := h2 hr
    have e1 : putL e es = [] := by unfold putL; rw [if_neg (by rw [hr]; exact Bool.false_ne_true)]
    rw [e1]
    exact ⟨none, 0, rfl, ⟨Evs.none_ w', fun h => absurd h (by simp)⟩, u⟩
theorem specPut_u (A : Option Addr) (n cap : Nat) (es : List Evt) (e : Evt) (w : World) (hn : n ≤ 1000000000) (hE : Evs w A n es) :
    Calls Try.prog 31 #[.slice A n cap, e.v] w fun x w' => ∃ A' c', x = .returned (.slice A' (putL e es).length c') ∧ Evs w' A' (putL e es).length (putL e es) ∧ Up w w' := by
  refine (specPut_any A n cap es e w hn hE).mono ?_
  rintro x w' ⟨h1, h2⟩
  cases hr : riseB es with
  | true =>
    obtain ⟨A', c, rfl, _, _, ho, u⟩ := h1 hr
    have e1 : putL e es = ins e es := by unfold putL; rw [if_pos hr]
    rw [e1, show (ins e es).length = n + 1 by rw [ins_len, hE.1]]
    exact ⟨_, c, rfl, ho, u⟩
  | false =>
    obtain ⟨A', c, rfl, _, _, ho, u⟩ := h2 hr
    have e1 : putL e es = [] := by unfold putL; rw [if_neg (by rw [hr]; exact Bool.false_ne_true)]
    rw [e1]
    exact ⟨A', c, rfl, ho, u⟩

set_option maxRecDepth 100000 in
set_option maxHeartbeats 8000000 in
theorem walkEput {w : World} (A : Option Addr) (n cap : Nat) (es : List Evt) (hE : Evs w A n es) (hn : n ≤ 9223372036854775807) (e : Evt) :
    Calls Try.prog 8 #[.slice A n cap, e.v] w fun x w' => x = .returned (.bool true) ∧ Up w w' := by
  obtain ⟨et, eto, efr, esq, ekd, edt⟩ := e
  unfold Evt.v
  dsimp only
  by_cases h : 1048576 < n
  · have c0 := fun W => sz_any A n cap 1048576 W (by omega) (by omega) hn
    rw [if_pos (by omega)] at c0
    have C0 := Lib.hid c0
    clear c0
    go_enter Try.func8, Try.ntmps8
    go_wp2_with fail
    refine (C0.out _).mono ?_
    rintro x w1 ⟨rfl, rfl⟩
    go_wp2
    go_ret
    exact ⟨rfl, (Up.refl _).alloc _⟩
  · have c0 := fun W => sz_any A n cap 1048576 W (by omega) (by omega) hn
    rw [if_neg (by omega)] at c0
    have hlt : ¬ (1048576 - (n : Int) < 0) := by omega
    have C0 := Lib.hid c0
    have HE := Lib.hid (hE.up ((Up.refl w).alloc (.cells #[.int .i64 et, .int .i64 eto, .int .i64 efr, .int .i64 esq, .int .i64 ekd, .int .i64 edt] 56)))
    have U0 := Lib.hid ((Up.refl w).alloc (.cells #[.int .i64 et, .int .i64 eto, .int .i64 efr, .int .i64 esq, .int .i64 ekd, .int .i64 edt] 56))
    have BX := Lib.hid (Box.new w ⟨et, eto, efr, esq, ekd, edt⟩ 56)
    have CP := Lib.hid (fun g W (h : Own W g n es) => specPut_u (some ⟨g, 0, none⟩) n n es ⟨et, eto, efr, esq, ekd, edt⟩ W (by omega) h.evs')
    have CI := Lib.hid (fun g W (h : Own W g n es) => implPut_u (some ⟨g, 0, none⟩) n n es ⟨et, eto, efr, esq, ekd, edt⟩ W (by omega) h.evs')
    have hq := putL_len ⟨et, eto, efr, esq, ekd, edt⟩ es
    rw [hE.1] at hq
    generalize putL ⟨et, eto, efr, esq, ekd, edt⟩ es = fs at CP CI hq
    generalize fs.length = q1 at CP CI hq
    unfold Evt.v at CP CI
    have HQ := Lib.hid hq
    clear c0 hE hq
    go_enter Try.func8, Try.ntmps8
    go_wp2_with fail
    refine (C0.out _).mono ?_
    rintro x w1 ⟨rfl, rfl⟩
    go_wp2_with fail
    generalize hW : w.alloc (.cells #[.int .i64 et, .int .i64 eto, .int .i64 efr, .int .i64 esq, .int .i64 ekd, .int .i64 edt] 56) = W0 at HE U0 BX ⊢
    generalize hb0' : w.heap.size = b0 at BX ⊢
    clear hW hb0' C0
    obtain ⟨⟨p0, p1, p2, p3, p4, p5⟩, -⟩ := BX.out.mk6
    have hb0 := BX.out.lt
    have HEW := Lib.hid (HE.out.up (Up.refl W0).drew)
    go_region_held3 (fun w' => b0 < w'.heap.size ∧ w'.cell? ⟨b0, 0, none⟩ = some (.int .i64 et) ∧ w'.cell? ⟨b0, 1, none⟩ = some (.int .i64 eto) ∧ w'.cell? ⟨b0, 2, none⟩ = some (.int .i64 efr) ∧ w'.cell? ⟨b0, 3, none⟩ = some (.int .i64 esq) ∧ w'.cell? ⟨b0, 4, none⟩ = some (.int .i64 ekd) ∧ w'.cell? ⟨b0, 5, none⟩ = some (.int .i64 edt))
      (first | (exact ⟨hb0, p0, p1, p2, p3, p4, p5⟩) | (exact six_up uT (by assumption)) | (exact six_up uE (by assumption)) | (exact six_up uS (by assumption)))
      (first
        | (go_at_call 31; refine (CP.out _ _ (by first | exact OS.out.up' uE | exact OS.out)).mono ?_; rintro x wT1 ⟨A1, c1, rfl, hE1, uT⟩)
        | (go_at_call 26; refine (toS_any A n cap es _ (by omega) (by first | exact HEW.out.up uE | exact HEW.out)).mono ?_; rintro x wS ⟨gS, rfl, hgS, oS, uS⟩; have OS := Lib.hid oS; clear oS)
        | (go_at_call 33; refine (toEvt_any ⟨et, eto, efr, esq, ekd, edt⟩ _).mono ?_; rintro x wE ⟨rfl, uE⟩))
    have U1 := Lib.hid (by first | exact (((Up.refl W0).drew.trans uS).trans uE).trans uT | exact (((Up.refl W0).drew.trans uE).trans uS).trans uT : Up W0 wT1)
    have E1 := Lib.hid hE1
    have UT := Lib.hid (Up.refl wT1)
    clear hE1 uS uE uT OS HEW p0 p1 p2 p3 p4 p5
    unfold Evt.v
    go_wp2_with fail
    refine (toS_any A n cap es _ (by omega) (HE.out.up (U1.out.trans UT.out))).mono ?_
    rintro x w8 ⟨g8, rfl, hg8, o8, u8⟩
    have O8 := Lib.hid o8
    have UT := Lib.hid (UT.out.trans u8)
    clear o8 u8
    obtain ⟨⟨p0, p1, p2, p3, p4, p5⟩, -⟩ := (BX.out.up (U1.out.trans UT.out)).mk6
    go_wp2_with fail
    refine (toEvt_any ⟨et, eto, efr, esq, ekd, edt⟩ _).mono ?_
    rintro x w9 ⟨rfl, u9⟩
    have O9 := Lib.hid (O8.out.up' u9)
    have UT := Lib.hid (UT.out.trans u9)
    have hs9 : g8 < w9.heap.size := O9.out.2.1
    clear u9 O8 p0 p1 p2 p3 p4 p5
    go_wp2_with fail
    refine (CI.out g8 _ O9.out).mono ?_
    rintro x w10 ⟨A2, c2, rfl, ho2, u10⟩
    have OR := Lib.hid ho2
    have OX := Lib.hid (O9.out.up' u10)
    have UT := Lib.hid (UT.out.trans u10)
    clear ho2 u10 O9
    go_wp2_with fail
    refine (eqS_any _ _ q1 q1 c2 c1 fs fs _ (by have := HQ.out; omega) OR.out.evs (E1.out.up UT.out)).mono ?_
    rw [decide_eq_true (rfl : fs = fs)]
    rintro x w11 ⟨rfl, u11⟩
    have OR := Lib.hid (OR.out.up u11)
    have OX := Lib.hid (OX.out.up' u11)
    have UT := Lib.hid (UT.out.trans u11)
    clear u11
    go_wp2_with fail
    refine (toS_any A n cap es _ (by omega) (HE.out.up (U1.out.trans UT.out))).mono ?_
    rintro x w12 ⟨g12, rfl, hg12, o12, u12⟩
    have O12 := Lib.hid o12
    have OR := Lib.hid (OR.out.up u12)
    have OX := Lib.hid (OX.out.up' u12)
    have UT := Lib.hid (UT.out.trans u12)
    clear u12 o12
    go_wp2_with fail
    refine (eqS_any _ _ n n n n es es _ (by omega) OX.out.evs' O12.out.evs').mono ?_
    rw [decide_eq_true (rfl : es = es)]
    rintro x w13 ⟨rfl, u13⟩
    have OR := Lib.hid (OR.out.up u13)
    have OX := Lib.hid (OX.out.up' u13)
    have UT := Lib.hid (UT.out.trans u13)
    clear u13 O12 hg12
    go_wp2_with fail
    refine (mark_any g8 n n _ (by omega) (OX.out.part _)).mono ?_
    rintro x w14 ⟨rfl, -, m14⟩
    have OR := Lib.hid (OR.out.mv m14 hs9)
    have UT := Lib.hid (m14.up UT.out (by omega))
    clear m14 OX
    generalize hK : 1 + 6 * (n : Int) = K
    have k0 : ¬ K < 0 := by omega
    clear hK
    go_wp2_with fail
    refine (eqS_any _ _ q1 q1 c2 c1 fs fs _ (by have := HQ.out; omega) OR.out.evs (E1.out.up UT.out)).mono ?_
    rw [decide_eq_true (rfl : fs = fs)]
    rintro x w15 ⟨rfl, u15⟩
    have OR := Lib.hid (OR.out.up u15)
    have UT := Lib.hid (UT.out.trans u15)
    clear u15
    have HSW : wT1.heap.size ≤ w9.heap.size := by have := hg8; omega
    go_wp2_with fail
    refine (mark_ownL A2 q1 c2 _ (by have := HQ.out; omega) OR.out).mono ?_
    rintro x w16 ⟨rfl, e16, g16, hg16, m16⟩
    have EM := Lib.hid e16
    have UT := Lib.hid (m16.up UT.out (by omega))
    clear e16 m16 OR
    go_wp2_with fail
    refine (held_any A2 q1 c2 _ (by have := HQ.out; omega) EM.out).mono ?_
    rintro x w17 ⟨rfl, u17⟩
    have EM := Lib.hid (EM.out.up u17)
    have UT := Lib.hid (UT.out.trans u17)
    clear u17
    have HELD := Lib.hid (fun W h => held_any A2 q1 c2 W (by have := HQ.out; omega) h)
    generalize hK2 : 1 + 6 * (q1 : Int) = K2 at HELD ⊢
    have k2 : ¬ K2 < 0 := by omega
    clear hK2
    go_wp2_with fail
    have UW := Lib.hid (U1.out.trans UT.out)
    obtain ⟨⟨p0, p1, p2, p3, p4, p5⟩, -⟩ := (BX.out.up UW.out).mk6
    have hb0 := (BX.out.up UW.out).lt
    have HEW := Lib.hid (HE.out.up (UW.out.trans (Up.refl w17).drew))
    go_region_held3 (fun w' => b0 < w'.heap.size ∧ w'.cell? ⟨b0, 0, none⟩ = some (.int .i64 et) ∧ w'.cell? ⟨b0, 1, none⟩ = some (.int .i64 eto) ∧ w'.cell? ⟨b0, 2, none⟩ = some (.int .i64 efr) ∧ w'.cell? ⟨b0, 3, none⟩ = some (.int .i64 esq) ∧ w'.cell? ⟨b0, 4, none⟩ = some (.int .i64 ekd) ∧ w'.cell? ⟨b0, 5, none⟩ = some (.int .i64 edt))
      (first | (exact ⟨hb0, p0, p1, p2, p3, p4, p5⟩) | (exact six_up uT (by assumption)) | (exact six_up uE (by assumption)) | (exact six_up uS (by assumption)))
      (first
        | (go_at_call 29; refine (CI.out _ _ (by first | exact OS.out.up' uE | exact OS.out)).mono ?_; rintro x wT3 ⟨A3, c3, rfl, hE1, uT⟩)
        | (go_at_call 26; refine (toS_any A n cap es _ (by omega) (by first | exact HEW.out.up uE | exact HEW.out)).mono ?_; rintro x wS ⟨gS, rfl, hgS, oS, uS⟩; have OS := Lib.hid oS; clear oS)
        | (go_at_call 33; refine (toEvt_any ⟨et, eto, efr, esq, ekd, edt⟩ _).mono ?_; rintro x wE ⟨rfl, uE⟩))
    have U3 := Lib.hid (by first | exact (((Up.refl w17).drew.trans uS).trans uE).trans uT | exact (((Up.refl w17).drew.trans uE).trans uS).trans uT : Up w17 wT3)
    have E3 := Lib.hid hE1.evs
    have EM := Lib.hid (EM.out.up U3.out)
    have UT := Lib.hid (UT.out.trans U3.out)
    clear hE1 uS uE uT OS HEW p0 p1 p2 p3 p4 p5 UW U3
    unfold Evt.v
    go_wp2_with fail
    refine (eqS_any _ _ q1 q1 c3 c1 fs fs _ (by have := HQ.out; omega) E3.out (E1.out.up UT.out)).mono ?_
    rw [decide_eq_true (rfl : fs = fs)]
    rintro x w18 ⟨rfl, u18⟩
    have EM := Lib.hid (EM.out.up u18)
    have UT := Lib.hid (UT.out.trans u18)
    clear u18
    go_wp2_with fail
    refine (HELD.out _ EM.out).mono ?_
    rintro x w19 ⟨rfl, u19⟩
    have UT := Lib.hid (UT.out.trans u19)
    clear u19
    go_wp2
    go_ret
    exact ⟨rfl, U0.out.trans (U1.out.trans UT.out)⟩

end Go.Proofs.Ytkfjemgelmbcfaa

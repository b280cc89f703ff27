/-
  What the two EvtPut return, in one sentence: the rising list with the event put in, nothing for another list; for every list of less than 19 events that lies in memory.
-/
import Derived.Test.YtkfjemgelmbcfaaInsAt
import Derived.Test.YtkfjemgelmbcfaaStable
import Derived.Test.YtkfjemgelmbcfaaConc2
import Derived.Test.YtkfjemgelmbcfaaL1Put
namespace Go.Proofs.Ytkfjemgelmbcfaa
set_option maxRecDepth 100000
open Go.RowKit

/-- A slice of these events. -/
def Gives (fs : List Evt) (n : Nat) (w : World) (x : Ending) (w' : World) : Prop :=
  ∃ A c, x = .returned (.slice A n c) ∧ n ≤ c ∧ c ≤ 9223372036854775807 ∧ Evs w' A n fs ∧ Up w w'

/-- What impl.EvtPut gives. -/
def PutI (b : Bool) (fs : List Evt) (n : Nat) (w : World) (x : Ending) (w' : World) : Prop :=
  (b = true → Gives fs n w x w') ∧ (b = false → x = .returned (.slice none 0 0) ∧ Up w w')
/-- What spec.EvtPut gives. -/
def PutS (b : Bool) (fs : List Evt) (n : Nat) (w : World) (x : Ending) (w' : World) : Prop :=
  (b = true → Gives fs n w x w') ∧ (b = false → Gives [] 0 w x w')

theorem Row.of_own {w : World} {base g n c : Nat} {es : List Evt} (h : w.ownsRow base 50 6 (.slice (some ⟨g, 0, none⟩) n c) n (flat es)) (hn : 0 < n) : Row w g n (fun i => es.getD i default) := by
  obtain ⟨b, off, hA, hb, hc⟩ := (own_evs h).2 hn
  injection hA with hA
  injection hA with h1 h2 _
  subst h1 h2
  exact ⟨hb, fun i hi => by have := hc i hi; rwa [Nat.zero_add] at this, fun j _ => h.frozenAt j⟩
theorem Row.evs {w : World} {g n : Nat} {f : Nat → Evt} {es : List Evt} (h : Row w g n f) (hl : es.length = n) (e : ∀ i, i < n → f i = es.getD i default) : Evs w (some ⟨g, 0, none⟩) n es :=
  ⟨hl, fun _ => ⟨g, 0, rfl, h.1, fun i hi => by rw [Nat.zero_add, ← e i hi]; exact h.2.1 i hi⟩⟩

set_option maxHeartbeats 2000000 in
theorem sortBy_any (A1 : Option Addr) (p c1 : Nat) (es : List Evt) (A2 : Option Addr) (c2 : Nat) (e : Evt) (W : World) (h1 : Evs W A1 p es) (h2 : Evs W A2 1 [e]) (hp : p + 1 < 20) (hr : riseB es = true) :
    Calls Try.prog 79 #[.func (.func 73) #[] #[], .slice (some ⟨W.heap.size, 0, none⟩) 2 2] (W.alloc (.cells #[.slice A1 p c1, .slice A2 1 c2] 24))
      (Gives (ins e es) (p + 1) (W.alloc (.cells #[.slice A1 p c1, .slice A2 1 c2] 24))) := by
  obtain hl := h1.1
  have C := Lib.hid (concat2 A1 p c1 es A2 1 c2 [e] W h1 h2 (by omega))
  have SI := Lib.hid (slid_ins es e hr)
  have RP := Lib.hid (fun k hk => rise_pair es hr k hk)
  have SN := Lib.hid (fun i h => snoc_lt es e i h)
  have IL := Lib.hid (ins_len e es)
  have FL := Lib.hid (show (es ++ [e]).length = p + 1 by simp [hl])
  have HL := Lib.hid hl
  clear h1 h2 hr hl
  go_enter Try.func79, Try.ntmps79
  go_wp2_with fail
  refine C.out.mono ?_
  rintro x w2 ⟨A, c, rfl, hc, hm, -, ow, up⟩
  rw [FL.out] at hc ow ⊢
  obtain ⟨g, cap, hv, hg, hlt⟩ := ow.form (by omega)
  injection hv with hA _ hcp
  subst hA
  subst hcp
  have RO := Lib.hid (Row.of_own ow (by omega))
  have OW := Lib.hid hg
  have U2 := Lib.hid up
  clear ow up hg C
  go_wp2_with fail
  refine (sortStable_any g c p _ _ hp RO.out (fun k hk => ?_)).mono ?_
  · have hk' := hk
    rw [SN.out k (by rw [HL.out]; omega), SN.out (k + 1) (by rw [HL.out]; omega)]
    exact RP.out k (by rw [HL.out]; exact hk)
  rintro x w3 ⟨rfl, ⟨q, pl, row⟩, mv⟩
  have RW := Lib.hid row
  have PL := Lib.hid pl
  have U3 := Lib.hid (mv.up U2.out OW.out)
  clear row pl mv U2 RO
  go_wp2
  go_ret
  refine ⟨_, c, rfl, hc, hm, RW.out.evs (by rw [IL.out, HL.out]) (fun i hi => ?_), U3.out⟩
  have hp2 := PL.out
  rw [← HL.out] at hp2 ⊢
  exact SI.out q hp2 i (by rw [HL.out]; exact hi)

set_option maxHeartbeats 2000000 in
theorem implPut_any (A : Option Addr) (n cap : Nat) (es : List Evt) (e : Evt) (w : World) (hn : n + 1 < 20) (hE : Evs w A n es) :
    Calls Try.prog 29 #[.slice A n cap, e.v] w (PutI (riseB es) (ins e es) (n + 1) w) := by
  have RI := Lib.hid (fun W h => implRise_any A n cap es W (by omega) h)
  have HE := Lib.hid hE
  have SB := Lib.hid (fun A2 c2 W h1 h2 hr => sortBy_any A n cap es A2 c2 e W h1 h2 hn hr)
  obtain ⟨et, eto, efr, esq, ekd, edt⟩ := e
  have B0 := Lib.hid (Box.new w ⟨et, eto, efr, esq, ekd, edt⟩ 50)
  generalize hr : riseB es = r at RI SB ⊢
  clear hr hE
  unfold Evt.v
  dsimp only
  go_enter Try.func29, Try.ntmps29
  go_wp2_with fail
  refine (RI.out _ (HE.out.up ((Up.refl w).alloc _))).mono ?_
  rintro x w1 ⟨rfl, u1⟩
  have U1 := Lib.hid (((Up.refl w).alloc _).trans u1)
  have B1 := Lib.hid (B0.out.up u1)
  have E1 := Lib.hid (HE.out.up U1.out)
  clear u1 RI HE B0
  cases r
  · go_wp2
    go_ret
    exact ⟨(fun h => by cases h), fun _ => ⟨rfl, U1.out⟩⟩
  · obtain ⟨⟨k0, k1, k2, k3, k4, k5⟩, -⟩ := B1.out.mk6
    have E2 := Lib.hid (Evs.new w1 ⟨et, eto, efr, esq, ekd, edt⟩ 50)
    have E3 := Lib.hid (E1.out.up ((Up.refl w1).alloc (.cells #[.int .i64 et, .int .i64 eto, .int .i64 efr, .int .i64 esq, .int .i64 ekd, .int .i64 edt] 50)))
    go_wp2_with fail
    have G := SB.out (some ⟨w1.heap.size, 0, none⟩) 1 _ E3.out E2.out (by first | trivial | rfl)
    simp only [World.size_alloc] at G
    refine G.mono ?_
    rintro x w2 ⟨A2, c2, rfl, hc, hm, ev, up⟩
    have EV := Lib.hid ev
    have UP := Lib.hid (((U1.out.alloc _).alloc _).trans up)
    clear ev up G k0 k1 k2 k3 k4 k5
    go_wp2
    go_ret
    exact ⟨fun _ => ⟨A2, c2, rfl, hc, hm, EV.out, UP.out⟩, fun h => by cases h⟩

set_option maxHeartbeats 2000000 in
theorem specPut_any (A : Option Addr) (n cap : Nat) (es : List Evt) (e : Evt) (w : World) (hn : n ≤ 1000000000) (hE : Evs w A n es) :
    Calls Try.prog 31 #[.slice A n cap, e.v] w (PutS (riseB es) (ins e es) (n + 1) w) := by
  have RI := Lib.hid (fun W h => specRise_any A n cap es W (by omega) h)
  have HE := Lib.hid hE
  have IL := Lib.hid (show (ins e es).length = n + 1 by rw [ins_len, hE.1])
  have LP := Lib.hid (fun W h => l1Put_any A n cap es e W hn h)
  obtain ⟨et, eto, efr, esq, ekd, edt⟩ := e
  have B0 := Lib.hid (Box.new w ⟨et, eto, efr, esq, ekd, edt⟩ 50)
  generalize hr : riseB es = r at RI ⊢
  clear hr hE
  unfold Evt.v at LP ⊢
  dsimp only at LP ⊢
  go_enter Try.func31, Try.ntmps31
  go_wp2_with fail
  refine (RI.out _ (HE.out.up ((Up.refl w).alloc _))).mono ?_
  rintro x w1 ⟨rfl, u1⟩
  have U1 := Lib.hid (((Up.refl w).alloc _).trans u1)
  have B1 := Lib.hid (B0.out.up u1)
  have E1 := Lib.hid (HE.out.up U1.out)
  clear u1 RI HE B0
  cases r
  · go_wp2
    go_ret
    exact ⟨(fun h => by cases h), fun _ => ⟨_, 0, rfl, Nat.le_refl _, by omega, ⟨rfl, fun h => absurd h (by omega)⟩, by first | exact U1.out.alloc _ | exact U1.out⟩⟩
  · obtain ⟨⟨k0, k1, k2, k3, k4, k5⟩, -⟩ := B1.out.mk6
    go_wp2_with fail
    refine (LP.out _ E1.out).mono ?_
    rintro x w2 ⟨A2, c2, rfl, hc, hm, ev, -, up⟩
    rw [IL.out] at hc ev ⊢
    have EV := Lib.hid ev
    have UP := Lib.hid (U1.out.trans up)
    clear ev up k0 k1 k2 k3 k4 k5
    go_wp2
    go_ret
    exact ⟨fun _ => ⟨A2, c2, rfl, hc, hm, EV.out, UP.out⟩, fun h => by cases h⟩

end Go.Proofs.Ytkfjemgelmbcfaa

/-
  Where an event is put, in one sentence: ahead of the first that is greater, and so a rising stretch with the event slid to its place is the list with the event put in; no condition is made.
  What the stable sort does with a rising stretch and one event behind it, of less than 20 in all, in one sentence: the event slides down to its place.
  What the two EvtPut return, in one sentence: the rising list with the event put in, nothing for another list; for every list of less than 19 events that lies in memory.
  What a list is with an event put in, in one sentence: in order if the event is new, not in order if it is there, and the list again once it is taken out; no condition is made.
-/
import Derived.Test.YtkfjemgelmbcfaaKH
import Derived.Test.YtkfjemgelmbcfaaKC
import Derived.Test.YtkfjemgelmbcfaaKD
import Derived.Test.YtkfjemgelmbcfaaKF
namespace Go.Proofs.Ytkfjemgelmbcfaa
set_option maxRecDepth 100000
open Go.RowKit

theorem ins_at (e : Evt) : ∀ (es : List Evt) (q : Nat), q ≤ es.length → (∀ i, i < q → ltE e (es.getD i default) = false) → (q < es.length → ltE e (es.getD q default) = true) → ins e es = es.take q ++ e :: es.drop q
  | [], q, h, _, _ => by
    obtain rfl : q = 0 := by simpa using h
    rfl
  | x :: r, 0, _, _, h2 => by
    have : ltE e x = true := by simpa using h2 (by simp)
    rw [ins, if_pos this]
    rfl
  | x :: r, q + 1, h, h1, h2 => by
    have h0 : ltE e x = false := by simpa using h1 0 (by omega)
    rw [ins, if_neg (by rw [h0]; exact Bool.false_ne_true), ins_at e r q (by simpa using h) (fun i hi => by simpa using h1 (i + 1) (by omega)) (fun hq => by simpa using h2 (by simpa using hq))]
    rfl
theorem rise_pair (es : List Evt) (h : riseB es = true) (k : Nat) (hk : k + 1 < es.length) : ltE (es.getD k default) (es.getD (k + 1) default) = true := by
  have h1 := rise_drop es h k
  rw [riseB_drop es k hk, Bool.and_eq_true] at h1
  exact h1.1
theorem rise_lt (es : List Evt) (h : riseB es = true) (i : Nat) : ∀ d, i + d + 1 < es.length → ltE (es.getD i default) (es.getD (i + d + 1) default) = true
  | 0, hd => rise_pair es h i hd
  | d + 1, hd => ltE_trans _ _ _ (rise_lt es h i d (by omega)) (rise_pair es h (i + d + 1) (by omega))
theorem snoc_lt (es : List Evt) (e : Evt) (i : Nat) (h : i < es.length) : (es ++ [e]).getD i default = es.getD i default := by
  simp [List.getD, List.getElem?_append_left h]
theorem snoc_at (es : List Evt) (e : Evt) : (es ++ [e]).getD es.length default = e := by simp [List.getD]

/-- The slid row is the list with the event put in. -/
theorem slid_ins (es : List Evt) (e : Evt) (h : riseB es = true) (q : Nat) (hp : Place (fun i => (es ++ [e]).getD i default) 0 es.length q) (k : Nat) (hk : k < es.length + 1) :
    slid (fun i => (es ++ [e]).getD i default) es.length q k = (ins e es).getD k default := by
  obtain ⟨_, hq, h1, h2⟩ := hp
  simp only [snoc_at] at h1 h2
  have lo : ∀ i, i < q → ltE e (es.getD i default) = false := by
    intro i hi
    rcases h1 with h0 | h1
    · omega
    · rw [snoc_lt es e (q - 1) (by omega)] at h1
      by_cases hiq : i = q - 1
      · rw [hiq]; exact h1
      · have hlt := rise_lt es h i (q - 1 - i - 1) (by omega)
        rw [show i + (q - 1 - i - 1) + 1 = q - 1 by omega] at hlt
        cases hc : ltE e (es.getD i default)
        · rfl
        · rw [ltE_trans _ _ _ hc hlt] at h1
          cases h1
  have hi : q < es.length → ltE e (es.getD q default) = true := fun hlt => by
    have := h2 q (Nat.le_refl _) hlt
    rwa [snoc_lt es e q hlt] at this
  rw [ins_at e es q hq lo hi]
  show (if k < q then (es ++ [e]).getD k default else if k = q then (es ++ [e]).getD es.length default else if k ≤ es.length then (es ++ [e]).getD (k - 1) default else (es ++ [e]).getD k default) = _
  by_cases hkq : k < q
  · rw [if_pos hkq, snoc_lt es e k (by omega)]
    rw [List.getD, List.getD, List.getElem?_append_left (by rw [List.length_take, Nat.min_eq_left hq]; exact hkq), List.getElem?_take_of_lt hkq]
  · rw [if_neg hkq]
    by_cases hk2 : k = q
    · subst hk2
      rw [if_pos rfl, snoc_at]
      simp [List.getD, List.length_take, Nat.min_eq_left hq]
    · rw [if_neg hk2, if_pos (by omega), snoc_lt es e (k - 1) (by omega)]
      obtain ⟨m, rfl⟩ : ∃ m, k = q + m + 1 := ⟨k - q - 1, by omega⟩
      have hl : (es.take q).length = q := by rw [List.length_take, Nat.min_eq_left hq]
      rw [List.getD, List.getD, List.getElem?_append_right (by omega), hl, show q + m + 1 - q = m + 1 by omega, List.getElem?_cons_succ, List.getElem?_drop, show q + m + 1 - 1 = q + m by omega]

end Go.Proofs.Ytkfjemgelmbcfaa

namespace Go.Proofs.Ytkfjemgelmbcfaa
set_option maxRecDepth 100000
open Go.RowKit

/-- What the sorting leaves. -/
def Sorted (g p : Nat) (f : Nat → Evt) (w : World) (x : Ending) (w' : World) : Prop :=
  x = .returned (.tuple #[]) ∧ (∃ q, Place f 0 p q ∧ Row w' g (p + 1) (slid f p q)) ∧ Mv g w w'

set_option maxHeartbeats 4000000 in
theorem stable_any (g c p : Nat) (f : Nat → Evt) (w : World) (hp : p + 1 < 20) (hR : Row w g (p + 1) f) (rise : ∀ k, k + 1 < p → ltE (f k) (f (k + 1)) = true) :
    Calls Try.prog 152 #[.slice (some ⟨g, 0, none⟩) (p + 1) c, .int .i64 ((p : Int) + 1), .func (.func 73) #[] #[]] w (Sorted g p f w) := by
  have IN := Lib.hid (insertion_any g (p + 1) c 0 p f w (by omega) (by omega) (by omega) hR (fun k _ h => rise k h))
  clear hR rise
  have n1 : ¬ (20 : Int) ≤ (p : Int) + 1 := by omega
  have n2 : ¬ (20 : Int) < (p : Int) + 1 := by omega
  go_enter Try.func152, Try.ntmps152
  go_wp2
  go_loopw [7, 8] (fun a b wr => (a = .int .i64 0 ∧ b = .int .i64 20) ∧ wr = w) (fun _ _ _ => 0)
  case atStart => exact ⟨⟨rfl, rfl⟩, rfl⟩
  case round =>
    obtain ⟨⟨rfl, rfl⟩, rfl⟩ := hrel
    go_wp2_with fail
    have I := IN.out
    rw [show (((0 : Nat) : Int)) = 0 from rfl] at I
    refine I.mono ?_
    rintro x w1 ⟨rfl, hs, mv⟩
    have HS := Lib.hid hs
    have MV := Lib.hid mv
    clear hs mv I IN
    go_wp2
    go_loopw [6, 7, 8, 9] (fun s a b m wr => (s = .int .i64 20 ∧ HS = HS) ∧ wr = w1) (fun _ _ _ _ _ => 0)
    case atStart => exact ⟨⟨rfl, rfl⟩, rfl⟩
    case round =>
      obtain ⟨⟨rfl, _⟩, rfl⟩ := hrel
      go_wp2
      exact bodyPost_end (v := .tuple #[]) (results_none Try.results152 _ _ _) rfl ⟨rfl, HS.out, MV.out⟩

theorem sortStable_any (g c p : Nat) (f : Nat → Evt) (w : World) (hp : p + 1 < 20) (hR : Row w g (p + 1) f) (rise : ∀ k, k + 1 < p → ltE (f k) (f (k + 1)) = true) :
    Calls Try.prog 124 #[.slice (some ⟨g, 0, none⟩) (p + 1) c, .func (.func 73) #[] #[]] w (Sorted g p f w) := by
  have ST := Lib.hid (stable_any g c p f w hp hR rise)
  clear hR rise
  go_enter Try.func124, Try.ntmps124
  go_wp2_with fail
  refine ST.out.mono ?_
  rintro x w1 ⟨rfl, hs, mv⟩
  have HS := Lib.hid hs
  have MV := Lib.hid mv
  clear hs mv ST
  go_wp2
  exact bodyPost_end (v := .tuple #[]) (results_none Try.results124 _ _ _) rfl ⟨rfl, HS.out, MV.out⟩

end Go.Proofs.Ytkfjemgelmbcfaa

namespace Go.Proofs.Ytkfjemgelmbcfaa
set_option maxRecDepth 100000
open Go.RowKit

/-- A slice of these events. -/
def Gives (fs : List Evt) (n : Nat) (w : World) (x : Ending) (w' : World) : Prop :=
  ∃ A c, x = .returned (.slice A n c) ∧ n ≤ c ∧ c ≤ 9223372036854775807 ∧ Evs w' A n fs ∧ Up w w'

/-- What impl.EvtPut gives. -/
def PutI (b : Bool) (fs : List Evt) (n : Nat) (w : World) (x : Ending) (w' : World) : Prop :=
  (b = true → Gives fs n w x w') ∧ (b = false → x = .returned (.slice none 0 0) ∧ Up w w')
/-- What spec.EvtPut gives. -/
def PutS (b : Bool) (fs : List Evt) (n : Nat) (w : World) (x : Ending) (w' : World) : Prop :=
  (b = true → Gives fs n w x w') ∧ (b = false → Gives [] 0 w x w')

theorem Row.of_own {w : World} {base g n c : Nat} {es : List Evt} (h : w.ownsRow base 50 6 (.slice (some ⟨g, 0, none⟩) n c) n (flat es)) (hn : 0 < n) : Row w g n (fun i => es.getD i default) := by
  obtain ⟨b, off, hA, hb, hc⟩ := (own_evs h).2 hn
  injection hA with hA
  injection hA with h1 h2 _
  subst h1 h2
  exact ⟨hb, fun i hi => by have := hc i hi; rwa [Nat.zero_add] at this, fun j _ => h.frozenAt j⟩
theorem Row.evs {w : World} {g n : Nat} {f : Nat → Evt} {es : List Evt} (h : Row w g n f) (hl : es.length = n) (e : ∀ i, i < n → f i = es.getD i default) : Evs w (some ⟨g, 0, none⟩) n es :=
  ⟨hl, fun _ => ⟨g, 0, rfl, h.1, fun i hi => by rw [Nat.zero_add, ← e i hi]; exact h.2.1 i hi⟩⟩

set_option maxHeartbeats 2000000 in
theorem sortBy_any (A1 : Option Addr) (p c1 : Nat) (es : List Evt) (A2 : Option Addr) (c2 : Nat) (e : Evt) (W : World) (h1 : Evs W A1 p es) (h2 : Evs W A2 1 [e]) (hp : p + 1 < 20) (hr : riseB es = true) :
    Calls Try.prog 79 #[.func (.func 73) #[] #[], .slice (some ⟨W.heap.size, 0, none⟩) 2 2] (W.alloc (.cells #[.slice A1 p c1, .slice A2 1 c2] 24))
      (Gives (ins e es) (p + 1) (W.alloc (.cells #[.slice A1 p c1, .slice A2 1 c2] 24))) := by
  obtain hl := h1.1
  have C := Lib.hid (concat2 A1 p c1 es A2 1 c2 [e] W h1 h2 (by omega))
  have SI := Lib.hid (slid_ins es e hr)
  have RP := Lib.hid (fun k hk => rise_pair es hr k hk)
  have SN := Lib.hid (fun i h => snoc_lt es e i h)
  have IL := Lib.hid (ins_len e es)
  have FL := Lib.hid (show (es ++ [e]).length = p + 1 by simp [hl])
  have HL := Lib.hid hl
  clear h1 h2 hr hl
  go_enter Try.func79, Try.ntmps79
  go_wp2_with fail
  refine C.out.mono ?_
  rintro x w2 ⟨A, c, rfl, hc, hm, -, ow, up⟩
  rw [FL.out] at hc ow ⊢
  obtain ⟨g, cap, hv, hg, hlt⟩ := ow.form (by omega)
  injection hv with hA _ hcp
  subst hA
  subst hcp
  have RO := Lib.hid (Row.of_own ow (by omega))
  have OW := Lib.hid hg
  have U2 := Lib.hid up
  clear ow up hg C
  go_wp2_with fail
  refine (sortStable_any g c p _ _ hp RO.out (fun k hk => ?_)).mono ?_
  · have hk' := hk
    rw [SN.out k (by rw [HL.out]; omega), SN.out (k + 1) (by rw [HL.out]; omega)]
    exact RP.out k (by rw [HL.out]; exact hk)
  rintro x w3 ⟨rfl, ⟨q, pl, row⟩, mv⟩
  have RW := Lib.hid row
  have PL := Lib.hid pl
  have U3 := Lib.hid (mv.up U2.out OW.out)
  clear row pl mv U2 RO
  go_wp2
  go_ret
  refine ⟨_, c, rfl, hc, hm, RW.out.evs (by rw [IL.out, HL.out]) (fun i hi => ?_), U3.out⟩
  have hp2 := PL.out
  rw [← HL.out] at hp2 ⊢
  exact SI.out q hp2 i (by rw [HL.out]; exact hi)

set_option maxHeartbeats 2000000 in
theorem implPut_any (A : Option Addr) (n cap : Nat) (es : List Evt) (e : Evt) (w : World) (hn : n + 1 < 20) (hE : Evs w A n es) :
    Calls Try.prog 29 #[.slice A n cap, e.v] w (PutI (riseB es) (ins e es) (n + 1) w) := by
  have RI := Lib.hid (fun W h => implRise_any A n cap es W (by omega) h)
  have HE := Lib.hid hE
  have SB := Lib.hid (fun A2 c2 W h1 h2 hr => sortBy_any A n cap es A2 c2 e W h1 h2 hn hr)
  obtain ⟨et, eto, efr, esq, ekd, edt⟩ := e
  have B0 := Lib.hid (Box.new w ⟨et, eto, efr, esq, ekd, edt⟩ 50)
  generalize hr : riseB es = r at RI SB ⊢
  clear hr hE
  unfold Evt.v
  dsimp only
  go_enter Try.func29, Try.ntmps29
  go_wp2_with fail
  refine (RI.out _ (HE.out.up ((Up.refl w).alloc _))).mono ?_
  rintro x w1 ⟨rfl, u1⟩
  have U1 := Lib.hid (((Up.refl w).alloc _).trans u1)
  have B1 := Lib.hid (B0.out.up u1)
  have E1 := Lib.hid (HE.out.up U1.out)
  clear u1 RI HE B0
  cases r
  · go_wp2
    go_ret
    exact ⟨(fun h => by cases h), fun _ => ⟨rfl, U1.out⟩⟩
  · obtain ⟨⟨k0, k1, k2, k3, k4, k5⟩, -⟩ := B1.out.mk6
    have E2 := Lib.hid (Evs.new w1 ⟨et, eto, efr, esq, ekd, edt⟩ 50)
    have E3 := Lib.hid (E1.out.up ((Up.refl w1).alloc (.cells #[.int .i64 et, .int .i64 eto, .int .i64 efr, .int .i64 esq, .int .i64 ekd, .int .i64 edt] 50)))
    go_wp2_with fail
    have G := SB.out (some ⟨w1.heap.size, 0, none⟩) 1 _ E3.out E2.out (by first | trivial | rfl)
    simp only [World.size_alloc] at G
    refine G.mono ?_
    rintro x w2 ⟨A2, c2, rfl, hc, hm, ev, up⟩
    have EV := Lib.hid ev
    have UP := Lib.hid (((U1.out.alloc _).alloc _).trans up)
    clear ev up G k0 k1 k2 k3 k4 k5
    go_wp2
    go_ret
    exact ⟨fun _ => ⟨A2, c2, rfl, hc, hm, EV.out, UP.out⟩, fun h => by cases h⟩

set_option maxHeartbeats 2000000 in
theorem specPut_any (A : Option Addr) (n cap : Nat) (es : List Evt) (e : Evt) (w : World) (hn : n ≤ 1000000000) (hE : Evs w A n es) :
    Calls Try.prog 31 #[.slice A n cap, e.v] w (PutS (riseB es) (ins e es) (n + 1) w) := by
  have RI := Lib.hid (fun W h => specRise_any A n cap es W (by omega) h)
  have HE := Lib.hid hE
  have IL := Lib.hid (show (ins e es).length = n + 1 by rw [ins_len, hE.1])
  have LP := Lib.hid (fun W h => l1Put_any A n cap es e W hn h)
  obtain ⟨et, eto, efr, esq, ekd, edt⟩ := e
  have B0 := Lib.hid (Box.new w ⟨et, eto, efr, esq, ekd, edt⟩ 50)
  generalize hr : riseB es = r at RI ⊢
  clear hr hE
  unfold Evt.v at LP ⊢
  dsimp only at LP ⊢
  go_enter Try.func31, Try.ntmps31
  go_wp2_with fail
  refine (RI.out _ (HE.out.up ((Up.refl w).alloc _))).mono ?_
  rintro x w1 ⟨rfl, u1⟩
  have U1 := Lib.hid (((Up.refl w).alloc _).trans u1)
  have B1 := Lib.hid (B0.out.up u1)
  have E1 := Lib.hid (HE.out.up U1.out)
  clear u1 RI HE B0
  cases r
  · go_wp2
    go_ret
    exact ⟨(fun h => by cases h), fun _ => ⟨_, 0, rfl, Nat.le_refl _, by omega, ⟨rfl, fun h => absurd h (by omega)⟩, by first | exact U1.out.alloc _ | exact U1.out⟩⟩
  · obtain ⟨⟨k0, k1, k2, k3, k4, k5⟩, -⟩ := B1.out.mk6
    go_wp2_with fail
    refine (LP.out _ E1.out).mono ?_
    rintro x w2 ⟨A2, c2, rfl, hc, hm, ev, -, up⟩
    rw [IL.out] at hc ev ⊢
    have EV := Lib.hid ev
    have UP := Lib.hid (U1.out.trans up)
    clear ev up k0 k1 k2 k3 k4 k5
    go_wp2
    go_ret
    exact ⟨fun _ => ⟨A2, c2, rfl, hc, hm, EV.out, UP.out⟩, fun h => by cases h⟩

end Go.Proofs.Ytkfjemgelmbcfaa

namespace Go.Proofs.Ytkfjemgelmbcfaa
set_option maxRecDepth 100000
open Go.RowKit

theorem eqB_eq {a b : Evt} (h : eqB a b = true) : a = b := by
  obtain ⟨h0, h1, h2, h3, h4, h5⟩ := (eqB_iff a b).1 h
  cases a
  cases b
  simp_all
theorem eqB_self (a : Evt) : eqB a a = true := (eqB_iff a a).2 ⟨rfl, rfl, rfl, rfl, rfl, rfl⟩
theorem rise_tail (x : Evt) : ∀ l : List Evt, riseB (x :: l) = true → riseB l = true
  | [], _ => rfl
  | y :: r, h => by rw [riseB, Bool.and_eq_true] at h; exact h.2
theorem rise_head {x y : Evt} {r : List Evt} (h : riseB (x :: y :: r) = true) : ltE x y = true := by rw [riseB, Bool.and_eq_true] at h; exact h.1

theorem ins_new (e : Evt) : ∀ es : List Evt, riseB es = true → (∀ j, j < es.length → eqB (es.getD j default) e = false) → riseB (ins e es) = true
  | [], _, _ => rfl
  | x :: r, h, hn => by
    rw [ins]
    by_cases hx : ltE e x = true
    · rw [if_pos hx, riseB, hx, h]; rfl
    · rw [if_neg hx]
      have hx' : ltE e x = false := by simpa using hx
      have hne : eqB x e = false := by simpa using hn 0 (by simp)
      have hlt : ltE x e = true := by
        cases hc : ltE x e
        · rw [ltE_total x e hc hx'] at hne; cases hne
        · rfl
      have ih := ins_new e r (rise_tail x r h) fun j hj => by simpa using hn (j + 1) (by simpa using hj)
      cases r with
      | nil => rw [ins, riseB, hlt]; rfl
      | cons y r' =>
        rw [ins] at ih ⊢
        by_cases hy : ltE e y = true
        · rw [if_pos hy] at ih ⊢
          rw [riseB, hlt, ih]; rfl
        · rw [if_neg hy] at ih ⊢
          rw [riseB, rise_head h, ih]; rfl

theorem ins_old (e : Evt) : ∀ es : List Evt, riseB es = true → ∀ j, j < es.length → eqB (es.getD j default) e = true → riseB (ins e es) = false
  | [], _, j, hj, _ => by simp at hj
  | x :: r, h, 0, _, he => by
    have hx : x = e := eqB_eq (by simpa using he)
    subst hx
    rw [ins, if_neg (by rw [ltE_irr]; exact Bool.false_ne_true)]
    cases r with
    | nil => rw [ins, riseB, ltE_irr]; rfl
    | cons y r' => rw [ins, if_pos (rise_head h), riseB, ltE_irr]; rfl
  | x :: r, h, j + 1, hj, he => by
    have hj' : j < r.length := by simpa using hj
    have he' : eqB (r.getD j default) e = true := by simpa using he
    have hlt : ltE x e = true := by
      have := rise_lt (x :: r) h 0 j (by simpa using hj')
      rw [show 0 + j + 1 = j + 1 by omega] at this
      rw [← eqB_eq he']
      simpa using this
    rw [ins, if_neg (by rw [ltE_asym x e hlt]; exact Bool.false_ne_true)]
    have ih := ins_old e r (rise_tail x r h) j hj' he'
    cases hc : riseB (x :: ins e r)
    · rfl
    · rw [rise_tail _ _ hc] at ih; cases ih

theorem ins_split (e : Evt) : ∀ es : List Evt, ∃ q, q ≤ es.length ∧ ins e es = es.take q ++ e :: es.drop q
  | [] => ⟨0, by simp, rfl⟩
  | x :: r => by
    rw [ins]
    split
    · exact ⟨0, by simp, rfl⟩
    · obtain ⟨q, hq, h⟩ := ins_split e r
      exact ⟨q + 1, by simpa using hq, by rw [h]; rfl⟩

theorem ins_back (e : Evt) (es : List Evt) (hn : ∀ j, j < es.length → eqB (es.getD j default) e = false) {r : Int} (hr : IsAt e (ins e es) r) : outE (ins e es) r = es ∧ decide (0 ≤ r) = true := by
  obtain ⟨q, hq, h⟩ := ins_split e es
  have hl : (es.take q).length = q := by rw [List.length_take, Nat.min_eq_left hq]
  have hat : IsAt e (ins e es) (q : Int) := by
    refine .inl ⟨q, rfl, by rw [ins_len]; omega, ?_, fun j hj => ?_⟩
    · rw [h, List.getD, List.getElem?_append_right (by omega), hl, Nat.sub_self]
      exact eqB_self e
    · have := hn j (by omega)
      rw [h, List.getD, List.getElem?_append_left (by omega), List.getElem?_take_of_lt hj]
      exact this
  obtain rfl := hr.one hat
  refine ⟨?_, by simp⟩
  rw [outE_at, h]
  have e1 : (es.take q ++ e :: es.drop q).take q = es.take q := List.take_left' hl
  have e2 : (es.take q ++ e :: es.drop q).drop (q + 1) = es.drop q := by
    rw [← List.drop_drop, List.drop_left' hl]
    rfl
  rw [e1, e2, List.take_append_drop]

end Go.Proofs.Ytkfjemgelmbcfaa

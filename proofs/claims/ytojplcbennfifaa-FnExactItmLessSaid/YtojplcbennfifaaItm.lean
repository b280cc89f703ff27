/-
  Items, in one sentence: an event and a number, their order, and what toHstItem and both ItmLess return; no condition is made.
-/
import Derived.Test.YtojplcbennfifaaLess
import Derived.Test.YtojplcbennfifaaMem
import Derived.Test.YtojplcbennfifaaOrder
import Derived.Test.YtojplcbennfifaaTo
import Derived.Test.YtojplcbennfifaaUp
import Derived.Test.YtojplcbennfifaaMixH
namespace Go.Proofs.Ytojplcbennfifaa
set_option maxRecDepth 100000
open Go.RowKit

structure Itm where
  ev : Evt
  id : Int
deriving DecidableEq
instance : Inhabited Itm := ⟨⟨default, 0⟩⟩
def Itm.v (a : Itm) : Value := .agg #[.int .i64 a.ev.t, .int .i64 a.ev.to, .int .i64 a.ev.fr, .int .i64 a.ev.sq, .int .i64 a.ev.kd, .int .i64 a.ev.dt, .int .i64 a.id]
def cmpT (a b : Itm) : Int := orL [cmpE a.ev b.ev, cmpI a.id b.id]
def ltT (a b : Itm) : Bool := decide (cmpT a b < 0)

theorem cmpI_zero (x y : Int) : cmpI x y = 0 ↔ x = y := by
  unfold cmpI
  split
  · constructor <;> intro h <;> omega
  · split
    · constructor <;> intro h <;> omega
    · constructor <;> intro h <;> omega
theorem orL_zero : ∀ l : List Int, orL l = 0 ↔ ∀ z ∈ l, z = 0
  | [] => by simp [orL]
  | x :: r => by
    rw [orL]
    split
    · rename_i h
      rw [orL_zero r]
      simp [h]
    · rename_i h
      simp [h]
theorem cmpE_zero (a b : Evt) : cmpE a b = 0 ↔ eqB a b = true := by
  rw [eqB_iff]
  unfold cmpE
  rw [orL_zero]
  simp [cmpI_zero]
theorem ltT_eq (a b : Itm) : ltT a b = (ltE a.ev b.ev || (eqB a.ev b.ev && decide (a.id < b.id))) := by
  unfold ltT cmpT ltE
  have hz := cmpE_zero a.ev b.ev
  have hi : cmpI a.id b.id < 0 ↔ a.id < b.id := by
    unfold cmpI
    split
    · constructor <;> intro h <;> omega
    · split
      · constructor <;> intro h <;> omega
      · constructor <;> intro h <;> omega
  generalize cmpE a.ev b.ev = c at hz ⊢
  generalize eqB a.ev b.ev = q at hz ⊢
  generalize cmpI a.id b.id = d at hi ⊢
  by_cases h0 : c = 0
  · have hq := hz.1 h0
    subst h0
    rw [hq]
    have e : orL [0, d] = d := by simp [orL]; omega
    rw [e]
    by_cases hd : d < 0
    · simp [hd, hi.1 hd]
    · simp [hd, show ¬ a.id < b.id from fun h => hd (hi.2 h)]
  · have hq : q = false := by
      cases q
      · rfl
      · exact absurd (hz.2 rfl) h0
    rw [hq]
    simp [orL, h0]

set_option maxHeartbeats 4000000 in
theorem toItm_any (a : Itm) (w : World) : Calls Try.prog 42 #[a.v] w fun x w' => x = .returned a.v ∧ Up w w' := by
  obtain ⟨⟨at_, ato, afr, asq, akd, adt⟩, aid⟩ := a
  have C := fun W => toEvt_any ⟨at_, ato, afr, asq, akd, adt⟩ W
  unfold Itm.v
  unfold Evt.v at C
  dsimp only at C ⊢
  have CC := Lib.hid C
  clear C
  go_enter Try.func42, Try.ntmps42
  go_wp2_with fail
  refine (CC.out _).mono ?_
  rintro x w1 ⟨rfl, u1⟩
  have U1 := Lib.hid u1
  obtain ⟨hc, hf, hz⟩ := u1.facts
  simp only [World.size_alloc] at hc hf hz
  have cell : ∀ b j, w.heap.size ≤ b → b < w.heap.size + 3 → j < 7 → ∃ v, w1.cell? ⟨b, j, none⟩ = some v := fun b j h1 h2 h3 => by
    rw [hc b j (by omega)]
    have hb : b = w.heap.size ∨ b = w.heap.size + 1 ∨ b = w.heap.size + 2 := by omega
    have hj : j = 0 ∨ j = 1 ∨ j = 2 ∨ j = 3 ∨ j = 4 ∨ j = 5 ∨ j = 6 := by omega
    rcases hb with rfl | rfl | rfl <;> rcases hj with rfl | rfl | rfl | rfl | rfl | rfl | rfl <;> simp [go_sem]
  have fr : ∀ b j, w.heap.size ≤ b → b < w.heap.size + 3 → w1.frozen? ⟨b, j, none⟩ = false := fun b j h1 h2 => by
    rw [hf b j (by omega)]
    have hb : b = w.heap.size ∨ b = w.heap.size + 1 ∨ b = w.heap.size + 2 := by omega
    rcases hb with rfl | rfl | rfl <;> simp [go_sem]
  have p6 : w1.cell? ⟨w.heap.size, 6, none⟩ = some (.int .i64 aid) := by
    rw [hc _ _ (by omega)]
    simp [go_sem]
  have E1 := putEv_at (w := w1) (b := w.heap.size + 2) (o := 0) (e := ⟨at_, ato, afr, asq, akd, adt⟩) (fun k hk => by rw [Nat.zero_add]; exact cell _ _ (by omega) (by omega) (by omega))
  have E2 := putEv_at (w := (putEv w1 (w.heap.size + 2) 0 ⟨at_, ato, afr, asq, akd, adt⟩).setCell ⟨w.heap.size + 2, 6, none⟩ (.int .i64 aid)) (b := w.heap.size + 1) (o := 0) (e := ⟨at_, ato, afr, asq, akd, adt⟩) (fun k hk => by
    rw [Nat.zero_add]
    obtain ⟨v, hv⟩ := putEv_some (w := w1) (b := w.heap.size + 2) (o := 0) (e := ⟨at_, ato, afr, asq, akd, adt⟩) (q := ⟨w.heap.size + 1, k, none⟩) (cell _ _ (by omega) (by omega) (by omega))
    exact setCell_some (p := ⟨w.heap.size + 2, 6, none⟩) (u := .int .i64 aid) hv)
  obtain ⟨v0, q0⟩ := cell (w.heap.size + 2) 0 (by omega) (by omega) (by omega)
  obtain ⟨v1, q1⟩ := cell (w.heap.size + 2) 1 (by omega) (by omega) (by omega)
  obtain ⟨v2, q2⟩ := cell (w.heap.size + 2) 2 (by omega) (by omega) (by omega)
  obtain ⟨v3, q3⟩ := cell (w.heap.size + 2) 3 (by omega) (by omega) (by omega)
  obtain ⟨v4, q4⟩ := cell (w.heap.size + 2) 4 (by omega) (by omega) (by omega)
  obtain ⟨v5, q5⟩ := cell (w.heap.size + 2) 5 (by omega) (by omega) (by omega)
  obtain ⟨v6, q6⟩ := cell (w.heap.size + 2) 6 (by omega) (by omega) (by omega)
  obtain ⟨y0, r0⟩ := cell (w.heap.size + 1) 0 (by omega) (by omega) (by omega)
  obtain ⟨y1, r1⟩ := cell (w.heap.size + 1) 1 (by omega) (by omega) (by omega)
  obtain ⟨y2, r2⟩ := cell (w.heap.size + 1) 2 (by omega) (by omega) (by omega)
  obtain ⟨y3, r3⟩ := cell (w.heap.size + 1) 3 (by omega) (by omega) (by omega)
  obtain ⟨y4, r4⟩ := cell (w.heap.size + 1) 4 (by omega) (by omega) (by omega)
  obtain ⟨y5, r5⟩ := cell (w.heap.size + 1) 5 (by omega) (by omega) (by omega)
  obtain ⟨y6, r6⟩ := cell (w.heap.size + 1) 6 (by omega) (by omega) (by omega)
  have f1 : ∀ j, w1.frozen? ⟨w.heap.size + 1, j, none⟩ = false := fun j => fr _ _ (by omega) (by omega)
  have f2 : ∀ j, w1.frozen? ⟨w.heap.size + 2, j, none⟩ = false := fun j => fr _ _ (by omega) (by omega)
  unfold EvAt putEv at E1 E2
  simp only [Nat.zero_add] at E1 E2
  obtain ⟨k0, k1, k2, k3, k4, k5⟩ := E1
  obtain ⟨l0, l1, l2, l3, l4, l5⟩ := E2
  clear u1 hc hf cell fr
  go_wp2
  refine bodyPost_ret (v := .agg #[.int .i64 at_, .int .i64 ato, .int .i64 afr, .int .i64 asq, .int .i64 akd, .int .i64 adt, .int .i64 aid]) (by simp [results, Try.results42, go_sem, l0, l1, l2, l3, l4, l5, r6]) rfl ⟨rfl, ?_⟩
  have U0 := ((Up.refl w).alloc (.cells #[.int .i64 at_, .int .i64 ato, .int .i64 afr, .int .i64 asq, .int .i64 akd, .int .i64 adt, .int .i64 aid] 78)).alloc (.cells #[.int .i64 0, .int .i64 0, .int .i64 0, .int .i64 0, .int .i64 0, .int .i64 0, .int .i64 0] 64) |>.alloc (.cells #[.int .i64 0, .int .i64 0, .int .i64 0, .int .i64 0, .int .i64 0, .int .i64 0, .int .i64 0] 64)
  have U := U0.trans U1.out
  have h1 : w.heap.size ≤ w.heap.size + 1 := by omega
  have h2 : w.heap.size ≤ w.heap.size + 2 := by omega
  exact (((((((((((((U.setCell (p := ⟨w.heap.size + 2, 0, none⟩) h2 _).setCell (p := ⟨w.heap.size + 2, 1, none⟩) h2 _).setCell (p := ⟨w.heap.size + 2, 2, none⟩) h2 _).setCell (p := ⟨w.heap.size + 2, 3, none⟩) h2 _).setCell (p := ⟨w.heap.size + 2, 4, none⟩) h2 _).setCell (p := ⟨w.heap.size + 2, 5, none⟩) h2 _).setCell (p := ⟨w.heap.size + 2, 6, none⟩) h2 _).setCell (p := ⟨w.heap.size + 1, 0, none⟩) h1 _).setCell (p := ⟨w.heap.size + 1, 1, none⟩) h1 _).setCell (p := ⟨w.heap.size + 1, 2, none⟩) h1 _).setCell (p := ⟨w.heap.size + 1, 3, none⟩) h1 _).setCell (p := ⟨w.heap.size + 1, 4, none⟩) h1 _).setCell (p := ⟨w.heap.size + 1, 5, none⟩) h1 _).setCell (p := ⟨w.heap.size + 1, 6, none⟩) h1 _

set_option maxHeartbeats 4000000 in
theorem itmCmp_any (a b : Itm) (w : World) : Calls Try.prog 88 #[a.v, b.v] w fun x w' => x = .returned (.int .i64 (cmpT a b)) ∧ Up w w' := by
  unfold cmpT
  obtain ⟨⟨at_, ato, afr, asq, akd, adt⟩, aid⟩ := a
  obtain ⟨⟨bt, bto, bfr, bsq, bkd, bdt⟩, bid⟩ := b
  have C := fun W => cmpE_any ⟨at_, ato, afr, asq, akd, adt⟩ ⟨bt, bto, bfr, bsq, bkd, bdt⟩ W
  have D := fun W => cmpI_any aid bid W
  generalize cmpE ⟨at_, ato, afr, asq, akd, adt⟩ ⟨bt, bto, bfr, bsq, bkd, bdt⟩ = c at C ⊢
  generalize cmpI aid bid = d at D ⊢
  unfold Itm.v
  unfold Evt.v at C
  dsimp only at C ⊢
  have CC := Lib.hid C
  have DD := Lib.hid D
  clear C D
  go_enter Try.func88, Try.ntmps88
  go_wp2_with fail
  refine region_mixH (fun w' => Up ((w.alloc (.cells #[.int .i64 at_, .int .i64 ato, .int .i64 afr, .int .i64 asq, .int .i64 akd, .int .i64 adt, .int .i64 aid] 64)).alloc (.cells #[.int .i64 bt, .int .i64 bto, .int .i64 bfr, .int .i64 bsq, .int .i64 bkd, .int .i64 bdt, .int .i64 bid] 64)) w') [(0, true), (1, true), (2, true), (3, true), (5, true), (6, true), (7, true), (8, true), (4, false), (9, false), (10, false), (11, false), (12, true)] (by kernel_rfl) (by kernel_rfl) (Up.refl _).drew ?_
  refine mixH_take rfl (by rfl) ?_
  apply Exists.intro
  refine ⟨fun w1 hS1 => ?_, ?_⟩
  · clear hS1
    go_simp
    try rfl
  go_simp
  refine mixH_take rfl (by rfl) ?_
  apply Exists.intro
  refine ⟨fun w1 hS1 => ?_, ?_⟩
  · obtain ⟨hc, hf, hz⟩ := hS1.facts
    simp at hz
    clear hS1
    go_simp
    try rfl
  go_simp
  refine mixH_take rfl (by rfl) ?_
  apply Exists.intro
  refine ⟨fun w1 hS1 => ?_, ?_⟩
  · clear hS1
    go_simp
    try rfl
  go_simp
  refine mixH_take rfl (by rfl) ?_
  apply Exists.intro
  refine ⟨fun w1 hS1 => ?_, ?_⟩
  · obtain ⟨hc, hf, hz⟩ := hS1.facts
    simp at hz
    clear hS1
    go_simp
    try rfl
  go_simp
  refine mixH_take rfl (by rfl) ?_
  apply Exists.intro
  refine ⟨fun w1 hS1 => ?_, ?_⟩
  · clear hS1
    go_simp
    try rfl
  go_simp
  refine mixH_take rfl (by rfl) ?_
  apply Exists.intro
  refine ⟨fun w1 hS1 => ?_, ?_⟩
  · obtain ⟨hc, hf, hz⟩ := hS1.facts
    simp at hz
    clear hS1
    go_simp
    try rfl
  go_simp
  refine mixH_take rfl (by rfl) ?_
  apply Exists.intro
  refine ⟨fun w1 hS1 => ?_, ?_⟩
  · clear hS1
    go_simp
    try rfl
  go_simp
  refine mixH_take rfl (by rfl) ?_
  apply Exists.intro
  refine ⟨fun w1 hS1 => ?_, ?_⟩
  · obtain ⟨hc, hf, hz⟩ := hS1.facts
    simp at hz
    clear hS1
    go_simp
    try rfl
  go_simp
  refine mixH_go rfl (by rfl) (fun K hK => ?_)
  go_simp
  refine (CC.out _).mono ?_
  rintro x w2 ⟨rfl, u2⟩
  refine hK _ _ ((Up.refl _).drew.trans u2) ?_
  clear hK K
  go_simp
  refine mixH_go rfl (by rfl) (fun K hK => ?_)
  go_simp
  refine (DD.out _).mono ?_
  rintro x w3 ⟨rfl, rfl⟩
  refine hK _ _ ((Up.refl _).drew.trans u2) ?_
  clear hK K
  go_simp
  refine mixH_go rfl (by rfl) (fun K hK => ?_)
  go_simp
  refine hK _ _ (((Up.refl _).drew.trans u2).alloc _) ?_
  clear hK K
  go_simp
  refine mixH_go rfl (by rfl) (fun K hK => ?_)
  go_simp
  refine (or_any _ 0 2 2 [c, d] _ rfl (by omega) ?_).mono ?_
  · intro j hj
    have h6 : j = 0 ∨ j = 1 := by omega
    rcases h6 with rfl | rfl <;> simp [go_sem]
  rintro x w4 ⟨rfl, rfl⟩
  have u4 := (((Up.refl ((w.alloc (.cells #[.int .i64 at_, .int .i64 ato, .int .i64 afr, .int .i64 asq, .int .i64 akd, .int .i64 adt, .int .i64 aid] 64)).alloc (.cells #[.int .i64 bt, .int .i64 bto, .int .i64 bfr, .int .i64 bsq, .int .i64 bkd, .int .i64 bdt, .int .i64 bid] 64))).drew.trans u2).alloc (.cells #[.int .i64 c, .int .i64 d] 3))
  refine hK _ _ u4 ?_
  clear hK K
  go_simp
  refine mixH_take rfl (by rfl) ?_
  apply Exists.intro
  refine ⟨fun w1 hS1 => ?_, ?_⟩
  · clear hS1
    go_simp
    try rfl
  go_simp
  refine mixH_nil ?_
  go_wp2
  go_ret
  exact ⟨rfl, (((Up.refl _).alloc _).alloc _).trans u4⟩

set_option maxHeartbeats 4000000 in
theorem implItmLess_any (a b : Itm) (w : World) : Calls Try.prog 43 #[a.v, b.v] w fun x w' => x = .returned (.bool (ltT a b)) ∧ Up w w' := by
  have C := fun W => itmCmp_any a b W
  have HT := Lib.hid (show ltT a b = decide (cmpT a b < 0) from rfl)
  generalize ltT a b = r at HT ⊢
  generalize cmpT a b = c at C HT
  obtain ⟨⟨at_, ato, afr, asq, akd, adt⟩, aid⟩ := a
  obtain ⟨⟨bt, bto, bfr, bsq, bkd, bdt⟩, bid⟩ := b
  unfold Itm.v at C ⊢
  dsimp only at C ⊢
  have CC := Lib.hid C
  clear C
  go_enter Try.func43, Try.ntmps43
  go_wp2_with fail
  refine (CC.out _).mono ?_
  rintro x w1 ⟨rfl, u1⟩
  have U := Lib.hid ((((Up.refl w).alloc (.cells #[.int .i64 at_, .int .i64 ato, .int .i64 afr, .int .i64 asq, .int .i64 akd, .int .i64 adt, .int .i64 aid] 64)).alloc (.cells #[.int .i64 bt, .int .i64 bto, .int .i64 bfr, .int .i64 bsq, .int .i64 bkd, .int .i64 bdt, .int .i64 bid] 64)).trans u1)
  clear u1
  go_wp2
  go_ret
  exact ⟨ret_bool HT.out.symm, U.out⟩

set_option maxHeartbeats 4000000 in
theorem specItmLess_any (a b : Itm) (w : World) : Calls Try.prog 41 #[a.v, b.v] w fun x w' => x = .returned (.bool (ltT a b)) ∧ Up w w' := by
  have HT := Lib.hid (ltT_eq a b)
  generalize ltT a b = r at HT ⊢
  obtain ⟨⟨at_, ato, afr, asq, akd, adt⟩, aid⟩ := a
  obtain ⟨⟨bt, bto, bfr, bsq, bkd, bdt⟩, bid⟩ := b
  dsimp only at HT
  have C := fun W => specLess_any ⟨at_, ato, afr, asq, akd, adt⟩ ⟨bt, bto, bfr, bsq, bkd, bdt⟩ W
  have E := fun W => eql_evt ⟨at_, ato, afr, asq, akd, adt⟩ ⟨bt, bto, bfr, bsq, bkd, bdt⟩ W
  generalize ltE ⟨at_, ato, afr, asq, akd, adt⟩ ⟨bt, bto, bfr, bsq, bkd, bdt⟩ = l at C HT
  generalize eqB ⟨at_, ato, afr, asq, akd, adt⟩ ⟨bt, bto, bfr, bsq, bkd, bdt⟩ = q at E HT
  unfold Itm.v
  unfold Evt.v at C E
  dsimp only at C E ⊢
  have CC := Lib.hid C
  have EE := Lib.hid E
  have gd := guard_evt
  clear C E
  go_enter Try.func41, Try.ntmps41
  go_wp2_with fail
  refine (CC.out _).mono ?_
  rintro x w1 ⟨rfl, u1⟩
  have U := Lib.hid ((((Up.refl w).alloc (.cells #[.int .i64 at_, .int .i64 ato, .int .i64 afr, .int .i64 asq, .int .i64 akd, .int .i64 adt, .int .i64 aid] 64)).alloc (.cells #[.int .i64 bt, .int .i64 bto, .int .i64 bfr, .int .i64 bsq, .int .i64 bkd, .int .i64 bdt, .int .i64 bid] 64)).trans u1)
  obtain ⟨hc, hf, hz⟩ := u1.facts
  simp at hz
  clear u1
  have ee := EE.out
  by_cases hid : aid < bid
  all_goals
    cases l
    · cases q
      · go_wp2
        go_ret
        exact ⟨ret_bool (by rw [HT.out]; simp [hid]), U.out⟩
      · go_wp2
        go_ret
        exact ⟨ret_bool (by rw [HT.out]; simp [hid]), U.out⟩
    · go_wp2
      go_ret
      exact ⟨ret_bool (by rw [HT.out]; simp), U.out⟩

end Go.Proofs.Ytojplcbennfifaa

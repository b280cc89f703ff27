/-
  Items, in one sentence: an event and a number, their order, and what itmCompare returns; no condition is made.
-/
import Derived.Test.YtkfjemgelmbcfaaKA
import Derived.Test.YtkfjemgelmbcfaaKMixH
namespace Go.Proofs.Ytkfjemgelmbcfaa
set_option maxRecDepth 100000
open Go.RowKit

structure Itm where
  ev : Evt
  id : Int
deriving DecidableEq
instance : Inhabited Itm := ⟨⟨default, 0⟩⟩
def Itm.v (a : Itm) : Value := .agg #[.int .i64 a.ev.t, .int .i64 a.ev.to, .int .i64 a.ev.fr, .int .i64 a.ev.sq, .int .i64 a.ev.kd, .int .i64 a.ev.dt, .int .i64 a.id]
def cmpT (a b : Itm) : Int := orL [cmpE a.ev b.ev, cmpI a.id b.id]
def ltT (a b : Itm) : Bool := decide (cmpT a b < 0)

theorem cmpI_zero (x y : Int) : cmpI x y = 0 ↔ x = y := by
  unfold cmpI
  split
  · constructor <;> intro h <;> omega
  · split
    · constructor <;> intro h <;> omega
    · constructor <;> intro h <;> omega
theorem orL_zero : ∀ l : List Int, orL l = 0 ↔ ∀ z ∈ l, z = 0
  | [] => by simp [orL]
  | x :: r => by
    rw [orL]
    split
    · rename_i h
      rw [orL_zero r]
      simp [h]
    · rename_i h
      simp [h]
theorem cmpE_zero (a b : Evt) : cmpE a b = 0 ↔ eqB a b = true := by
  rw [eqB_iff]
  unfold cmpE
  rw [orL_zero]
  simp [cmpI_zero]
theorem ltT_eq (a b : Itm) : ltT a b = (ltE a.ev b.ev || (eqB a.ev b.ev && decide (a.id < b.id))) := by
  unfold ltT cmpT ltE
  have hz := cmpE_zero a.ev b.ev
  have hi : cmpI a.id b.id < 0 ↔ a.id < b.id := by
    unfold cmpI
    split
    · constructor <;> intro h <;> omega
    · split
      · constructor <;> intro h <;> omega
      · constructor <;> intro h <;> omega
  generalize cmpE a.ev b.ev = c at hz ⊢
  generalize eqB a.ev b.ev = q at hz ⊢
  generalize cmpI a.id b.id = d at hi ⊢
  by_cases h0 : c = 0
  · have hq := hz.1 h0
    subst h0
    rw [hq]
    have e : orL [0, d] = d := by simp [orL]; omega
    rw [e]
    by_cases hd : d < 0
    · simp [hd, hi.1 hd]
    · simp [hd, show ¬ a.id < b.id from fun h => hd (hi.2 h)]
  · have hq : q = false := by
      cases q
      · rfl
      · exact absurd (hz.2 rfl) h0
    rw [hq]
    simp [orL, h0]

set_option maxHeartbeats 4000000 in
theorem itmCmp_any (a b : Itm) (w : World) : Calls Try.prog 157 #[a.v, b.v] w fun x w' => x = .returned (.int .i64 (cmpT a b)) ∧ Up w w' := by
  unfold cmpT
  obtain ⟨⟨at_, ato, afr, asq, akd, adt⟩, aid⟩ := a
  obtain ⟨⟨bt, bto, bfr, bsq, bkd, bdt⟩, bid⟩ := b
  have C := fun W => cmpE_any ⟨at_, ato, afr, asq, akd, adt⟩ ⟨bt, bto, bfr, bsq, bkd, bdt⟩ W
  have D := fun W => cmpI_any aid bid W
  generalize cmpE ⟨at_, ato, afr, asq, akd, adt⟩ ⟨bt, bto, bfr, bsq, bkd, bdt⟩ = c at C ⊢
  generalize cmpI aid bid = d at D ⊢
  unfold Itm.v
  unfold Evt.v at C
  dsimp only at C ⊢
  have CC := Lib.hid C
  have DD := Lib.hid D
  clear C D
  go_enter Try.func157, Try.ntmps157
  go_wp2_with fail
  refine region_mixH (fun w' => Up ((w.alloc (.cells #[.int .i64 at_, .int .i64 ato, .int .i64 afr, .int .i64 asq, .int .i64 akd, .int .i64 adt, .int .i64 aid] 94)).alloc (.cells #[.int .i64 bt, .int .i64 bto, .int .i64 bfr, .int .i64 bsq, .int .i64 bkd, .int .i64 bdt, .int .i64 bid] 94)) w') [(0, true), (1, true), (2, true), (3, true), (5, true), (6, true), (7, true), (8, true), (4, false), (9, false), (10, false), (11, false), (12, true)] (by kernel_rfl) (by kernel_rfl) (Up.refl _).drew ?_
  refine mixH_take rfl (by rfl) ?_
  apply Exists.intro
  refine ⟨fun w1 hS1 => ?_, ?_⟩
  · clear hS1
    go_simp
    try rfl
  go_simp
  refine mixH_take rfl (by rfl) ?_
  apply Exists.intro
  refine ⟨fun w1 hS1 => ?_, ?_⟩
  · obtain ⟨hc, hf, hz⟩ := hS1.facts
    simp at hz
    clear hS1
    go_simp
    try rfl
  go_simp
  refine mixH_take rfl (by rfl) ?_
  apply Exists.intro
  refine ⟨fun w1 hS1 => ?_, ?_⟩
  · clear hS1
    go_simp
    try rfl
  go_simp
  refine mixH_take rfl (by rfl) ?_
  apply Exists.intro
  refine ⟨fun w1 hS1 => ?_, ?_⟩
  · obtain ⟨hc, hf, hz⟩ := hS1.facts
    simp at hz
    clear hS1
    go_simp
    try rfl
  go_simp
  refine mixH_take rfl (by rfl) ?_
  apply Exists.intro
  refine ⟨fun w1 hS1 => ?_, ?_⟩
  · clear hS1
    go_simp
    try rfl
  go_simp
  refine mixH_take rfl (by rfl) ?_
  apply Exists.intro
  refine ⟨fun w1 hS1 => ?_, ?_⟩
  · obtain ⟨hc, hf, hz⟩ := hS1.facts
    simp at hz
    clear hS1
    go_simp
    try rfl
  go_simp
  refine mixH_take rfl (by rfl) ?_
  apply Exists.intro
  refine ⟨fun w1 hS1 => ?_, ?_⟩
  · clear hS1
    go_simp
    try rfl
  go_simp
  refine mixH_take rfl (by rfl) ?_
  apply Exists.intro
  refine ⟨fun w1 hS1 => ?_, ?_⟩
  · obtain ⟨hc, hf, hz⟩ := hS1.facts
    simp at hz
    clear hS1
    go_simp
    try rfl
  go_simp
  refine mixH_go rfl (by rfl) (fun K hK => ?_)
  go_simp
  refine (CC.out _).mono ?_
  rintro x w2 ⟨rfl, u2⟩
  refine hK _ _ ((Up.refl _).drew.trans u2) ?_
  clear hK K
  go_simp
  refine mixH_go rfl (by rfl) (fun K hK => ?_)
  go_simp
  refine (DD.out _).mono ?_
  rintro x w3 ⟨rfl, rfl⟩
  refine hK _ _ ((Up.refl _).drew.trans u2) ?_
  clear hK K
  go_simp
  refine mixH_go rfl (by rfl) (fun K hK => ?_)
  go_simp
  refine hK _ _ (((Up.refl _).drew.trans u2).alloc _) ?_
  clear hK K
  go_simp
  refine mixH_go rfl (by rfl) (fun K hK => ?_)
  go_simp
  refine (or_any _ 0 2 2 [c, d] _ rfl (by omega) ?_).mono ?_
  · intro j hj
    have h6 : j = 0 ∨ j = 1 := by omega
    rcases h6 with rfl | rfl <;> simp [go_sem]
  rintro x w4 ⟨rfl, rfl⟩
  have u4 := (((Up.refl ((w.alloc (.cells #[.int .i64 at_, .int .i64 ato, .int .i64 afr, .int .i64 asq, .int .i64 akd, .int .i64 adt, .int .i64 aid] 94)).alloc (.cells #[.int .i64 bt, .int .i64 bto, .int .i64 bfr, .int .i64 bsq, .int .i64 bkd, .int .i64 bdt, .int .i64 bid] 94))).drew.trans u2).alloc (.cells #[.int .i64 c, .int .i64 d] 3))
  refine hK _ _ u4 ?_
  clear hK K
  go_simp
  refine mixH_take rfl (by rfl) ?_
  apply Exists.intro
  refine ⟨fun w1 hS1 => ?_, ?_⟩
  · clear hS1
    go_simp
    try rfl
  go_simp
  refine mixH_nil ?_
  go_wp2
  go_ret
  exact ⟨rfl, (((Up.refl _).alloc _).alloc _).trans u4⟩

end Go.Proofs.Ytkfjemgelmbcfaa

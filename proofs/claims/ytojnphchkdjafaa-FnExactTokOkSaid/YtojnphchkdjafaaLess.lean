/-
  What the two EvtLess return, in one sentence: whether the first field that differs is less; for every two events.
-/
import Derived.Test.YtojnphchkdjafaaCmp
namespace Go.Proofs.Ytojnphchkdjafaa
set_option maxRecDepth 100000
open Go.RowKit

/-- Is the first field that differs less? -/
def ltE (a b : Evt) : Bool := decide (cmpE a b < 0)

/-- The six numbers as a list. -/
def Evt.l (e : Evt) : List Int := [e.t, e.to, e.fr, e.sq, e.kd, e.dt]

/-- A new slice of these numbers. -/
def NewInts (zs : List Int) (w : World) (x : Ending) (w' : World) : Prop :=
  ∃ g, x = .returned (.slice (some ⟨g, 0, none⟩) zs.length zs.length) ∧ w.heap.size ≤ g ∧ g < w'.heap.size ∧ (∀ j, j < zs.length → w'.cell? ⟨g, j, none⟩ = some (.int .i64 (zs.getD j 0))) ∧ Up w w'

theorem l1List_any (e : Evt) (w : World) : Calls Try.prog 103 #[e.v] w (NewInts e.l w) := by
  obtain ⟨et, eto, efr, esq, ekd, edt⟩ := e
  unfold Evt.v Evt.l
  dsimp only
  go_enter Try.func103, Try.ntmps103
  go_wp2
  go_ret
  refine ⟨w.heap.size + 1, rfl, by omega, by simp, ?_, ((Up.refl _).alloc _).alloc _⟩
  intro j hj
  have h6 : j = 0 ∨ j = 1 ∨ j = 2 ∨ j = 3 ∨ j = 4 ∨ j = 5 := by simp at hj; omega
  rcases h6 with rfl | rfl | rfl | rfl | rfl | rfl <;> simp [go_sem]

theorem cmpI_lt {x y : Int} : cmpI x y < 0 ↔ x < y := by unfold cmpI; split <;> (try split) <;> omega
theorem cmpI_eq {x y : Int} : cmpI x y = 0 ↔ x = y := by unfold cmpI; split <;> (try split) <;> omega

/-- The signs of the fields. -/
def sgs (a b : Evt) : List Int := [cmpI a.t b.t, cmpI a.to b.to, cmpI a.fr b.fr, cmpI a.sq b.sq, cmpI a.kd b.kd, cmpI a.dt b.dt]
theorem cmpE_sgs (a b : Evt) : cmpE a b = orL (sgs a b) := rfl
theorem sgs_getD (a b : Evt) (k : Nat) (hk : k < 6) : (sgs a b).getD k 0 = cmpI (a.l.getD k 0) (b.l.getD k 0) := by
  have h6 : k = 0 ∨ k = 1 ∨ k = 2 ∨ k = 3 ∨ k = 4 ∨ k = 5 := by omega
  rcases h6 with rfl | rfl | rfl | rfl | rfl | rfl <;> rfl

theorem less_step (a b : Evt) (k : Nat) (hk : k < 6) (hr : orL ((sgs a b).drop k) = cmpE a b) (he : a.l.getD k 0 = b.l.getD k 0) : orL ((sgs a b).drop (k + 1)) = cmpE a b := by
  rw [← hr, orL_drop _ k (by simpa [sgs] using hk), sgs_getD _ _ _ hk, if_pos (cmpI_eq.2 he)]
theorem less_here (a b : Evt) (k : Nat) (hk : k < 6) (hr : orL ((sgs a b).drop k) = cmpE a b) (he : ¬ a.l.getD k 0 = b.l.getD k 0) : decide (a.l.getD k 0 < b.l.getD k 0) = ltE a b := by
  unfold ltE
  rw [← hr, orL_drop _ k (by simpa [sgs] using hk), sgs_getD _ _ _ hk, if_neg (fun h => he (cmpI_eq.1 h))]
  simp [cmpI_lt]
theorem less_end (a b : Evt) (k : Nat) (hk : 6 ≤ k) (hr : orL ((sgs a b).drop k) = cmpE a b) : false = ltE a b := by
  unfold ltE
  rw [← hr, List.drop_eq_nil_of_le (by simpa [sgs] using hk)]
  rfl

theorem specLess_any (a b : Evt) (w : World) : Calls Try.prog 86 #[a.v, b.v] w fun x w' => x = .returned (.bool (ltE a b)) ∧ Up w w' := by
  have ca := fun W => l1List_any a W
  have cb := fun W => l1List_any b W
  have st := less_step a b
  have he := less_here a b
  have en := less_end a b
  have h0 : orL ((sgs a b).drop 0) = cmpE a b := rfl
  have la : a.l.length = 6 := rfl
  have lb : b.l.length = 6 := rfl
  generalize ltE a b = r at he en ⊢
  generalize sgs a b = zs at st he en h0
  generalize cmpE a b = c at st he en h0
  generalize hxa : a.l = xa at ca st he la
  generalize hxb : b.l = xb at cb st he lb
  clear hxa hxb
  obtain ⟨at_, ato, afr, asq, akd, adt⟩ := a
  obtain ⟨bt, bto, bfr, bsq, bkd, bdt⟩ := b
  unfold Evt.v at ca cb ⊢
  dsimp only at ca cb ⊢
  have CA := Lib.hid ca
  have CB := Lib.hid cb
  have ST := Lib.hid st
  have HE := Lib.hid he
  have EN := Lib.hid en
  have H0 := Lib.hid h0
  have LA := Lib.hid la
  have LB := Lib.hid lb
  clear ca cb st he en h0 la lb
  go_enter Try.func86, Try.ntmps86
  go_wp2_with fail
  refine (CA.out _).mono ?_
  rintro x w1 ⟨ga, rfl, ga1, ga2, hca, u1⟩
  rw [LA.out] at hca ⊢
  have HCA := Lib.hid hca
  clear hca
  obtain ⟨hc, hf, hz⟩ := u1.facts
  simp at hz ga1
  go_wp2_with fail
  refine (CB.out _).mono ?_
  rintro x w2 ⟨gb, rfl, gb1, gb2, hcb, u2⟩
  rw [LB.out] at hcb ⊢
  have HCB := Lib.hid hcb
  clear hcb
  clear hc hf
  have u := ((((Up.refl _).alloc _).alloc _).trans u1).trans u2
  have hcA : ∀ j, j < 6 → w2.cell? ⟨ga, j, none⟩ = some (.int .i64 (xa.getD j 0)) := fun j hj => (u2.cells ga j ga2).trans (HCA.out j hj)
  have HCA2 := Lib.hid hcA
  clear hcA
  have ga3 : ga < w2.heap.size := by have := u2.size; omega
  go_wp2
  go_loopw [7] (fun i wr => (∃ k : Nat, k ≤ 6 ∧ i = .int .i64 k ∧ orL (zs.drop k) = c) ∧ Up w2 wr) (fun i _ => 6 - (intOf i).toNat)
  case atStart => exact ⟨⟨0, by omega, rfl, H0.out⟩, Up.refl _⟩
  case round =>
    obtain ⟨⟨k, hk, rfl, hr⟩, ur⟩ := hrel
    have HR := Lib.hid hr
    clear hr
    by_cases hlt : k < 6
    · have hk1 := (ur.cells ga k ga3).trans (HCA2.out k hlt)
      have hk2 := (ur.cells gb k gb2).trans (HCB.out k hlt)
      have S := ST.out k hlt HR.out
      have E := HE.out k hlt HR.out
      generalize xa.getD k 0 = p at hk1 S E
      generalize xb.getD k 0 = q at hk2 S E
      have S' := Lib.hid S
      have E' := Lib.hid E
      clear S E
      by_cases hpq : p = q
      · have hne : (p != q) = false := by simp [hpq]
        have HP := Lib.hid hpq
        clear hpq
        go_wp2
        go_quiet (fail)
        go_wp2
        go_roundw
        case rel => exact ⟨⟨k + 1, by omega, by go_num, S'.out HP.out⟩, ur.drewN _⟩
        case measure => simp [intOf]; omega
      · have hne : (p != q) = true := by simp [hpq]
        have HP := Lib.hid hpq
        clear hpq
        go_wp2
        go_quiet (fail)
        go_wp2
        go_quiet (fail)
        go_wp2
        go_ret
        exact ⟨ret_bool (E'.out HP.out), ((u.trans ur).drewN _).drewN _⟩
    · go_wp2
      go_ret
      exact ⟨ret_bool (EN.out k (by omega) HR.out), u.trans ur⟩

end Go.Proofs.Ytojnphchkdjafaa

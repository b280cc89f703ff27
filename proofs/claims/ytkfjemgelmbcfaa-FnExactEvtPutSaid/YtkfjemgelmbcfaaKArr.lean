/-
  Rows of events as functions, in one sentence: changed within a stretch, none lost; sorted stretches; a swap; no condition is made.
-/
import Derived.Test.YtkfjemgelmbcfaaKC
namespace Go.Proofs.Ytkfjemgelmbcfaa
set_option maxRecDepth 100000
open Go.RowKit

/-- b is not less than a. -/
def leE (a b : Evt) : Prop := ltE b a = false
theorem leE_refl (a : Evt) : leE a a := ltE_irr a
theorem ltE_le {a b : Evt} (h : ltE a b = true) : leE a b := ltE_asym a b h
theorem eqB_eq {a b : Evt} (h : eqB a b = true) : a = b := by
  obtain ⟨a0, a1, a2, a3, a4, a5⟩ := a
  obtain ⟨b0, b1, b2, b3, b4, b5⟩ := b
  rw [eqB_iff] at h
  simp only at h
  obtain ⟨rfl, rfl, rfl, rfl, rfl, rfl⟩ := h
  rfl
theorem leE_trans {a b c : Evt} (h1 : leE a b) (h2 : leE b c) : leE a c := by
  unfold leE at *
  cases h : ltE c a with
  | false => rfl
  | true =>
    cases hab : ltE a b with
    | true =>
      have := ltE_trans c a b h hab
      rw [this] at h2
      cases h2
    | false =>
      have e := eqB_eq (ltE_total a b hab h1)
      subst e
      rw [h] at h2
      cases h2
theorem leE_total (a b : Evt) : leE a b ∨ leE b a := by
  unfold leE
  cases h : ltE b a with
  | false => exact .inl rfl
  | true => exact .inr (ltE_asym b a h)
theorem leE_antisymm {a b : Evt} (h1 : leE a b) (h2 : leE b a) : a = b := (eqB_eq (ltE_total b a h1 h2)).symm

/-- The stretch from a up to b rises, or stays. -/
def SortF (f : Nat → Evt) (a b : Nat) : Prop := ∀ k, a ≤ k → k + 1 < b → leE (f k) (f (k + 1))
theorem SortF.le {f : Nat → Evt} {a b : Nat} (h : SortF f a b) : ∀ d i, a ≤ i → i + d < b → leE (f i) (f (i + d))
  | 0, i, _, _ => leE_refl _
  | d + 1, i, h1, h2 => leE_trans (SortF.le h d i h1 (by omega)) (h (i + d) (by omega) (by omega))
theorem SortF.le' {f : Nat → Evt} {a b i j : Nat} (h : SortF f a b) (h1 : a ≤ i) (h2 : i ≤ j) (h3 : j < b) : leE (f i) (f j) := by
  have := h.le (j - i) i h1 (by omega)
  rwa [show i + (j - i) = j by omega] at this
theorem SortF.join {f : Nat → Evt} {a m b : Nat} (h1 : SortF f a m) (h2 : SortF f m b) (hx : ∀ i j, a ≤ i → i < m → m ≤ j → j < b → leE (f i) (f j)) : SortF f a b := fun k hk hb => by
  by_cases hm : k + 1 < m
  · exact h1 k hk hm
  · by_cases hm2 : m ≤ k
    · exact h2 k hm2 hb
    · exact hx k (k + 1) hk (by omega) (by omega) hb

/-- Changed in the stretch from a up to b alone, none lost. -/
structure Arr (f f' : Nat → Evt) (a b N : Nat) : Prop where
  perm : ((List.range N).map f).Perm ((List.range N).map f')
  out : ∀ i, i < a ∨ b ≤ i → f' i = f i
  mem : ∀ i, a ≤ i → i < b → ∃ j, a ≤ j ∧ j < b ∧ f' i = f j
theorem Arr.refl (f : Nat → Evt) (a b N : Nat) : Arr f f a b N := ⟨List.Perm.refl _, fun _ _ => rfl, fun i h1 h2 => ⟨i, h1, h2, rfl⟩⟩
theorem Arr.trans {f f' f'' : Nat → Evt} {a b N : Nat} (h : Arr f f' a b N) (k : Arr f' f'' a b N) : Arr f f'' a b N :=
  ⟨h.perm.trans k.perm, fun i hi => (k.out i hi).trans (h.out i hi), fun i h1 h2 => by
    obtain ⟨j, j1, j2, e⟩ := k.mem i h1 h2
    obtain ⟨l, l1, l2, e'⟩ := h.mem j j1 j2
    exact ⟨l, l1, l2, e.trans e'⟩⟩
theorem Arr.widen {f f' : Nat → Evt} {a b a' b' N : Nat} (h : Arr f f' a b N) (ha : a' ≤ a) (hb : b ≤ b') : Arr f f' a' b' N :=
  ⟨h.perm, fun i hi => h.out i (by omega), fun i h1 h2 => by
    by_cases hi : a ≤ i ∧ i < b
    · obtain ⟨j, j1, j2, e⟩ := h.mem i hi.1 hi.2
      exact ⟨j, by omega, by omega, e⟩
    · exact ⟨i, h1, h2, h.out i (by omega)⟩⟩

/-- Two change places. -/
def swp (f : Nat → Evt) (i j : Nat) : Nat → Evt := fun k => if k = i then f j else if k = j then f i else f k
theorem swp_perm (f : Nat → Evt) {i j : Nat} (hij : i < j) : ∀ N, j < N → ((List.range N).map f).Perm ((List.range N).map (swp f i j)) := by
  intro N hj
  have cong : ∀ (f' : Nat → Evt) (l : List Nat), (∀ x ∈ l, f x = f' x) → l.map f = l.map f' := fun f' l h => List.map_congr_left h
  have split : List.range N = List.range i ++ ([i] ++ (List.range' (i + 1) (j - (i + 1)) ++ ([j] ++ List.range' (j + 1) (N - (j + 1))))) := by
    rw [List.range_eq_range', List.range_eq_range']
    rw [show [i] = List.range' i 1 from rfl, show [j] = List.range' j 1 from rfl]
    have e1 := @List.range'_append_1 j 1 (N - (j + 1))
    have e2 := @List.range'_append_1 (i + 1) (j - (i + 1)) (1 + (N - (j + 1)))
    have e3 := @List.range'_append_1 i 1 ((j - (i + 1)) + (1 + (N - (j + 1))))
    have e4 := @List.range'_append_1 0 i (1 + ((j - (i + 1)) + (1 + (N - (j + 1)))))
    rw [show i + 1 + (j - (i + 1)) = j by omega] at e2
    rw [Nat.zero_add] at e4
    rw [e1, e2, e3, e4]
    congr 1
    omega
  rw [split]
  simp only [List.map_append, List.map_cons, List.map_nil]
  rw [← cong (swp f i j) (List.range i) (fun x hx => by have := List.mem_range.1 hx; unfold swp; rw [if_neg (by omega), if_neg (by omega)]),
    ← cong (swp f i j) (List.range' (i + 1) (j - (i + 1))) (fun x hx => by have := List.mem_range'_1.1 hx; unfold swp; rw [if_neg (by omega), if_neg (by omega)]),
    ← cong (swp f i j) (List.range' (j + 1) (N - (j + 1))) (fun x hx => by have := List.mem_range'_1.1 hx; unfold swp; rw [if_neg (by omega), if_neg (by omega)])]
  rw [show swp f i j i = f j by simp [swp], show swp f i j j = f i by unfold swp; rw [if_neg (by omega), if_pos rfl]]
  refine List.Perm.append_left _ ?_
  generalize (List.range' (i + 1) (j - (i + 1))).map f = l
  generalize (List.range' (j + 1) (N - (j + 1))).map f = r
  generalize f i = x
  generalize f j = y
  show (x :: (l ++ y :: r)).Perm (y :: (l ++ x :: r))
  refine ((List.perm_middle (a := y) (l₁ := l) (l₂ := r)).cons x).trans ?_
  refine (List.Perm.swap y x _).trans ?_
  exact ((List.perm_middle (a := x) (l₁ := l) (l₂ := r)).symm).cons y
theorem swp_arr (f : Nat → Evt) {i j a b N : Nat} (hij : i < j) (ha : a ≤ i) (hb : j < b) (hN : j < N) : Arr f (swp f i j) a b N :=
  ⟨swp_perm f hij N hN, fun k hk => by unfold swp; rw [if_neg (by omega), if_neg (by omega)], fun k h1 h2 => by
    unfold swp
    by_cases e : k = i
    · exact ⟨j, by omega, by omega, by rw [if_pos e]⟩
    · rw [if_neg e]
      by_cases e2 : k = j
      · exact ⟨i, by omega, by omega, by rw [if_pos e2]⟩
      · exact ⟨k, h1, h2, by rw [if_neg e2]⟩⟩

/-- Sorted but for the pair at j, on the way down. -/
structure NearF (f : Nat → Evt) (a j i : Nat) : Prop where
  pairs : ∀ k, a ≤ k → k + 1 ≤ i → k + 1 ≠ j → leE (f k) (f (k + 1))
  over : a < j → j < i → leE (f (j - 1)) (f (j + 1))
theorem NearF.start {f : Nat → Evt} {a i : Nat} (h : SortF f a i) : NearF f a i i := ⟨fun k h1 h2 h3 => h k h1 (by omega), fun _ h => absurd h (by omega)⟩
theorem NearF.stop {f : Nat → Evt} {a j i : Nat} (h : NearF f a j i) (hs : a < j → leE (f (j - 1)) (f j)) : SortF f a (i + 1) := fun k h1 h2 => by
  by_cases e : k + 1 = j
  · have := hs (by omega)
    rw [show j - 1 = k by omega, ← e] at this
    exact this
  · exact h.pairs k h1 (by omega) e
theorem NearF.step {f : Nat → Evt} {a k i : Nat} (h : NearF f a (k + 1) i) (ha : a ≤ k) (hk : k + 1 ≤ i) (hl : ltE (f (k + 1)) (f k) = true) : NearF (swp f k (k + 1)) a k i := by
  have s0 : swp f k (k + 1) k = f (k + 1) := by simp [swp]
  have s1 : swp f k (k + 1) (k + 1) = f k := by simp [swp]
  have s2 : ∀ l, l ≠ k → l ≠ k + 1 → swp f k (k + 1) l = f l := fun l h1 h2 => by unfold swp; rw [if_neg h1, if_neg h2]
  refine ⟨fun l h1 h2 h3 => ?_, fun h1 _ => ?_⟩
  · by_cases e : l = k
    · subst e
      rw [s0, s1]
      exact ltE_le hl
    · by_cases e2 : l = k + 1
      · subst e2
        rw [s1, s2 (k + 1 + 1) (by omega) (by omega)]
        exact h.over (by omega) (by omega)
      · rw [s2 l e e2, s2 (l + 1) (by omega) (by omega)]
        exact h.pairs l h1 h2 (by omega)
  · rw [s1, s2 (k - 1) (by omega) (by omega)]
    have := h.pairs (k - 1) (by omega) (by omega) (by omega)
    rwa [show k - 1 + 1 = k by omega] at this

end Go.Proofs.Ytkfjemgelmbcfaa

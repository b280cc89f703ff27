/-
  Why merging by halves sorts, in one sentence: behind the rotation each half is two rising stretches, and none of the left half is greater than one of the right; no condition is made.
-/
import Derived.Test.YtkfjemgelmbcfaaKRotate2
namespace Go.Proofs.Ytkfjemgelmbcfaa
set_option maxRecDepth 100000
open Go.RowKit

/-- What the search finds. -/
structure SymI (f : Nat → Evt) (a m b mid s e : Nat) : Prop where
  aS : a ≤ s
  sm : s ≤ m
  me : m ≤ e
  eb : e ≤ b
  sum : s + e = mid + m
  lo : s = a ∨ e = b ∨ leE (f (s - 1)) (f e)
  hi : s = m ∨ e = m ∨ ltE (f (e - 1)) (f s) = true
theorem SymI.mid {f : Nat → Evt} {a m b mid s e : Nat} (h : SymI f a m b mid s e) : s ≤ mid ∧ mid ≤ e ∧ mid = s + (e - m) := by
  have := h.sum; have := h.sm; have := h.me
  omega
theorem rot_pre (f : Nat → Evt) {s m e k : Nat} (h : k < s) : rotF f s m e k = f k := by
  unfold rotF
  rw [if_neg (by omega), if_neg (by omega)]
theorem rot_one (f : Nat → Evt) {s m e k : Nat} (h : s ≤ k) (hk : k < s + (e - m)) : rotF f s m e k = f (k + (m - s)) := by
  unfold rotF
  rw [if_pos ⟨h, hk⟩]
theorem rot_two (f : Nat → Evt) {s m e k : Nat} (h : s + (e - m) ≤ k) (hk : k < e) : rotF f s m e k = f (k - (e - m)) := by
  unfold rotF
  rw [if_neg (by omega), if_pos ⟨h, hk⟩]
theorem rot_post (f : Nat → Evt) {s m e k : Nat} (h : e ≤ k) (hm : s ≤ m) (he : m ≤ e) : rotF f s m e k = f k := by
  unfold rotF
  rw [if_neg (by omega), if_neg (by omega)]
theorem rot_none (f : Nat → Evt) {s m e : Nat} (h : s = m ∨ e = m) (hm : s ≤ m) (he : m ≤ e) (k : Nat) : f k = rotF f s m e k := by
  unfold rotF
  (repeat' split) <;> first | (exfalso; omega) | (congr 1; omega) | rfl
section
variable {f : Nat → Evt} {a m b mid s e : Nat}
theorem SymI.s1 (h : SymI f a m b mid s e) (hl : SortF f a m) : SortF (rotF f s m e) a s := fun k h1 h2 => by
  rw [rot_pre f (by omega), rot_pre f (by omega)]
  exact hl k h1 (by have := h.sm; omega)
theorem SymI.s2 (h : SymI f a m b mid s e) (hr : SortF f m b) : SortF (rotF f s m e) s mid := fun k h1 h2 => by
  have hm := h.mid
  have := h.sm; have := h.me; have := h.eb
  rw [rot_one f h1 (by omega), rot_one f (by omega) (by omega), show k + 1 + (m - s) = k + (m - s) + 1 by omega]
  exact hr _ (by omega) (by omega)
theorem SymI.s3 (h : SymI f a m b mid s e) (hl : SortF f a m) : SortF (rotF f s m e) mid e := fun k h1 h2 => by
  have hm := h.mid
  have := h.sm; have := h.me; have := h.aS
  rw [rot_two f (by omega) (by omega), rot_two f (by omega) (by omega), show k + 1 - (e - m) = k - (e - m) + 1 by omega]
  exact hl _ (by omega) (by omega)
theorem SymI.s4 (h : SymI f a m b mid s e) (hr : SortF f m b) : SortF (rotF f s m e) e b := fun k h1 h2 => by
  have := h.me
  rw [rot_post f h1 h.sm h.me, rot_post f (by omega) h.sm h.me]
  exact hr k (by omega) h2
theorem SymI.cross (h : SymI f a m b mid s e) (hl : SortF f a m) (hr : SortF f m b) (i j : Nat) (i1 : a ≤ i) (i2 : i < mid) (j1 : mid ≤ j) (j2 : j < b) : leE (rotF f s m e i) (rotF f s m e j) := by
  have hm := h.mid
  have h1 := h.sm; have h2 := h.me; have h3 := h.aS; have h4 := h.eb
  by_cases ci : i < s
  · rw [rot_pre f ci]
    by_cases cj : j < e
    · rw [rot_two f (by omega) cj]
      exact hl.le' i1 (by omega) (by omega)
    · rw [rot_post f (by omega) h.sm h.me]
      have hlo : leE (f (s - 1)) (f e) := by
        rcases h.lo with h | h | h
        · omega
        · omega
        · exact h
      exact leE_trans (hl.le' i1 (by omega) (by omega)) (leE_trans hlo (hr.le' (by omega) (by omega) j2))
  · rw [rot_one f (by omega) (by omega)]
    by_cases cj : j < e
    · rw [rot_two f (by omega) cj]
      have hhi : leE (f (e - 1)) (f s) := by
        rcases h.hi with h | h | h
        · omega
        · omega
        · exact ltE_le h
      exact leE_trans (hr.le' (by omega) (by omega) (by omega)) (leE_trans hhi (hl.le' (by omega) (by omega) (by omega)))
    · rw [rot_post f (by omega) h.sm h.me]
      exact hr.le' (by omega) (by omega) j2
end
/-- The two halves sorted, each within itself. -/
theorem sort_halves {F1 F2 F3 : Nat → Evt} {a mid b N : Nat} (h1 : Arr F1 F2 a mid N) (s1 : SortF F2 a mid) (h2 : Arr F2 F3 mid b N) (s2 : SortF F3 mid b)
    (hx : ∀ i j, a ≤ i → i < mid → mid ≤ j → j < b → leE (F1 i) (F1 j)) : SortF F3 a b := by
  refine SortF.join (m := mid) (fun k k1 k2 => ?_) s2 (fun i j i1 i2 j1 j2 => ?_)
  · rw [h2.out k (.inl (by omega)), h2.out (k + 1) (.inl (by omega))]
    exact s1 k k1 k2
  · rw [h2.out i (.inl i2)]
    obtain ⟨i', i3, i4, ei⟩ := h1.mem i i1 i2
    obtain ⟨j', j3, j4, ej⟩ := h2.mem j j1 j2
    rw [ei, ej, h1.out j' (.inr j3)]
    exact hx i' j' i3 i4 j3 j4

/-- One event ahead of a rising stretch goes to its place. -/
theorem sort_first {f : Nat → Evt} {a b i : Nat} (hr : SortF f (a + 1) b) (h1 : a + 1 ≤ i) (h2 : i ≤ b) (hlo : i = a + 1 ∨ ltE (f (i - 1)) (f a) = true) (hhi : i = b ∨ leE (f a) (f i)) : SortF (rotF f a (a + 1) i) a b := fun k k1 k2 => by
  by_cases c1 : k + 1 < i - 1
  · rw [rot_one f k1 (by omega), rot_one f (by omega) (by omega), show k + 1 + (a + 1 - a) = k + (a + 1 - a) + 1 by omega]
    exact hr _ (by omega) (by omega)
  · by_cases c2 : k + 1 = i - 1
    · rw [rot_one f k1 (by omega), rot_two f (by omega) (by omega), show k + (a + 1 - a) = i - 1 by omega, show k + 1 - (i - (a + 1)) = a by omega]
      rcases hlo with h | h
      · omega
      · exact ltE_le h
    · by_cases c3 : k + 1 = i
      · rw [rot_two f (by omega) (by omega), rot_post f (by omega) (by omega) (by omega), show k - (i - (a + 1)) = a by omega, c3]
        rcases hhi with h | h
        · omega
        · exact h
      · rw [rot_post f (by omega) (by omega) (by omega), rot_post f (by omega) (by omega) (by omega)]
        exact hr k (by omega) k2
/-- One event behind a rising stretch goes to its place. -/
theorem sort_last {f : Nat → Evt} {a m i : Nat} (hl : SortF f a m) (h1 : a ≤ i) (h2 : i ≤ m) (hlo : i = a ∨ leE (f (i - 1)) (f m)) (hhi : i = m ∨ ltE (f m) (f i) = true) : SortF (rotF f i m (m + 1)) a (m + 1) := fun k k1 k2 => by
  by_cases c1 : k + 1 < i
  · rw [rot_pre f (by omega), rot_pre f (by omega)]
    exact hl k k1 (by omega)
  · by_cases c2 : k + 1 = i
    · rw [rot_pre f (by omega), rot_one f (by omega) (by omega), show k + 1 + (m - i) = m by omega, show k = i - 1 by omega]
      rcases hlo with h | h
      · omega
      · exact h
    · by_cases c3 : k = i
      · rw [rot_one f (by omega) (by omega), rot_two f (by omega) (by omega), show k + (m - i) = m by omega, show k + 1 - (m + 1 - m) = i by omega]
        rcases hhi with h | h
        · omega
        · exact ltE_le h
      · rw [rot_two f (by omega) (by omega), rot_two f (by omega) (by omega), show k + 1 - (m + 1 - m) = k - (m + 1 - m) + 1 by omega]
        exact hl _ (by omega) (by omega)
theorem rot_grow (f : Nat → Evt) (a k : Nat) (h : a ≤ k) (l : Nat) : swp (rotF f a (a + 1) (k + 1)) k (k + 1) l = rotF f a (a + 1) (k + 1 + 1) l := by
  unfold swp rotF
  (repeat' split) <;> first | (exfalso; omega) | (congr 1; omega) | rfl
theorem rot_down (f : Nat → Evt) (m k : Nat) (h : k + 1 ≤ m) (l : Nat) : swp (rotF f (k + 1) m (m + 1)) k (k + 1) l = rotF f k m (m + 1) l := by
  unfold swp rotF
  (repeat' split) <;> first | (exfalso; omega) | (congr 1; omega) | rfl

end Go.Proofs.Ytkfjemgelmbcfaa

/-
  What l20Cmp gives, in one sentence: a component state of three small numbers, and the reader some steps further; for every reader.
-/
import Derived.Test.YtojnphchkdjafaaKP
import Derived.Test.YtojnphchkdjafaaKE
import Derived.Test.YtojnphchkdjafaaKA
import Derived.Test.YtojnphchkdjafaaKCell3
import Derived.Test.YtojnphchkdjafaaKJ
namespace Go.Proofs.Ytojnphchkdjafaa
set_option maxRecDepth 100000
open Go.RowKit

def IsPtr (g : Nat) (v : Value) (_ : World) : Prop := v = .pointer (some ⟨g, 0, none⟩)
def IsN (lo hi : Int) (v : Value) (_ : World) : Prop := ∃ z : Int, v = .int .i64 z ∧ lo ≤ z ∧ z ≤ hi
/-- A new slice of two small numbers. -/
def IsTwo (g B : Nat) (v : Value) (w : World) : Prop :=
  ∃ (b : Nat) (x y : Int), v = .slice (some ⟨b, 0, none⟩) 2 2 ∧ b ≠ g ∧ B ≤ b ∧ b < w.heap.size ∧ w.cell? ⟨b, 0, none⟩ = some (.int .i64 x) ∧ w.cell? ⟨b, 1, none⟩ = some (.int .i64 y) ∧ (-1000000 ≤ x ∧ x ≤ 1000000) ∧ (-1000000 ≤ y ∧ y ≤ 1000000)
/-- The place of one. -/
def IsCell (g : Nat) (v : Value) (w : World) : Prop :=
  ∃ (b j : Nat) (x : Int), v = .pointer (some ⟨b, j, none⟩) ∧ b ≠ g ∧ b < w.heap.size ∧ w.cell? ⟨b, j, none⟩ = some (.int .i64 x) ∧ -1000000 ≤ x ∧ x ≤ 1000000
def IsCst (v : Value) (_ : World) : Prop := ∃ x y z : Int, v = .agg #[.int .i64 x, .int .i64 y, .int .i64 z] ∧ (-1000000 ≤ x ∧ x ≤ 1000000) ∧ (-1000000 ≤ y ∧ y ≤ 1000000) ∧ (-1000000 ≤ z ∧ z ≤ 1000000)
/-- A new block of three numbers. -/
def IsNew3 (g B : Nat) (v : Value) (w : World) : Prop :=
  ∃ b : Nat, v = .pointer (some ⟨b, 0, none⟩) ∧ b ≠ g ∧ B ≤ b ∧ b < w.heap.size ∧ (∀ j, j < 3 → ∃ u, w.cell? ⟨b, j, none⟩ = some u) ∧ ∀ j, w.frozen? ⟨b, j, none⟩ = false

theorem IsTwo.mv {g B : Nat} {v : Value} {w w' : World} (h : IsTwo g B v w) (m : Mv g w w') : IsTwo g B v w' := by
  obtain ⟨b, x, y, hv, h1, h2, h3, h4, h5, h6, h7⟩ := h
  exact ⟨b, x, y, hv, h1, h2, Nat.lt_of_lt_of_le h3 m.size, (m.cells _ _ h3 h1).trans h4, (m.cells _ _ h3 h1).trans h5, h6, h7⟩
theorem IsCell.mv {g : Nat} {v : Value} {w w' : World} (h : IsCell g v w) (m : Mv g w w') : IsCell g v w' := by
  obtain ⟨b, j, x, hv, h1, h2, h3, h4⟩ := h
  exact ⟨b, j, x, hv, h1, Nat.lt_of_lt_of_le h2 m.size, (m.cells _ _ h2 h1).trans h3, h4⟩
theorem IsNew3.mv {g B : Nat} {v : Value} {w w' : World} (h : IsNew3 g B v w) (m : Mv g w w') : IsNew3 g B v w' := by
  obtain ⟨b, hv, h1, h2, h3, h4, h5⟩ := h
  exact ⟨b, hv, h1, h2, Nat.lt_of_lt_of_le h3 m.size, fun j hj => by obtain ⟨u, hu⟩ := h4 j hj; exact ⟨u, (m.cells _ _ h3 h1).trans hu⟩, fun j => (m.frozens _ _ h3 h1).trans (h5 j)⟩

/-- The reader within its bound, with so many operations to go. -/
def Left (g B : Nat) (w0 : World) (k : Nat) (w : World) : Prop := (∃ N, N + k ≤ B ∧ Rd w g N) ∧ Mv g w0 w
theorem Left.less {g B k : Nat} {w0 w : World} (h : Left g B w0 (k + 1) w) : Left g B w0 k w := by
  obtain ⟨⟨N, hN, hR⟩, m⟩ := h
  exact ⟨⟨N, by omega, hR⟩, m⟩
theorem Left.mv {g B k : Nat} {w0 w w' : World} (h : Left g B w0 (k + 1) w) (u : Up w w') : Left g B w0 k w' := by
  obtain ⟨⟨N, hN, hR⟩, m⟩ := h
  exact ⟨⟨N, by omega, hR.up u⟩, m.trans (u.mv g)⟩
/-- A pick in such a world. -/
theorem Left.pick {g B k : Nat} {w0 w : World} (h : Left g B w0 (k + 1) w) (hB : B ≤ 1000000) (m : Int) (hm : 0 < m) (hm2 : m ≤ 1000000) :
    Calls Try.prog 42 #[.pointer (some ⟨g, 0, none⟩), .int .i64 m] w fun x w' => ∃ z : Int, x = .returned (.int .i64 z) ∧ (0 ≤ z ∧ z < m) ∧ Mv g w w' ∧ Left g B w0 k w' := by
  obtain ⟨⟨N, hN, hR⟩, mv⟩ := h
  refine (pick_any g N m w ⟨by omega, by omega⟩ (by omega) hR).mono ?_
  rintro x w' ⟨z, rfl, h0, h1, r, m'⟩
  exact ⟨z, rfl, ⟨h0, by omega⟩, m', ⟨⟨N + 1, by omega, r⟩, mv.trans m'⟩⟩

theorem Rd.lt' {w : World} {g N : Nat} (h : Rd w g N) : g < w.heap.size := by
  obtain ⟨_, _, _, _, _, _, _, _, hg, _⟩ := h
  exact hg
theorem Left.lt {g B k : Nat} {w0 w : World} (h : Left g B w0 k w) : g < w.heap.size := by
  obtain ⟨⟨N, _, hR⟩, _⟩ := h
  exact hR.lt'
theorem IsTwo.new {g B : Nat} (w : World) (x y : Int) (t : TypeId) (hg : g < w.heap.size) (hB : B ≤ w.heap.size) (hx : -1000000 ≤ x ∧ x ≤ 1000000) (hy : -1000000 ≤ y ∧ y ≤ 1000000) :
    IsTwo g B (.slice (some ⟨w.heap.size, 0, none⟩) 2 2) (w.alloc (.cells #[.int .i64 x, .int .i64 y] t)) := by
  have hh := heap_alloc_new w (.cells #[.int .i64 x, .int .i64 y] t)
  exact ⟨w.heap.size, x, y, rfl, by omega, hB, by simp, by rw [cell_of_row _ _ 0 _ _ _ hh]; rfl, by rw [cell_of_row _ _ 1 _ _ _ hh]; rfl, hx, hy⟩
theorem IsNew3.new {g B : Nat} (w : World) (x y z : Value) (t : TypeId) (hg : g < w.heap.size) (hB : B ≤ w.heap.size) :
    IsNew3 g B (.pointer (some ⟨w.heap.size, 0, none⟩)) (w.alloc (.cells #[x, y, z] t)) := by
  have hh := heap_alloc_new w (.cells #[x, y, z] t)
  refine ⟨w.heap.size, rfl, by omega, hB, by simp, fun j hj => ⟨_, by rw [cell_of_row _ _ j _ _ _ hh]; exact Array.getElem?_eq_getElem (by simpa using hj)⟩, fun j => ?_⟩
  unfold World.frozen?
  rw [hh]
  simp

/-- Two numbers in a new block, behind a pick. -/
theorem two_num {w w' : World} {g : Nat} {x y : Int} {t : TypeId} (m : Mv g (w.alloc (.cells #[.int .i64 x, .int .i64 y] t)) w') (hg : g < w.heap.size) {v : Int} (h0 : 0 ≤ v) (h1 : v < 2) :
    ∃ u : Int, (u = x ∨ u = y) ∧ w'.cell? ⟨w.heap.size, v.toNat, none⟩ = some (.int .i64 u) := by
  obtain ⟨t0, t1⟩ := two_at m hg
  have d : v = 0 ∨ v = 1 := by omega
  rcases d with rfl | rfl
  · exact ⟨x, .inl rfl, t0⟩
  · exact ⟨y, .inr rfl, t1⟩

def cmpR (g B : Nat) (d : Nat) : Value → World → Prop :=
  if d = 10 then IsTwo g B else if d = 17 then IsCell g else if d = 21 then IsCst else if d = 5 then IsNew3 g B
  else if d = 12 ∨ d = 14 ∨ d = 16 then IsN 0 1 else if d = 15 then IsN 1 2
  else if d = 6 ∨ d = 8 ∨ d = 11 ∨ d = 13 ∨ d = 19 then IsPtr g else IsN (-1000000) 1000000
theorem cmpR_5 (g B : Nat) : cmpR g B 5 = IsNew3 g B := by simp [cmpR]
theorem cmpR_6 (g B : Nat) : cmpR g B 6 = IsPtr g := by simp [cmpR]
theorem cmpR_7 (g B : Nat) : cmpR g B 7 = IsN (-1000000) 1000000 := by simp [cmpR]
theorem cmpR_8 (g B : Nat) : cmpR g B 8 = IsPtr g := by simp [cmpR]
theorem cmpR_9 (g B : Nat) : cmpR g B 9 = IsN (-1000000) 1000000 := by simp [cmpR]
theorem cmpR_10 (g B : Nat) : cmpR g B 10 = IsTwo g B := by simp [cmpR]
theorem cmpR_11 (g B : Nat) : cmpR g B 11 = IsPtr g := by simp [cmpR]
theorem cmpR_12 (g B : Nat) : cmpR g B 12 = IsN 0 1 := by simp [cmpR]
theorem cmpR_13 (g B : Nat) : cmpR g B 13 = IsPtr g := by simp [cmpR]
theorem cmpR_14 (g B : Nat) : cmpR g B 14 = IsN 0 1 := by simp [cmpR]
theorem cmpR_15 (g B : Nat) : cmpR g B 15 = IsN 1 2 := by simp [cmpR]
theorem cmpR_16 (g B : Nat) : cmpR g B 16 = IsN 0 1 := by simp [cmpR]
theorem cmpR_17 (g B : Nat) : cmpR g B 17 = IsCell g := by simp [cmpR]
theorem cmpR_18 (g B : Nat) : cmpR g B 18 = IsN (-1000000) 1000000 := by simp [cmpR]
theorem cmpR_19 (g B : Nat) : cmpR g B 19 = IsPtr g := by simp [cmpR]
theorem cmpR_20 (g B : Nat) : cmpR g B 20 = IsN (-1000000) 1000000 := by simp [cmpR]
theorem cmpR_21 (g B : Nat) : cmpR g B 21 = IsCst := by simp [cmpR]
theorem cmpR_mv {g B : Nat} (d : Nat) (v : Value) (w w' : World) (h : cmpR g B d v w) (m : Mv g w w') : cmpR g B d v w' := by
  unfold cmpR at h ⊢
  repeat' split
  all_goals simp_all only [if_true, if_false]
  · exact h.mv m
  · exact h.mv m
  · exact h
  · exact h.mv m
  · exact h
  · exact h
  · exact h
  · exact h

end Go.Proofs.Ytojnphchkdjafaa

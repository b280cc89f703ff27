/-
  Component states as values, in one sentence: three numbers, and the bounds that make one valid; no condition is made.
  Blocks of three numbers of the call's own, in one sentence: kept, laid and written; no condition is made.
  What l20Cmp gives, in one sentence: a component state of three small numbers, and the reader some steps further; for every reader.
  What l20Cmp gives, in one sentence: a component state of three small numbers, and the reader some steps further; for every reader.
-/
import Derived.Test.YtakmlfgkppekoaaDLCud01
import Derived.Test.YtakmlfgkppekoaaDLCud03
import Derived.Test.YtakmlfgkppekoaaDLCud08
import Derived.Test.YtakmlfgkppekoaaDLCud09
namespace Go.Proofs.Ytakmlfgkppekoaa
set_option maxRecDepth 100000
open Go.RowKit
/-- A component's state: its three numbers. -/
structure Cst where
  s : Int
  sq : Int
  ct : Int
deriving DecidableEq
instance : Inhabited Cst := ⟨⟨0, 0, 0⟩⟩
def Cst.v (c : Cst) : Value := .agg #[.int .i64 c.s, .int .i64 c.sq, .int .i64 c.ct]
/-- What both CmpOk compute. -/
def cstB (c : Cst) : Bool := inB c.s 0 96 && inB c.sq 0 12 && decide (0 ≤ c.ct)
end Go.Proofs.Ytakmlfgkppekoaa

namespace Go.Proofs.Ytakmlfgkppekoaa
set_option maxRecDepth 100000
open Go.RowKit
/-- A block of three numbers of the call's own. -/
structure Cell3 (w : World) (b : Nat) (x y z : Int) : Prop where
  lt : b < w.heap.size
  c0 : w.cell? ⟨b, 0, none⟩ = some (.int .i64 x)
  c1 : w.cell? ⟨b, 1, none⟩ = some (.int .i64 y)
  c2 : w.cell? ⟨b, 2, none⟩ = some (.int .i64 z)
  f : ∀ j, w.frozen? ⟨b, j, none⟩ = false
theorem Cell3.mv {w w' : World} {b g : Nat} {x y z : Int} (h : Cell3 w b x y z) (m : Mv g w w') (hb : b ≠ g) : Cell3 w' b x y z :=
  ⟨Nat.lt_of_lt_of_le h.lt m.size, (m.cells _ _ h.lt hb).trans h.c0, (m.cells _ _ h.lt hb).trans h.c1, (m.cells _ _ h.lt hb).trans h.c2, fun j => (m.frozens _ _ h.lt hb).trans (h.f j)⟩
theorem Cell3.new (w : World) (x y z : Int) (t : TypeId) : Cell3 (w.alloc (.cells #[.int .i64 x, .int .i64 y, .int .i64 z] t)) w.heap.size x y z := by
  have hh := heap_alloc_new w (.cells #[.int .i64 x, .int .i64 y, .int .i64 z] t)
  refine ⟨by simp, by rw [cell_of_row _ _ 0 _ _ _ hh]; rfl, by rw [cell_of_row _ _ 1 _ _ _ hh]; rfl, by rw [cell_of_row _ _ 2 _ _ _ hh]; rfl, fun j => ?_⟩; unfold World.frozen?; rw [hh]; simp
theorem Cell3.far {w : World} {b : Nat} {x y z : Int} (h : Cell3 w b x y z) {p : Addr} (hp : p.block ≠ b) (u : Value) : Cell3 (w.setCell p u) b x y z := by
  have k : ∀ j, (w.setCell p u).cell? ⟨b, j, none⟩ = w.cell? ⟨b, j, none⟩ := fun j => World.cell?_setCell_other _ _ _ _ (fun e => hp (by rw [e]))
  exact ⟨by simpa using h.lt, (k 0).trans h.c0, (k 1).trans h.c1, (k 2).trans h.c2, fun j => by have := h.f j; simpa [go_sem] using this⟩
theorem Cell3.set0 {w : World} {b : Nat} {x y z : Int} (h : Cell3 w b x y z) (u : Int) : Cell3 (w.setCell ⟨b, 0, none⟩ (.int .i64 u)) b u y z :=
  ⟨by simpa using h.lt, World.cell?_setCell_same _ _ _ h.c0, (World.cell?_setCell_other _ _ _ _ (addr_ne (by omega))).trans h.c1, (World.cell?_setCell_other _ _ _ _ (addr_ne (by omega))).trans h.c2, fun j => by have := h.f j; simpa [go_sem] using this⟩
theorem Cell3.set1 {w : World} {b : Nat} {x y z : Int} (h : Cell3 w b x y z) (u : Int) : Cell3 (w.setCell ⟨b, 1, none⟩ (.int .i64 u)) b x u z :=
  ⟨by simpa using h.lt, (World.cell?_setCell_other _ _ _ _ (addr_ne (by omega))).trans h.c0, World.cell?_setCell_same _ _ _ h.c1, (World.cell?_setCell_other _ _ _ _ (addr_ne (by omega))).trans h.c2, fun j => by have := h.f j; simpa [go_sem] using this⟩
theorem Cell3.set2 {w : World} {b : Nat} {x y z : Int} (h : Cell3 w b x y z) (u : Int) : Cell3 (w.setCell ⟨b, 2, none⟩ (.int .i64 u)) b x y u :=
  ⟨by simpa using h.lt, (World.cell?_setCell_other _ _ _ _ (addr_ne (by omega))).trans h.c0, (World.cell?_setCell_other _ _ _ _ (addr_ne (by omega))).trans h.c1, World.cell?_setCell_same _ _ _ h.c2, fun j => by have := h.f j; simpa [go_sem] using this⟩
/-- A new block of three, laid. -/
theorem Cell3.laid {w : World} {b : Nat} (hl : b < w.heap.size) (hs : ∀ j, j < 3 → ∃ u, w.cell? ⟨b, j, none⟩ = some u) (hf : ∀ j, w.frozen? ⟨b, j, none⟩ = false) (x y z : Int) :
    Cell3 (((w.setCell ⟨b, 0, none⟩ (.int .i64 x)).setCell ⟨b, 1, none⟩ (.int .i64 y)).setCell ⟨b, 2, none⟩ (.int .i64 z)) b x y z := by
  have ne : ∀ k j, k ≠ j → (⟨b, k, none⟩ : Addr) ≠ ⟨b, j, none⟩ := fun k j hk => addr_ne (by omega)
  obtain ⟨v0, h0⟩ := hs 0 (by omega); obtain ⟨v1, h1⟩ := hs 1 (by omega); obtain ⟨v2, h2⟩ := hs 2 (by omega); refine ⟨by simpa using hl, ?_, ?_, ?_, fun j => by have := hf j; simpa [go_sem] using this⟩
  · rw [World.cell?_setCell_other _ _ _ _ (ne 2 0 (by omega)), World.cell?_setCell_other _ _ _ _ (ne 1 0 (by omega))]
    exact World.cell?_setCell_same _ _ _ h0
  · rw [World.cell?_setCell_other _ _ _ _ (ne 2 1 (by omega))]
    exact World.cell?_setCell_same _ _ _ ((World.cell?_setCell_other _ _ _ _ (ne 0 1 (by omega))).trans h1)
  · exact World.cell?_setCell_same _ _ _ ((World.cell?_setCell_other _ _ _ _ (ne 1 2 (by omega))).trans ((World.cell?_setCell_other _ _ _ _ (ne 0 2 (by omega))).trans h2))
theorem Cell3.laid' {w : World} {b : Nat} {x0 y0 z0 : Int} (h : Cell3 w b x0 y0 z0) (x y z : Int) :
    Cell3 (((w.setCell ⟨b, 0, none⟩ (.int .i64 x)).setCell ⟨b, 1, none⟩ (.int .i64 y)).setCell ⟨b, 2, none⟩ (.int .i64 z)) b x y z :=
  ((h.set0 x).set1 y).set2 z
end Go.Proofs.Ytakmlfgkppekoaa

namespace Go.Proofs.Ytakmlfgkppekoaa
set_option maxRecDepth 100000
open Go.RowKit
def IsPtr (g : Nat) (v : Value) (_ : World) : Prop := v = .pointer (some ⟨g, 0, none⟩)
def IsN (lo hi : Int) (v : Value) (_ : World) : Prop := ∃ z : Int, v = .int .i64 z ∧ lo ≤ z ∧ z ≤ hi
/-- A new slice of two small numbers. -/
def IsTwo (g B : Nat) (v : Value) (w : World) : Prop :=
  ∃ (b : Nat) (x y : Int), v = .slice (some ⟨b, 0, none⟩) 2 2 ∧ b ≠ g ∧ B ≤ b ∧ b < w.heap.size ∧ w.cell? ⟨b, 0, none⟩ = some (.int .i64 x) ∧ w.cell? ⟨b, 1, none⟩ = some (.int .i64 y) ∧ (-1000000 ≤ x ∧ x ≤ 1000000) ∧ (-1000000 ≤ y ∧ y ≤ 1000000)
/-- The place of one. -/
def IsCell (g : Nat) (v : Value) (w : World) : Prop :=
  ∃ (b j : Nat) (x : Int), v = .pointer (some ⟨b, j, none⟩) ∧ b ≠ g ∧ b < w.heap.size ∧ w.cell? ⟨b, j, none⟩ = some (.int .i64 x) ∧ -1000000 ≤ x ∧ x ≤ 1000000
def IsCst (v : Value) (_ : World) : Prop := ∃ x y z : Int, v = .agg #[.int .i64 x, .int .i64 y, .int .i64 z] ∧ (-1000000 ≤ x ∧ x ≤ 1000000) ∧ (-1000000 ≤ y ∧ y ≤ 1000000) ∧ (-1000000 ≤ z ∧ z ≤ 1000000)
/-- A new block of three numbers. -/
def IsNew3 (g B : Nat) (v : Value) (w : World) : Prop :=
  ∃ b : Nat, v = .pointer (some ⟨b, 0, none⟩) ∧ b ≠ g ∧ B ≤ b ∧ b < w.heap.size ∧ (∀ j, j < 3 → ∃ u, w.cell? ⟨b, j, none⟩ = some u) ∧ ∀ j, w.frozen? ⟨b, j, none⟩ = false
theorem IsTwo.mv {g B : Nat} {v : Value} {w w' : World} (h : IsTwo g B v w) (m : Mv g w w') : IsTwo g B v w' := by
  obtain ⟨b, x, y, hv, h1, h2, h3, h4, h5, h6, h7⟩ := h
  exact ⟨b, x, y, hv, h1, h2, Nat.lt_of_lt_of_le h3 m.size, (m.cells _ _ h3 h1).trans h4, (m.cells _ _ h3 h1).trans h5, h6, h7⟩
theorem IsCell.mv {g : Nat} {v : Value} {w w' : World} (h : IsCell g v w) (m : Mv g w w') : IsCell g v w' := by
  obtain ⟨b, j, x, hv, h1, h2, h3, h4⟩ := h
  exact ⟨b, j, x, hv, h1, Nat.lt_of_lt_of_le h2 m.size, (m.cells _ _ h2 h1).trans h3, h4⟩
theorem IsNew3.mv {g B : Nat} {v : Value} {w w' : World} (h : IsNew3 g B v w) (m : Mv g w w') : IsNew3 g B v w' := by
  obtain ⟨b, hv, h1, h2, h3, h4, h5⟩ := h
  exact ⟨b, hv, h1, h2, Nat.lt_of_lt_of_le h3 m.size, fun j hj => by obtain ⟨u, hu⟩ := h4 j hj; exact ⟨u, (m.cells _ _ h3 h1).trans hu⟩, fun j => (m.frozens _ _ h3 h1).trans (h5 j)⟩
/-- The reader within its bound, with so many operations to go. -/
def Left (g B : Nat) (w0 : World) (k : Nat) (w : World) : Prop := (∃ N, N + k ≤ B ∧ Rd w g N) ∧ Mv g w0 w
theorem Left.less {g B k : Nat} {w0 w : World} (h : Left g B w0 (k + 1) w) : Left g B w0 k w := by
  obtain ⟨⟨N, hN, hR⟩, m⟩ := h
  exact ⟨⟨N, by omega, hR⟩, m⟩
theorem Left.mv {g B k : Nat} {w0 w w' : World} (h : Left g B w0 (k + 1) w) (u : Up w w') : Left g B w0 k w' := by
  obtain ⟨⟨N, hN, hR⟩, m⟩ := h
  exact ⟨⟨N, by omega, hR.up u⟩, m.trans (u.mv g)⟩
/-- A pick in such a world. -/
theorem Left.pick {g B k : Nat} {w0 w : World} (h : Left g B w0 (k + 1) w) (hB : B ≤ 1000000) (m : Int) (hm : 0 < m) (hm2 : m ≤ 1000000) :
    Calls Try.prog 80 #[.pointer (some ⟨g, 0, none⟩), .int .i64 m] w fun x w' => ∃ z : Int, x = .returned (.int .i64 z) ∧ (0 ≤ z ∧ z < m) ∧ Mv g w w' ∧ Left g B w0 k w' := by
  obtain ⟨⟨N, hN, hR⟩, mv⟩ := h; refine (pick_any g N m w ⟨by omega, by omega⟩ (by omega) hR).mono ?_; rintro x w' ⟨z, rfl, h0, h1, r, m'⟩
  exact ⟨z, rfl, ⟨h0, by omega⟩, m', ⟨⟨N + 1, by omega, r⟩, mv.trans m'⟩⟩
theorem Rd.lt' {w : World} {g N : Nat} (h : Rd w g N) : g < w.heap.size := by
  obtain ⟨_, _, _, _, _, _, _, _, hg, _⟩ := h
  exact hg
theorem Left.lt {g B k : Nat} {w0 w : World} (h : Left g B w0 k w) : g < w.heap.size := by
  obtain ⟨⟨N, _, hR⟩, _⟩ := h
  exact hR.lt'
theorem IsTwo.new {g B : Nat} (w : World) (x y : Int) (t : TypeId) (hg : g < w.heap.size) (hB : B ≤ w.heap.size) (hx : -1000000 ≤ x ∧ x ≤ 1000000) (hy : -1000000 ≤ y ∧ y ≤ 1000000) :
    IsTwo g B (.slice (some ⟨w.heap.size, 0, none⟩) 2 2) (w.alloc (.cells #[.int .i64 x, .int .i64 y] t)) := by
  have hh := heap_alloc_new w (.cells #[.int .i64 x, .int .i64 y] t)
  exact ⟨w.heap.size, x, y, rfl, by omega, hB, by simp, by rw [cell_of_row _ _ 0 _ _ _ hh]; rfl, by rw [cell_of_row _ _ 1 _ _ _ hh]; rfl, hx, hy⟩
theorem IsNew3.new {g B : Nat} (w : World) (x y z : Value) (t : TypeId) (hg : g < w.heap.size) (hB : B ≤ w.heap.size) :
    IsNew3 g B (.pointer (some ⟨w.heap.size, 0, none⟩)) (w.alloc (.cells #[x, y, z] t)) := by
  have hh := heap_alloc_new w (.cells #[x, y, z] t)
  refine ⟨w.heap.size, rfl, by omega, hB, by simp, fun j hj => ⟨_, by rw [cell_of_row _ _ j _ _ _ hh]; exact Array.getElem?_eq_getElem (by simpa using hj)⟩, fun j => ?_⟩; unfold World.frozen?; rw [hh]; simp
/-- Two numbers in a new block, behind a pick. -/
theorem two_num {w w' : World} {g : Nat} {x y : Int} {t : TypeId} (m : Mv g (w.alloc (.cells #[.int .i64 x, .int .i64 y] t)) w') (hg : g < w.heap.size) {v : Int} (h0 : 0 ≤ v) (h1 : v < 2) :
    ∃ u : Int, (u = x ∨ u = y) ∧ w'.cell? ⟨w.heap.size, v.toNat, none⟩ = some (.int .i64 u) := by
  obtain ⟨t0, t1⟩ := two_at m hg
  have d : v = 0 ∨ v = 1 := by omega
  rcases d with rfl | rfl
  · exact ⟨x, .inl rfl, t0⟩
  · exact ⟨y, .inr rfl, t1⟩
def cmpR (g B : Nat) (d : Nat) : Value → World → Prop :=
  if d = 10 then IsTwo g B else if d = 17 then IsCell g else if d = 21 then IsCst else if d = 5 then IsNew3 g B
  else if d = 12 ∨ d = 14 ∨ d = 16 then IsN 0 1 else if d = 15 then IsN 1 2
  else if d = 6 ∨ d = 8 ∨ d = 11 ∨ d = 13 ∨ d = 19 then IsPtr g else IsN (-1000000) 1000000
theorem cmpR_5 (g B : Nat) : cmpR g B 5 = IsNew3 g B := by simp [cmpR]
theorem cmpR_6 (g B : Nat) : cmpR g B 6 = IsPtr g := by simp [cmpR]
theorem cmpR_7 (g B : Nat) : cmpR g B 7 = IsN (-1000000) 1000000 := by simp [cmpR]
theorem cmpR_8 (g B : Nat) : cmpR g B 8 = IsPtr g := by simp [cmpR]
theorem cmpR_9 (g B : Nat) : cmpR g B 9 = IsN (-1000000) 1000000 := by simp [cmpR]
theorem cmpR_10 (g B : Nat) : cmpR g B 10 = IsTwo g B := by simp [cmpR]
theorem cmpR_11 (g B : Nat) : cmpR g B 11 = IsPtr g := by simp [cmpR]
theorem cmpR_12 (g B : Nat) : cmpR g B 12 = IsN 0 1 := by simp [cmpR]
theorem cmpR_13 (g B : Nat) : cmpR g B 13 = IsPtr g := by simp [cmpR]
theorem cmpR_14 (g B : Nat) : cmpR g B 14 = IsN 0 1 := by simp [cmpR]
theorem cmpR_15 (g B : Nat) : cmpR g B 15 = IsN 1 2 := by simp [cmpR]
theorem cmpR_16 (g B : Nat) : cmpR g B 16 = IsN 0 1 := by simp [cmpR]
theorem cmpR_17 (g B : Nat) : cmpR g B 17 = IsCell g := by simp [cmpR]
theorem cmpR_18 (g B : Nat) : cmpR g B 18 = IsN (-1000000) 1000000 := by simp [cmpR]
theorem cmpR_19 (g B : Nat) : cmpR g B 19 = IsPtr g := by simp [cmpR]
theorem cmpR_20 (g B : Nat) : cmpR g B 20 = IsN (-1000000) 1000000 := by simp [cmpR]
theorem cmpR_21 (g B : Nat) : cmpR g B 21 = IsCst := by simp [cmpR]
theorem cmpR_mv {g B : Nat} (d : Nat) (v : Value) (w w' : World) (h : cmpR g B d v w) (m : Mv g w w') : cmpR g B d v w' := by
  unfold cmpR at h ⊢
  repeat' split
  all_goals simp_all only [if_true, if_false]
  · exact h.mv m
  · exact h.mv m
  · exact h
  · exact h.mv m
  · exact h
  · exact h
  · exact h
  · exact h
end Go.Proofs.Ytakmlfgkppekoaa

namespace Go.Proofs.Ytakmlfgkppekoaa
set_option maxRecDepth 100000
open Go.RowKit
/-- What the drawing of a component gives. -/
def CmpDrawn (g N : Nat) (w : World) (x : Ending) (w' : World) : Prop :=
  ∃ c : Cst, x = .returned c.v ∧ ((-1000000 ≤ c.s ∧ c.s ≤ 1000000) ∧ (-1000000 ≤ c.sq ∧ c.sq ≤ 1000000) ∧ (-1000000 ≤ c.ct ∧ c.ct ≤ 1000000)) ∧ Rd w' g N ∧ Mv g w w'
set_option maxHeartbeats 4000000 in
theorem l20Cmp_any (g N : Nat) (n : Int) (w : World) (hn : I64 n) (hN : N ≤ 900000) (hR : Rd w g N) :
    Calls Try.prog 86 #[.pointer (some ⟨g, 0, none⟩), .int .i64 n] w (CmpDrawn g (N + 30) w) := by
  have hgw : g < w.heap.size := hR.lt'
  have R0 := Lib.hid (hR.alloc (.cells #[.int .i64 0, .int .i64 0, .int .i64 0] 41))
  have HN := Lib.hid hn
  clear hR hn
  go_enter Try.func86, Try.ntmps86
  go_wp2_with fail
  refine region_rely 17 [(17, false)] [6, 7, 8, 9, 10, 11, 12, 13, 14, 15, 16, 17, 18, 19, 20, 21, 5] (Left g (N + 17) (w.alloc (.cells #[.int .i64 0, .int .i64 0, .int .i64 0] 41))) (Mv g) (cmpR g (w.heap.size + 1)) (by kernel_rfl) (by kernel_rfl) (by kernel_rfl) ⟨⟨N, by omega, R0.out⟩, (Mv.refl _ _).drew⟩ (fun d v w w' => cmpR_mv d v w w') ?_ ?_
  · simp only [List.take_succ_cons, List.take_zero, StepsR]
    refine ⟨?_, ?_, ?_, ?_, ?_, ?_, ?_, ?_, ?_, ?_, ?_, ?_, ?_, ?_, ?_, ?_, ?_, trivial⟩
    · intro X w1 k hG hdep
      simp only [opW_def, mixT]; go_simp
      exact ⟨⟨.pointer (some ⟨g, 0, none⟩), by first | rfl | simp [Act.put], Mv.refl _ _, hG.less, (by first | (rw [cmpR_6]; exact rfl) | exact (show IsPtr g _ _ from rfl))⟩⟩
    · intro X w1 k hG hdep
      have e : IsPtr g (X 6) w1 := (by rw [← cmpR_6 g (w.heap.size + 1)]; exact hdep 6 (by decide +kernel) : IsPtr g (X 6) w1)
      unfold IsPtr at e; simp only [opW_def, mixT, e]; go_simp; refine (Left.pick hG (by omega) 97 (by omega) (by omega)).mono ?_; rintro x w2 ⟨z, rfl, hz, m, hl⟩
      exact ⟨⟨.int .i64 z, by first | rfl | simp [Act.put], m, hl, (by first | (rw [cmpR_7]; exact ⟨z, rfl, by omega, by omega⟩) | exact (show IsN (-1000000) 1000000 _ _ from ⟨z, rfl, by omega, by omega⟩))⟩⟩
    · intro X w1 k hG hdep
      simp only [opW_def, mixT]; go_simp
      exact ⟨⟨.pointer (some ⟨g, 0, none⟩), by first | rfl | simp [Act.put], Mv.refl _ _, hG.less, (by first | (rw [cmpR_8]; exact rfl) | exact (show IsPtr g _ _ from rfl))⟩⟩
    · intro X w1 k hG hdep
      have e : IsPtr g (X 8) w1 := (by rw [← cmpR_8 g (w.heap.size + 1)]; exact hdep 8 (by decide +kernel) : IsPtr g (X 8) w1)
      unfold IsPtr at e; simp only [opW_def, mixT, e]; go_simp; refine (Left.pick hG (by omega) 13 (by omega) (by omega)).mono ?_; rintro x w2 ⟨z, rfl, hz, m, hl⟩
      exact ⟨⟨.int .i64 z, by first | rfl | simp [Act.put], m, hl, (by first | (rw [cmpR_9]; exact ⟨z, rfl, by omega, by omega⟩) | exact (show IsN (-1000000) 1000000 _ _ from ⟨z, rfl, by omega, by omega⟩))⟩⟩
    · intro X w1 k hG hdep
      obtain ⟨z9, e9, lo9, hi9⟩ := (by rw [← cmpR_9 g (w.heap.size + 1)]; exact hdep 9 (by decide +kernel) : IsN (-1000000) 1000000 (X 9) w1)
      have hB : w.heap.size + 1 ≤ w1.heap.size := by have := hG.2.size; simpa using this
      have hg := hG.lt
      simp only [opW_def, mixT, e9]; go_simp
      exact ⟨⟨.slice (some ⟨w1.heap.size, 0, none⟩) 2 2, by first | rfl | simp [Act.put], (Mv.refl _ _).alloc _, hG.mv ((Up.refl _).alloc _), (by first | (rw [cmpR_10]; exact IsTwo.new w1 z9 12 _ hg hB (by omega) (by omega)) | exact (show IsTwo g _ _ _ from IsTwo.new w1 z9 12 _ hg hB (by omega) (by omega)))⟩⟩
    · intro X w1 k hG hdep
      simp only [opW_def, mixT]; go_simp
      exact ⟨⟨.pointer (some ⟨g, 0, none⟩), by first | rfl | simp [Act.put], Mv.refl _ _, hG.less, (by first | (rw [cmpR_11]; exact rfl) | exact (show IsPtr g _ _ from rfl))⟩⟩
    · intro X w1 k hG hdep
      have e : IsPtr g (X 11) w1 := (by rw [← cmpR_11 g (w.heap.size + 1)]; exact hdep 11 (by decide +kernel) : IsPtr g (X 11) w1)
      unfold IsPtr at e; simp only [opW_def, mixT, e]; go_simp; refine (Left.pick hG (by omega) 2 (by omega) (by omega)).mono ?_; rintro x w2 ⟨z, rfl, hz, m, hl⟩
      exact ⟨⟨.int .i64 z, by first | rfl | simp [Act.put], m, hl, (by first | (rw [cmpR_12]; exact ⟨z, rfl, by omega, by omega⟩) | exact (show IsN 0 1 _ _ from ⟨z, rfl, by omega, by omega⟩))⟩⟩
    · intro X w1 k hG hdep
      simp only [opW_def, mixT]; go_simp
      exact ⟨⟨.pointer (some ⟨g, 0, none⟩), by first | rfl | simp [Act.put], Mv.refl _ _, hG.less, (by first | (rw [cmpR_13]; exact rfl) | exact (show IsPtr g _ _ from rfl))⟩⟩
    · intro X w1 k hG hdep
      have e : IsPtr g (X 13) w1 := (by rw [← cmpR_13 g (w.heap.size + 1)]; exact hdep 13 (by decide +kernel) : IsPtr g (X 13) w1)
      unfold IsPtr at e; simp only [opW_def, mixT, e]; go_simp; refine (Left.pick hG (by omega) 2 (by omega) (by omega)).mono ?_; rintro x w2 ⟨z, rfl, hz, m, hl⟩
      exact ⟨⟨.int .i64 z, by first | rfl | simp [Act.put], m, hl, (by first | (rw [cmpR_14]; exact ⟨z, rfl, by omega, by omega⟩) | exact (show IsN 0 1 _ _ from ⟨z, rfl, by omega, by omega⟩))⟩⟩
    · intro X w1 k hG hdep
      obtain ⟨z14, e14, lo14, hi14⟩ := (by rw [← cmpR_14 g (w.heap.size + 1)]; exact hdep 14 (by decide +kernel) : IsN 0 1 (X 14) w1)
      have i1 : IntKind.i64.wrap (1 + z14) = 1 + z14 := IntWalk.i64_in _ (by omega)
      simp only [opW_def, mixT, e14]; go_simp
      exact ⟨⟨.int .i64 (1 + z14), by first | rfl | simp [Act.put], Mv.refl _ _, hG.less, (by first | (rw [cmpR_15]; exact ⟨1 + z14, rfl, by omega, by omega⟩) | exact (show IsN 1 2 _ _ from ⟨1 + z14, rfl, by omega, by omega⟩))⟩⟩
    · intro X w1 k hG hdep
      obtain ⟨z12, e12, lo12, hi12⟩ := (by rw [← cmpR_12 g (w.heap.size + 1)]; exact hdep 12 (by decide +kernel) : IsN 0 1 (X 12) w1); obtain ⟨z15, e15, lo15, hi15⟩ := (by rw [← cmpR_15 g (w.heap.size + 1)]; exact hdep 15 (by decide +kernel) : IsN 1 2 (X 15) w1)
      have h12 : z12 = 0 ∨ z12 = 1 := by omega
      have h15 : z15 = 1 ∨ z15 = 2 := by omega
      rcases h12 with rfl | rfl <;> rcases h15 with rfl | rfl
      · simp only [opW_def, mixT, e12, e15]
        go_simp
        exact ⟨⟨.int .i64 0, by first | rfl | simp [Act.put], Mv.refl _ _, hG.less, (by first | (rw [cmpR_16]; exact ⟨0, rfl, by omega, by omega⟩) | exact (show IsN 0 1 _ _ from ⟨0, rfl, by omega, by omega⟩))⟩⟩
      · simp only [opW_def, mixT, e12, e15]
        go_simp
        exact ⟨⟨.int .i64 0, by first | rfl | simp [Act.put], Mv.refl _ _, hG.less, (by first | (rw [cmpR_16]; exact ⟨0, rfl, by omega, by omega⟩) | exact (show IsN 0 1 _ _ from ⟨0, rfl, by omega, by omega⟩))⟩⟩
      · simp only [opW_def, mixT, e12, e15]
        go_simp
        exact ⟨⟨.int .i64 0, by first | rfl | simp [Act.put], Mv.refl _ _, hG.less, (by first | (rw [cmpR_16]; exact ⟨0, rfl, by omega, by omega⟩) | exact (show IsN 0 1 _ _ from ⟨0, rfl, by omega, by omega⟩))⟩⟩
      · simp only [opW_def, mixT, e12, e15]
        go_simp
        exact ⟨⟨.int .i64 1, by first | rfl | simp [Act.put], Mv.refl _ _, hG.less, (by first | (rw [cmpR_16]; exact ⟨1, rfl, by omega, by omega⟩) | exact (show IsN 0 1 _ _ from ⟨1, rfl, by omega, by omega⟩))⟩⟩
    · intro X w1 k hG hdep
      obtain ⟨b, x, y, e10, h1, h2, h3, h4, h5, h6, h7⟩ := (by rw [← cmpR_10 g (w.heap.size + 1)]; exact hdep 10 (by decide +kernel) : IsTwo g (w.heap.size + 1) (X 10) w1); obtain ⟨z16, e16, lo16, hi16⟩ := (by rw [← cmpR_16 g (w.heap.size + 1)]; exact hdep 16 (by decide +kernel) : IsN 0 1 (X 16) w1)
      have h16 : z16 = 0 ∨ z16 = 1 := by omega
      rcases h16 with rfl | rfl
      · simp only [opW_def, mixT, e10, e16]
        go_simp
        exact ⟨⟨.pointer (some ⟨b, 0, none⟩), by first | rfl | simp [Act.put], Mv.refl _ _, hG.less, (by first | (rw [cmpR_17]; exact ⟨b, 0, x, rfl, h1, h3, h4, h6.1, h6.2⟩) | exact (show IsCell g _ _ from ⟨b, 0, x, rfl, h1, h3, h4, h6.1, h6.2⟩))⟩⟩
      · simp only [opW_def, mixT, e10, e16]
        go_simp
        exact ⟨⟨.pointer (some ⟨b, 1, none⟩), by first | rfl | simp [Act.put], Mv.refl _ _, hG.less, (by first | (rw [cmpR_17]; exact ⟨b, 1, y, rfl, h1, h3, h5, h7.1, h7.2⟩) | exact (show IsCell g _ _ from ⟨b, 1, y, rfl, h1, h3, h5, h7.1, h7.2⟩))⟩⟩
    · intro X w1 k hG hdep
      obtain ⟨b, j, x, e17, h1, h2, h3, h4, h5⟩ := (by rw [← cmpR_17 g (w.heap.size + 1)]; exact hdep 17 (by decide +kernel) : IsCell g (X 17) w1); simp only [opW_def, mixT, e17]; go_simp
      exact ⟨⟨.int .i64 x, by first | rfl | simp [Act.put], Mv.refl _ _, hG.less, (by first | (rw [cmpR_18]; exact ⟨x, rfl, h4, h5⟩) | exact (show IsN (-1000000) 1000000 _ _ from ⟨x, rfl, h4, h5⟩))⟩⟩
    · intro X w1 k hG hdep
      simp only [opW_def, mixT]; go_simp
      exact ⟨⟨.pointer (some ⟨g, 0, none⟩), by first | rfl | simp [Act.put], Mv.refl _ _, hG.less, (by first | (rw [cmpR_19]; exact rfl) | exact (show IsPtr g _ _ from rfl))⟩⟩
    · intro X w1 k hG hdep
      have e : IsPtr g (X 19) w1 := (by rw [← cmpR_19 g (w.heap.size + 1)]; exact hdep 19 (by decide +kernel) : IsPtr g (X 19) w1)
      unfold IsPtr at e; simp only [opW_def, mixT, e]; go_simp; refine (Left.pick hG (by omega) 9 (by omega) (by omega)).mono ?_; rintro x w2 ⟨z, rfl, hz, m, hl⟩
      exact ⟨⟨.int .i64 z, by first | rfl | simp [Act.put], m, hl, (by first | (rw [cmpR_20]; exact ⟨z, rfl, by omega, by omega⟩) | exact (show IsN (-1000000) 1000000 _ _ from ⟨z, rfl, by omega, by omega⟩))⟩⟩
    · intro X w1 k hG hdep
      obtain ⟨z7, e7, lo7, hi7⟩ := (by rw [← cmpR_7 g (w.heap.size + 1)]; exact hdep 7 (by decide +kernel) : IsN (-1000000) 1000000 (X 7) w1); obtain ⟨z18, e18, lo18, hi18⟩ := (by rw [← cmpR_18 g (w.heap.size + 1)]; exact hdep 18 (by decide +kernel) : IsN (-1000000) 1000000 (X 18) w1); obtain ⟨z20, e20, lo20, hi20⟩ := (by rw [← cmpR_20 g (w.heap.size + 1)]; exact hdep 20 (by decide +kernel) : IsN (-1000000) 1000000 (X 20) w1); simp only [opW_def, mixT, e7, e18, e20]; go_simp
      exact ⟨⟨.agg #[.int .i64 z7, .int .i64 z18, .int .i64 z20], by first | rfl | simp [Act.put], Mv.refl _ _, hG.less, (by first | (rw [cmpR_21]; exact ⟨z7, z18, z20, rfl, by omega, by omega, by omega⟩) | exact (show IsCst _ _ from ⟨z7, z18, z20, rfl, by omega, by omega, by omega⟩))⟩⟩
    · intro X w1 k hG hdep
      have hB : w.heap.size + 1 ≤ w1.heap.size := by have := hG.2.size; simpa using this
      have hg := hG.lt
      simp only [opW_def, mixT]; go_simp
      exact ⟨⟨.pointer (some ⟨w1.heap.size, 0, none⟩), by first | rfl | simp [Act.put], (Mv.refl _ _).alloc _, hG.mv ((Up.refl _).alloc _), (by first | (rw [cmpR_5]; exact IsNew3.new w1 _ _ _ _ hg hB) | exact (show IsNew3 g _ _ _ from IsNew3.new w1 _ _ _ _ hg hB))⟩⟩
  · intro X w1 hG hR
    obtain ⟨s, q, t, e21, hs, hq, ht⟩ := (by rw [← cmpR_21 g (w.heap.size + 1)]; exact hR 15 (by omega) : IsCst (X 21) w1); obtain ⟨b5, e5, b5g, b5w, b5l, b5s, b5f⟩ := (by rw [← cmpR_5 g (w.heap.size + 1)]; exact hR 16 (by omega) : IsNew3 g (w.heap.size + 1) (X 5) w1)
    have HG := Lib.hid hG
    obtain ⟨v0, c0⟩ := b5s 0 (by omega); obtain ⟨v1, c1⟩ := b5s 1 (by omega); obtain ⟨v2, c2⟩ := b5s 2 (by omega)
    have B5S := Lib.hid b5s
    have B5F := Lib.hid b5f
    clear hG hR b5s; simp only [mixT, e21, e5]; refine mix_go rfl (by rfl) (fun K hK => ?_); go_simp; refine hK _ _ ?_; clear hK K; refine mix_nil ?_; obtain ⟨⟨N1, hN1, rd1⟩, mv1⟩ := HG.out
    have D5 := Lib.hid (Cell3.laid b5l B5S.out B5F.out s q t)
    have D4 := Lib.hid (((((Cell3.new w 0 0 0 41).mv mv1 (by omega)).far (p := ⟨b5, 0, none⟩) (by dsimp only; omega) (.int .i64 s)).far (p := ⟨b5, 1, none⟩) (by dsimp only; omega) (.int .i64 q)).far (p := ⟨b5, 2, none⟩) (by dsimp only; omega) (.int .i64 t))
    have hb5 : g < b5 := by omega
    have RR := Lib.hid (((rd1.setCell (p := ⟨b5, 0, none⟩) hb5 (.int .i64 s)).setCell (p := ⟨b5, 1, none⟩) hb5 (.int .i64 q)).setCell (p := ⟨b5, 2, none⟩) hb5 (.int .i64 t))
    have m0 : Mv g w w1 := ((Mv.refl g w).alloc _).trans mv1
    have hb5w : w.heap.size ≤ b5 := by omega
    have MM := Lib.hid (((m0.setNew (p := ⟨b5, 0, none⟩) hb5w (.int .i64 s)).setNew (p := ⟨b5, 1, none⟩) hb5w (.int .i64 q)).setNew (p := ⟨b5, 2, none⟩) hb5w (.int .i64 t))
    have hnb : w.heap.size ≠ b5 := by omega
    clear HG B5S B5F c0 c1 c2 b5f rd1 mv1 m0 R0
    go_wp2_with fail
    refine (odd_any g N1 n _ HN.out (by omega) RR.out).mono ?_; rintro x w5 ⟨bb, rfl, r5, m5⟩
    have D5 := Lib.hid (D5.out.mv m5 b5g)
    have D4 := Lib.hid (D4.out.mv m5 (by omega))
    have RR := Lib.hid r5
    have MM := Lib.hid (MM.out.trans m5)
    clear r5 m5
    cases bb
    · obtain ⟨e0, e1, e2⟩ := And.intro D5.out.c0 (And.intro D5.out.c1 D5.out.c2)
      obtain ⟨p0, p1, p2⟩ := And.intro D4.out.c0 (And.intro D4.out.c1 D4.out.c2)
      have pf := D4.out.f
      have E := D4.out.laid' s q t
      obtain ⟨k0, k1, k2⟩ := And.intro E.c0 (And.intro E.c1 E.c2)
      have UE := Lib.hid (((MM.out.setNew (p := ⟨w.heap.size, 0, none⟩) (Nat.le_refl _) (.int .i64 s)).setNew (p := ⟨w.heap.size, 1, none⟩) (Nat.le_refl _) (.int .i64 q)).setNew (p := ⟨w.heap.size, 2, none⟩) (Nat.le_refl _) (.int .i64 t))
      have RE := Lib.hid (((RR.out.setCell (p := ⟨w.heap.size, 0, none⟩) hgw (.int .i64 s)).setCell (p := ⟨w.heap.size, 1, none⟩) hgw (.int .i64 q)).setCell (p := ⟨w.heap.size, 2, none⟩) hgw (.int .i64 t))
      clear E; go_wp2
      exact bodyPost_ret (v := .agg #[.int .i64 s, .int .i64 q, .int .i64 t]) (by simp [results, Try.results86, go_sem, k0, k1, k2]) rfl ⟨⟨s, q, t⟩, rfl, ⟨by dsimp only; omega, by dsimp only; omega, by dsimp only; omega⟩, RE.out.mono (by omega), UE.out⟩
    · go_wp2_with fail
      refine (pick_any g (N1 + 1) 3 _ ⟨by omega, by omega⟩ (by omega) RR.out).mono ?_; intro x w6 pk; obtain ⟨v6, rfl, a6, b6, c6, r6, m6⟩ := pk.cases (by omega)
      have D5 := Lib.hid (D5.out.mv m6 b5g)
      have D4 := Lib.hid (D4.out.mv m6 (by omega))
      have RR := Lib.hid r6
      have MM := Lib.hid (MM.out.trans m6)
      have hg6 : g < w6.heap.size := r6.lt'
      obtain ⟨N2, hN2⟩ : ∃ N2, N2 = N1 + 1 + 1 := ⟨_, rfl⟩; rw [← hN2] at RR
      have l4 : w.heap.size < w6.heap.size := D4.out.lt
      have l5 : b5 < w6.heap.size := D5.out.lt
      clear pk r6 m6 b6
      have d6 : v6 = 0 ∨ v6 = 1 ∨ v6 = 2 := by omega
      clear c6 a6
      rcases d6 with rfl | rfl | rfl
      · go_wp2_with fail
        refine (pick_any g N2 2 _ ⟨by omega, by omega⟩ (by omega) (RR.out.alloc _)).mono ?_; intro x w8 pk; obtain ⟨v7, rfl, a7, b7, c7, r7, m7⟩ := pk.cases (by omega); obtain ⟨v8, hv8, hl8⟩ := two_num m7 hg6 a7 (by omega)
        have l7 : v7 < 2 := by omega
        have D4 := Lib.hid (((D4.out.mv ((Up.refl _).alloc _ |>.mv g) (by omega)).mv m7 (by omega)).far (p := ⟨b5, 0, none⟩) (by dsimp only; omega) (.int .i64 v8))
        have d5 := (D5.out.mv ((Up.refl _).alloc _ |>.mv g) b5g).mv m7 b5g
        have D5 := Lib.hid (d5.set0 v8)
        have RR := Lib.hid (r7.setCell (p := ⟨b5, 0, none⟩) (by dsimp only; omega) (.int .i64 v8))
        have MM := Lib.hid (((MM.out.alloc _).trans m7).setNew (p := ⟨b5, 0, none⟩) (by dsimp only; omega) (.int .i64 v8))
        have hw8 : w6.heap.size < w8.heap.size := by have := m7.size; simp at this; omega
        obtain ⟨o0, o1, o2⟩ := And.intro d5.c0 (And.intro d5.c1 d5.c2)
        have of := d5.f
        clear pk r7 m7 c7 d5
        have hv8' : -1000000 ≤ v8 ∧ v8 ≤ 1000000 := by rcases hv8 with h | h <;> omega
        obtain ⟨e0, e1, e2⟩ := And.intro D5.out.c0 (And.intro D5.out.c1 D5.out.c2); obtain ⟨p0, p1, p2⟩ := And.intro D4.out.c0 (And.intro D4.out.c1 D4.out.c2)
        have pf := D4.out.f
        have E := D4.out.laid' v8 q t
        obtain ⟨k0, k1, k2⟩ := And.intro E.c0 (And.intro E.c1 E.c2)
        have UE := Lib.hid (((MM.out.setNew (p := ⟨w.heap.size, 0, none⟩) (Nat.le_refl _) (.int .i64 v8)).setNew (p := ⟨w.heap.size, 1, none⟩) (Nat.le_refl _) (.int .i64 q)).setNew (p := ⟨w.heap.size, 2, none⟩) (Nat.le_refl _) (.int .i64 t))
        have RE := Lib.hid (((RR.out.setCell (p := ⟨w.heap.size, 0, none⟩) hgw (.int .i64 v8)).setCell (p := ⟨w.heap.size, 1, none⟩) hgw (.int .i64 q)).setCell (p := ⟨w.heap.size, 2, none⟩) hgw (.int .i64 t))
        clear E; go_wp2
        exact bodyPost_ret (v := .agg #[.int .i64 v8, .int .i64 q, .int .i64 t]) (by simp [results, Try.results86, go_sem, k0, k1, k2]) rfl ⟨⟨v8, q, t⟩, rfl, ⟨by dsimp only; omega, by dsimp only; omega, by dsimp only; omega⟩, RE.out.mono (by omega), UE.out⟩
      · go_wp2_with fail
        refine (pick_any g N2 2 _ ⟨by omega, by omega⟩ (by omega) (RR.out.alloc _)).mono ?_; intro x w8 pk; obtain ⟨v7, rfl, a7, b7, c7, r7, m7⟩ := pk.cases (by omega); obtain ⟨v8, hv8, hl8⟩ := two_num m7 hg6 a7 (by omega)
        have l7 : v7 < 2 := by omega
        have D4 := Lib.hid (((D4.out.mv ((Up.refl _).alloc _ |>.mv g) (by omega)).mv m7 (by omega)).far (p := ⟨b5, 1, none⟩) (by dsimp only; omega) (.int .i64 v8))
        have d5 := (D5.out.mv ((Up.refl _).alloc _ |>.mv g) b5g).mv m7 b5g
        have D5 := Lib.hid (d5.set1 v8)
        have RR := Lib.hid (r7.setCell (p := ⟨b5, 1, none⟩) (by dsimp only; omega) (.int .i64 v8))
        have MM := Lib.hid (((MM.out.alloc _).trans m7).setNew (p := ⟨b5, 1, none⟩) (by dsimp only; omega) (.int .i64 v8))
        have hw8 : w6.heap.size < w8.heap.size := by have := m7.size; simp at this; omega
        obtain ⟨o0, o1, o2⟩ := And.intro d5.c0 (And.intro d5.c1 d5.c2)
        have of := d5.f
        clear pk r7 m7 c7 d5
        have hv8' : -1000000 ≤ v8 ∧ v8 ≤ 1000000 := by rcases hv8 with h | h <;> omega
        obtain ⟨e0, e1, e2⟩ := And.intro D5.out.c0 (And.intro D5.out.c1 D5.out.c2); obtain ⟨p0, p1, p2⟩ := And.intro D4.out.c0 (And.intro D4.out.c1 D4.out.c2)
        have pf := D4.out.f
        have E := D4.out.laid' s v8 t
        obtain ⟨k0, k1, k2⟩ := And.intro E.c0 (And.intro E.c1 E.c2)
        have UE := Lib.hid (((MM.out.setNew (p := ⟨w.heap.size, 0, none⟩) (Nat.le_refl _) (.int .i64 s)).setNew (p := ⟨w.heap.size, 1, none⟩) (Nat.le_refl _) (.int .i64 v8)).setNew (p := ⟨w.heap.size, 2, none⟩) (Nat.le_refl _) (.int .i64 t))
        have RE := Lib.hid (((RR.out.setCell (p := ⟨w.heap.size, 0, none⟩) hgw (.int .i64 s)).setCell (p := ⟨w.heap.size, 1, none⟩) hgw (.int .i64 v8)).setCell (p := ⟨w.heap.size, 2, none⟩) hgw (.int .i64 t))
        clear E; go_wp2
        exact bodyPost_ret (v := .agg #[.int .i64 s, .int .i64 v8, .int .i64 t]) (by simp [results, Try.results86, go_sem, k0, k1, k2]) rfl ⟨⟨s, v8, t⟩, rfl, ⟨by dsimp only; omega, by dsimp only; omega, by dsimp only; omega⟩, RE.out.mono (by omega), UE.out⟩
      · have o2 := D5.out.c2
        have of := D5.out.f
        have D5x := D5
        clear D5
        have D5 := Lib.hid (D5x.out.set2 (-1))
        have D4 := Lib.hid (D4.out.far (p := ⟨b5, 2, none⟩) (by dsimp only; omega) (.int .i64 (-1)))
        have RR := Lib.hid (RR.out.setCell (p := ⟨b5, 2, none⟩) hb5 (.int .i64 (-1)))
        have MM := Lib.hid (MM.out.setNew (p := ⟨b5, 2, none⟩) hb5w (.int .i64 (-1)))
        obtain ⟨e0, e1, e2⟩ := And.intro D5.out.c0 (And.intro D5.out.c1 D5.out.c2); obtain ⟨p0, p1, p2⟩ := And.intro D4.out.c0 (And.intro D4.out.c1 D4.out.c2)
        have pf := D4.out.f
        have E := D4.out.laid' s q (-1)
        obtain ⟨k0, k1, k2⟩ := And.intro E.c0 (And.intro E.c1 E.c2)
        have UE := Lib.hid (((MM.out.setNew (p := ⟨w.heap.size, 0, none⟩) (Nat.le_refl _) (.int .i64 s)).setNew (p := ⟨w.heap.size, 1, none⟩) (Nat.le_refl _) (.int .i64 q)).setNew (p := ⟨w.heap.size, 2, none⟩) (Nat.le_refl _) (.int .i64 (-1)))
        have RE := Lib.hid (((RR.out.setCell (p := ⟨w.heap.size, 0, none⟩) hgw (.int .i64 s)).setCell (p := ⟨w.heap.size, 1, none⟩) hgw (.int .i64 q)).setCell (p := ⟨w.heap.size, 2, none⟩) hgw (.int .i64 (-1)))
        clear E; go_wp2
        exact bodyPost_ret (v := .agg #[.int .i64 s, .int .i64 q, .int .i64 (-1)]) (by simp [results, Try.results86, go_sem, k0, k1, k2]) rfl ⟨⟨s, q, (-1)⟩, rfl, ⟨by dsimp only; omega, by dsimp only; omega, by dsimp only; omega⟩, RE.out.mono (by omega), UE.out⟩
end Go.Proofs.Ytakmlfgkppekoaa

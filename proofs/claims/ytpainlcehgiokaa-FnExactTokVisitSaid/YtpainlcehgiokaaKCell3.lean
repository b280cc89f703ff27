/-
  Blocks of three numbers of the call's own, in one sentence: kept, laid and written; no condition is made.
-/
import Derived.Test.YtpainlcehgiokaaKJ
import Derived.Test.YtpainlcehgiokaaKA
namespace Go.Proofs.Ytpainlcehgiokaa
set_option maxRecDepth 100000
open Go.RowKit

/-- A block of three numbers of the call's own. -/
structure Cell3 (w : World) (b : Nat) (x y z : Int) : Prop where
  lt : b < w.heap.size
  c0 : w.cell? ⟨b, 0, none⟩ = some (.int .i64 x)
  c1 : w.cell? ⟨b, 1, none⟩ = some (.int .i64 y)
  c2 : w.cell? ⟨b, 2, none⟩ = some (.int .i64 z)
  f : ∀ j, w.frozen? ⟨b, j, none⟩ = false
theorem Cell3.mv {w w' : World} {b g : Nat} {x y z : Int} (h : Cell3 w b x y z) (m : Mv g w w') (hb : b ≠ g) : Cell3 w' b x y z :=
  ⟨Nat.lt_of_lt_of_le h.lt m.size, (m.cells _ _ h.lt hb).trans h.c0, (m.cells _ _ h.lt hb).trans h.c1, (m.cells _ _ h.lt hb).trans h.c2, fun j => (m.frozens _ _ h.lt hb).trans (h.f j)⟩
theorem Cell3.new (w : World) (x y z : Int) (t : TypeId) : Cell3 (w.alloc (.cells #[.int .i64 x, .int .i64 y, .int .i64 z] t)) w.heap.size x y z := by
  have hh := heap_alloc_new w (.cells #[.int .i64 x, .int .i64 y, .int .i64 z] t)
  refine ⟨by simp, by rw [cell_of_row _ _ 0 _ _ _ hh]; rfl, by rw [cell_of_row _ _ 1 _ _ _ hh]; rfl, by rw [cell_of_row _ _ 2 _ _ _ hh]; rfl, fun j => ?_⟩
  unfold World.frozen?
  rw [hh]
  simp
theorem Cell3.far {w : World} {b : Nat} {x y z : Int} (h : Cell3 w b x y z) {p : Addr} (hp : p.block ≠ b) (u : Value) : Cell3 (w.setCell p u) b x y z := by
  have k : ∀ j, (w.setCell p u).cell? ⟨b, j, none⟩ = w.cell? ⟨b, j, none⟩ := fun j => World.cell?_setCell_other _ _ _ _ (fun e => hp (by rw [e]))
  exact ⟨by simpa using h.lt, (k 0).trans h.c0, (k 1).trans h.c1, (k 2).trans h.c2, fun j => by have := h.f j; simpa [go_sem] using this⟩
theorem Cell3.set0 {w : World} {b : Nat} {x y z : Int} (h : Cell3 w b x y z) (u : Int) : Cell3 (w.setCell ⟨b, 0, none⟩ (.int .i64 u)) b u y z :=
  ⟨by simpa using h.lt, World.cell?_setCell_same _ _ _ h.c0, (World.cell?_setCell_other _ _ _ _ (addr_ne (by omega))).trans h.c1, (World.cell?_setCell_other _ _ _ _ (addr_ne (by omega))).trans h.c2, fun j => by have := h.f j; simpa [go_sem] using this⟩
theorem Cell3.set1 {w : World} {b : Nat} {x y z : Int} (h : Cell3 w b x y z) (u : Int) : Cell3 (w.setCell ⟨b, 1, none⟩ (.int .i64 u)) b x u z :=
  ⟨by simpa using h.lt, (World.cell?_setCell_other _ _ _ _ (addr_ne (by omega))).trans h.c0, World.cell?_setCell_same _ _ _ h.c1, (World.cell?_setCell_other _ _ _ _ (addr_ne (by omega))).trans h.c2, fun j => by have := h.f j; simpa [go_sem] using this⟩
theorem Cell3.set2 {w : World} {b : Nat} {x y z : Int} (h : Cell3 w b x y z) (u : Int) : Cell3 (w.setCell ⟨b, 2, none⟩ (.int .i64 u)) b x y u :=
  ⟨by simpa using h.lt, (World.cell?_setCell_other _ _ _ _ (addr_ne (by omega))).trans h.c0, (World.cell?_setCell_other _ _ _ _ (addr_ne (by omega))).trans h.c1, World.cell?_setCell_same _ _ _ h.c2, fun j => by have := h.f j; simpa [go_sem] using this⟩
/-- A new block of three, laid. -/
theorem Cell3.laid {w : World} {b : Nat} (hl : b < w.heap.size) (hs : ∀ j, j < 3 → ∃ u, w.cell? ⟨b, j, none⟩ = some u) (hf : ∀ j, w.frozen? ⟨b, j, none⟩ = false) (x y z : Int) :
    Cell3 (((w.setCell ⟨b, 0, none⟩ (.int .i64 x)).setCell ⟨b, 1, none⟩ (.int .i64 y)).setCell ⟨b, 2, none⟩ (.int .i64 z)) b x y z := by
  have ne : ∀ k j, k ≠ j → (⟨b, k, none⟩ : Addr) ≠ ⟨b, j, none⟩ := fun k j hk => addr_ne (by omega)
  obtain ⟨v0, h0⟩ := hs 0 (by omega)
  obtain ⟨v1, h1⟩ := hs 1 (by omega)
  obtain ⟨v2, h2⟩ := hs 2 (by omega)
  refine ⟨by simpa using hl, ?_, ?_, ?_, fun j => by have := hf j; simpa [go_sem] using this⟩
  · rw [World.cell?_setCell_other _ _ _ _ (ne 2 0 (by omega)), World.cell?_setCell_other _ _ _ _ (ne 1 0 (by omega))]
    exact World.cell?_setCell_same _ _ _ h0
  · rw [World.cell?_setCell_other _ _ _ _ (ne 2 1 (by omega))]
    exact World.cell?_setCell_same _ _ _ ((World.cell?_setCell_other _ _ _ _ (ne 0 1 (by omega))).trans h1)
  · exact World.cell?_setCell_same _ _ _ ((World.cell?_setCell_other _ _ _ _ (ne 1 2 (by omega))).trans ((World.cell?_setCell_other _ _ _ _ (ne 0 2 (by omega))).trans h2))
theorem Cell3.laid' {w : World} {b : Nat} {x0 y0 z0 : Int} (h : Cell3 w b x0 y0 z0) (x y z : Int) :
    Cell3 (((w.setCell ⟨b, 0, none⟩ (.int .i64 x)).setCell ⟨b, 1, none⟩ (.int .i64 y)).setCell ⟨b, 2, none⟩ (.int .i64 z)) b x y z :=
  ((h.set0 x).set1 y).set2 z

end Go.Proofs.Ytpainlcehgiokaa

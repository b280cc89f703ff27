/-
  Blocks of events of the call's own, in one sentence: what the laying of an event's six cells keeps and what it gives; no condition is made.
-/
import Derived.Test.YtojnphchkdjafaaEvs
namespace Go.Proofs.Ytojnphchkdjafaa
set_option maxRecDepth 100000
open Go.RowKit

/-- The block g of n events, of the call's own: it holds the list, and may be written. -/
def Own (w : World) (g n : Nat) (es : List Evt) : Prop :=
  es.length = n ∧ g < w.heap.size ∧ (∀ i, i < n → EvAt w g (i * 6) (es.getD i default)) ∧ ∀ j, j < n * 6 → w.frozen? ⟨g, j, none⟩ = false

/-- A new slice of these events. -/
def NewEvs (es : List Evt) (n : Nat) (w : World) (x : Ending) (w' : World) : Prop :=
  ∃ g, x = .returned (.slice (some ⟨g, 0, none⟩) n n) ∧ w.heap.size ≤ g ∧ Own w' g n es ∧ Up w w'

/-- The block g on the way: k of its n events are laid. -/
def Part (w : World) (g n k : Nat) (es : List Evt) : Prop :=
  g < w.heap.size ∧ (∀ i, i < k → EvAt w g (i * 6) (es.getD i default)) ∧ ∀ j, j < n * 6 → (∃ v, w.cell? ⟨g, j, none⟩ = some v) ∧ w.frozen? ⟨g, j, none⟩ = false

theorem Part.up {w w' : World} {g n k : Nat} {es : List Evt} (h : Part w g n k es) (u : Up w w') : Part w' g n k es :=
  ⟨by have := u.size; have := h.1; omega, fun i hi => (h.2.1 i hi).up u h.1, fun j hj => by
    obtain ⟨⟨v, c⟩, f⟩ := h.2.2 j hj
    exact ⟨⟨v, (u.cells _ _ h.1).trans c⟩, (u.frozens _ _ h.1).trans f⟩⟩

/-- The world with an event's six cells laid. -/
def putEv (w : World) (b o : Nat) (e : Evt) : World :=
  (((((w.setCell ⟨b, o, none⟩ (.int .i64 e.t)).setCell ⟨b, o + 1, none⟩ (.int .i64 e.to)).setCell ⟨b, o + 2, none⟩ (.int .i64 e.fr)).setCell ⟨b, o + 3, none⟩ (.int .i64 e.sq)).setCell ⟨b, o + 4, none⟩ (.int .i64 e.kd)).setCell ⟨b, o + 5, none⟩ (.int .i64 e.dt)

theorem addr_ne {b b' o o' : Nat} (h : b ≠ b' ∨ o ≠ o') : (⟨b, o, none⟩ : Addr) ≠ ⟨b', o', none⟩ := by
  intro e
  injection e with e1 e2
  rcases h with h | h
  · exact h e1
  · exact h e2

theorem putEv_other (w : World) (b o : Nat) (e : Evt) (b' o' : Nat) (h : b ≠ b' ∨ o' < o ∨ o + 6 ≤ o') : (putEv w b o e).cell? ⟨b', o', none⟩ = w.cell? ⟨b', o', none⟩ := by
  unfold putEv
  have f : ∀ k, k < 6 → (⟨b, o + k, none⟩ : Addr) ≠ ⟨b', o', none⟩ := fun k hk => addr_ne (by omega)
  have f0 : (⟨b, o, none⟩ : Addr) ≠ ⟨b', o', none⟩ := addr_ne (by omega)
  rw [World.cell?_setCell_other _ _ _ _ (f 5 (by omega)), World.cell?_setCell_other _ _ _ _ (f 4 (by omega)), World.cell?_setCell_other _ _ _ _ (f 3 (by omega)), World.cell?_setCell_other _ _ _ _ (f 2 (by omega)), World.cell?_setCell_other _ _ _ _ (f 1 (by omega)), World.cell?_setCell_other _ _ _ _ f0]
theorem putEv_frozen (w : World) (b o : Nat) (e : Evt) (a : Addr) : (putEv w b o e).frozen? a = w.frozen? a := by
  unfold putEv
  simp [go_sem]
theorem putEv_size (w : World) (b o : Nat) (e : Evt) : (putEv w b o e).heap.size = w.heap.size := by
  unfold putEv
  simp
theorem Up.putEv {a w : World} (h : Up a w) {b o : Nat} {e : Evt} (hb : a.heap.size ≤ b) : Up a (putEv w b o e) :=
  (((((h.setCell hb _).setCell hb _).setCell hb _).setCell hb _).setCell hb _).setCell hb _

/-- What a cell of the row holds behind the laying: something. -/
theorem setCell_some {w : World} {p q : Addr} {u v : Value} (h : w.cell? q = some v) : ∃ v', (w.setCell p u).cell? q = some v' := by
  by_cases e : p = q
  · subst e
    exact ⟨u, World.cell?_setCell_same _ _ _ h⟩
  · exact ⟨v, (World.cell?_setCell_other _ _ _ _ e).trans h⟩

theorem putEv_at {w : World} {b o : Nat} {e : Evt} (h : ∀ k, k < 6 → ∃ v, w.cell? ⟨b, o + k, none⟩ = some v) : EvAt (putEv w b o e) b o e := by
  have ne : ∀ k j, k ≠ j → (⟨b, o + k, none⟩ : Addr) ≠ ⟨b, o + j, none⟩ := fun k j hk => addr_ne (by omega)
  have nez : ∀ k, k ≠ 0 → (⟨b, o + k, none⟩ : Addr) ≠ ⟨b, o, none⟩ := fun k hk => addr_ne (by omega)
  unfold putEv
  obtain ⟨v0, h0⟩ := h 0 (by omega)
  obtain ⟨v1, h1⟩ := h 1 (by omega)
  obtain ⟨v2, h2⟩ := h 2 (by omega)
  obtain ⟨v3, h3⟩ := h 3 (by omega)
  obtain ⟨v4, h4⟩ := h 4 (by omega)
  obtain ⟨v5, h5⟩ := h 5 (by omega)
  have s0 := World.cell?_setCell_same _ _ (.int .i64 e.t) h0
  have s0 : (w.setCell ⟨b, o, none⟩ (.int .i64 e.t)).cell? ⟨b, o, none⟩ = some (.int .i64 e.t) := s0
  have ne0 : ∀ j, 0 ≠ j → (⟨b, o, none⟩ : Addr) ≠ ⟨b, o + j, none⟩ := fun j hj => addr_ne (by omega)
  generalize hw0 : w.setCell ⟨b, o, none⟩ (.int .i64 e.t) = w0 at s0 ⊢
  have g1 : w0.cell? ⟨b, o + 1, none⟩ = some v1 := by rw [← hw0, World.cell?_setCell_other _ _ _ _ (ne0 1 (by omega))]; exact h1
  have g2 : w0.cell? ⟨b, o + 2, none⟩ = some v2 := by rw [← hw0, World.cell?_setCell_other _ _ _ _ (ne0 2 (by omega))]; exact h2
  have g3 : w0.cell? ⟨b, o + 3, none⟩ = some v3 := by rw [← hw0, World.cell?_setCell_other _ _ _ _ (ne0 3 (by omega))]; exact h3
  have g4 : w0.cell? ⟨b, o + 4, none⟩ = some v4 := by rw [← hw0, World.cell?_setCell_other _ _ _ _ (ne0 4 (by omega))]; exact h4
  have g5 : w0.cell? ⟨b, o + 5, none⟩ = some v5 := by rw [← hw0, World.cell?_setCell_other _ _ _ _ (ne0 5 (by omega))]; exact h5
  simp only [EvAt]
  refine ⟨?_, ?_, ?_, ?_, ?_, ?_⟩
  · rw [World.cell?_setCell_other _ _ _ _ (nez 5 (by omega)), World.cell?_setCell_other _ _ _ _ (nez 4 (by omega)), World.cell?_setCell_other _ _ _ _ (nez 3 (by omega)), World.cell?_setCell_other _ _ _ _ (nez 2 (by omega)), World.cell?_setCell_other _ _ _ _ (nez 1 (by omega))]
    exact s0
  · rw [World.cell?_setCell_other _ _ _ _ (ne 5 1 (by omega)), World.cell?_setCell_other _ _ _ _ (ne 4 1 (by omega)), World.cell?_setCell_other _ _ _ _ (ne 3 1 (by omega)), World.cell?_setCell_other _ _ _ _ (ne 2 1 (by omega))]
    exact World.cell?_setCell_same _ _ _ g1
  · rw [World.cell?_setCell_other _ _ _ _ (ne 5 2 (by omega)), World.cell?_setCell_other _ _ _ _ (ne 4 2 (by omega)), World.cell?_setCell_other _ _ _ _ (ne 3 2 (by omega))]
    exact World.cell?_setCell_same _ _ _ ((World.cell?_setCell_other _ _ _ _ (ne 1 2 (by omega))).trans g2)
  · rw [World.cell?_setCell_other _ _ _ _ (ne 5 3 (by omega)), World.cell?_setCell_other _ _ _ _ (ne 4 3 (by omega))]
    exact World.cell?_setCell_same _ _ _ ((World.cell?_setCell_other _ _ _ _ (ne 2 3 (by omega))).trans ((World.cell?_setCell_other _ _ _ _ (ne 1 3 (by omega))).trans g3))
  · rw [World.cell?_setCell_other _ _ _ _ (ne 5 4 (by omega))]
    exact World.cell?_setCell_same _ _ _ ((World.cell?_setCell_other _ _ _ _ (ne 3 4 (by omega))).trans ((World.cell?_setCell_other _ _ _ _ (ne 2 4 (by omega))).trans ((World.cell?_setCell_other _ _ _ _ (ne 1 4 (by omega))).trans g4)))
  · exact World.cell?_setCell_same _ _ _ ((World.cell?_setCell_other _ _ _ _ (ne 4 5 (by omega))).trans ((World.cell?_setCell_other _ _ _ _ (ne 3 5 (by omega))).trans ((World.cell?_setCell_other _ _ _ _ (ne 2 5 (by omega))).trans ((World.cell?_setCell_other _ _ _ _ (ne 1 5 (by omega))).trans g5))))

theorem EvAt.putEv_far {w : World} {b o b' o' : Nat} {e e' : Evt} (h : EvAt w b' o' e') (hne : b ≠ b' ∨ o' + 6 ≤ o ∨ o + 6 ≤ o') : EvAt (putEv w b o e) b' o' e' := by
  obtain ⟨h0, h1, h2, h3, h4, h5⟩ := h
  exact ⟨(putEv_other _ _ _ _ _ _ (by omega)).trans h0, (putEv_other _ _ _ _ _ _ (by omega)).trans h1, (putEv_other _ _ _ _ _ _ (by omega)).trans h2, (putEv_other _ _ _ _ _ _ (by omega)).trans h3, (putEv_other _ _ _ _ _ _ (by omega)).trans h4, (putEv_other _ _ _ _ _ _ (by omega)).trans h5⟩

theorem putEv_some {w : World} {b o : Nat} {e : Evt} {q : Addr} (h : ∃ v, w.cell? q = some v) : ∃ v, (putEv w b o e).cell? q = some v := by
  obtain ⟨v, h⟩ := h
  unfold putEv
  obtain ⟨v, h⟩ := setCell_some (p := ⟨b, o, none⟩) (u := .int .i64 e.t) h
  obtain ⟨v, h⟩ := setCell_some (p := ⟨b, o + 1, none⟩) (u := .int .i64 e.to) h
  obtain ⟨v, h⟩ := setCell_some (p := ⟨b, o + 2, none⟩) (u := .int .i64 e.fr) h
  obtain ⟨v, h⟩ := setCell_some (p := ⟨b, o + 3, none⟩) (u := .int .i64 e.sq) h
  obtain ⟨v, h⟩ := setCell_some (p := ⟨b, o + 4, none⟩) (u := .int .i64 e.kd) h
  exact setCell_some h

theorem Part.put {w : World} {g n k : Nat} {es : List Evt} {e : Evt} (h : Part w g n k es) (he : es.getD k default = e) (hk : k < n) : Part (putEv w g (k * 6) e) g n (k + 1) es := by
  subst he
  refine ⟨by rw [putEv_size]; exact h.1, fun i hi => ?_, fun j hj => ?_⟩
  · by_cases hik : i = k
    · subst hik
      exact putEv_at fun j hj => (h.2.2 (i * 6 + j) (by omega)).1
    · exact (h.2.1 i (by omega)).putEv_far (by omega)
  · obtain ⟨c, f⟩ := h.2.2 j hj
    exact ⟨putEv_some c, (putEv_frozen _ _ _ _ _).trans f⟩

theorem Part.own {w : World} {g n k : Nat} {es : List Evt} (h : Part w g n k es) (hl : es.length = n) (hk : n ≤ k) : Own w g n es :=
  ⟨hl, h.1, fun i hi => h.2.1 i (by omega), fun j hj => (h.2.2 j hj).2⟩

theorem Part.start (w : World) (n : Nat) (es : List Evt) : Part (w.alloc (.cells (madeCells #[.int .i64 0, .int .i64 0, .int .i64 0, .int .i64 0, .int .i64 0, .int .i64 0] (n * 6)) 82)) w.heap.size n 0 es := by
  refine ⟨by simp, fun i hi => absurd hi (by omega), fun j hj => ?_⟩
  have hh := heap_alloc_new w (.cells (madeCells #[.int .i64 0, .int .i64 0, .int .i64 0, .int .i64 0, .int .i64 0, .int .i64 0] (n * 6)) 82)
  refine ⟨?_, ?_⟩
  · rw [cell_of_row _ _ j _ _ _ hh]
    have : j < (madeCells #[.int .i64 0, .int .i64 0, .int .i64 0, .int .i64 0, .int .i64 0, .int .i64 0] (n * 6)).size := by rw [size_madeCells]; exact hj
    exact ⟨_, Array.getElem?_eq_getElem this⟩
  · unfold World.frozen?
    rw [hh]
    simp


end Go.Proofs.Ytojnphchkdjafaa

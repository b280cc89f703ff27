/-
  What toMdlRule returns, in one sentence: the same rule over a new slice of its sends; for every rule that lies in memory.
-/
import Derived.Test.YtojnphchkdjafaaMDef
import Derived.Test.YtojnphchkdjafaaSToS
import Derived.Test.YtojnphchkdjafaaIRules
namespace Go.Proofs.Ytojnphchkdjafaa
set_option maxRecDepth 100000
open Go.RowKit

theorem EvAt.setFar {w : World} {b o : Nat} {e : Evt} (h : EvAt w b o e) {p : Addr} (hp : p.block ≠ b) (u : Value) : EvAt (w.setCell p u) b o e := by
  have f : ∀ j, (w.setCell p u).cell? ⟨b, j, none⟩ = w.cell? ⟨b, j, none⟩ := fun j => World.cell?_setCell_other _ _ _ _ (fun e => hp (by rw [e]))
  obtain ⟨h0, h1, h2, h3, h4, h5⟩ := h
  exact ⟨(f _).trans h0, (f _).trans h1, (f _).trans h2, (f _).trans h3, (f _).trans h4, (f _).trans h5⟩
theorem Own.setFar {w : World} {g n : Nat} {es : List Evt} (h : Own w g n es) {p : Addr} (hp : p.block ≠ g) (u : Value) : Own (w.setCell p u) g n es :=
  ⟨h.1, by simpa using h.2.1, fun i hi => (h.2.2.1 i hi).setFar hp u, fun j hj => by have := h.2.2.2 j hj; simpa [go_sem] using this⟩

/-- The world with a rule's five cells laid. -/
def putR (w : World) (b o : Nat) (r : Rule) (s : Value) : World :=
  ((((w.setCell ⟨b, o, none⟩ (.int .i64 r.kd)).setCell ⟨b, o + 1, none⟩ (.int .i64 r.a)).setCell ⟨b, o + 2, none⟩ (.int .i64 r.b)).setCell ⟨b, o + 3, none⟩ (.int .i64 r.c)).setCell ⟨b, o + 4, none⟩ s
theorem putR_other (w : World) (b o : Nat) (r : Rule) (s : Value) (b' o' : Nat) (h : b ≠ b' ∨ o' < o ∨ o + 5 ≤ o') : (putR w b o r s).cell? ⟨b', o', none⟩ = w.cell? ⟨b', o', none⟩ := by
  unfold putR
  have f : ∀ k, k < 5 → (⟨b, o + k, none⟩ : Addr) ≠ ⟨b', o', none⟩ := fun k hk => addr_ne (by omega)
  have f0 : (⟨b, o, none⟩ : Addr) ≠ ⟨b', o', none⟩ := addr_ne (by omega)
  rw [World.cell?_setCell_other _ _ _ _ (f 4 (by omega)), World.cell?_setCell_other _ _ _ _ (f 3 (by omega)), World.cell?_setCell_other _ _ _ _ (f 2 (by omega)), World.cell?_setCell_other _ _ _ _ (f 1 (by omega)), World.cell?_setCell_other _ _ _ _ f0]
theorem putR_frozen (w : World) (b o : Nat) (r : Rule) (s : Value) (a : Addr) : (putR w b o r s).frozen? a = w.frozen? a := by
  unfold putR
  simp [go_sem]
theorem putR_size (w : World) (b o : Nat) (r : Rule) (s : Value) : (putR w b o r s).heap.size = w.heap.size := by
  unfold putR
  simp
theorem Up.putR {a w : World} (h : Up a w) {b o : Nat} {r : Rule} {s : Value} (hb : a.heap.size ≤ b) : Up a (putR w b o r s) :=
  ((((h.setCell hb _).setCell hb _).setCell hb _).setCell hb _).setCell hb _
theorem putR_at {w : World} {b o : Nat} {r : Rule} {s : Value} (h : ∀ k, k < 5 → ∃ v, w.cell? ⟨b, o + k, none⟩ = some v) :
    (putR w b o r s).cell? ⟨b, o, none⟩ = some (.int .i64 r.kd) ∧ (putR w b o r s).cell? ⟨b, o + 1, none⟩ = some (.int .i64 r.a) ∧ (putR w b o r s).cell? ⟨b, o + 2, none⟩ = some (.int .i64 r.b) ∧ (putR w b o r s).cell? ⟨b, o + 3, none⟩ = some (.int .i64 r.c) ∧ (putR w b o r s).cell? ⟨b, o + 4, none⟩ = some s := by
  have ne : ∀ k j, k ≠ j → (⟨b, o + k, none⟩ : Addr) ≠ ⟨b, o + j, none⟩ := fun k j hk => addr_ne (by omega)
  have nez : ∀ k, k ≠ 0 → (⟨b, o + k, none⟩ : Addr) ≠ ⟨b, o, none⟩ := fun k hk => addr_ne (by omega)
  have ne0 : ∀ j, 0 ≠ j → (⟨b, o, none⟩ : Addr) ≠ ⟨b, o + j, none⟩ := fun j hj => addr_ne (by omega)
  unfold putR
  obtain ⟨v0, h0⟩ := h 0 (by omega)
  obtain ⟨v1, h1⟩ := h 1 (by omega)
  obtain ⟨v2, h2⟩ := h 2 (by omega)
  obtain ⟨v3, h3⟩ := h 3 (by omega)
  obtain ⟨v4, h4⟩ := h 4 (by omega)
  refine ⟨?_, ?_, ?_, ?_, ?_⟩
  · rw [World.cell?_setCell_other _ _ _ _ (nez 4 (by omega)), World.cell?_setCell_other _ _ _ _ (nez 3 (by omega)), World.cell?_setCell_other _ _ _ _ (nez 2 (by omega)), World.cell?_setCell_other _ _ _ _ (nez 1 (by omega))]
    exact World.cell?_setCell_same _ _ _ h0
  · rw [World.cell?_setCell_other _ _ _ _ (ne 4 1 (by omega)), World.cell?_setCell_other _ _ _ _ (ne 3 1 (by omega)), World.cell?_setCell_other _ _ _ _ (ne 2 1 (by omega))]
    exact World.cell?_setCell_same _ _ _ ((World.cell?_setCell_other _ _ _ _ (ne0 1 (by omega))).trans h1)
  · rw [World.cell?_setCell_other _ _ _ _ (ne 4 2 (by omega)), World.cell?_setCell_other _ _ _ _ (ne 3 2 (by omega))]
    exact World.cell?_setCell_same _ _ _ ((World.cell?_setCell_other _ _ _ _ (ne 1 2 (by omega))).trans ((World.cell?_setCell_other _ _ _ _ (ne0 2 (by omega))).trans h2))
  · rw [World.cell?_setCell_other _ _ _ _ (ne 4 3 (by omega))]
    exact World.cell?_setCell_same _ _ _ ((World.cell?_setCell_other _ _ _ _ (ne 2 3 (by omega))).trans ((World.cell?_setCell_other _ _ _ _ (ne 1 3 (by omega))).trans ((World.cell?_setCell_other _ _ _ _ (ne0 3 (by omega))).trans h3)))
  · exact World.cell?_setCell_same _ _ _ ((World.cell?_setCell_other _ _ _ _ (ne 3 4 (by omega))).trans ((World.cell?_setCell_other _ _ _ _ (ne 2 4 (by omega))).trans ((World.cell?_setCell_other _ _ _ _ (ne 1 4 (by omega))).trans ((World.cell?_setCell_other _ _ _ _ (ne0 4 (by omega))).trans h4))))
theorem Own.putR {w : World} {g n b o : Nat} {es : List Evt} {r : Rule} {s : Value} (h : Own w g n es) (hb : b ≠ g) : Own (putR w b o r s) g n es :=
  ((((h.setFar (p := ⟨b, o, none⟩) hb _).setFar (p := ⟨b, o + 1, none⟩) hb _).setFar (p := ⟨b, o + 2, none⟩) hb _).setFar (p := ⟨b, o + 3, none⟩) hb _).setFar (p := ⟨b, o + 4, none⟩) hb _
/-- A new block's cells are there. -/
theorem somes_new (w : World) (xs : Array Value) (t : TypeId) (j : Nat) (hj : j < xs.size) : ∃ v, (w.alloc (.cells xs t)).cell? ⟨w.heap.size, j, none⟩ = some v := by
  have hh := heap_alloc_new w (.cells xs t)
  exact ⟨_, by rw [cell_of_row _ _ j _ _ _ hh]; exact Array.getElem?_eq_getElem hj⟩

/-- A rule over a new slice of its sends. -/
def NewRule (r : Rule) (n : Nat) (w : World) (x : Ending) (w' : World) : Prop :=
  ∃ g, x = .returned (r.v (.slice (some ⟨g, 0, none⟩) n n)) ∧ w.heap.size ≤ g ∧ Own w' g n r.sends ∧ Up w w'

set_option maxHeartbeats 2000000 in
theorem toRule_any (r : Rule) (A : Option Addr) (n c : Nat) (w : World) (hn : n ≤ 1000000000) (hE : Evs w A n r.sends) :
    Calls Try.prog 91 #[r.v (.slice A n c)] w (NewRule r n w) := by
  obtain ⟨kd, ra, rb, rc, es⟩ := r
  have CL := Lib.hid (fun W (u : Up w W) => toSndS_any A n c es W hn (hE.up u))
  clear hE
  unfold Rule.v NewRule
  unfold Rule.v
  dsimp only
  go_enter Try.func91, Try.ntmps91
  go_wp2_with fail
  refine (CL.out _ ((((Up.refl w).alloc _).alloc _).alloc _)).mono ?_
  rintro x w1 ⟨g, rfl, hg, o1, u1⟩
  have O1 := Lib.hid o1
  have U1 := Lib.hid ((((Up.refl w).alloc _).alloc _).alloc _ |>.trans u1)
  simp at hg
  have HG := Lib.hid hg
  have Z := Lib.hid (fun j (hj : j < 5) => (show ∃ v, w1.cell? ⟨w.heap.size + 1, j, none⟩ = some v by
    obtain ⟨v, hv⟩ := somes_new (w.alloc (.cells #[.int .i64 kd, .int .i64 ra, .int .i64 rb, .int .i64 rc, .slice A n c] 146)) #[.int .i64 0, .int .i64 0, .int .i64 0, .int .i64 0, .slice none 0 0] 109 j hj
    have hs : (w.alloc (.cells #[.int .i64 kd, .int .i64 ra, .int .i64 rb, .int .i64 rc, .slice A n c] 146)).heap.size = w.heap.size + 1 := by simp
    rw [hs] at hv
    exact ⟨v, (((Up.refl _).alloc _).trans u1).cells _ _ (by simp) |>.trans hv⟩))
  obtain ⟨hc, hf, hz⟩ := u1.facts
  simp at hz
  clear o1 hg u1
  go_wp2
  have ne : (⟨w.heap.size + 1 + 1, 4, none⟩ : Addr).block ≠ w.heap.size + 1 := by simp
  have K := putR_at (w := w1.setCell ⟨w.heap.size + 1 + 1, 4, none⟩ (.slice (some ⟨g, 0, none⟩) n n)) (b := w.heap.size + 1) (o := 0) (r := ⟨kd, ra, rb, rc, es⟩) (s := .slice (some ⟨g, 0, none⟩) n n) (fun k hk => by
    obtain ⟨v, hv⟩ := Z.out k hk
    refine ⟨v, (World.cell?_setCell_other _ _ _ _ (fun e => ne (by rw [e]))).trans ?_⟩
    rw [Nat.zero_add]
    exact hv)
  have O2 := Lib.hid ((O1.out.setFar (p := ⟨w.heap.size + 1 + 1, 4, none⟩) (by have := HG.out; dsimp only; omega) (.slice (some ⟨g, 0, none⟩) n n)).putR (b := w.heap.size + 1) (o := 0) (r := ⟨kd, ra, rb, rc, es⟩) (s := .slice (some ⟨g, 0, none⟩) n n) (by have := HG.out; omega))
  have U2 := Lib.hid ((U1.out.setCell (p := ⟨w.heap.size + 1 + 1, 4, none⟩) (by dsimp only; omega) (.slice (some ⟨g, 0, none⟩) n n)).putR (b := w.heap.size + 1) (o := 0) (r := ⟨kd, ra, rb, rc, es⟩) (s := .slice (some ⟨g, 0, none⟩) n n) (by omega))
  unfold putR at K O2 U2
  simp only [Nat.zero_add] at K
  obtain ⟨k0, k1, k2, k3, k4⟩ := K
  exact bodyPost_ret (v := .agg #[.int .i64 kd, .int .i64 ra, .int .i64 rb, .int .i64 rc, .slice (some ⟨g, 0, none⟩) n n]) (by simp [results, Try.results91, go_sem, k0, k1, k2, k3, k4]) rfl ⟨g, rfl, by have := HG.out; omega, O2.out, U2.out⟩

end Go.Proofs.Ytojnphchkdjafaa

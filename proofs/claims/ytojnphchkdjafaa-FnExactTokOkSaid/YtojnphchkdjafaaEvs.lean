/-
  What it means that a slice holds a list of events, in one sentence: each event's six cells lie one behind the other; nil is let in.
-/
import Derived.Test.YtojnphchkdjafaaLess
namespace Go.Proofs.Ytojnphchkdjafaa
set_option maxRecDepth 100000
open Go.RowKit

/-- The six cells of an event, from o on. -/
def EvAt (w : World) (b o : Nat) (e : Evt) : Prop :=
  w.cell? ⟨b, o, none⟩ = some (.int .i64 e.t) ∧ w.cell? ⟨b, o + 1, none⟩ = some (.int .i64 e.to) ∧ w.cell? ⟨b, o + 2, none⟩ = some (.int .i64 e.fr) ∧
  w.cell? ⟨b, o + 3, none⟩ = some (.int .i64 e.sq) ∧ w.cell? ⟨b, o + 4, none⟩ = some (.int .i64 e.kd) ∧ w.cell? ⟨b, o + 5, none⟩ = some (.int .i64 e.dt)

/-- The slice at A of n elements holds the list. -/
def Evs (w : World) (A : Option Addr) (n : Nat) (es : List Evt) : Prop :=
  es.length = n ∧ (0 < n → ∃ b off, A = some ⟨b, off, none⟩ ∧ b < w.heap.size ∧ ∀ i, i < n → EvAt w b (off + i * 6) (es.getD i default))

theorem EvAt.up {w w' : World} {b o : Nat} {e : Evt} (h : EvAt w b o e) (u : Up w w') (hb : b < w.heap.size) : EvAt w' b o e := by
  obtain ⟨h0, h1, h2, h3, h4, h5⟩ := h
  exact ⟨(u.cells _ _ hb).trans h0, (u.cells _ _ hb).trans h1, (u.cells _ _ hb).trans h2, (u.cells _ _ hb).trans h3, (u.cells _ _ hb).trans h4, (u.cells _ _ hb).trans h5⟩
theorem Evs.up {w w' : World} {A : Option Addr} {n : Nat} {es : List Evt} (h : Evs w A n es) (u : Up w w') : Evs w' A n es :=
  ⟨h.1, fun hn => by
    obtain ⟨b, off, hA, hb, hc⟩ := h.2 hn
    exact ⟨b, off, hA, by have := u.size; omega, fun i hi => (hc i hi).up u hb⟩⟩
theorem Evs.none_ (w : World) : Evs w none 0 [] := ⟨rfl, fun h => absurd h (by omega)⟩
theorem Evs.nil {w : World} {A : Option Addr} {es : List Evt} (h : Evs w A 0 es) : es = [] := List.eq_nil_of_length_eq_zero h.1

/-- Are they in order, none twice? -/
def riseB : List Evt → Bool
  | a :: b :: r => ltE a b && riseB (b :: r)
  | _ => true

theorem riseB_drop (es : List Evt) (j : Nat) (h : j + 1 < es.length) : riseB (es.drop j) = (ltE (es.getD j default) (es.getD (j + 1) default) && riseB (es.drop (j + 1))) := by
  rw [List.drop_eq_getElem_cons (show j < es.length by omega), List.drop_eq_getElem_cons h, riseB]
  simp [show j < es.length by omega, h]
theorem riseB_end (es : List Evt) (j : Nat) (h : es.length ≤ j + 1) : riseB (es.drop j) = true := by
  have : (es.drop j).length ≤ 1 := by simp; omega
  match hd : es.drop j, this with
  | [], _ => rfl
  | [a], _ => rfl

end Go.Proofs.Ytojnphchkdjafaa

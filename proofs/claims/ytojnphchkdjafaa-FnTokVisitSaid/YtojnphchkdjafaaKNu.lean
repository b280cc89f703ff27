/-
  A region that draws its order and only reads, in one sentence: one walk in the order of the text serves every order, and no block is made.
-/
import Derived.Test.YtojnphchkdjafaaKC
import Derived.Test.YtojnphchkdjafaaKTy
namespace Go.Proofs.Ytojnphchkdjafaa
set_option maxRecDepth 100000
open Go.RowKit

/-- The same heap. -/
structure Nu (w w' : World) : Prop where
  heap : w'.heap = w.heap
  os : w'.os = w.os
  tape : w'.tape = w.tape
  output : w'.output = w.output
theorem Nu.refl (w : World) : Nu w w := ⟨rfl, rfl, rfl, rfl⟩
theorem Nu.facts {w w' : World} (h : Nu w w') : (∀ b o, w'.cell? ⟨b, o, none⟩ = w.cell? ⟨b, o, none⟩) ∧ (∀ b o, w'.frozen? ⟨b, o, none⟩ = w.frozen? ⟨b, o, none⟩) ∧ w.heap.size ≤ w'.heap.size :=
  ⟨fun b o => by unfold World.cell?; rw [h.heap], fun b o => by unfold World.frozen?; rw [h.heap], by rw [h.heap]; exact Nat.le_refl _⟩
theorem Pk.nu {g : Nat} {a w w' : World} (h : Pk g a w) (k : Nu w w') : Pk g a w' :=
  h.trans ⟨⟨k.os, k.tape, k.output, by rw [k.heap]; exact Nat.le_refl _, fun j _ _ => by rw [k.heap]⟩, by rw [k.heap], fun arr e fz ha => ⟨arr, by rw [k.heap]; exact ha, rfl⟩⟩
theorem Rd.nu {w w' : World} {g N : Nat} (h : Rd w g N) (k : Nu w w') : Rd w' g N := by
  obtain ⟨hc, hf, hz⟩ := k.facts
  obtain ⟨A, n, cap, p, h0, h1, hfr, hp, hg, hn, hb⟩ := h
  exact ⟨A, n, cap, p, (hc _ _).trans h0, (hc _ _).trans h1, (hf _ _).trans hfr, hp, by omega, hn, hb.keep fun b o _ => hc b o⟩

theorem region_nu {P : Program} {id : Nat} {Q : Exit → Act → World → Prop} {a : Act} {w : World} {l : List Oper} (hm : P.follows .mixedOrders = true) (hB : Region.lexB .any l.toArray = true)
    (h : wpQuiet P l.toArray (Nu w) (fun a' => ∀ w', Nu w w' → Q .normal a' w') l a) : (Code.region id l.toArray true).wp P Q a w :=
  wp_region_quiet (C := Nu w) hm hB (show Nu w w.drew from ⟨rfl, rfl, rfl, rfl⟩) (by simpa using h)
theorem nu_step {P : Program} {ops : Array Oper} {w : World} {Q : Act → Prop} {a : Act} {o : Oper} {rest : List Oper} (hg : o.guard = none)
    (h : ∃ v, (∀ w1, Nu w w1 → Oper.quietUpon P (Nu w) w1 v ((execOp a.eval o).run P w1)) ∧ wpQuiet P ops (Nu w) Q rest (a.put o.dst v)) : wpQuiet P ops (Nu w) Q (o :: rest) a :=
  wpQuiet_step fun K hK => by
    have hw : Region.wanted o (yielded ops a.tmps) = true := by simp [Region.wanted, hg]
    rw [if_pos hw]
    obtain ⟨v, hq, hk⟩ := h
    exact ⟨v, hq, hK _ hk⟩

/-- What a pick gives: a number below m, the reader is one further, and no block is made. -/
def PickedP (g N : Nat) (m : Int) (w : World) (x : Ending) (w' : World) : Prop :=
  ∃ v : Int, x = .returned (.int .i64 v) ∧ 0 ≤ v ∧ (v < m ∨ v = 0) ∧ Rd w' g (N + 1) ∧ Pk g w w'
theorem PickedP.cases {g N : Nat} {m : Int} {w : World} {x : Ending} {w' : World} (h : PickedP g N m w x w') (hm : m ≤ 1000000) :
    ∃ v : Int, x = .returned (.int .i64 v) ∧ 0 ≤ v ∧ v ≤ 1000000 ∧ (v < m ∨ v = 0) ∧ Rd w' g (N + 1) ∧ Pk g w w' := by
  obtain ⟨v, hx, h0, h1, h2, h3⟩ := h
  exact ⟨v, hx, h0, by omega, h1, h2, h3⟩
def TossedP (g N : Nat) (w : World) (x : Ending) (w' : World) : Prop :=
  ∃ b : Bool, x = .returned (.bool b) ∧ Rd w' g N ∧ Pk g w w'

end Go.Proofs.Ytojnphchkdjafaa

/-
  What is kept where one block alone is written, in one sentence: lists of events elsewhere, their blocks, the reader; no condition is made.
-/
import Derived.Test.YtkfjemgelmbcfaaL1Put
import Derived.Test.YtkfjemgelmbcfaaRd
namespace Go.Proofs.Ytkfjemgelmbcfaa
set_option maxRecDepth 100000
open Go.RowKit

theorem Evs.mv {w w' : World} {A : Option Addr} {n g : Nat} {es : List Evt} (h : Evs w A n es) (m : Mv g w w') (hne : ∀ b off, A = some ⟨b, off, none⟩ → b ≠ g) : Evs w' A n es :=
  ⟨h.1, fun hn => by
    obtain ⟨b, off, hA, hb, hc⟩ := h.2 hn
    have hbg := hne b off hA
    refine ⟨b, off, hA, Nat.lt_of_lt_of_le hb m.size, fun i hi => ?_⟩
    obtain ⟨h0, h1, h2, h3, h4, h5⟩ := hc i hi
    exact ⟨(m.cells _ _ hb hbg).trans h0, (m.cells _ _ hb hbg).trans h1, (m.cells _ _ hb hbg).trans h2, (m.cells _ _ hb hbg).trans h3, (m.cells _ _ hb hbg).trans h4, (m.cells _ _ hb hbg).trans h5⟩⟩
theorem own_mv {w w' : World} {b e size n g : Nat} {v : Value} {xs : List Value} (h : w.ownsRow b e size v n xs) (m : Mv g w w') (hg : g < b) : w'.ownsRow b e size v n xs :=
  h.kept (row := some g) ⟨m.os, m.tape, m.output, m.size, fun k hk hne => m.block k hk (fun e => hne (by rw [e]))⟩ (.inr (fun he => by have := (h.lt g he).1; omega))
theorem own_addr {w : World} {base e n c b off : Nat} {A : Option Addr} {xs : List Value} (h : w.ownsRow base e 6 (.slice A n c) n xs) (hA : A = some ⟨b, off, none⟩) : base ≤ b := by
  subst hA
  exact (h.lt b rfl).1
theorem Rd.lt {w : World} {g N : Nat} (h : Rd w g N) : g < w.heap.size := by
  obtain ⟨_, _, _, _, _, _, _, _, hg, _⟩ := h
  exact hg


end Go.Proofs.Ytkfjemgelmbcfaa

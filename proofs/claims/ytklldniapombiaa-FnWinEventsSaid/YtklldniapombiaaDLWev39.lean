/-
  A region that draws its order, walked operation by operation within a fence, in one sentence: what looks at no memory may be taken first, and of the others that are ready each may be next.
-/
import Derived.Deep.RegionHeld3
import Derived.LoopIn
import Derived.LoopNIn
import Derived.OrdersIn
import Derived.OwnWalkIn
import Derived.RangeFuncBound
import Derived.RangeFuncBox
import Derived.RangeFuncCalls
import Derived.RangeFuncLeaves
import Derived.RangeFuncNested
import Derived.Shelf.Abstract
import Derived.Shelf.RegionOpen
import Derived.TacticsInMore
import Derived.Test.YtklldniapombiaaDLWev01
import Derived.WalkKit
namespace Go.Proofs.Ytklldniapombiaa
set_option maxRecDepth 100000
open Go.RowKit
/-- What is left to walk, kept shut. -/
@[irreducible] def iWalk (F : Fence) (n : Nat) (P : Program) (ops : Array Oper) (Q : Exit → Act → World → Prop) (N : Nat) (listed : Array Bool) (a : Act) (w : World) : Prop :=
  Region.noSelect ops = true → wpAnyIn F n P .any ops (NoPanic Q) N listed a w
theorem region_iWalk {F : Fence} {n : Nat} {P : Program} {id : Nat} {Q : Exit → Act → World → Prop} {a : Act} {w : World} {l : List Oper} (N : Nat) (hm : P.follows .mixedOrders = true) (hN : l.length = N)
    (hsel : Region.noSelect l.toArray = true) (h : iWalk F n P l.toArray Q N (Array.replicate N false) a w.drew) : (Code.region id l.toArray true).wpIn F n P Q a w := by
  subst hN; unfold iWalk at h; refine Go.wpIn_mono (Q := NoPanic Q) (wpIn_region_any hm ?_) (fun e a w hq => NoPanic.imp e a w hq)
  have := h hsel
  simpa using this
section
variable {F : Fence} {n : Nat} {P : Program} {ops : Array Oper} {Q : Exit → Act → World → Prop} {N : Nat} {listed : Array Bool} {a : Act} {w : World}
theorem iWalk_take (k : Nat) {o : Oper} (hro : F.round = none) (hB : ((Region.ready .any ops listed).contains k && Region.free .any ops listed k) = true) (h0 : ops[k]? = some o) (hw : Region.wanted o (yielded ops a.tmps) = true) (hab : ∀ w1, o.about P w1 a.eval = none)
    (h : ∃ v, (∀ w1, (execOp a.eval o).run P w1 = .ok (.value v) w1) ∧ iWalk F n P ops Q N (listed.setIfInBounds k true) (a.put o.dst v) w) : iWalk F n P ops Q (N + 1) listed a w := by
  unfold iWalk at h ⊢; intro hsel; simp only [Bool.and_eq_true] at hB; obtain ⟨v, hv, hn⟩ := h
  exact wpAnyIn_take hro h0 hsel hB.2 hB.1 (fun _ _ _ h => h) ⟨.inl ⟨hw, hv⟩, hab⟩ (hn hsel)
theorem iWalk_skip (k : Nat) {o : Oper} (hro : F.round = none) (hB : ((Region.ready .any ops listed).contains k && Region.free .any ops listed k) = true) (h0 : ops[k]? = some o) (hw : Region.wanted o (yielded ops a.tmps) = false) (hab : ∀ w1, o.about P w1 a.eval = none)
    (h : iWalk F n P ops Q N (listed.setIfInBounds k true) (a.put o.dst undef) w) : iWalk F n P ops Q (N + 1) listed a w := by
  unfold iWalk at h ⊢; intro hsel; simp only [Bool.and_eq_true] at hB
  exact wpAnyIn_take hro h0 hsel hB.2 hB.1 (fun _ _ _ h => h) ⟨.inr ⟨hw, rfl⟩, hab⟩ (h hsel)
/-- One of those that are ready is next. -/
def NextI (F : Fence) (n : Nat) (P : Program) (ops : Array Oper) (Q : Exit → Act → World → Prop) (N : Nat) (listed : Array Bool) (a : Act) (w : World) (k : Nat) : Prop :=
  ∃ o, ops[k]? = some o ∧ Region.wanted o (yielded ops a.tmps) = true ∧ ∀ K : Act → World → Prop, (∀ a w, iWalk F n P ops Q N (listed.setIfInBounds k true) a w → K a w) → o.wpIn F n P a w K (NoPanic Q)
theorem nextI_mk {k : Nat} {o : Oper} (h0 : ops[k]? = some o) (hw : Region.wanted o (yielded ops a.tmps) = true) (h : ∀ K : Act → World → Prop, (∀ a w, iWalk F n P ops Q N (listed.setIfInBounds k true) a w → K a w) → o.wpIn F n P a w K (NoPanic Q)) : NextI F n P ops Q N listed a w k := ⟨o, h0, hw, h⟩
theorem iWalk_fork (l : List Nat) (hr : Region.ready .any ops listed = l) (hl : l ≠ []) (h : ∀ k ∈ l, NextI F n P ops Q N listed a w k) : iWalk F n P ops Q (N + 1) listed a w := by
  unfold iWalk; intro hsel
  refine wpAnyIn_all hr hl fun k hk => ?_
  obtain ⟨o, h0, hw, hn⟩ := h k hk; unfold wpOpIn; simp only [h0]; rw [if_pos hw]
  refine hn _ fun a' w' hh => ?_
  unfold iWalk at hh
  exact hh hsel
theorem iWalk_one {i : Nat} (hr : Region.ready .any ops listed = [i]) (hi : NextI F n P ops Q N listed a w i) : iWalk F n P ops Q (N + 1) listed a w :=
  iWalk_fork [i] hr (by simp) (fun k hk => by
    obtain rfl : k = i := by simpa using hk
    exact hi)
theorem iWalk_two {i j : Nat} (hr : Region.ready .any ops listed = [i, j]) (hi : NextI F n P ops Q N listed a w i) (hj : NextI F n P ops Q N listed a w j) : iWalk F n P ops Q (N + 1) listed a w :=
  iWalk_fork [i, j] hr (by simp) (fun k hk => by
    have : k = i ∨ k = j := by simpa using hk
    rcases this with rfl | rfl
    · exact hi
    · exact hj)
theorem iWalk_three {i j m : Nat} (hr : Region.ready .any ops listed = [i, j, m]) (hi : NextI F n P ops Q N listed a w i) (hj : NextI F n P ops Q N listed a w j) (hm : NextI F n P ops Q N listed a w m) : iWalk F n P ops Q (N + 1) listed a w :=
  iWalk_fork [i, j, m] hr (by simp) (fun k hk => by
    have : k = i ∨ k = j ∨ k = m := by simpa using hk
    rcases this with rfl | rfl | rfl
    · exact hi
    · exact hj
    · exact hm)
theorem iWalk_nil (hr : (Region.ready .any ops listed).isEmpty = true) (h : Q .normal a w) : iWalk F n P ops Q 0 listed a w := by
  unfold iWalk; intro _
  exact ⟨by simpa using hr, h⟩
theorem iWalk_list (L : Array Bool) (e : listed = L) (h : iWalk F n P ops Q N L a w) : iWalk F n P ops Q N listed a w := by
  rw [e]
  exact h
/-- What the last operations ask, said once for all orders of those ahead. -/
theorem iWalk_cut (A : Act) (M : Nat) (L : Array Bool) (tail : iWalk F n P ops Q M L A w) (front : iWalk F n P ops Q M L A w → iWalk F n P ops Q N listed a w) : iWalk F n P ops Q N listed a w := front tail
/-- An operation that reads. -/
theorem opIn_read {o : Oper} {K : Act → World → Prop} {Q' : Exit → Act → World → Prop} (hro : F.round = none) (hab : o.about P w a.eval = none)
    (h : ∃ v, (execOp a.eval o).run P w = .ok (.value v) w ∧ K (a.put o.dst v) w) : o.wpIn F n P a w K Q' := by
  obtain ⟨v, hv, hk⟩ := h; refine ⟨fun f hf => (by rw [hab] at hf; cases hf), ?_⟩; rw [hro, Oper.semAt_none, hv]
  exact hk
/-- An operation that is a round of a loop over this iterator. -/
theorem opIn_round {o : Oper} {K : Act → World → Prop} {Q' : Exit → Act → World → Prop} {l f : Nat} {tmps : Array Value} {assign body : Code} (hro : F.round = none) (hab : o.about P w a.eval = none) (hn : 1 ≤ n)
    (hv : (execOp a.eval o).run P w = .ok (.round l f tmps assign body) w) (h : RoundIn F (n - 1) P l f tmps assign body w (fun e w'' => ∃ v, e = .returned v ∧ K (a.put o.dst v) w'')) : o.wpIn F n P a w K Q' := by
  refine ⟨fun f hf => (by rw [hab] at hf; cases hf), ?_⟩; rw [hro, Oper.semAt_none, hv]; refine ⟨fun _ => hn, RoundIn.mono h ?_⟩; rintro e w'' ⟨v, rfl, hk⟩
  exact hk
end
end Go.Proofs.Ytklldniapombiaa

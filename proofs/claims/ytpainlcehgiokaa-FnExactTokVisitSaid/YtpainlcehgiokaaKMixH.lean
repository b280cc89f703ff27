/-
  A region that draws its order and whose effects are forced into one order, in one sentence: as region_mix, and what only reads may come up where a chosen condition on the world holds throughout.
-/
import Derived.Test.YtpainlcehgiokaaKA
import Derived.OrdersHeld
namespace Go.Proofs.Ytpainlcehgiokaa
set_option maxRecDepth 100000
open Go.RowKit

def wpMixH (P : Program) (ops : Array Oper) (Q : Exit → Act → World → Prop) (S : World → Prop) : List (Nat × Bool) → Act → World → Prop
  | (k, true) :: fs, a, w => ∃ o v, ops[k]? = some o ∧ YieldsIf P ops S o v a ∧ wpMixH P ops Q S fs (a.put o.dst v) w
  | (k, false) :: fs, a, w => ∃ o, ops[k]? = some o ∧ if Region.wanted o (yielded ops a.tmps) = true then o.wp P a w (fun a' w' => S w' ∧ wpMixH P ops Q S fs a' w') Q else wpMixH P ops Q S fs (a.put o.dst undef) w
  | [], a, w => Q .normal a w

theorem wpAnyH_of_mix {P : Program} {ops : Array Oper} {Q : Exit → Act → World → Prop} {S : World → Prop} (hsel : Region.noSelect ops = true) (hQ : ∀ c (a : Act) d v w, Q (.panic c) (a.put d v) w → Q (.panic c) a w) :
    ∀ (fs : List (Nat × Bool)) (listed : Array Bool) (a : Act) (w : World), mixB ops fs listed = true → S w → wpMixH P ops Q S fs a w → wpAnyH P .any ops Q S fs.length listed a w
  | [], _, _, _, hB, _, h => ⟨by simpa [mixB] using hB, h⟩
  | (k, true) :: fs, listed, a, w, hB, hS, h => by
    simp only [mixB, Bool.and_eq_true] at hB
    obtain ⟨o, v, h0, hy, hn⟩ := h
    exact wpAnyH_take h0 hsel hB.1.2 hB.1.1.2 (fun c a w => hQ c a _ _ w) hy hS (wpAnyH_of_mix hsel hQ fs _ _ _ hB.2 hS hn)
  | (k, false) :: fs, listed, a, w, hB, hS, h => by
    simp only [mixB, Bool.and_eq_true, decide_eq_true_eq] at hB
    obtain ⟨o, h0, h⟩ := h
    refine wpAnyH_all hB.1.2 (by simp) fun i hi => ?_
    obtain rfl : i = k := by simpa using hi
    refine wpOp_mono (K := fun a' w' => S w' ∧ wpMixH P ops Q S fs a' w') (fun a' w' h' => ⟨h'.1, wpAnyH_of_mix hsel hQ fs _ _ _ hB.2 h'.1 h'.2⟩) ?_
    unfold wpOp
    simp only [h0]
    split
    · rename_i hw
      rw [if_pos hw] at h
      exact .inl h
    · rename_i hw
      rw [if_neg hw] at h
      exact ⟨hS, h⟩

/-- What is left to walk, kept shut. -/
@[irreducible] def mWalk (P : Program) (ops : Array Oper) (Q : Exit → Act → World → Prop) (S : World → Prop) (fs : List (Nat × Bool)) (a : Act) (w : World) : Prop := wpMixH P ops Q S fs a w

theorem region_mixH {P : Program} {id : Nat} {Q : Exit → Act → World → Prop} {a : Act} {w : World} {l : List Oper} (S : World → Prop) (fs : List (Nat × Bool)) (hm : P.follows .mixedOrders = true)
    (hB : (Region.noSelect l.toArray && decide (fs.length = l.length) && mixB l.toArray fs (Array.replicate l.toArray.size false)) = true) (hS : S w.drew)
    (h : mWalk P l.toArray (NoPanic Q) S fs a w.drew) : (Code.region id l.toArray true).wp P Q a w := by
  unfold mWalk at h
  simp only [Bool.and_eq_true, decide_eq_true_eq] at hB
  refine wp_region_noPanic (wp_region_held (S := S) hm ?_)
  have := wpAnyH_of_mix (P := P) (Q := NoPanic Q) hB.1.1 (fun _ _ _ _ _ h => h) fs _ a w.drew hB.2 hS h
  rw [hB.1.2] at this
  simpa using this

section
variable {P : Program} {ops : Array Oper} {Q : Exit → Act → World → Prop} {S : World → Prop} {fs : List (Nat × Bool)} {k : Nat} {o : Oper} {a : Act} {w : World}
theorem mixH_take (h0 : ops[k]? = some o) (hw : Region.wanted o (yielded ops a.tmps) = true) (h : ∃ v, (∀ w1, S w1 → (execOp a.eval o).run P w1 = .ok (.value v) w1) ∧ mWalk P ops Q S fs (a.put o.dst v) w) : mWalk P ops Q S ((k, true) :: fs) a w := by
  unfold mWalk at h ⊢
  obtain ⟨v, hv, hn⟩ := h
  exact ⟨o, v, h0, .inl ⟨hw, hv⟩, hn⟩
theorem mixH_skip {b : Bool} (h0 : ops[k]? = some o) (hw : Region.wanted o (yielded ops a.tmps) = false) (h : mWalk P ops Q S fs (a.put o.dst undef) w) : mWalk P ops Q S ((k, b) :: fs) a w := by
  unfold mWalk at h ⊢
  cases b
  · refine ⟨o, h0, ?_⟩
    rw [if_neg (by rw [hw]; exact Bool.false_ne_true)]
    exact h
  · exact ⟨o, undef, h0, .inr ⟨hw, rfl⟩, h⟩
theorem mixH_go (h0 : ops[k]? = some o) (hw : Region.wanted o (yielded ops a.tmps) = true) (h : ∀ K : Act → World → Prop, (∀ a w, S w → mWalk P ops Q S fs a w → K a w) → o.wp P a w K Q) : mWalk P ops Q S ((k, false) :: fs) a w := by
  unfold mWalk at h ⊢
  refine ⟨o, h0, ?_⟩
  rw [if_pos hw]
  exact h _ fun _ _ hs h => ⟨hs, h⟩
theorem mixH_nil (h : Q .normal a w) : mWalk P ops (NoPanic Q) S [] a w := by
  unfold mWalk
  exact h
end

end Go.Proofs.Ytpainlcehgiokaa

/-
  A region that draws its order and whose effects are forced into one order, in one sentence: one walk in the order of the text serves every order, where each operation yields in every world or is the only one that may come up.
-/
import Derived.Test.YtojnphchkdjafaaBase
import Derived.Deep.RegionHeld3
namespace Go.Proofs.Ytojnphchkdjafaa
set_option maxRecDepth 100000
open Go.RowKit

def mixB (ops : Array Oper) : List (Nat × Bool) → Array Bool → Bool
  | [], listed => (Region.ready .any ops listed).isEmpty
  | (k, true) :: fs, listed => decide (k < ops.size) && (Region.ready .any ops listed).contains k && Region.free .any ops listed k && mixB ops fs (listed.setIfInBounds k true)
  | (k, false) :: fs, listed => decide (k < ops.size) && decide (Region.ready .any ops listed = [k]) && mixB ops fs (listed.setIfInBounds k true)

def wpMix (P : Program) (ops : Array Oper) (Q : Exit → Act → World → Prop) : List (Nat × Bool) → Act → World → Prop
  | (k, true) :: fs, a, w => ∃ o v, ops[k]? = some o ∧ Yields P ops o v a ∧ wpMix P ops Q fs (a.put o.dst v) w
  | (k, false) :: fs, a, w => ∃ o, ops[k]? = some o ∧ if Region.wanted o (yielded ops a.tmps) = true then o.wp P a w (wpMix P ops Q fs) Q else wpMix P ops Q fs (a.put o.dst undef) w
  | [], a, w => Q .normal a w

theorem wpAny_of_mix {P : Program} {ops : Array Oper} {Q : Exit → Act → World → Prop} (hsel : Region.noSelect ops = true) (hQ : ∀ c (a : Act) d v w, Q (.panic c) (a.put d v) w → Q (.panic c) a w) :
    ∀ (fs : List (Nat × Bool)) (listed : Array Bool) (a : Act) (w : World), mixB ops fs listed = true → wpMix P ops Q fs a w → wpAny P .any ops Q fs.length listed a w
  | [], _, _, _, hB, h => ⟨by simpa [mixB] using hB, h⟩
  | (k, true) :: fs, listed, a, w, hB, h => by
    simp only [mixB, Bool.and_eq_true] at hB
    obtain ⟨o, v, h0, hy, hn⟩ := h
    exact wpAny_take h0 hsel hB.1.2 hB.1.1.2 (fun c a w => hQ c a _ _ w) hy (wpAny_of_mix hsel hQ fs _ _ _ hB.2 hn)
  | (k, false) :: fs, listed, a, w, hB, h => by
    simp only [mixB, Bool.and_eq_true, decide_eq_true_eq] at hB
    obtain ⟨o, h0, h⟩ := h
    refine wpAny_all hB.1.2 (by simp) fun i hi => ?_
    obtain rfl : i = k := by simpa using hi
    refine wpOp_mono (K := wpMix P ops Q fs) (fun a' w' h' => wpAny_of_mix hsel hQ fs _ _ _ hB.2 h') ?_
    unfold wpOp
    simp only [h0]
    split
    · rename_i hw
      rw [if_pos hw] at h
      exact .inl h
    · rename_i hw
      rw [if_neg hw] at h
      exact h

theorem region_mix {P : Program} {id : Nat} {Q : Exit → Act → World → Prop} {a : Act} {w : World} {l : List Oper} (fs : List (Nat × Bool)) (hm : P.follows .mixedOrders = true)
    (hB : (Region.noSelect l.toArray && decide (fs.length = l.length) && mixB l.toArray fs (Array.replicate l.toArray.size false)) = true)
    (h : wpMix P l.toArray (NoPanic Q) fs a w.drew) : (Code.region id l.toArray true).wp P Q a w := by
  simp only [Bool.and_eq_true, decide_eq_true_eq] at hB
  refine wp_region_noPanic (wp_region_any hm ?_)
  have := wpAny_of_mix (P := P) (Q := NoPanic Q) hB.1.1 (fun _ _ _ _ _ h => h) fs _ a w.drew hB.2 h
  rw [hB.1.2] at this
  simpa using this

section
variable {P : Program} {ops : Array Oper} {Q : Exit → Act → World → Prop} {fs : List (Nat × Bool)} {k : Nat} {o : Oper} {a : Act} {w : World}
theorem mix_take (h0 : ops[k]? = some o) (hw : Region.wanted o (yielded ops a.tmps) = true) (h : ∃ v, (∀ w1, (execOp a.eval o).run P w1 = .ok (.value v) w1) ∧ wpMix P ops Q fs (a.put o.dst v) w) : wpMix P ops Q ((k, true) :: fs) a w := by
  obtain ⟨v, hv, hn⟩ := h
  exact ⟨o, v, h0, .inl ⟨hw, hv⟩, hn⟩
theorem mix_skip {b : Bool} (h0 : ops[k]? = some o) (hw : Region.wanted o (yielded ops a.tmps) = false) (h : wpMix P ops Q fs (a.put o.dst undef) w) : wpMix P ops Q ((k, b) :: fs) a w := by
  cases b
  · refine ⟨o, h0, ?_⟩
    rw [if_neg (by rw [hw]; exact Bool.false_ne_true)]
    exact h
  · exact ⟨o, undef, h0, .inr ⟨hw, rfl⟩, h⟩
theorem mix_go (h0 : ops[k]? = some o) (hw : Region.wanted o (yielded ops a.tmps) = true) (h : ∀ K : Act → World → Prop, (∀ a w, wpMix P ops Q fs a w → K a w) → o.wp P a w K Q) : wpMix P ops Q ((k, false) :: fs) a w := by
  refine ⟨o, h0, ?_⟩
  rw [if_pos hw]
  exact h _ fun _ _ h => h
theorem mix_nil (h : Q .normal a w) : wpMix P ops (NoPanic Q) [] a w := h
end

end Go.Proofs.Ytojnphchkdjafaa

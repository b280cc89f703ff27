/-
  Values in new blocks, in one sentence: models, lists, results, new blocks that may be written, each kept as memory grows; no condition is made.
  What stands in the slots of FnExactTokVisit's regions, in one sentence: copies in new blocks, results, new blocks; no condition is made.
-/
import Derived.Test.YtpainlcehgiokaaKF
import Derived.Test.YtpainlcehgiokaaKR
import Derived.Test.YtpainlcehgiokaaKM
import Derived.Test.YtpainlcehgiokaaKP
namespace Go.Proofs.Ytpainlcehgiokaa
set_option maxRecDepth 100000
open Go.RowKit

/-- A model over new blocks, as a value. -/
def IsMdl (lo : Nat) (m : Mdl) (n k : Nat) (v : Value) (w : World) : Prop :=
  ∃ g1 g2, v = .agg #[.slice (some ⟨g1, 0, none⟩) n n, .slice (some ⟨g2, 0, none⟩) k k, .int .i64 m.til] ∧ lo ≤ g1 ∧ lo ≤ g2 ∧ RulzF w g1 n m.rules ∧ Own w g2 k m.starts
theorem IsMdl.up {lo : Nat} {m : Mdl} {n k : Nat} {v : Value} {w w' : World} (h : IsMdl lo m n k v w) (u : Up w w') : IsMdl lo m n k v w' := by
  obtain ⟨g1, g2, h0, h1, h2, h3, h4⟩ := h
  exact ⟨g1, g2, h0, h1, h2, h3.up u, h4.up' u⟩
/-- A list of events, as a value. -/
def IsList (out : List Evt) (v : Value) (w : World) : Prop := ∃ A c, v = .slice A out.length c ∧ out.length ≤ c ∧ c ≤ 9223372036854775807 ∧ Evs w A out.length out
theorem IsList.up {out : List Evt} {v : Value} {w w' : World} (h : IsList out v w) (u : Up w w') : IsList out v w' := by
  obtain ⟨A, c, h0, h1, h2, h3⟩ := h
  exact ⟨A, c, h0, h1, h2, h3.up u⟩
/-- .. in a block of the call's own. -/
def IsOwnL (lo : Nat) (out : List Evt) (v : Value) (w : World) : Prop := w.ownsRow lo 71 6 v out.length (flat out)
theorem IsOwnL.up {lo : Nat} {out : List Evt} {v : Value} {w w' : World} (h : IsOwnL lo out v w) (u : Up w w') : IsOwnL lo out v w' := own_up h u
theorem IsOwnL.list {lo : Nat} {out : List Evt} {v : Value} {w : World} (h : IsOwnL lo out v w) : IsList out v w := by
  obtain ⟨_, A, c, rfl, h1, h2⟩ := own_slice h
  exact ⟨A, c, rfl, h1, h2, own_evs h⟩
def IsDo (s : Cst) (out : List Evt) (v : Value) (w : World) : Prop := ∃ x, v = .tuple #[s.v, x] ∧ IsList out x w
theorem IsDo.up {s : Cst} {out : List Evt} {v : Value} {w w' : World} (h : IsDo s out v w) (u : Up w w') : IsDo s out v w' := by
  obtain ⟨x, h0, h1⟩ := h
  exact ⟨x, h0, h1.up u⟩
def IsDoO (lo : Nat) (s : Cst) (out : List Evt) (v : Value) (w : World) : Prop := ∃ x, v = .tuple #[s.v, x] ∧ IsOwnL lo out x w
theorem IsDoO.up {lo : Nat} {s : Cst} {out : List Evt} {v : Value} {w w' : World} (h : IsDoO lo s out v w) (u : Up w w') : IsDoO lo s out v w' := by
  obtain ⟨x, h0, h1⟩ := h
  exact ⟨x, h0, h1.up u⟩
/-- A new block of n cells of this type that may be written. -/
def NewB (n t lo : Nat) (v : Value) (w : World) : Prop :=
  ∃ (b : Nat) (xs : Array Value), v = .pointer (some ⟨b, 0, none⟩) ∧ lo ≤ b ∧ w.heap[b]? = some (.cells xs t) ∧ xs.size = n
theorem NewB.up {n t lo : Nat} {v : Value} {w w' : World} (h : NewB n t lo v w) (u : Up w w') : NewB n t lo v w' := by
  obtain ⟨b, xs, hv, h2, h3, h4⟩ := h
  exact ⟨b, xs, hv, h2, (u.below.block b (Array.getElem?_eq_some_iff.1 h3).1).trans h3, h4⟩
theorem NewB.new {lo : Nat} (w : World) (xs : Array Value) (t : TypeId) (n : Nat) (hn : xs.size = n) (hB : lo ≤ w.heap.size) : NewB n t lo (.pointer (some ⟨w.heap.size, 0, none⟩)) (w.alloc (.cells xs t)) :=
  ⟨w.heap.size, xs, rfl, hB, heap_alloc_new w (.cells xs t), hn⟩
theorem NewB.parts {n t lo : Nat} {v : Value} {w : World} (h : NewB n t lo v w) :
    ∃ b : Nat, v = .pointer (some ⟨b, 0, none⟩) ∧ lo ≤ b ∧ b < w.heap.size ∧ (∀ j, j < n → ∃ u, w.cell? ⟨b, j, none⟩ = some u) ∧ (∀ j, w.frozen? ⟨b, j, none⟩ = false) ∧ (∀ j, n ≤ j → w.cell? ⟨b, j, none⟩ = none) ∧ ∃ xs, w.heap[b]? = some (.cells xs t) := by
  obtain ⟨b, xs, hv, h2, h3, h4⟩ := h
  refine ⟨b, hv, h2, (Array.getElem?_eq_some_iff.1 h3).1, fun j hj => ?_, fun j => ?_, fun j hj => ?_, xs, h3⟩
  · exact ⟨_, by rw [cell_of_row _ _ j _ _ _ h3]; exact Array.getElem?_eq_getElem (by omega)⟩
  · unfold World.frozen?
    rw [h3]
    simp
  · rw [cell_of_row _ _ j _ _ _ h3]
    exact Array.getElem?_eq_none (by omega)
/-- A list of events lies elsewhere than in a block of few cells. -/
theorem Evs.far {w w' : World} {A : Option Addr} {n g k : Nat} {es : List Evt} (h : Evs w A n es) (m : Mv g w w') (hk : k ≤ 5) (hg : ∀ j, k ≤ j → w.cell? ⟨g, j, none⟩ = none) : Evs w' A n es :=
  ⟨h.1, fun hn => by
    obtain ⟨b, off, hA, hb, hc⟩ := h.2 hn
    have hbg : b ≠ g := by
      intro e
      subst e
      have := (hc 0 hn).2.2.2.2.2
      rw [hg _ (by omega)] at this
      cases this
    refine ⟨b, off, hA, Nat.lt_of_lt_of_le hb m.size, fun i hi => ?_⟩
    obtain ⟨h0, h1, h2, h3, h4, h5⟩ := hc i hi
    exact ⟨(m.cells _ _ hb hbg).trans h0, (m.cells _ _ hb hbg).trans h1, (m.cells _ _ hb hbg).trans h2, (m.cells _ _ hb hbg).trans h3, (m.cells _ _ hb hbg).trans h4, (m.cells _ _ hb hbg).trans h5⟩⟩
theorem Mv.grown {g : Nat} {w w' : World} (m : Mv g w w') : w.grownBy w' (some g) := ⟨m.os, m.tape, m.output, m.size, fun k hk hne => m.block k hk (fun e => hne (by rw [e]))⟩
/-- A list in a block of its own lies elsewhere than in a block of another type. -/
theorem own_far {w w' : World} {b e size n g t : Nat} {v : Value} {xs : List Value} (h : w.ownsRow b e size v n xs) (m : Mv g w w') (hg : ∃ cs, w.heap[g]? = some (.cells cs t)) (ht : t ≠ e) : w'.ownsRow b e size v n xs := by
  refine h.kept (row := some g) m.grown (.inr fun he => ?_)
  obtain ⟨_, h2⟩ := h
  rcases h2 with ⟨rfl, _⟩ | ⟨g', cap, cur, rfl, _, hh, _⟩
  · simp [Value.ownBlock] at he
  · simp [Value.ownBlock] at he
    subst he
    obtain ⟨cs, hcs⟩ := hg
    rw [hh] at hcs
    injection hcs with hcs
    injection hcs with _ h2
    exact ht h2.symm

theorem two_up {w w' : World} {b0 b1 : Nat} {x0 x1 x2 y0 y1 y2 : Value} (u : Up w w')
    (h : b0 < w.heap.size ∧ b1 < w.heap.size ∧ w.cell? ⟨b0, 0, none⟩ = some x0 ∧ w.cell? ⟨b0, 1, none⟩ = some x1 ∧ w.cell? ⟨b0, 2, none⟩ = some x2 ∧ w.cell? ⟨b1, 0, none⟩ = some y0 ∧ w.cell? ⟨b1, 1, none⟩ = some y1 ∧ w.cell? ⟨b1, 2, none⟩ = some y2) :
    b0 < w'.heap.size ∧ b1 < w'.heap.size ∧ w'.cell? ⟨b0, 0, none⟩ = some x0 ∧ w'.cell? ⟨b0, 1, none⟩ = some x1 ∧ w'.cell? ⟨b0, 2, none⟩ = some x2 ∧ w'.cell? ⟨b1, 0, none⟩ = some y0 ∧ w'.cell? ⟨b1, 1, none⟩ = some y1 ∧ w'.cell? ⟨b1, 2, none⟩ = some y2 := by
  obtain ⟨h0, h1, k0, k1, k2, l0, l1, l2⟩ := h
  have := u.size
  exact ⟨by omega, by omega, (u.cells _ _ h0).trans k0, (u.cells _ _ h0).trans k1, (u.cells _ _ h0).trans k2, (u.cells _ _ h1).trans l0, (u.cells _ _ h1).trans l1, (u.cells _ _ h1).trans l2⟩

end Go.Proofs.Ytpainlcehgiokaa

namespace Go.Proofs.Ytpainlcehgiokaa
set_option maxRecDepth 100000
open Go.RowKit

def vsA (lo : Nat) (m : Mdl) (n k : Nat) (VM VK VG VL VR R0 R1 R2 : Value) (d : Nat) (v : Value) (w : World) : Prop :=
  if d = 23 then v = VM else if d = 24 then IsMdl lo m n k v w else if d = 25 then v = VK else if d = 26 then v = VK else if d = 27 then v = VG else if d = 28 then v = VG else if d = 29 then v = VL else if d = 30 then v = VR else if d = 22 then v = VR else if d = 31 then v = R0 else if d = 32 then v = R1 else if d = 33 then v = R2 else if d = 10 then NewB 5 28 lo v w else if d = 11 then NewB 4 30 lo v w else True
theorem vsA_23 (lo : Nat) (m : Mdl) (n k : Nat) (VM VK VG VL VR R0 R1 R2 : Value) (v : Value) (w : World) : vsA lo m n k VM VK VG VL VR R0 R1 R2 23 v w = (v = VM) := by simp [vsA]
theorem vsA_24 (lo : Nat) (m : Mdl) (n k : Nat) (VM VK VG VL VR R0 R1 R2 : Value) (v : Value) (w : World) : vsA lo m n k VM VK VG VL VR R0 R1 R2 24 v w = (IsMdl lo m n k v w) := by simp [vsA]
theorem vsA_25 (lo : Nat) (m : Mdl) (n k : Nat) (VM VK VG VL VR R0 R1 R2 : Value) (v : Value) (w : World) : vsA lo m n k VM VK VG VL VR R0 R1 R2 25 v w = (v = VK) := by simp [vsA]
theorem vsA_26 (lo : Nat) (m : Mdl) (n k : Nat) (VM VK VG VL VR R0 R1 R2 : Value) (v : Value) (w : World) : vsA lo m n k VM VK VG VL VR R0 R1 R2 26 v w = (v = VK) := by simp [vsA]
theorem vsA_27 (lo : Nat) (m : Mdl) (n k : Nat) (VM VK VG VL VR R0 R1 R2 : Value) (v : Value) (w : World) : vsA lo m n k VM VK VG VL VR R0 R1 R2 27 v w = (v = VG) := by simp [vsA]
theorem vsA_28 (lo : Nat) (m : Mdl) (n k : Nat) (VM VK VG VL VR R0 R1 R2 : Value) (v : Value) (w : World) : vsA lo m n k VM VK VG VL VR R0 R1 R2 28 v w = (v = VG) := by simp [vsA]
theorem vsA_29 (lo : Nat) (m : Mdl) (n k : Nat) (VM VK VG VL VR R0 R1 R2 : Value) (v : Value) (w : World) : vsA lo m n k VM VK VG VL VR R0 R1 R2 29 v w = (v = VL) := by simp [vsA]
theorem vsA_30 (lo : Nat) (m : Mdl) (n k : Nat) (VM VK VG VL VR R0 R1 R2 : Value) (v : Value) (w : World) : vsA lo m n k VM VK VG VL VR R0 R1 R2 30 v w = (v = VR) := by simp [vsA]
theorem vsA_22 (lo : Nat) (m : Mdl) (n k : Nat) (VM VK VG VL VR R0 R1 R2 : Value) (v : Value) (w : World) : vsA lo m n k VM VK VG VL VR R0 R1 R2 22 v w = (v = VR) := by simp [vsA]
theorem vsA_31 (lo : Nat) (m : Mdl) (n k : Nat) (VM VK VG VL VR R0 R1 R2 : Value) (v : Value) (w : World) : vsA lo m n k VM VK VG VL VR R0 R1 R2 31 v w = (v = R0) := by simp [vsA]
theorem vsA_32 (lo : Nat) (m : Mdl) (n k : Nat) (VM VK VG VL VR R0 R1 R2 : Value) (v : Value) (w : World) : vsA lo m n k VM VK VG VL VR R0 R1 R2 32 v w = (v = R1) := by simp [vsA]
theorem vsA_33 (lo : Nat) (m : Mdl) (n k : Nat) (VM VK VG VL VR R0 R1 R2 : Value) (v : Value) (w : World) : vsA lo m n k VM VK VG VL VR R0 R1 R2 33 v w = (v = R2) := by simp [vsA]
theorem vsA_10 (lo : Nat) (m : Mdl) (n k : Nat) (VM VK VG VL VR R0 R1 R2 : Value) (v : Value) (w : World) : vsA lo m n k VM VK VG VL VR R0 R1 R2 10 v w = (NewB 5 28 lo v w) := by simp [vsA]
theorem vsA_11 (lo : Nat) (m : Mdl) (n k : Nat) (VM VK VG VL VR R0 R1 R2 : Value) (v : Value) (w : World) : vsA lo m n k VM VK VG VL VR R0 R1 R2 11 v w = (NewB 4 30 lo v w) := by simp [vsA]
theorem vsA_up (lo : Nat) (m : Mdl) (n k : Nat) (VM VK VG VL VR R0 R1 R2 : Value) (d : Nat) {v : Value} {w w' : World} (h : vsA lo m n k VM VK VG VL VR R0 R1 R2 d v w) (u : Up w w') : vsA lo m n k VM VK VG VL VR R0 R1 R2 d v w' := by
  unfold vsA at h ⊢
  by_cases h23 : d = 23
  · rw [if_pos h23] at h ⊢
    exact h
  rw [if_neg h23] at h ⊢
  by_cases h24 : d = 24
  · rw [if_pos h24] at h ⊢
    exact h.up u
  rw [if_neg h24] at h ⊢
  by_cases h25 : d = 25
  · rw [if_pos h25] at h ⊢
    exact h
  rw [if_neg h25] at h ⊢
  by_cases h26 : d = 26
  · rw [if_pos h26] at h ⊢
    exact h
  rw [if_neg h26] at h ⊢
  by_cases h27 : d = 27
  · rw [if_pos h27] at h ⊢
    exact h
  rw [if_neg h27] at h ⊢
  by_cases h28 : d = 28
  · rw [if_pos h28] at h ⊢
    exact h
  rw [if_neg h28] at h ⊢
  by_cases h29 : d = 29
  · rw [if_pos h29] at h ⊢
    exact h
  rw [if_neg h29] at h ⊢
  by_cases h30 : d = 30
  · rw [if_pos h30] at h ⊢
    exact h
  rw [if_neg h30] at h ⊢
  by_cases h22 : d = 22
  · rw [if_pos h22] at h ⊢
    exact h
  rw [if_neg h22] at h ⊢
  by_cases h31 : d = 31
  · rw [if_pos h31] at h ⊢
    exact h
  rw [if_neg h31] at h ⊢
  by_cases h32 : d = 32
  · rw [if_pos h32] at h ⊢
    exact h
  rw [if_neg h32] at h ⊢
  by_cases h33 : d = 33
  · rw [if_pos h33] at h ⊢
    exact h
  rw [if_neg h33] at h ⊢
  by_cases h10 : d = 10
  · rw [if_pos h10] at h ⊢
    exact h.up u
  rw [if_neg h10] at h ⊢
  by_cases h11 : d = 11
  · rw [if_pos h11] at h ⊢
    exact h.up u
  rw [if_neg h11] at h ⊢
  exact trivial
def vsB (lo : Nat) (VM VK VG VL VR R0 R1 R2 : Value) (d : Nat) (v : Value) (w : World) : Prop :=
  if d = 37 then v = VM else if d = 38 then v = VK else if d = 39 then v = VK else if d = 40 then v = VG else if d = 41 then v = VG else if d = 42 then v = VL else if d = 43 then v = VR else if d = 36 then v = VR else if d = 44 then v = R0 else if d = 45 then v = R1 else if d = 46 then v = R2 else if d = 14 then NewB 5 28 lo v w else if d = 15 then NewB 4 30 lo v w else True
theorem vsB_37 (lo : Nat) (VM VK VG VL VR R0 R1 R2 : Value) (v : Value) (w : World) : vsB lo VM VK VG VL VR R0 R1 R2 37 v w = (v = VM) := by simp [vsB]
theorem vsB_38 (lo : Nat) (VM VK VG VL VR R0 R1 R2 : Value) (v : Value) (w : World) : vsB lo VM VK VG VL VR R0 R1 R2 38 v w = (v = VK) := by simp [vsB]
theorem vsB_39 (lo : Nat) (VM VK VG VL VR R0 R1 R2 : Value) (v : Value) (w : World) : vsB lo VM VK VG VL VR R0 R1 R2 39 v w = (v = VK) := by simp [vsB]
theorem vsB_40 (lo : Nat) (VM VK VG VL VR R0 R1 R2 : Value) (v : Value) (w : World) : vsB lo VM VK VG VL VR R0 R1 R2 40 v w = (v = VG) := by simp [vsB]
theorem vsB_41 (lo : Nat) (VM VK VG VL VR R0 R1 R2 : Value) (v : Value) (w : World) : vsB lo VM VK VG VL VR R0 R1 R2 41 v w = (v = VG) := by simp [vsB]
theorem vsB_42 (lo : Nat) (VM VK VG VL VR R0 R1 R2 : Value) (v : Value) (w : World) : vsB lo VM VK VG VL VR R0 R1 R2 42 v w = (v = VL) := by simp [vsB]
theorem vsB_43 (lo : Nat) (VM VK VG VL VR R0 R1 R2 : Value) (v : Value) (w : World) : vsB lo VM VK VG VL VR R0 R1 R2 43 v w = (v = VR) := by simp [vsB]
theorem vsB_36 (lo : Nat) (VM VK VG VL VR R0 R1 R2 : Value) (v : Value) (w : World) : vsB lo VM VK VG VL VR R0 R1 R2 36 v w = (v = VR) := by simp [vsB]
theorem vsB_44 (lo : Nat) (VM VK VG VL VR R0 R1 R2 : Value) (v : Value) (w : World) : vsB lo VM VK VG VL VR R0 R1 R2 44 v w = (v = R0) := by simp [vsB]
theorem vsB_45 (lo : Nat) (VM VK VG VL VR R0 R1 R2 : Value) (v : Value) (w : World) : vsB lo VM VK VG VL VR R0 R1 R2 45 v w = (v = R1) := by simp [vsB]
theorem vsB_46 (lo : Nat) (VM VK VG VL VR R0 R1 R2 : Value) (v : Value) (w : World) : vsB lo VM VK VG VL VR R0 R1 R2 46 v w = (v = R2) := by simp [vsB]
theorem vsB_14 (lo : Nat) (VM VK VG VL VR R0 R1 R2 : Value) (v : Value) (w : World) : vsB lo VM VK VG VL VR R0 R1 R2 14 v w = (NewB 5 28 lo v w) := by simp [vsB]
theorem vsB_15 (lo : Nat) (VM VK VG VL VR R0 R1 R2 : Value) (v : Value) (w : World) : vsB lo VM VK VG VL VR R0 R1 R2 15 v w = (NewB 4 30 lo v w) := by simp [vsB]
theorem vsB_up (lo : Nat) (VM VK VG VL VR R0 R1 R2 : Value) (d : Nat) {v : Value} {w w' : World} (h : vsB lo VM VK VG VL VR R0 R1 R2 d v w) (u : Up w w') : vsB lo VM VK VG VL VR R0 R1 R2 d v w' := by
  unfold vsB at h ⊢
  by_cases h37 : d = 37
  · rw [if_pos h37] at h ⊢
    exact h
  rw [if_neg h37] at h ⊢
  by_cases h38 : d = 38
  · rw [if_pos h38] at h ⊢
    exact h
  rw [if_neg h38] at h ⊢
  by_cases h39 : d = 39
  · rw [if_pos h39] at h ⊢
    exact h
  rw [if_neg h39] at h ⊢
  by_cases h40 : d = 40
  · rw [if_pos h40] at h ⊢
    exact h
  rw [if_neg h40] at h ⊢
  by_cases h41 : d = 41
  · rw [if_pos h41] at h ⊢
    exact h
  rw [if_neg h41] at h ⊢
  by_cases h42 : d = 42
  · rw [if_pos h42] at h ⊢
    exact h
  rw [if_neg h42] at h ⊢
  by_cases h43 : d = 43
  · rw [if_pos h43] at h ⊢
    exact h
  rw [if_neg h43] at h ⊢
  by_cases h36 : d = 36
  · rw [if_pos h36] at h ⊢
    exact h
  rw [if_neg h36] at h ⊢
  by_cases h44 : d = 44
  · rw [if_pos h44] at h ⊢
    exact h
  rw [if_neg h44] at h ⊢
  by_cases h45 : d = 45
  · rw [if_pos h45] at h ⊢
    exact h
  rw [if_neg h45] at h ⊢
  by_cases h46 : d = 46
  · rw [if_pos h46] at h ⊢
    exact h
  rw [if_neg h46] at h ⊢
  by_cases h14 : d = 14
  · rw [if_pos h14] at h ⊢
    exact h.up u
  rw [if_neg h14] at h ⊢
  by_cases h15 : d = 15
  · rw [if_pos h15] at h ⊢
    exact h.up u
  rw [if_neg h15] at h ⊢
  exact trivial

theorem pairs_two {P : Nat → Nat → Prop} {a b c : Nat} (h1 : P a b) (h2 : P a c) : ∀ x : Nat × Nat, x ∈ [(a, b), (a, c)] → P x.1 x.2 := by
  intro x hx
  simp only [List.mem_cons, List.not_mem_nil, or_false] at hx
  rcases hx with rfl | rfl
  · exact h1
  · exact h2

end Go.Proofs.Ytpainlcehgiokaa

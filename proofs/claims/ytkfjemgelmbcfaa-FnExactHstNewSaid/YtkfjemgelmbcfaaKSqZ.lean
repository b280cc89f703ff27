/-
  The simulator that has done nothing, in one sentence: what it is, that it is one of its model, and that both SeqNew give it; for every model.
-/
import Derived.Test.YtkfjemgelmbcfaaKZ2
import Derived.Test.YtkfjemgelmbcfaaKZ3
namespace Go.Proofs.Ytkfjemgelmbcfaa
set_option maxRecDepth 100000
open Go.RowKit

theorem zero_get (N j : Nat) (hj : j < N) : (madeCells #[.int .i64 0, .int .i64 0, .int .i64 0] N)[j]? = some (.int .i64 0) := by
  unfold madeCells
  rw [Array.getElem?_map, Array.getElem?_range, if_pos hj]
  have h3 : j % 3 = 0 ∨ j % 3 = 1 ∨ j % 3 = 2 := by omega
  rcases h3 with h | h | h
  · simp [h]
  · simp [h]
  · simp [h]
/-- The simulator that has done nothing. -/
def sq0 (m : Mdl) : Sq := ⟨List.replicate (if mdlB m = true then m.rules.length else 0) ⟨0, 0, 0⟩, if mdlB m = true then m.starts else [], []⟩
theorem sq0_few (m : Mdl) : (sq0 m).comps.length ≤ 4 ∧ (sq0 m).wait.length ≤ 6 := by
  unfold sq0
  by_cases h : mdlB m = true
  · have h1 := mdlB_few h
    have h2 := mdlB_starts h
    simp only [if_pos h, List.length_replicate]
    omega
  · simp [if_neg h]
/-- What SeqNew gives is that. -/
theorem SqRes.val {lo : Nat} {m : Mdl} {v : Value} {w : World} (h : SqRes lo m v w) :
    ∃ Ac cc Aw cw, v = .agg #[.slice Ac (sq0 m).comps.length cc, .slice Aw (sq0 m).wait.length cw, .slice none 0 0] ∧ SqV w Ac (sq0 m).comps.length Aw (sq0 m).wait.length none 0 (sq0 m) := by
  obtain ⟨vc, vw, rfl, hc, hw⟩ := h
  obtain ⟨_, Aw, cw, rfl, _, _⟩ := own_slice hw
  have hE := own_evs hw
  have hl : (sq0 m).comps.length = (if mdlB m = true then m.rules.length else 0) := by simp [sq0]
  rcases hc with ⟨hk, rfl⟩ | ⟨g, rfl, hg, hh⟩
  · have hl0 : (sq0 m).comps.length = 0 := by rw [hl, hk]
    rw [hl0]
    exact ⟨none, 0, Aw, cw, rfl, ⟨by rw [← hl0]; exact ⟨rfl, fun h => absurd h (by omega)⟩, hE, ⟨rfl, fun h => absurd h (by omega)⟩⟩⟩
  · rw [hl]
    refine ⟨some ⟨g, 0, none⟩, _, Aw, cw, rfl, ⟨⟨hl, fun _ => ⟨g, 0, rfl, (Array.getElem?_eq_some_iff.1 hh).1, fun i hi => ?_⟩⟩, hE, ⟨rfl, fun h => absurd h (by omega)⟩⟩⟩
    have e : (sq0 m).comps.getD i default = ⟨0, 0, 0⟩ := by simp [sq0, List.getD, hi]
    rw [e]
    refine ⟨?_, ?_, ?_⟩
    · rw [cell_of_row _ _ _ _ _ _ hh]; exact zero_get _ _ (by omega)
    · rw [cell_of_row _ _ _ _ _ _ hh]; exact zero_get _ _ (by omega)
    · rw [cell_of_row _ _ _ _ _ _ hh]; exact zero_get _ _ (by omega)
def SqZ (m : Mdl) (w : World) (x : Ending) (w' : World) : Prop :=
  ∃ Ac cc Aw cw, x = .returned (.agg #[.slice Ac (sq0 m).comps.length cc, .slice Aw (sq0 m).wait.length cw, .slice none 0 0]) ∧ SqV w' Ac (sq0 m).comps.length Aw (sq0 m).wait.length none 0 (sq0 m) ∧ Up w w'
theorem specSqZ_any (A : Option Addr) (n c : Nat) (B : Option Addr) (k d : Nat) (m : Mdl) (w : World) (hM : MdlV w A n B k m) :
    Calls Try.prog 41 #[.agg #[.slice A n c, .slice B k d, .int .i64 m.til]] w (SqZ m w) :=
  (specSeqNew_any A n c B k d m w hM).mono fun x w' h => by
    obtain ⟨v, rfl, hr, u⟩ := h
    obtain ⟨Ac, cc, Aw, cw, rfl, hv⟩ := hr.val
    exact ⟨Ac, cc, Aw, cw, rfl, hv, u⟩
theorem implSqZ_any (A : Option Addr) (n c : Nat) (B : Option Addr) (k d : Nat) (m : Mdl) (w : World) (hM : MdlV w A n B k m) :
    Calls Try.prog 42 #[.agg #[.slice A n c, .slice B k d, .int .i64 m.til]] w (SqZ m w) :=
  (implSeqNew_any A n c B k d m w hM).mono fun x w' h => by
    obtain ⟨v, rfl, hr, u⟩ := h
    obtain ⟨Ac, cc, Aw, cw, rfl, hv⟩ := hr.val
    exact ⟨Ac, cc, Aw, cw, rfl, hv, u⟩
theorem sq0_in {m : Mdl} (h : mdlB m = true) : sq0 m = ⟨List.replicate m.rules.length ⟨0, 0, 0⟩, m.starts, []⟩ := by
  unfold sq0
  rw [if_pos h, if_pos h]
theorem sq0_out {m : Mdl} (h : mdlB m = false) : sq0 m = ⟨[], [], []⟩ := by
  unfold sq0
  simp [h]

end Go.Proofs.Ytkfjemgelmbcfaa

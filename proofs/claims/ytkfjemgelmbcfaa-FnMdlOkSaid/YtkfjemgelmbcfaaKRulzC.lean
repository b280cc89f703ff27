/-
  A model's rows as a list of slices that can be copied, in one sentence: what stands in the row's cells; and an empty literal of any element.
-/
import Derived.Test.YtkfjemgelmbcfaaKAppZ
import Derived.Test.YtkfjemgelmbcfaaKA
namespace Go.Proofs.Ytkfjemgelmbcfaa
set_option maxRecDepth 100000
open Go.RowKit

theorem lit_new (w : World) (e size : Nat) {lo : Nat} (h : lo ≤ w.heap.size) : (w.alloc (.cells #[] e)).ownsRow lo e size (.slice (some ⟨w.heap.size, 0, none⟩) 0 0) 0 [] :=
  ⟨by simp, .inr ⟨_, 0, #[], rfl, h, heap_alloc_new _ _, by omega, by simp only [maxLen]; omega, by simp, by simp⟩⟩
theorem zeros_one (k : Nat) : ∀ u ∈ (Builtin.zeroCells (Value.slice none 0 0).cells k).toList, u.oneCell' = true := by
  intro u hu
  unfold Builtin.zeroCells at hu
  rw [Array.toList_map] at hu
  obtain ⟨i, _, rfl⟩ := List.mem_map.1 hu
  have : i % (Value.slice none 0 0).cells.size = 0 := by
    show i % 1 = 0
    omega
  rw [this]
  rfl
/-- The rows' slices, one a component. -/
structure RowsAt (w : World) (A : Option Addr) (n : Nat) (rss : List (List Rule)) (news : List Value) : Prop where
  reads : Reads w w.heap.size 1 A n news
  one : ∀ u ∈ news, u.oneCell' = true
  row : ∀ i, i < n → ∃ A' n' c', news[i]? = some (.slice A' n' c') ∧ Rules w A' n' (rss.getD i [])
theorem rulz_rows {w : World} {A : Option Addr} {n : Nat} {rss : List (List Rule)} (h : Rulz w A n rss) : ∃ news, RowsAt w A n rss news := by
  rcases Nat.eq_zero_or_pos n with h0 | h0
  · subst h0
    exact ⟨[], ⟨⟨by simp, fun h => absurd h (by omega)⟩, (fun u hu => by cases hu), fun i hi => absurd hi (by omega)⟩⟩
  · obtain ⟨b, off, rfl, hb, hat⟩ := h.2.2 h0
    have key : ∀ i, i < n → ((List.range n).map (fun i => (w.cell? ⟨b, off + i, none⟩).getD (.bool false)))[i]? = w.cell? ⟨b, off + i, none⟩ := by
      intro i hi
      obtain ⟨A', n', c', hc, _⟩ := hat i hi
      rw [List.getElem?_map, List.getElem?_range hi, hc]
      simp [hc]
    refine ⟨(List.range n).map (fun i => (w.cell? ⟨b, off + i, none⟩).getD (.bool false)), ⟨by simp, fun _ => ⟨_, rfl, hb, ?_⟩⟩, ?_, ?_⟩
    · intro j u hu
      have hj : j < n := by
        have := (List.getElem?_eq_some_iff.1 hu).1
        simpa using this
      rw [key j hj] at hu
      rw [← hu]
      congr 1
      unfold Addr.add
      split <;> simp_all
    · intro u hu
      obtain ⟨i, hi, rfl⟩ := List.mem_map.1 hu
      obtain ⟨A', n', c', hc, _⟩ := hat i (List.mem_range.1 hi)
      rw [hc]
      rfl
    · intro i hi
      obtain ⟨A', n', c', hc, hR⟩ := hat i hi
      exact ⟨A', n', c', by rw [key i hi, hc], hR⟩

end Go.Proofs.Ytkfjemgelmbcfaa

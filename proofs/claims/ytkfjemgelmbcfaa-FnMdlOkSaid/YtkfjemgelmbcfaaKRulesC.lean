/-
  A component's rules as a list of cells that can be copied, in one sentence: what stands in the cells, the first rule laid behind them once more, and the rules read off again.
-/
import Derived.Test.YtkfjemgelmbcfaaKRowM
namespace Go.Proofs.Ytkfjemgelmbcfaa
set_option maxRecDepth 100000
open Go.RowKit

structure RowCells (w : World) (n : Nat) (rs : List Rule) (xs : List Value) : Prop where
  len : xs.length = n * 5
  num : rs.length = n
  big : n ≤ 9223372036854775807
  one : ∀ u ∈ xs, u.oneCell' = true
  cell : ∀ i, i < n → ∃ A k c, (xs[i * 5]? = some (.int .i64 (rs.getD i default).kd) ∧ xs[i * 5 + 1]? = some (.int .i64 (rs.getD i default).a) ∧ xs[i * 5 + 2]? = some (.int .i64 (rs.getD i default).b) ∧ xs[i * 5 + 3]? = some (.int .i64 (rs.getD i default).c) ∧ xs[i * 5 + 4]? = some (.slice A k c)) ∧
    k ≤ 9223372036854775807 ∧ Evs w A k (rs.getD i default).sends
theorem RowCells.up {w w' : World} {n : Nat} {rs : List Rule} {xs : List Value} (h : RowCells w n rs xs) (u : Up w w') : RowCells w' n rs xs :=
  ⟨h.len, h.num, h.big, h.one, fun i hi => by
    obtain ⟨A, k, c, hc, hk, hE⟩ := h.cell i hi
    exact ⟨A, k, c, hc, hk, hE.up u⟩⟩
theorem rules_cells {w : World} {A : Option Addr} {n : Nat} {rs : List Rule} (h : Rules w A n rs) (h0 : 0 < n) : ∃ xs, Reads w w.heap.size 5 A n xs ∧ RowCells w n rs xs := by
  obtain ⟨b, off, rfl, hb, hat⟩ := h.2.2 h0
  have ex : ∀ t, t < n * 5 → ∃ u, w.cell? ⟨b, off + t, none⟩ = some u ∧ u.oneCell' = true := by
    intro t ht
    obtain ⟨A, k, c, ⟨h0, h1, h2, h3, h4⟩, _, _⟩ := hat (t / 5) (by omega)
    have ht5 : t % 5 = 0 ∨ t % 5 = 1 ∨ t % 5 = 2 ∨ t % 5 = 3 ∨ t % 5 = 4 := by omega
    rcases ht5 with e | e | e | e | e
    · rw [show off + t = off + t / 5 * 5 by omega]; exact ⟨_, h0, rfl⟩
    · rw [show off + t = off + t / 5 * 5 + 1 by omega]; exact ⟨_, h1, rfl⟩
    · rw [show off + t = off + t / 5 * 5 + 2 by omega]; exact ⟨_, h2, rfl⟩
    · rw [show off + t = off + t / 5 * 5 + 3 by omega]; exact ⟨_, h3, rfl⟩
    · rw [show off + t = off + t / 5 * 5 + 4 by omega]; exact ⟨_, h4, rfl⟩
  have key : ∀ t, t < n * 5 → ((List.range (n * 5)).map (fun t => (w.cell? ⟨b, off + t, none⟩).getD (.bool false)))[t]? = w.cell? ⟨b, off + t, none⟩ := by
    intro t ht
    obtain ⟨u, hu, _⟩ := ex t ht
    rw [List.getElem?_map, List.getElem?_range ht, hu]
    simp [hu]
  refine ⟨(List.range (n * 5)).map (fun t => (w.cell? ⟨b, off + t, none⟩).getD (.bool false)), ⟨by simp, fun _ => ⟨_, rfl, hb, ?_⟩⟩, ⟨by simp, h.1, h.2.1, ?_, ?_⟩⟩
  · intro t u hu
    have ht : t < n * 5 := by
      have := (List.getElem?_eq_some_iff.1 hu).1
      simpa using this
    rw [key t ht] at hu
    rw [← hu]
    congr 1
    unfold Addr.add
    split <;> simp_all
  · intro u hu
    obtain ⟨t, ht, rfl⟩ := List.mem_map.1 hu
    obtain ⟨u, hu, h1⟩ := ex t (List.mem_range.1 ht)
    rw [hu]
    exact h1
  · intro i hi
    obtain ⟨A, k, c, ⟨h0, h1, h2, h3, h4⟩, hk, hE⟩ := hat i hi
    refine ⟨A, k, c, ⟨?_, ?_, ?_, ?_, ?_⟩, hk, hE⟩
    · rw [key _ (by omega)]; exact h0
    · rw [key _ (by omega)]; exact h1
    · rw [key _ (by omega)]; exact h2
    · rw [key _ (by omega)]; exact h3
    · rw [key _ (by omega)]; exact h4
theorem RowCells.snoc {w : World} {n : Nat} {r : Rule} {rs : List Rule} {xs : List Value} (h : RowCells w n (r :: rs) xs) (hb : n < 1000000) : RowCells w (n + 1) ((r :: rs) ++ [r]) (xs ++ xs.take 5) := by
  have hn : (r :: rs).length = n := h.num
  have hn0 : 0 < n := by rw [← hn]; simp
  have hl := h.len
  have l5 : (xs.take 5).length = 5 := by rw [List.length_take]; omega
  refine ⟨by rw [List.length_append, l5, hl]; omega, by rw [List.length_append, hn]; rfl, by omega, ?_, ?_⟩
  · intro u hu
    rcases List.mem_append.1 hu with hu | hu
    · exact h.one u hu
    · exact h.one u (List.mem_of_mem_take hu)
  · intro i hi
    by_cases hin : i < n
    · obtain ⟨A, k, c, ⟨h0, h1, h2, h3, h4⟩, hk, hE⟩ := h.cell i hin
      have e : ((r :: rs) ++ [r]).getD i default = (r :: rs).getD i default := by
        simp only [List.getD]
        rw [List.getElem?_append_left (by omega)]
      rw [e]
      refine ⟨A, k, c, ⟨?_, ?_, ?_, ?_, ?_⟩, hk, hE⟩
      all_goals
        rw [List.getElem?_append_left (by omega)]
        assumption
    · have e1 : i = n := by omega
      subst e1
      obtain ⟨A, k, c, ⟨h0, h1, h2, h3, h4⟩, hk, hE⟩ := h.cell 0 hn0
      have e : ((r :: rs) ++ [r]).getD i default = (r :: rs).getD 0 default := by
        simp only [List.getD]
        rw [List.getElem?_append_right (by omega), hn]
        simp
      rw [e]
      refine ⟨A, k, c, ⟨?_, ?_, ?_, ?_, ?_⟩, hk, hE⟩
      all_goals rw [List.getElem?_append_right (by omega), hl, List.getElem?_take]
      · simpa using h0
      · simpa [show i * 5 + 1 - i * 5 = 1 by omega] using h1
      · simpa [show i * 5 + 2 - i * 5 = 2 by omega] using h2
      · simpa [show i * 5 + 3 - i * 5 = 3 by omega] using h3
      · simpa [show i * 5 + 4 - i * 5 = 4 by omega] using h4
theorem rules_of_own {w : World} {base n c : Nat} {A : Option Addr} {rs : List Rule} {xs : List Value} (h : RowCells w n rs xs) (ho : w.ownsRow base 33 5 (.slice A n c) n xs) : Rules w A n rs := by
  refine ⟨h.num, h.big, fun h0 => ?_⟩
  obtain ⟨g, cap, hv, _, hlt⟩ := ho.form h0
  have hA : A = some ⟨g, 0, none⟩ := by injection hv
  subst hA
  have hc : ∀ j u, xs[j]? = some u → w.cell? ⟨g, 0 + j, none⟩ = some u := by
    intro j u hu
    have := ho.cells (g := g) rfl j u hu
    rw [← this]
    congr 1
    unfold Addr.add
    split <;> simp_all
  refine ⟨g, 0, rfl, hlt, fun i hi => ?_⟩
  obtain ⟨A, k, c, ⟨h0, h1, h2, h3, h4⟩, hk, hE⟩ := h.cell i hi
  exact ⟨A, k, c, ⟨hc _ _ h0, hc _ _ h1, hc _ _ h2, hc _ _ h3, hc _ _ h4⟩, hk, hE⟩
theorem own_blk {w w' : World} {base e size n c g : Nat} {xs : List Value} (h : w.ownsRow base e size (.slice (some ⟨g, 0, none⟩) n c) n xs) (hb : w'.heap[g]? = w.heap[g]?) : w'.ownsRow base e size (.slice (some ⟨g, 0, none⟩) n c) n xs := by
  refine ⟨h.1, ?_⟩
  rcases h.2 with ⟨h0, _⟩ | ⟨g', cap, cur, hv, hB, hg, hr⟩
  · cases h0
  · have hgg : g = g' := by
      injection hv with hA
      injection hA with hA
      injection hA
    subst hgg
    exact .inr ⟨g, cap, cur, hv, hB, hb.trans hg, hr⟩

end Go.Proofs.Ytkfjemgelmbcfaa

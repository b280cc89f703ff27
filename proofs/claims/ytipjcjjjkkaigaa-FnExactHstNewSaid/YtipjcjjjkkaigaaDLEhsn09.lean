/-
  A step that makes blocks and may lay one given row of seven cells behind the first ones of a new row, in one sentence: what it keeps; and the append that is such a step.
-/
import Derived.Test.YtipjcjjjkkaigaaDLEhsn02
import Derived.Test.YtipjcjjjkkaigaaDLEhsn08
namespace Go.Proofs.Ytipjcjjjkkaigaa
set_option maxRecDepth 100000
open Go.RowKit
/-- Blocks are as they were, but that a block of that element from B0 on may get this row behind its first n rows. -/
structure MG (e B0 n : Nat) (row : List Value) (w w' : World) : Prop where
  os : w'.os = w.os
  tape : w'.tape = w.tape
  output : w'.output = w.output
  size : w.heap.size ≤ w'.heap.size
  block : ∀ k, k < w.heap.size → w'.heap[k]? = w.heap[k]? ∨ (0 < n ∧ B0 ≤ k ∧ ∃ cur cur' : Array Value, w.heap[k]? = some (.cells cur e (0, 0)) ∧ w'.heap[k]? = some (.cells cur' e (0, 0)) ∧ (n + 1) * 7 ≤ cur.size ∧ cur'.size = cur.size ∧ cur'.toList.take ((n + 1) * 7) = cur.toList.take (n * 7) ++ row)
section
variable {e B0 n : Nat} {row : List Value} {w w' : World}
theorem MG.of_up (u : Up w w') : MG e B0 n row w w' := ⟨u.below.os, u.below.tape, u.below.output, u.size, fun k hk => .inl (u.below.block k hk)⟩
/-- A row of the first n rows is as it was. -/
theorem MG.own (h : MG e B0 n row w w') {v : Value} {xs : List Value} (hx : xs.length = n * 7) (ho : w.ownsRow B0 e 7 v n xs) : w'.ownsRow B0 e 7 v n xs := by
  refine ⟨ho.1, ?_⟩
  rcases ho.2 with h0 | ⟨g, cap, cur, hv, hB, hg, hnc, hcm, hcs, ht⟩
  · exact .inl h0
  · have hlt := (Array.getElem?_eq_some_iff.1 hg).1
    rcases h.block g hlt with e0 | ⟨_, _, c1, c2, e1, e2, hs, hs2, htk⟩
    · exact .inr ⟨g, cap, cur, hv, hB, e0.trans hg, hnc, hcm, hcs, ht⟩
    · rw [hg] at e1
      injection e1 with e1
      injection e1 with e1
      subst e1; refine .inr ⟨g, cap, c2, hv, hB, e2, hnc, hcm, by omega, ?_⟩
      have : c2.toList.take (n * 7) = (c2.toList.take ((n + 1) * 7)).take (n * 7) := by rw [List.take_take]; congr 1; omega
      rw [this, htk, ht, List.take_left' hx]
/-- A row whose last row is this one is as it was. -/
theorem MG.own1 (h : MG e B0 n row w w') {v : Value} {xs : List Value} (hx : xs.length = n * 7) (ho : w.ownsRow B0 e 7 v (n + 1) (xs ++ row)) : w'.ownsRow B0 e 7 v (n + 1) (xs ++ row) := by
  refine ⟨ho.1, ?_⟩
  rcases ho.2 with h0 | ⟨g, cap, cur, hv, hB, hg, hnc, hcm, hcs, ht⟩
  · exact .inl h0
  · have hlt := (Array.getElem?_eq_some_iff.1 hg).1
    rcases h.block g hlt with e0 | ⟨_, _, c1, c2, e1, e2, hs, hs2, htk⟩
    · exact .inr ⟨g, cap, cur, hv, hB, e0.trans hg, hnc, hcm, hcs, ht⟩
    · rw [hg] at e1
      injection e1 with e1
      injection e1 with e1
      subst e1; refine .inr ⟨g, cap, c2, hv, hB, e2, hnc, hcm, by omega, ?_⟩
      have : cur.toList.take (n * 7) = xs := by
        have : cur.toList.take (n * 7) = (cur.toList.take ((n + 1) * 7)).take (n * 7) := by rw [List.take_take]; congr 1; omega
        rw [this, ht, List.take_left' hx]
      rw [htk, this]
/-- A block that is too small for such a row is as it was. -/
theorem MG.small (h : MG e B0 n row w w') {g : Nat} {cur : Array Value} (hg : w.heap[g]? = some (.cells cur e (0, 0))) (hs : 0 < n → cur.size < (n + 1) * 7) : w'.heap[g]? = some (.cells cur e (0, 0)) := by
  rcases h.block g (Array.getElem?_eq_some_iff.1 hg).1 with e0 | ⟨hn0, _, c1, c2, e1, _, hs1, _⟩
  · exact e0.trans hg
  · rw [hg] at e1
    injection e1 with e1
    injection e1 with e1
    subst e1
    have := hs hn0
    omega
/-- The append of one row is such a step. -/
theorem run_append_mg {P : Program} (t ty : TypeId) (i : TypeInfo) (z : Value) (bytes : Nat) (ht : P.underlying t = some (.slice e)) (hi : P.info? e = some i) (hz : i.zero = some z)
    (hsize : i.size = 7) (hby : i.bytes = bytes) (hzs : z.cells.size = 7) (v : Value) (xs : List Value) (hn : 0 < n ∨ v = .slice none 0 0) (hown : w.ownsRow B0 e 7 v n xs)
    (B : Nat) (A : Option Addr) (c : Nat) (hr : Reads w B 7 A 1 row) (h1 : ∀ u ∈ row, u.oneCell' = true) (h63 : n + 1 ≤ maxLen) (hbytes : (n + 1) * bytes ≤ 140737488355328) (hbase : B0 ≤ w.heap.size) :
    ∃ v' w', (Builtin.append_ #[t, t] ty #[v, .slice A 1 c]).run P w = .ok v' w' ∧ w'.ownsRow B0 e 7 v' (n + 1) (xs ++ row) ∧ MG e B0 n row w w' := by
  obtain ⟨ad, rfl, _, hcells⟩ := hr.2 (by omega)
  have hrl : row.length = 7 := by have := hr.1; omega
  have hxl := hown.1
  rcases hown.2 with ⟨rfl, rfl⟩ | ⟨g, cap, cur, rfl, hB, hg, hnc, hcm, hcs, htk⟩
  · obtain ⟨v', w', hrun, h2, h3, h4⟩ := run_append_any (P := P) w B0 t ty e i z 7 bytes ht hi hz hsize hby hzs (by omega) (.slice none 0 0) 0 xs hown B (some ad) 1 c row hr h1 h63 hbytes hbase
    exact ⟨v', w', hrun, h2, MG.of_up (Up.grown (Up.refl w) h3 (fun k hk => by cases hk))⟩
  · by_cases hroom : n + 1 ≤ cap
    · have hsz : (n + 1) * 7 ≤ cur.size := by rw [hcs]; exact Nat.mul_le_mul_right _ hroom
      have hrun := run_append_room (P := P) w t ty e i ht hi g n cap cur hg ad 1 c row (by rw [hsize, hrl]) hcells h1 hroom (by rw [hsize, hrl]; omega)
      rw [hsize, htk] at hrun
      have hnew := setRow_heap w g cur (xs ++ row ++ cur.toList.drop (n * 7 + row.length)).toArray e _ hg
      have htake : (xs ++ row ++ cur.toList.drop (n * 7 + row.length)).toArray.toList.take ((n + 1) * 7) = xs ++ row := by
        have : (xs ++ row).length = (n + 1) * 7 := by rw [List.length_append, hxl, hrl]; omega
        exact List.take_left' this
      have hsize2 : (xs ++ row ++ cur.toList.drop (n * 7 + row.length)).toArray.size = cur.size := by
        simp only [List.size_toArray, List.length_append, List.length_drop, Array.length_toList]
        omega
      refine ⟨_, _, hrun, ⟨by rw [List.length_append, hxl, hrl]; omega, .inr ⟨g, cap, _, rfl, hB, hnew, hroom, hcm, by rw [hsize2, hcs], htake⟩⟩, ⟨rfl, rfl, rfl, by simp, fun k hk => ?_⟩⟩
      by_cases hkg : k = g
      · subst hkg
        exact .inr ⟨(by rcases hn with h | h; exact h; cases h), hB, cur, _, hg, hnew, hsz, hsize2, by rw [htake, htk]⟩
      · exact .inl (setRow_other w g k _ (fun e => hkg e))
    · have holds : ∀ j u, xs[j]? = some u → w.cell? ((⟨g, 0, none⟩ : Addr).add j) = some u := hown.cells (g := g) rfl
      have hrun := run_append_grow (P := P) w t ty e i z ht hi hz ⟨g, 0, none⟩ n cap xs (by rw [hsize]; exact hxl) holds ad 1 c row (by rw [hsize, hrl]) hcells (by omega) (by simp only [maxLen] at h63; omega) (growslice_fits (by omega) (by rw [hby]; exact hbytes))
      have hge := grownCap_ge w (n + 1) cap e
      refine ⟨_, _, hrun, ⟨by rw [List.length_append, hxl, hrl]; omega, .inr ⟨w.heap.size, _, _, rfl, hbase, heap_alloc_new w.drew _, hge, grownCap_le_maxLen w (n + 1) cap _ h63, ?_, ?_⟩⟩, MG.of_up ((Up.refl w).drew.alloc _)⟩
      · simp only [Array.size_append, List.size_toArray, size_zeroCells, hzs, hxl, hrl]
        omega
      · simp only [Array.toList_append, List.append_assoc]
        rw [← List.append_assoc]
        exact List.take_left' (by rw [List.length_append, hxl, hrl]; omega)
end
end Go.Proofs.Ytipjcjjjkkaigaa

/-
  Records in a row of the call's own, in one sentence: their cells one behind the other, and what is read off again; for every list.
-/
import Derived.Test.YtkfjemgelmbcfaaKZ2
import Derived.Test.YtkfjemgelmbcfaaKC
namespace Go.Proofs.Ytkfjemgelmbcfaa
set_option maxRecDepth 100000
open Go.RowKit

def Rec.c7 (r : Rec) : List Value := [.int .i64 r.ev.t, .int .i64 r.ev.to, .int .i64 r.ev.fr, .int .i64 r.ev.sq, .int .i64 r.ev.kd, .int .i64 r.ev.dt, .int .i64 r.s]
def flat7 : List Rec → List Value
  | [] => []
  | e :: r => e.c7 ++ flat7 r
theorem flat7_len : ∀ es : List Rec, (flat7 es).length = es.length * 7
  | [] => rfl
  | e :: r => by
    rw [flat7, List.length_append, flat7_len r]
    simp [Rec.c7]
    omega
theorem flat7_app : ∀ es fs : List Rec, flat7 (es ++ fs) = flat7 es ++ flat7 fs
  | [], _ => rfl
  | e :: r, fs => by rw [List.cons_append, flat7, flat7_app r fs, flat7, List.append_assoc]
theorem flat7_get : ∀ (es : List Rec) (i k : Nat), i < es.length → k < 7 → (flat7 es)[i * 7 + k]? = (es.getD i default).c7[k]?
  | [], i, _, hi, _ => absurd hi (by simp)
  | e :: r, 0, k, _, hk => by
    rw [flat7, Nat.zero_mul, Nat.zero_add, List.getElem?_append_left (by simpa [Rec.c7] using hk)]
    rfl
  | e :: r, i + 1, k, hi, hk => by
    have hl : e.c7.length = 7 := rfl
    rw [flat7, List.getElem?_append_right (by omega), hl, show (i + 1) * 7 + k - 7 = i * 7 + k by omega, flat7_get r i k (by simpa using hi) hk]
    rfl
theorem flat7_one (es : List Rec) : ∀ u ∈ flat7 es, u.oneCell' = true := by
  induction es with
  | nil => intro u hu; cases hu
  | cons e r ih =>
    intro u hu
    rw [flat7, List.mem_append] at hu
    rcases hu with hu | hu
    · simp only [Rec.c7, List.mem_cons, List.not_mem_nil, or_false] at hu
      rcases hu with rfl | rfl | rfl | rfl | rfl | rfl | rfl <;> rfl
    · exact ih u hu
theorem own7_recs {w : World} {base e n c : Nat} {A : Option Addr} {es : List Rec} (h : w.ownsRow base e 7 (.slice A n c) n (flat7 es)) : Recs w A n es := by
  have hl : es.length = n := by have := h.1; rw [flat7_len] at this; omega
  refine ⟨hl, fun hn => ?_⟩
  obtain ⟨g, cap, hv, _, hlt⟩ := h.form hn
  injection hv with hA _ hcap
  subst hA hcap
  refine ⟨g, 0, rfl, hlt, fun i hi => ?_⟩
  have f : ∀ k, k < 7 → w.cell? ⟨g, 0 + i * 7 + k, none⟩ = (es.getD i default).c7[k]? := fun k hk => by
    rw [Nat.zero_add, h.cellAt (i * 7 + k) (by omega), flat7_get es i k (by omega) hk]
  exact ⟨f 0 (by omega), f 1 (by omega), f 2 (by omega), f 3 (by omega), f 4 (by omega), f 5 (by omega), f 6 (by omega)⟩
theorem own7_slice {w : World} {base e n : Nat} {v : Value} {es : List Rec} (h : w.ownsRow base e 7 v n (flat7 es)) : n = es.length ∧ ∃ A c, v = .slice A n c ∧ n ≤ c ∧ c ≤ 9223372036854775807 := by
  have hl : es.length = n := by have := h.1; rw [flat7_len] at this; omega
  refine ⟨hl.symm, ?_⟩
  rcases h.2 with ⟨rfl, rfl⟩ | ⟨g, cap, cur, rfl, _, _, hnc, hm, _⟩
  · exact ⟨none, 0, rfl, Nat.le_refl _, by omega⟩
  · exact ⟨_, cap, rfl, hnc, by unfold maxLen at hm; omega⟩
theorem own7_snoc {w : World} {b e n : Nat} {v : Value} {l : List Rec} {x : Rec} (h : w.ownsRow b e 7 v n (flat7 l ++ flat7 [x])) (hn : n = l.length + 1) : w.ownsRow b e 7 v (l ++ [x]).length (flat7 (l ++ [x])) := by
  rw [flat7_app, List.length_append]
  subst hn
  exact h
theorem reads7_new (w : World) (r : Rec) (t : TypeId) : Reads (w.alloc (.cells #[.int .i64 r.ev.t, .int .i64 r.ev.to, .int .i64 r.ev.fr, .int .i64 r.ev.sq, .int .i64 r.ev.kd, .int .i64 r.ev.dt, .int .i64 r.s] t)) (w.heap.size + 1) 7 (some ⟨w.heap.size, 0, none⟩) 1 (flat7 [r]) := by
  refine ⟨rfl, fun _ => ⟨_, rfl, by simp, fun j u hu => ?_⟩⟩
  have hh := heap_alloc_new w (.cells #[.int .i64 r.ev.t, .int .i64 r.ev.to, .int .i64 r.ev.fr, .int .i64 r.ev.sq, .int .i64 r.ev.kd, .int .i64 r.ev.dt, .int .i64 r.s] t)
  have ad : (⟨w.heap.size, 0, none⟩ : Addr).add j = ⟨w.heap.size, j, none⟩ := by
    unfold Addr.add
    split <;> simp_all
  rw [ad, cell_of_row _ _ j _ _ _ hh, ← hu]
  simp [flat7, Rec.c7]

end Go.Proofs.Ytkfjemgelmbcfaa

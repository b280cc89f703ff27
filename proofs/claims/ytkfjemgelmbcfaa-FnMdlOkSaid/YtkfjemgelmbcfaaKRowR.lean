/-
  What stands in the slots of FnMdlOk's region that lays a rule twice, in one sentence: a relation a slot, each stable under the region's steps; and the append of one row as an operation.
-/
import Derived.Test.YtkfjemgelmbcfaaKRulesC
namespace Go.Proofs.Ytkfjemgelmbcfaa
set_option maxRecDepth 100000
open Go.RowKit

theorem wp_append_mz {P : Program} {B0 n : Nat} {row : List Value} {w : World} {o : Oper} {a : Act} {K : Act → World → Prop} {Q : Exit → Act → World → Prop} (s x : Operand) (t : TypeId)
    (ho : o.op = .call { callee := .builtin .append, args := #[s, x], argTypes := #[t, t] })
    (i : TypeInfo) (z : Value) (bytes : Nat) (ht : P.underlying t = some (.slice 33)) (hi : P.info? 33 = some i) (hz : i.zero = some z)
    (hsize : i.size = 5) (hby : i.bytes = bytes) (hzs : z.cells.size = 5) (v : Value) (xs : List Value) (hn : 0 < n) (hs : a.eval s = v) (hown : w.ownsRow B0 33 5 v n xs)
    (B : Nat) (A : Option Addr) (c : Nat) (hx : a.eval x = .slice A 1 c) (hr : Reads w B 5 A 1 row) (h1 : ∀ u ∈ row, u.oneCell' = true) (h63 : n + 1 ≤ maxLen) (hbytes : (n + 1) * bytes ≤ 140737488355328) (hbase : B0 ≤ w.heap.size)
    (h : ∀ v' w', w'.ownsRow B0 33 5 v' (n + 1) (xs ++ row) → MZ B0 n row w w' → K (a.put o.dst v') w') : o.wp P a w K Q := by
  obtain ⟨v', w', hrun, h2, h3⟩ := run_append_mz (P := P) t o.type i z bytes ht hi hz hsize hby hzs v xs hn hown B A c hr h1 h63 hbytes hbase
  unfold Oper.wp execOp
  simp only [ho, resolve, invoke, builtin, Sem.run_bind, Sem.run_pure, Result.andThen_ok, List.map_toArray, List.map_cons, List.map_nil, hs, hx, hrun]
  exact h v' w' h2 h3

def rD (B0 b3 b8 j n : Nat) (VN VR PA VO PR : Value) (row xs : List Value) (i : Nat) (v : Value) (w : World) : Prop :=
  if i = 0 then (v = .pointer (some ⟨b8, 0, none⟩)) else if i = 1 then (v = VN) else if i = 2 then (v = .int .i64 (j : Int)) else if i = 3 then (∃ g, v = .slice (some ⟨g, 0, none⟩) 0 0 ∧ B0 ≤ g ∧ w.heap[g]? = some (.cells #[] 33 (0, 0))) else if i = 4 then (v = .pointer (some ⟨b3, 0, none⟩)) else if i = 5 then (v = VR) else if i = 6 then (v = .int .i64 (j : Int)) else if i = 7 then (v = PA) else if i = 8 then (v = VO) else if i = 9 then (w.ownsRow B0 33 5 v n xs) else if i = 10 then (v = .pointer (some ⟨b3, 0, none⟩)) else if i = 11 then (v = VR) else if i = 12 then (v = .int .i64 (j : Int)) else if i = 13 then (v = PA) else if i = 14 then (v = VO) else if i = 15 then (v = PR) else if i = 16 then (v = .agg row.toArray) else if i = 17 then (∃ g, v = .slice (some ⟨g, 0, none⟩) 1 1 ∧ B0 ≤ g ∧ w.heap[g]? = some (.cells row.toArray 33 (0, 0))) else if i = 18 then (w.ownsRow B0 33 5 v (n + 1) (xs ++ row)) else True
theorem rD_0 {B0 b3 b8 j n : Nat} {VN VR PA VO PR : Value} {row xs : List Value} {v : Value} {w : World} : rD B0 b3 b8 j n VN VR PA VO PR row xs 0 v w = (v = .pointer (some ⟨b8, 0, none⟩)) := by simp [rD]
theorem rD_1 {B0 b3 b8 j n : Nat} {VN VR PA VO PR : Value} {row xs : List Value} {v : Value} {w : World} : rD B0 b3 b8 j n VN VR PA VO PR row xs 1 v w = (v = VN) := by simp [rD]
theorem rD_2 {B0 b3 b8 j n : Nat} {VN VR PA VO PR : Value} {row xs : List Value} {v : Value} {w : World} : rD B0 b3 b8 j n VN VR PA VO PR row xs 2 v w = (v = .int .i64 (j : Int)) := by simp [rD]
theorem rD_3 {B0 b3 b8 j n : Nat} {VN VR PA VO PR : Value} {row xs : List Value} {v : Value} {w : World} : rD B0 b3 b8 j n VN VR PA VO PR row xs 3 v w = (∃ g, v = .slice (some ⟨g, 0, none⟩) 0 0 ∧ B0 ≤ g ∧ w.heap[g]? = some (.cells #[] 33 (0, 0))) := by simp [rD]
theorem rD_4 {B0 b3 b8 j n : Nat} {VN VR PA VO PR : Value} {row xs : List Value} {v : Value} {w : World} : rD B0 b3 b8 j n VN VR PA VO PR row xs 4 v w = (v = .pointer (some ⟨b3, 0, none⟩)) := by simp [rD]
theorem rD_5 {B0 b3 b8 j n : Nat} {VN VR PA VO PR : Value} {row xs : List Value} {v : Value} {w : World} : rD B0 b3 b8 j n VN VR PA VO PR row xs 5 v w = (v = VR) := by simp [rD]
theorem rD_6 {B0 b3 b8 j n : Nat} {VN VR PA VO PR : Value} {row xs : List Value} {v : Value} {w : World} : rD B0 b3 b8 j n VN VR PA VO PR row xs 6 v w = (v = .int .i64 (j : Int)) := by simp [rD]
theorem rD_7 {B0 b3 b8 j n : Nat} {VN VR PA VO PR : Value} {row xs : List Value} {v : Value} {w : World} : rD B0 b3 b8 j n VN VR PA VO PR row xs 7 v w = (v = PA) := by simp [rD]
theorem rD_8 {B0 b3 b8 j n : Nat} {VN VR PA VO PR : Value} {row xs : List Value} {v : Value} {w : World} : rD B0 b3 b8 j n VN VR PA VO PR row xs 8 v w = (v = VO) := by simp [rD]
theorem rD_9 {B0 b3 b8 j n : Nat} {VN VR PA VO PR : Value} {row xs : List Value} {v : Value} {w : World} : rD B0 b3 b8 j n VN VR PA VO PR row xs 9 v w = (w.ownsRow B0 33 5 v n xs) := by simp [rD]
theorem rD_10 {B0 b3 b8 j n : Nat} {VN VR PA VO PR : Value} {row xs : List Value} {v : Value} {w : World} : rD B0 b3 b8 j n VN VR PA VO PR row xs 10 v w = (v = .pointer (some ⟨b3, 0, none⟩)) := by simp [rD]
theorem rD_11 {B0 b3 b8 j n : Nat} {VN VR PA VO PR : Value} {row xs : List Value} {v : Value} {w : World} : rD B0 b3 b8 j n VN VR PA VO PR row xs 11 v w = (v = VR) := by simp [rD]
theorem rD_12 {B0 b3 b8 j n : Nat} {VN VR PA VO PR : Value} {row xs : List Value} {v : Value} {w : World} : rD B0 b3 b8 j n VN VR PA VO PR row xs 12 v w = (v = .int .i64 (j : Int)) := by simp [rD]
theorem rD_13 {B0 b3 b8 j n : Nat} {VN VR PA VO PR : Value} {row xs : List Value} {v : Value} {w : World} : rD B0 b3 b8 j n VN VR PA VO PR row xs 13 v w = (v = PA) := by simp [rD]
theorem rD_14 {B0 b3 b8 j n : Nat} {VN VR PA VO PR : Value} {row xs : List Value} {v : Value} {w : World} : rD B0 b3 b8 j n VN VR PA VO PR row xs 14 v w = (v = VO) := by simp [rD]
theorem rD_15 {B0 b3 b8 j n : Nat} {VN VR PA VO PR : Value} {row xs : List Value} {v : Value} {w : World} : rD B0 b3 b8 j n VN VR PA VO PR row xs 15 v w = (v = PR) := by simp [rD]
theorem rD_16 {B0 b3 b8 j n : Nat} {VN VR PA VO PR : Value} {row xs : List Value} {v : Value} {w : World} : rD B0 b3 b8 j n VN VR PA VO PR row xs 16 v w = (v = .agg row.toArray) := by simp [rD]
theorem rD_17 {B0 b3 b8 j n : Nat} {VN VR PA VO PR : Value} {row xs : List Value} {v : Value} {w : World} : rD B0 b3 b8 j n VN VR PA VO PR row xs 17 v w = (∃ g, v = .slice (some ⟨g, 0, none⟩) 1 1 ∧ B0 ≤ g ∧ w.heap[g]? = some (.cells row.toArray 33 (0, 0))) := by simp [rD]
theorem rD_18 {B0 b3 b8 j n : Nat} {VN VR PA VO PR : Value} {row xs : List Value} {v : Value} {w : World} : rD B0 b3 b8 j n VN VR PA VO PR row xs 18 v w = (w.ownsRow B0 33 5 v (n + 1) (xs ++ row)) := by simp [rD]
theorem rD_mz {B0 b3 b8 j n : Nat} {VN VR PA VO PR : Value} {row xs : List Value} (hn : 0 < n) (hx : xs.length = n * 5) (hrow : row.length = 5) (i : Nat) (v : Value) (w w' : World) (h : rD B0 b3 b8 j n VN VR PA VO PR row xs i v w) (m : MZ B0 n row w w') : rD B0 b3 b8 j n VN VR PA VO PR row xs i v w' := by
  unfold rD at h ⊢
  by_cases h0 : i = 0
  · rw [if_pos h0] at h ⊢
    exact h
  rw [if_neg h0] at h ⊢
  by_cases h1 : i = 1
  · rw [if_pos h1] at h ⊢
    exact h
  rw [if_neg h1] at h ⊢
  by_cases h2 : i = 2
  · rw [if_pos h2] at h ⊢
    exact h
  rw [if_neg h2] at h ⊢
  by_cases h3 : i = 3
  · rw [if_pos h3] at h ⊢
    exact (let ⟨g, h1, h2, h3⟩ := h; ⟨g, h1, h2, m.small h3 (by simp)⟩)
  rw [if_neg h3] at h ⊢
  by_cases h4 : i = 4
  · rw [if_pos h4] at h ⊢
    exact h
  rw [if_neg h4] at h ⊢
  by_cases h5 : i = 5
  · rw [if_pos h5] at h ⊢
    exact h
  rw [if_neg h5] at h ⊢
  by_cases h6 : i = 6
  · rw [if_pos h6] at h ⊢
    exact h
  rw [if_neg h6] at h ⊢
  by_cases h7 : i = 7
  · rw [if_pos h7] at h ⊢
    exact h
  rw [if_neg h7] at h ⊢
  by_cases h8 : i = 8
  · rw [if_pos h8] at h ⊢
    exact h
  rw [if_neg h8] at h ⊢
  by_cases h9 : i = 9
  · rw [if_pos h9] at h ⊢
    exact m.own hx h
  rw [if_neg h9] at h ⊢
  by_cases h10 : i = 10
  · rw [if_pos h10] at h ⊢
    exact h
  rw [if_neg h10] at h ⊢
  by_cases h11 : i = 11
  · rw [if_pos h11] at h ⊢
    exact h
  rw [if_neg h11] at h ⊢
  by_cases h12 : i = 12
  · rw [if_pos h12] at h ⊢
    exact h
  rw [if_neg h12] at h ⊢
  by_cases h13 : i = 13
  · rw [if_pos h13] at h ⊢
    exact h
  rw [if_neg h13] at h ⊢
  by_cases h14 : i = 14
  · rw [if_pos h14] at h ⊢
    exact h
  rw [if_neg h14] at h ⊢
  by_cases h15 : i = 15
  · rw [if_pos h15] at h ⊢
    exact h
  rw [if_neg h15] at h ⊢
  by_cases h16 : i = 16
  · rw [if_pos h16] at h ⊢
    exact h
  rw [if_neg h16] at h ⊢
  by_cases h17 : i = 17
  · rw [if_pos h17] at h ⊢
    exact (let ⟨g, h1, h2, h3⟩ := h; ⟨g, h1, h2, m.small h3 (by rw [List.size_toArray, hrow]; omega)⟩)
  rw [if_neg h17] at h ⊢
  by_cases h18 : i = 18
  · rw [if_pos h18] at h ⊢
    exact m.own1 hx h
  rw [if_neg h18] at h ⊢
  exact trivial

end Go.Proofs.Ytkfjemgelmbcfaa

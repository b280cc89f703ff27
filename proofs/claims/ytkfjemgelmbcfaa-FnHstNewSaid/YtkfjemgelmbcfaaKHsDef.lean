/-
  Hosts that have done nothing, in one sentence: which items wait, how the host lies in memory, and the append of an item as a step; for every model.
-/
import Derived.Test.YtkfjemgelmbcfaaKFlat7
import Derived.Test.YtkfjemgelmbcfaaKRowG
import Derived.Test.YtkfjemgelmbcfaaKZ3
import Derived.Test.YtkfjemgelmbcfaaKTyR
namespace Go.Proofs.Ytkfjemgelmbcfaa
set_option maxRecDepth 100000
open Go.RowKit

theorem info94 : (Try.prog.info? 94).map (fun i => (i.zero, i.size, i.bytes)) = some (some (.agg #[.int .i64 0, .int .i64 0, .int .i64 0, .int .i64 0, .int .i64 0, .int .i64 0, .int .i64 0]), 7, 56) := by kernel_rfl

/-- The items of the first k events that are for one component. -/
def wtk (es : List Evt) (comp : Int) (k : Nat) : List Rec := ((es.take k).filter (fun e => decide (e.to = comp))).map (fun e => (⟨e, 0⟩ : Rec))
theorem wtk_zero (es : List Evt) (comp : Int) : wtk es comp 0 = [] := by simp [wtk]
theorem take_one {α : Type} [Inhabited α] (es : List α) (k : Nat) (h : k < es.length) : es.take (k + 1) = es.take k ++ [es.getD k default] := by
  rw [List.take_add_one]
  simp [List.getD, h]
theorem wtk_in {es : List Evt} {comp : Int} {k : Nat} (hk : k < es.length) (h : (es.getD k default).to = comp) : wtk es comp (k + 1) = wtk es comp k ++ [⟨es.getD k default, 0⟩] := by
  unfold wtk
  rw [take_one es k hk, List.filter_append, List.map_append]
  generalize es.getD k default = x at h ⊢
  simp [h]
theorem wtk_out {es : List Evt} {comp : Int} {k : Nat} (hk : k < es.length) (h : (es.getD k default).to ≠ comp) : wtk es comp (k + 1) = wtk es comp k := by
  unfold wtk
  rw [take_one es k hk, List.filter_append, List.map_append]
  generalize es.getD k default = x at h ⊢
  simp [h]
theorem wtk_len (es : List Evt) (comp : Int) (k : Nat) : (wtk es comp k).length ≤ k := by
  unfold wtk
  rw [List.length_map]
  exact Nat.le_trans (List.length_filter_le _ _) (by rw [List.length_take]; omega)
/-- What waits in a host that has done nothing. -/
def hs0 (m : Mdl) (comp : Int) : List Rec := if mdlB m = true then wtk m.starts comp m.starts.length else []
theorem hs0_few (m : Mdl) (comp : Int) : (hs0 m comp).length ≤ 6 := by
  unfold hs0
  by_cases h : mdlB m = true
  · rw [if_pos h]
    have := wtk_len m.starts comp m.starts.length
    have := mdlB_starts h
    omega
  · rw [if_neg h]
    simp
theorem hs0_in {m : Mdl} {comp : Int} (h : mdlB m = true) : hs0 m comp = wtk m.starts comp m.starts.length := by unfold hs0; rw [if_pos h]
theorem hs0_out {m : Mdl} {comp : Int} (h : mdlB m = false) : hs0 m comp = [] := by unfold hs0; simp [h]
/-- A component that does not exist has none. -/
theorem hs0_far {m : Mdl} {comp : Int} (h : inB comp 0 ((m.rules.length : Int) - 1) = false) : hs0 m comp = [] := by
  unfold hs0
  by_cases hm : mdlB m = true
  · rw [if_pos hm]
    unfold wtk
    rw [List.map_eq_nil_iff, List.filter_eq_nil_iff]
    intro e he
    have he := List.mem_of_mem_take he
    have hm' := hm
    simp only [mdlB, startsB, Bool.and_eq_true] at hm'
    obtain ⟨⟨⟨_, _⟩, ⟨⟨_, _⟩, hs⟩⟩, _⟩ := hm'
    have hse := List.all_eq_true.1 hs e he
    unfold startB okB at hse
    simp only [Bool.and_eq_true, inB_iff] at hse
    intro hc
    have hc' : e.to = comp := of_decide_eq_true hc
    have : inB comp 0 ((m.rules.length : Int) - 1) = true := inB_iff.2 (by omega)
    rw [h] at this
    cases this
  · rw [if_neg hm]

/-- The cells of a host that has done nothing. -/
def hsC (v : Value) : Array Value := #[.int .i64 0, .int .i64 0, .int .i64 0, .int .i64 0, .slice none 0 0, v, .slice none 0 0, .slice none 0 0]
/-- What HstNew gives. -/
def HsRes (lo : Nat) (m : Mdl) (comp : Int) (v : Value) (w : World) : Prop :=
  ∃ A c, v = .agg #[.int .i64 0, .int .i64 0, .int .i64 0, .int .i64 0, .slice none 0 0, .slice A (hs0 m comp).length c, .slice none 0 0, .slice none 0 0] ∧ (hs0 m comp).length ≤ c ∧ c ≤ 9223372036854775807 ∧ w.ownsRow lo 94 7 (.slice A (hs0 m comp).length c) (hs0 m comp).length (flat7 (hs0 m comp))

/-- Below B0 all is as it was. -/
structure Low (B0 : Nat) (a w : World) : Prop where
  os : w.os = a.os
  tape : w.tape = a.tape
  output : w.output = a.output
  size : a.heap.size ≤ w.heap.size
  lo : B0 ≤ w.heap.size
  block : ∀ k, k < B0 → w.heap[k]? = a.heap[k]?
section
variable {B0 : Nat} {a w w' : World}
theorem Low.refl (h : B0 ≤ w.heap.size) : Low B0 w w := ⟨rfl, rfl, rfl, Nat.le_refl _, h, fun _ _ => rfl⟩
theorem Low.drew (h : Low B0 a w) : Low B0 a w.drew := ⟨h.os, h.tape, h.output, h.size, h.lo, h.block⟩
theorem Low.mg {e n : Nat} {row : List Value} (h : Low B0 a w) (m : MG e B0 n row w w') : Low B0 a w' :=
  ⟨m.os.trans h.os, m.tape.trans h.tape, m.output.trans h.output, Nat.le_trans h.size m.size, Nat.le_trans h.lo m.size, fun k hk => by
    rcases m.block k (Nat.lt_of_lt_of_le hk h.lo) with e1 | ⟨_, hB, _⟩
    · exact e1.trans (h.block k hk)
    · omega⟩
theorem Low.up (h : Low B0 a w) (u : Up w w') : Low B0 a w' := h.mg (e := 0) (n := 0) (row := []) (MG.of_up u)
theorem Low.top {a0 : World} (h : Low B0 a w) (u : Up a0 a) (hl : a0.heap.size ≤ B0) : Up a0 w :=
  ⟨h.os.trans u.below.os, h.tape.trans u.below.tape, h.output.trans u.below.output, Nat.le_trans u.size h.size, fun k hk => (h.block k (Nat.lt_of_lt_of_le hk hl)).trans (u.below.block k hk)⟩
theorem Low.blk {b t : Nat} {arr : Array Value} (h : Low B0 a w) (hb : b < B0) (k : Blk a b t arr) : Blk w b t arr := (h.block b hb).trans k
theorem Low.cells (h : Low B0 a w) (b o : Nat) (hb : b < B0) : w.cell? ⟨b, o, none⟩ = a.cell? ⟨b, o, none⟩ := World.cell?_of_block (h.block b hb)
end
theorem wp_append_mg {P : Program} {e B0 n : Nat} {row : List Value} {w : World} {o : Oper} {a : Act} {K : Act → World → Prop} {Q : Exit → Act → World → Prop} (s x : Operand) (t : TypeId)
    (ho : o.op = .call { callee := .builtin .append, args := #[s, x], argTypes := #[t, t] })
    (i : TypeInfo) (z : Value) (bytes : Nat) (ht : P.underlying t = some (.slice e)) (hi : P.info? e = some i) (hz : i.zero = some z)
    (hsize : i.size = 7) (hby : i.bytes = bytes) (hzs : z.cells.size = 7) (v : Value) (xs : List Value) (hn : 0 < n ∨ v = .slice none 0 0) (hs : a.eval s = v) (hown : w.ownsRow B0 e 7 v n xs)
    (B : Nat) (A : Option Addr) (c : Nat) (hx : a.eval x = .slice A 1 c) (hr : Reads w B 7 A 1 row) (h1 : ∀ u ∈ row, u.oneCell' = true) (h63 : n + 1 ≤ maxLen) (hbytes : (n + 1) * bytes ≤ 140737488355328) (hbase : B0 ≤ w.heap.size)
    (h : ∀ v' w', w'.ownsRow B0 e 7 v' (n + 1) (xs ++ row) → MG e B0 n row w w' → K (a.put o.dst v') w') : o.wp P a w K Q := by
  obtain ⟨v', w', hrun, h2, h3⟩ := run_append_mg (P := P) t o.type i z bytes ht hi hz hsize hby hzs v xs hn hown B A c hr h1 h63 hbytes hbase
  unfold Oper.wp execOp
  simp only [ho, resolve, invoke, builtin, Sem.run_bind, Sem.run_pure, Result.andThen_ok, List.map_toArray, List.map_cons, List.map_nil, hs, hx, hrun]
  exact h v' w' h2 h3
theorem reads7_blk {w : World} {g t : Nat} {r : Rec} (h : w.heap[g]? = some (.cells r.c7.toArray t (0, 0))) (B : Nat) (hB : g < B) : Reads w B 7 (some ⟨g, 0, none⟩) 1 (flat7 [r]) := by
  refine ⟨rfl, fun _ => ⟨_, rfl, hB, fun j u hu => ?_⟩⟩
  have ad : (⟨g, 0, none⟩ : Addr).add j = ⟨g, j, none⟩ := by
    unfold Addr.add
    split <;> simp_all
  rw [ad, cell_of_row _ _ j _ _ _ h, ← hu]
  simp [flat7, Rec.c7]

end Go.Proofs.Ytkfjemgelmbcfaa

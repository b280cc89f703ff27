/-
  What a machine's map holds, in one sentence: for each component and kind the model's rule, if there is one; no condition is made.
  What SeqNew gives, in one sentence: as many component states of zeros as there are components, the external events, nothing processed; for every model that lies in memory.
  Hosts that have done nothing, in one sentence: which items wait, how the host lies in memory, and the append of an item as a step; for every model.
  What slices.Grow and slices.Concat return of slices of items, in one sentence: a new slice of all of them, one behind the other; for every row of slices that lies in memory.
-/
import Derived.Lib.AppendZeros
import Derived.Test.YtipjcjjjkkaigaaDLHstNew01
import Derived.Test.YtipjcjjjkkaigaaDLHstNew02
import Derived.Test.YtipjcjjjkkaigaaDLHstNew04
import Derived.Test.YtipjcjjjkkaigaaDLHstNew05
import Derived.Test.YtipjcjjjkkaigaaDLHstNew06
import Derived.Test.YtipjcjjjkkaigaaDLHstNew09
import Derived.Test.YtipjcjjjkkaigaaDLHstNew14
import Derived.Test.YtipjcjjjkkaigaaDLHstNew15
import Derived.Test.YtipjcjjjkkaigaaDLHstNew17
import Derived.Test.YtipjcjjjkkaigaaDLHstNew18
namespace Go.Proofs.Ytipjcjjjkkaigaa
set_option maxRecDepth 100000
open Go.RowKit
/-- A rule as a value over a slice that holds its sends. -/
def RowV (w : World) (o : Option Rule) (v : Option Value) : Prop :=
  match o with
  | none => v = none
  | some r => ∃ A n c, v = some (r.v (.slice A n c)) ∧ n ≤ 9223372036854775807 ∧ Evs w A n r.sends
theorem RowV.up {w w' : World} {o : Option Rule} {v : Option Value} (h : RowV w o v) (u : Up w w') : RowV w' o v := by
  cases o with
  | none => exact h
  | some r =>
    obtain ⟨A, n, c, h1, h2, h3⟩ := h
    exact ⟨A, n, c, h1, h2, h3.up u⟩
/-- The last rule of a kind. -/
def lastOf (kd : Int) : List Rule → Option Rule
  | [] => none
  | r :: rs => match lastOf kd rs with
    | some x => some x
    | none => if r.kd = kd then some r else none
theorem lastOf_snoc (kd : Int) (r : Rule) : ∀ rs : List Rule, lastOf kd (rs ++ [r]) = if r.kd = kd then some r else lastOf kd rs
  | [] => by simp [lastOf]
  | x :: rs => by
    rw [List.cons_append, lastOf, lastOf_snoc kd r rs]
    by_cases h : r.kd = kd
    · simp [h]
    · simp only [if_neg h]
      rw [lastOf]
theorem lastOf_take (kd : Int) (rs : List Rule) (q : Nat) (h : q < rs.length) : lastOf kd (rs.take (q + 1)) = if (rs.getD q default).kd = kd then some (rs.getD q default) else lastOf kd (rs.take q) := by
  rw [List.take_succ_eq_append_getElem h, lastOf_snoc]; simp [h]
theorem lastOf_past {many kd : Int} : ∀ {bf : Int} {rs : List Rule}, rulesB many bf rs = true → kd ≤ bf → lastOf kd rs = none
  | _, [], _, _ => rfl
  | bf, x :: rs, h, hk => by
    rw [rulesB, Bool.and_eq_true, Bool.and_eq_true] at h
    have h1 := of_decide_eq_true h.1.1
    rw [lastOf, lastOf_past h.2 (by omega)]
    exact if_neg (by omega)
theorem lastOf_ruleOf {many kd : Int} : ∀ {bf : Int} {rs : List Rule}, rulesB many bf rs = true → lastOf kd rs = ruleOf kd rs
  | _, [], _ => rfl
  | bf, x :: rs, h => by
    rw [rulesB, Bool.and_eq_true, Bool.and_eq_true] at h; rw [lastOf, ruleOf]
    by_cases hk : x.kd = kd
    · rw [lastOf_past h.2 (by omega), if_pos hk]
      exact (if_pos hk).symm
    · rw [lastOf_ruleOf h.2, if_neg hk, if_neg hk]
      cases ruleOf kd rs <;> rfl
theorem rulesB_len {many : Int} : ∀ {bf : Int} {rs : List Rule}, rulesB many bf rs = true → -1 ≤ bf → bf ≤ 2 → (rs.length : Int) ≤ 2 - bf
  | bf, [], _, _, h2 => by simp; omega
  | bf, x :: rs, h, h1, h2 => by
    rw [rulesB, Bool.and_eq_true, Bool.and_eq_true] at h
    have k1 := of_decide_eq_true h.1.1
    have k2 := h.1.2
    simp only [ruleB, Bool.and_eq_true, inB_iff] at k2
    have := rulesB_len h.2 (by omega) (by omega)
    simp only [List.length_cons]
    omega
theorem rulesB_mem {many : Int} : ∀ {bf : Int} {rs : List Rule}, rulesB many bf rs = true → ∀ i, i < rs.length → ruleB (rs.getD i default) many = true
  | _, [], _, _, h => absurd h (by simp)
  | bf, x :: rs, h, 0, _ => by
    rw [rulesB, Bool.and_eq_true, Bool.and_eq_true] at h
    exact h.1.2
  | bf, x :: rs, h, i + 1, hi => by
    rw [rulesB, Bool.and_eq_true, Bool.and_eq_true] at h
    simpa using rulesB_mem h.2 i (by simpa using hi)
theorem mdlB_row {m : Mdl} (hm : mdlB m = true) (i : Nat) (hi : i < m.rules.length) : rulesB m.rules.length (-1) (m.rules.getD i []) = true := by
  simp only [mdlB, Bool.and_eq_true, List.all_eq_true] at hm; refine hm.2 (m.rules.getD i []) ?_; rw [List.getD, List.getElem?_eq_getElem hi]
  exact List.getElem_mem hi
theorem mdlB_few {m : Mdl} (hm : mdlB m = true) : 1 ≤ m.rules.length ∧ m.rules.length ≤ 4 := by
  simp only [mdlB, Bool.and_eq_true] at hm
  have := inB_iff.1 hm.1.1.1
  omega
/-- What stands at a key when i components and q rules of the next are stored. -/
def upto (rss : List (List Rule)) (i q : Nat) (c k : Int) : Option Rule :=
  if c < 0 then none else if c < i then lastOf k (rss.getD c.toNat []) else if c = i then lastOf k ((rss.getD i []).take q) else none
def Filled (w : World) (rss : List (List Rule)) (i q : Nat) (f : Int → Int → Option Value) : Prop := ∀ c k, RowV w (upto rss i q c k) (f c k)
theorem Filled.start (w : World) (rss : List (List Rule)) : Filled w rss 0 0 (fun _ _ => none) := fun c k => by
  have e : upto rss 0 0 c k = none := by
    unfold upto
    split
    · rfl
    · split
      · omega
      · split
        · simp [lastOf]
        · rfl
  rw [e]
  rfl
theorem Filled.step {w : World} {rss : List (List Rule)} {i q : Nat} {f : Int → Int → Option Value} (h : Filled w rss i q f) {r : Rule} (hq : q < (rss.getD i []).length) (hr : (rss.getD i []).getD q default = r) {A : Option Addr} {n c : Nat}
    (hn : n ≤ 9223372036854775807) (he : Evs w A n r.sends) : Filled w rss i (q + 1) (fun c' k' => if c' = (i : Int) ∧ k' = r.kd then some (r.v (.slice A n c)) else f c' k') := fun c' k' => by
  have h0 := h c' k'
  have e : upto rss i (q + 1) c' k' = if c' = (i : Int) ∧ k' = r.kd then some r else upto rss i q c' k' := by
    unfold upto
    by_cases hc : c' = (i : Int)
    · subst hc
      have n1 : ¬ (i : Int) < 0 := by omega
      have n2 : ¬ (i : Int) < i := by omega
      simp only [if_neg n1, if_neg n2, if_true]; rw [lastOf_take _ _ _ hq, hr]
      by_cases hk : k' = r.kd
      · rw [if_pos hk.symm, if_pos ⟨trivial, hk⟩]
      · rw [if_neg (fun e => hk e.symm), if_neg (fun e => hk e.2)]
    · rw [if_neg hc, if_neg (fun e : c' = (i : Int) ∧ k' = r.kd => hc e.1), if_neg hc]
  rw [e]
  by_cases hc : c' = (i : Int) ∧ k' = r.kd
  · simp only [if_pos hc]
    exact ⟨A, n, c, rfl, hn, he⟩
  · simp only [if_neg hc]
    exact h0
theorem Filled.row {w : World} {rss : List (List Rule)} {i q : Nat} {f : Int → Int → Option Value} (h : Filled w rss i q f) (hq : (rss.getD i []).length ≤ q) : Filled w rss (i + 1) 0 f := fun c k => by
  have h0 := h c k
  have e : upto rss (i + 1) 0 c k = upto rss i q c k := by
    unfold upto
    by_cases h1 : c < 0
    · rw [if_pos h1, if_pos h1]
    · rw [if_neg h1, if_neg h1]
      by_cases h2 : c < (i : Int)
      · rw [if_pos h2, if_pos (by omega)]
      · rw [if_neg h2]
        by_cases h3 : c = (i : Int)
        · subst h3
          rw [if_pos (by omega), if_pos rfl, List.take_of_length_le hq]; simp
        · rw [if_neg (by omega), if_neg h3]
          split
          · simp [lastOf]
          · rfl
  rw [e]
  exact h0
/-- The map of a model. -/
def Mach (w : World) (b : Nat) (m : Mdl) : Prop :=
  ∃ N f, RMap w b N f ∧ ∀ c k, RowV w (if 0 ≤ c then ruleOf k (m.rules.getD c.toNat []) else none) (f c k)
theorem Filled.done {w : World} {m : Mdl} (hm : mdlB m = true) {f : Int → Int → Option Value} (h : Filled w m.rules m.rules.length 0 f) : ∀ c k, RowV w (if 0 ≤ c then ruleOf k (m.rules.getD c.toNat []) else none) (f c k) := fun c k => by
  have h0 := h c k
  have e : upto m.rules m.rules.length 0 c k = if 0 ≤ c then ruleOf k (m.rules.getD c.toNat []) else none := by
    unfold upto
    by_cases h1 : c < 0
    · rw [if_pos h1, if_neg (show ¬ (0 : Int) ≤ c by omega)]
    · rw [if_neg h1, if_pos (show (0 : Int) ≤ c by omega)]
      by_cases h2 : c < (m.rules.length : Int)
      · rw [if_pos h2, lastOf_ruleOf (mdlB_row hm c.toNat (by omega))]
      · rw [if_neg h2]
        have : m.rules.getD c.toNat [] = [] := by
          rw [List.getD, List.getElem?_eq_none (by omega)]
          rfl
        rw [this]
        split
        · simp [lastOf, ruleOf]
        · rfl
  rw [← e]
  exact h0
theorem wpList_store_R {P : Program} (hP : P = Try.prog) (w : World) {ops : Array Oper} {rest : List Oper} {o : Oper} {a : Act} {Q : Exit → Act → World → Prop}
    (hg : o.guard = none) (m x v : Operand) (hop : o.op = Op.mapUpdate 116 m x v) (b n : Nat) (f : Int → Int → Option Value) (hm : a.eval m = .map (some b)) (h : RMap w b n f) (hn : n < maxLen)
    (c k : Int) (hx : a.eval x = .agg #[.int .i64 c, .int .i64 k]) (hc : I64 c) (hk : I64 k) (val : Value) (hv : a.eval v = val)
    (hK : ∀ w', RMap w' b (n + 1) (fun c' k' => if c' = c ∧ k' = k then some val else f c' k') → Mv b w w' → wpList P ops Q rest (a.put o.dst undef) w') : wpList P ops Q (o :: rest) a w := by
  subst hP
  refine wpList_plain hg fun K' hK' => ?_
  obtain ⟨w', hrun, r1, r2⟩ := h.store hn c k hc hk val; unfold Oper.wp; simp [execOp, hop, hm, hx, hv, hrun, Result.andThen]
  exact hK' _ _ (hK w' r1 r2)
end Go.Proofs.Ytipjcjjjkkaigaa

namespace Go.Proofs.Ytipjcjjjkkaigaa
set_option maxRecDepth 100000
open Go.RowKit
theorem mdlB_starts {m : Mdl} (hm : mdlB m = true) : m.starts.length ≤ 6 := by
  simp only [mdlB, startsB, Bool.and_eq_true, decide_eq_true_eq] at hm
  omega
end Go.Proofs.Ytipjcjjjkkaigaa

namespace Go.Proofs.Ytipjcjjjkkaigaa
set_option maxRecDepth 100000
open Go.RowKit
theorem info53 : (Try.prog.info? 53).map (fun i => (i.zero, i.size, i.bytes)) = some (some (.agg #[.int .i64 0, .int .i64 0, .int .i64 0, .int .i64 0, .int .i64 0, .int .i64 0, .int .i64 0]), 7, 56) := by kernel_rfl
/-- The items of the first k events that are for one component. -/
def wtk (es : List Evt) (comp : Int) (k : Nat) : List Rec := ((es.take k).filter (fun e => decide (e.to = comp))).map (fun e => (⟨e, 0⟩ : Rec))
theorem wtk_zero (es : List Evt) (comp : Int) : wtk es comp 0 = [] := by simp [wtk]
theorem take_one {α : Type} [Inhabited α] (es : List α) (k : Nat) (h : k < es.length) : es.take (k + 1) = es.take k ++ [es.getD k default] := by
  rw [List.take_add_one]; simp [List.getD, h]
theorem wtk_in {es : List Evt} {comp : Int} {k : Nat} (hk : k < es.length) (h : (es.getD k default).to = comp) : wtk es comp (k + 1) = wtk es comp k ++ [⟨es.getD k default, 0⟩] := by
  unfold wtk; rw [take_one es k hk, List.filter_append, List.map_append]
  generalize es.getD k default = x at h ⊢
  simp [h]
theorem wtk_out {es : List Evt} {comp : Int} {k : Nat} (hk : k < es.length) (h : (es.getD k default).to ≠ comp) : wtk es comp (k + 1) = wtk es comp k := by
  unfold wtk; rw [take_one es k hk, List.filter_append, List.map_append]
  generalize es.getD k default = x at h ⊢
  simp [h]
theorem wtk_len (es : List Evt) (comp : Int) (k : Nat) : (wtk es comp k).length ≤ k := by
  unfold wtk; rw [List.length_map]
  exact Nat.le_trans (List.length_filter_le _ _) (by rw [List.length_take]; omega)
/-- What waits in a host that has done nothing. -/
def hs0 (m : Mdl) (comp : Int) : List Rec := if mdlB m = true then wtk m.starts comp m.starts.length else []
theorem hs0_few (m : Mdl) (comp : Int) : (hs0 m comp).length ≤ 6 := by
  unfold hs0
  by_cases h : mdlB m = true
  · rw [if_pos h]
    have := wtk_len m.starts comp m.starts.length
    have := mdlB_starts h
    omega
  · rw [if_neg h]
    simp
theorem hs0_in {m : Mdl} {comp : Int} (h : mdlB m = true) : hs0 m comp = wtk m.starts comp m.starts.length := by unfold hs0; rw [if_pos h]
theorem hs0_out {m : Mdl} {comp : Int} (h : mdlB m = false) : hs0 m comp = [] := by unfold hs0; simp [h]
/-- A component that does not exist has none. -/
theorem hs0_far {m : Mdl} {comp : Int} (h : inB comp 0 ((m.rules.length : Int) - 1) = false) : hs0 m comp = [] := by
  unfold hs0
  by_cases hm : mdlB m = true
  · rw [if_pos hm]
    unfold wtk; rw [List.map_eq_nil_iff, List.filter_eq_nil_iff]; intro e he
    have he := List.mem_of_mem_take he
    have hm' := hm
    simp only [mdlB, startsB, Bool.and_eq_true] at hm'; obtain ⟨⟨⟨_, _⟩, ⟨⟨_, _⟩, hs⟩⟩, _⟩ := hm'
    have hse := List.all_eq_true.1 hs e he
    unfold startB okB at hse; simp only [Bool.and_eq_true, inB_iff] at hse; intro hc
    have hc' : e.to = comp := of_decide_eq_true hc
    have : inB comp 0 ((m.rules.length : Int) - 1) = true := inB_iff.2 (by omega)
    rw [h] at this
    cases this
  · rw [if_neg hm]
/-- The cells of a host that has done nothing. -/
def hsC (v : Value) : Array Value := #[.int .i64 0, .int .i64 0, .int .i64 0, .int .i64 0, .slice none 0 0, v, .slice none 0 0, .slice none 0 0]
/-- What HstNew gives. -/
def HsRes (lo : Nat) (m : Mdl) (comp : Int) (v : Value) (w : World) : Prop :=
  ∃ A c, v = .agg #[.int .i64 0, .int .i64 0, .int .i64 0, .int .i64 0, .slice none 0 0, .slice A (hs0 m comp).length c, .slice none 0 0, .slice none 0 0] ∧ (hs0 m comp).length ≤ c ∧ c ≤ 9223372036854775807 ∧ w.ownsRow lo 53 7 (.slice A (hs0 m comp).length c) (hs0 m comp).length (flat7 (hs0 m comp))
/-- Below B0 all is as it was. -/
structure Low (B0 : Nat) (a w : World) : Prop where
  os : w.os = a.os
  tape : w.tape = a.tape
  output : w.output = a.output
  size : a.heap.size ≤ w.heap.size
  lo : B0 ≤ w.heap.size
  block : ∀ k, k < B0 → w.heap[k]? = a.heap[k]?
section
variable {B0 : Nat} {a w w' : World}
theorem Low.refl (h : B0 ≤ w.heap.size) : Low B0 w w := ⟨rfl, rfl, rfl, Nat.le_refl _, h, fun _ _ => rfl⟩
theorem Low.drew (h : Low B0 a w) : Low B0 a w.drew := ⟨h.os, h.tape, h.output, h.size, h.lo, h.block⟩
theorem Low.mg {e n : Nat} {row : List Value} (h : Low B0 a w) (m : MG e B0 n row w w') : Low B0 a w' :=
  ⟨m.os.trans h.os, m.tape.trans h.tape, m.output.trans h.output, Nat.le_trans h.size m.size, Nat.le_trans h.lo m.size, fun k hk => by
    rcases m.block k (Nat.lt_of_lt_of_le hk h.lo) with e1 | ⟨_, hB, _⟩
    · exact e1.trans (h.block k hk)
    · omega⟩
theorem Low.up (h : Low B0 a w) (u : Up w w') : Low B0 a w' := h.mg (e := 0) (n := 0) (row := []) (MG.of_up u)
theorem Low.top {a0 : World} (h : Low B0 a w) (u : Up a0 a) (hl : a0.heap.size ≤ B0) : Up a0 w :=
  ⟨h.os.trans u.below.os, h.tape.trans u.below.tape, h.output.trans u.below.output, Nat.le_trans u.size h.size, fun k hk => (h.block k (Nat.lt_of_lt_of_le hk hl)).trans (u.below.block k hk)⟩
theorem Low.blk {b t : Nat} {arr : Array Value} (h : Low B0 a w) (hb : b < B0) (k : Blk a b t arr) : Blk w b t arr := (h.block b hb).trans k
theorem Low.cells (h : Low B0 a w) (b o : Nat) (hb : b < B0) : w.cell? ⟨b, o, none⟩ = a.cell? ⟨b, o, none⟩ := World.cell?_of_block (h.block b hb)
end
theorem wp_append_mg {P : Program} {e B0 n : Nat} {row : List Value} {w : World} {o : Oper} {a : Act} {K : Act → World → Prop} {Q : Exit → Act → World → Prop} (s x : Operand) (t : TypeId)
    (ho : o.op = .call { callee := .builtin .append, args := #[s, x], argTypes := #[t, t] })
    (i : TypeInfo) (z : Value) (bytes : Nat) (ht : P.underlying t = some (.slice e)) (hi : P.info? e = some i) (hz : i.zero = some z)
    (hsize : i.size = 7) (hby : i.bytes = bytes) (hzs : z.cells.size = 7) (v : Value) (xs : List Value) (hn : 0 < n ∨ v = .slice none 0 0) (hs : a.eval s = v) (hown : w.ownsRow B0 e 7 v n xs)
    (B : Nat) (A : Option Addr) (c : Nat) (hx : a.eval x = .slice A 1 c) (hr : Reads w B 7 A 1 row) (h1 : ∀ u ∈ row, u.oneCell' = true) (h63 : n + 1 ≤ maxLen) (hbytes : (n + 1) * bytes ≤ 140737488355328) (hbase : B0 ≤ w.heap.size)
    (h : ∀ v' w', w'.ownsRow B0 e 7 v' (n + 1) (xs ++ row) → MG e B0 n row w w' → K (a.put o.dst v') w') : o.wp P a w K Q := by
  obtain ⟨v', w', hrun, h2, h3⟩ := run_append_mg (P := P) t o.type i z bytes ht hi hz hsize hby hzs v xs hn hown B A c hr h1 h63 hbytes hbase; unfold Oper.wp execOp; simp only [ho, resolve, invoke, builtin, Sem.run_bind, Sem.run_pure, Result.andThen_ok, List.map_toArray, List.map_cons, List.map_nil, hs, hx, hrun]
  exact h v' w' h2 h3
theorem reads7_blk {w : World} {g t : Nat} {r : Rec} (h : w.heap[g]? = some (.cells r.c7.toArray t (0, 0))) (B : Nat) (hB : g < B) : Reads w B 7 (some ⟨g, 0, none⟩) 1 (flat7 [r]) := by
  refine ⟨rfl, fun _ => ⟨_, rfl, hB, fun j u hu => ?_⟩⟩
  have ad : (⟨g, 0, none⟩ : Addr).add j = ⟨g, j, none⟩ := by
    unfold Addr.add
    split <;> simp_all
  rw [ad, cell_of_row _ _ j _ _ _ h, ← hu]; simp [flat7, Rec.c7]
end Go.Proofs.Ytipjcjjjkkaigaa

namespace Go.Proofs.Ytipjcjjjkkaigaa
set_option maxRecDepth 100000
open Go.RowKit
theorem RecAt.at7 {w : World} {b o k : Nat} {r : Rec} {u : Value} (h : RecAt w b o r) (hk : k < 7) (hu : r.c7[k]? = some u) : w.cell? ⟨b, o + k, none⟩ = some u := by
  obtain ⟨h0, h1, h2, h3, h4, h5, h6⟩ := h
  have e : k = 0 ∨ k = 1 ∨ k = 2 ∨ k = 3 ∨ k = 4 ∨ k = 5 ∨ k = 6 := by omega
  rcases e with rfl | rfl | rfl | rfl | rfl | rfl | rfl
  · exact h0.trans hu
  · exact h1.trans hu
  · exact h2.trans hu
  · exact h3.trans hu
  · exact h4.trans hu
  · exact h5.trans hu
  · exact h6.trans hu
theorem Recs.reads {w : World} {A : Option Addr} {n : Nat} {es : List Rec} (h : Recs w A n es) : Reads w w.heap.size 7 A n (flat7 es) := by
  refine ⟨by rw [flat7_len, h.1], fun hn => ?_⟩; obtain ⟨b, off, hA, hb, hc⟩ := h.2 hn; refine ⟨_, hA, hb, fun j u hu => ?_⟩
  have hj : j < (flat7 es).length := (List.getElem?_eq_some_iff.1 hu).1
  rw [flat7_len, h.1] at hj
  have e : j = j / 7 * 7 + j % 7 := by omega
  have hi : j / 7 < n := by omega
  rw [e, flat7_get es _ _ (by rw [h.1]; exact hi) (by omega)] at hu
  have := (hc _ hi).at7 (by omega) hu
  have ad : (⟨b, off, none⟩ : Addr).add j = ⟨b, off + j / 7 * 7 + j % 7, none⟩ := by
    unfold Addr.add
    split
    · rename_i h0; subst h0; rfl
    · rw [Nat.add_assoc, ← e]
  rw [ad]
  exact this
/-- The new slice that a function hands back. -/
def NewIt (es : List Rec) (w : World) (x : Ending) (w' : World) : Prop :=
  ∃ A c, x = .returned (.slice A es.length c) ∧ es.length ≤ c ∧ c ≤ 9223372036854775807 ∧ Recs w' A es.length es ∧ w'.ownsRow w.heap.size 53 7 (.slice A es.length c) es.length (flat7 es) ∧ Up w w'
theorem NewIt.of_own {w w' : World} {n : Nat} {v : Value} {es : List Rec} (h : w'.ownsRow w.heap.size 53 7 v n (flat7 es)) (u : Up w w') : NewIt es w (.returned v) w' := by
  obtain ⟨rfl, A, c, rfl, hc, hm⟩ := own7_slice h
  exact ⟨A, c, rfl, hc, hm, own7_recs h, h, u⟩
def GrownIt (w : World) (x : Ending) (w' : World) : Prop := ∃ v, x = .returned v ∧ w'.ownsRow w.heap.size 53 7 v 0 (flat7 []) ∧ Up w w'
theorem zerosI_size (z : Array Value) (n : Nat) : (Builtin.zeroCells z n).size = n * z.size := by simp [Builtin.zeroCells]
set_option maxHeartbeats 4000000 in
theorem growI_any (n : Nat) (w : World) (hn : n ≤ 2000000000) : Calls Try.prog 138 #[.slice none 0 0, .int .i64 n] w (GrownIt w) := by
  obtain ⟨i0, hi0, hz0, hz1, hz2⟩ := info_parts info53
  have INF := Lib.hid (And.intro hi0 (And.intro hz0 (And.intro hz1 hz2)))
  clear hi0 hz0 hz1 hz2
  by_cases h0 : n = 0
  · subst h0
    go_enter Try.func138, Try.ntmps138
    go_wp2; go_ret
    exact ⟨_, rfl, ⟨rfl, .inl ⟨rfl, rfl⟩⟩, Up.refl _⟩
  · have p0 : 0 < n := by omega
    have p1 : (0 : Int) < n := by omega
    have p2 : ¬ (n : Int) < 0 := by omega
    have h48 : n * i0.bytes ≤ 281474976710656 := by rw [INF.out.2.2.2]; omega
    have RUN := Lib.hid (fun ty W => Lib.run_append_nil_zeros (P := Try.prog) W 30 3 ty 53 i0 _ .i64 .i64 Try.underlying30 Try.underlying3 INF.out.1 INF.out.2.1 n p0 (by rw [INF.out.2.2.1]; omega) (by omega) h48)
    clear h48
    go_enter Try.func138, Try.ntmps138
    go_wp2_with (at_builtin; refine Lib.wpList_append_run _ rfl (.tmp 20) (.tmp 21) 30 3 rfl _ _ rfl rfl _ _ (RUN.out _ _) ?_)
    go_ret; refine ⟨_, rfl, ⟨rfl, .inr ⟨w.heap.size, grownCap w n 0 53, _, rfl, Nat.le_refl _, heap_alloc_new w.drew _, Nat.zero_le _, grownCap_le_maxLen _ _ _ _ (by simp only [maxLen]; omega), ?_, rfl⟩⟩, (Up.refl w).drew.alloc _⟩
    have := grownCap_ge w n 0 53
    rw [Array.size_append, zerosI_size, zerosI_size]; simp
    omega
/-- The block b holds one slice for each list. -/
def PartsI (w : World) (b : Nat) (L : List (List Rec)) : Prop :=
  ∀ j, j < L.length → ∃ A c, w.cell? ⟨b, j, none⟩ = some (.slice A (L.getD j []).length c) ∧ Recs w A (L.getD j []).length (L.getD j [])
theorem flatI_step (L : List (List Rec)) (k : Nat) (h : k < L.length) : (L.take (k + 1)).flatten = (L.take k).flatten ++ L.getD k [] := by
  rw [List.take_succ_eq_append_getElem h, List.flatten_append]; simp [h]
theorem flatI_le (L : List (List Rec)) (k : Nat) : (L.take k).flatten.length ≤ L.flatten.length := by
  have : L.flatten = (L.take k).flatten ++ (L.drop k).flatten := by rw [← List.flatten_append, List.take_append_drop]
  rw [this, List.length_append]
  omega
theorem flatI_end (L : List (List Rec)) (k : Nat) (h : L.length ≤ k) : (L.take k).flatten = L.flatten := by rw [List.take_of_length_le h]
set_option maxHeartbeats 4000000 in
theorem concatI_any (b cap : Nat) (L : List (List Rec)) (w : World) (hL : L.length ≤ 1000000) (hb : b < w.heap.size) (hP : PartsI w b L) (hT : L.flatten.length ≤ 1000000000) :
    Calls Try.prog 103 #[.slice (some ⟨b, 0, none⟩) L.length cap] w (NewIt L.flatten w) := by
  obtain ⟨i0, hi0, hz0, hz1, hz2⟩ := info_parts info53
  have INF := Lib.hid (And.intro hi0 (And.intro hz0 (And.intro hz1 hz2)))
  have SIX := Lib.hid (show 0 < 7 by omega)
  have HP := Lib.hid hP
  have FS := Lib.hid (flatI_step L)
  have FL := Lib.hid (flatI_le L)
  have FE := Lib.hid (flatI_end L)
  have HT := Lib.hid hT
  clear hi0 hz0 hz1 hz2 hP hT
  go_enter Try.func103, Try.ntmps103
  go_wp2
  go_loopw [3, 11] (fun s i wr => (∃ k : Nat, k ≤ L.length ∧ i = .int .i64 k ∧ s = .int .i64 ((L.take k).flatten.length : Nat)) ∧ Up w wr) (fun _ i _ => L.length - (intOf i).toNat)
  case atStart => exact ⟨⟨0, by omega, rfl, rfl⟩, Up.refl _⟩
  case round =>
    obtain ⟨⟨k, hk, rfl, rfl⟩, ur⟩ := hrel
    by_cases hlt : k < L.length
    · obtain ⟨A, c, hcell, _⟩ := HP.out k hlt
      have cell' := (ur.cells b k hb).trans hcell
      clear hcell
      have st := congrArg List.length (FS.out k hlt)
      rw [List.length_append] at st
      have le := FL.out (k + 1)
      have ht := HT.out
      generalize (L.getD k []).length = m at st cell'
      generalize hs2 : (L.take (k + 1)).flatten.length = s2 at st le
      have HS2 := Lib.hid hs2
      clear hs2
      generalize (L.take k).flatten.length = s at st
      have ST := Lib.hid st
      have sm : s + m ≤ 1000000000 := by omega
      clear st le ht
      have i3 : (k : Int) < L.length := by omega
      have i4 : IntKind.i64.wrap ((s : Int) + m) = (s : Int) + m := IntWalk.i64_in _ (by omega)
      have i5 : ¬ (s : Int) + m < 0 := by omega
      have hb' : b < wr.heap.size := by have := ur.size; omega
      go_wp2
      go_roundw
      case rel => exact ⟨⟨k + 1, by omega, by go_num, by rw [HS2.out, ST.out]; simp⟩, ur⟩
      case measure => simp [intOf]; omega
    · have i3 : ¬ (k : Int) < L.length := by omega
      rw [FE.out k (by omega)]
      have ht := HT.out
      generalize hN : L.flatten.length = N at ht
      have HN := Lib.hid hN
      clear hN
      go_wp2_with fail
      refine (growI_any N _ (by omega)).mono ?_; rintro x w1 ⟨v1, rfl, o1, u1⟩
      have O1 := Lib.hid (own_mono o1 ur.size)
      have U1 := Lib.hid (ur.trans u1)
      clear o1 u1 ur i3 hk ht
      go_wp2_with fail
      go_loopw [6, 27] (fun v i wr => (∃ k : Nat, k ≤ L.length ∧ i = .int .i64 k ∧ wr.ownsRow w.heap.size 53 7 v (L.take k).flatten.length (flat7 (L.take k).flatten)) ∧ Up w wr) (fun _ i _ => L.length - (intOf i).toNat)
      case atStart => exact ⟨⟨0, by omega, rfl, O1.out⟩, U1.out⟩
      case round =>
        obtain ⟨⟨k, hk, rfl, ho⟩, ur⟩ := hrel
        have HO := Lib.hid ho
        clear ho U1
        by_cases hlt : k < L.length
        · obtain ⟨A, c, hcell, hev⟩ := HP.out k hlt
          have cell' := (ur.cells b k hb).trans hcell
          have RD := Lib.hid (hev.up ur).reads
          clear hcell hev
          have fk := FS.out k hlt
          have st := congrArg List.length (FS.out k hlt)
          rw [List.length_append] at st
          generalize L.getD k [] = es at cell' RD fk st
          have FK := Lib.hid fk
          clear fk
          have ht := HT.out
          have le := FL.out (k + 1)
          have HMX := Lib.hid (show (L.take k).flatten.length + es.length ≤ maxLen by simp only [maxLen]; omega)
          have HBY := Lib.hid (show ((L.take k).flatten.length + es.length) * 56 ≤ 140737488355328 by omega)
          have HBS := Lib.hid ur.size
          have ST := Lib.hid st
          clear st ht le
          have i3 : (k : Int) < L.length := by omega
          have hb' : b < wr.heap.size := by have := HBS.out; omega
          go_wp2_with (at_builtin; refine wpList_append_any _ rfl (.tmp 31) (.tmp 32) 30 rfl w.heap.size 53 i0 _ 7 56 Try.underlying30 INF.out.1 INF.out.2.1 INF.out.2.2.1 INF.out.2.2.2 rfl SIX.out _ _ _ rfl HO.out _ _ _ _ (flat7 es) rfl RD.out (flat7_one _) HMX.out HBY.out HBS.out ?_; intro v2 w2 ho2 hg2 _)
          have HO2 := Lib.hid ho2
          have HG2 := Lib.hid hg2
          clear ho2 hg2
          go_roundw
          case rel => exact ⟨⟨k + 1, by omega, by go_num, by rw [FK.out, flat7_app, List.length_append]; exact HO2.out⟩, ur.grown HG2.out (fun j hj => (HO.out.lt j hj).1)⟩
          case measure => simp [intOf]; omega
        · have i3 : ¬ (k : Int) < L.length := by omega
          have HO2 := Lib.hid (show wr.ownsRow w.heap.size 53 7 _ L.flatten.length (flat7 L.flatten) from FE.out k (by omega) ▸ HO.out)
          go_wp2; go_ret
          exact NewIt.of_own HO2.out ur
theorem concatI2 (A1 : Option Addr) (n1 c1 : Nat) (es1 : List Rec) (A2 : Option Addr) (n2 c2 : Nat) (es2 : List Rec) (W : World) (h1 : Recs W A1 n1 es1) (h2 : Recs W A2 n2 es2) (hT : n1 + n2 ≤ 1000000000) :
    Calls Try.prog 103 #[.slice (some ⟨W.heap.size, 0, none⟩) 2 2] (W.alloc (.cells #[.slice A1 n1 c1, .slice A2 n2 c2] 30)) (NewIt (es1 ++ es2) (W.alloc (.cells #[.slice A1 n1 c1, .slice A2 n2 c2] 30))) := by
  obtain rfl := h1.1; obtain rfl := h2.1
  have hh := heap_alloc_new W (.cells #[.slice A1 es1.length c1, .slice A2 es2.length c2] 30)
  have := concatI_any W.heap.size 2 [es1, es2] (W.alloc (.cells #[.slice A1 es1.length c1, .slice A2 es2.length c2] 30)) (by simp) (by simp) (fun j hj => by
    have h : j = 0 ∨ j = 1 := by simp at hj; omega
    rcases h with rfl | rfl
    · exact ⟨A1, c1, by rw [cell_of_row _ _ 0 _ _ _ hh]; rfl, h1.up ((Up.refl W).alloc _)⟩
    · exact ⟨A2, c2, by rw [cell_of_row _ _ 1 _ _ _ hh]; rfl, h2.up ((Up.refl W).alloc _)⟩) (by simpa using hT)
  simpa using this
end Go.Proofs.Ytipjcjjjkkaigaa

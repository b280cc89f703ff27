/-
  A region that draws its order and whose callees make new blocks, in one sentence: one walk in the order of the text serves every order, where each operation yields one value in every grown world.
  Appending onto a row of the call's own, in one sentence: the new row holds the old list and what was appended; for every source that lies in memory, nil let in.
  The putting of an event in its place, in one sentence: where it stands in the new list, as lists; no condition is made.
  What toEvtEvt returns, in one sentence: the same six numbers; for every event.
  What toEvtEvtS returns, in one sentence: a new slice of the same events; for every list that lies in memory.
  An event's block of the call's own, in one sentence: its six cells, none frozen, kept wherever another block alone is written.
-/
import Derived.Deep.AppendLies
import Derived.Deep.Draws
import Derived.Laws.OwnMore
import Derived.Maps.AppendAt
import Derived.OwnWalk
import Derived.RegionTactic
import Derived.Test.YtlikekmhccnilaaGreatDLEsup01
import Derived.Test.YtlikekmhccnilaaGreatDLEsup02
namespace Go.Proofs.YtlikekmhccnilaaGreat
set_option maxRecDepth 100000
open Go.RowKit
theorem region_up {P : Program} {id : Nat} {Q : Exit → Act → World → Prop} {a : Act} {w : World} {l : List Oper} (hm : P.follows .mixedOrders = true) (hB : Region.lexB .any l.toArray = true)
    (h : wpQuiet P l.toArray (Up w) (fun a' => ∀ w', Up w w' → Q .normal a' w') l a) : (Code.region id l.toArray true).wp P Q a w :=
  wp_region_quiet (C := Up w) hm hB (show Up w w.drew from (Up.refl w).drew) (by simpa using h)
/-- One operation: one value, in every grown world. -/
theorem up_step {P : Program} {ops : Array Oper} {w : World} {Q : Act → Prop} {a : Act} {o : Oper} {rest : List Oper} (hg : o.guard = none)
    (h : ∃ v, (∀ w1, Up w w1 → Oper.quietUpon P (Up w) w1 v ((execOp a.eval o).run P w1)) ∧ wpQuiet P ops (Up w) Q rest (a.put o.dst v)) : wpQuiet P ops (Up w) Q (o :: rest) a :=
  wpQuiet_step fun K hK => by
    have hw : Region.wanted o (yielded ops a.tmps) = true := by simp [Region.wanted, hg]
    rw [if_pos hw]; obtain ⟨v, hq, hk⟩ := h
    exact ⟨v, hq, hK _ hk⟩
/-- A guarded operation that is wanted. -/
theorem up_want {P : Program} {ops : Array Oper} {w : World} {Q : Act → Prop} {a : Act} {o : Oper} {rest : List Oper} (hw : Region.wanted o (yielded ops a.tmps) = true)
    (h : ∃ v, (∀ w1, Up w w1 → Oper.quietUpon P (Up w) w1 v ((execOp a.eval o).run P w1)) ∧ wpQuiet P ops (Up w) Q rest (a.put o.dst v)) : wpQuiet P ops (Up w) Q (o :: rest) a :=
  wpQuiet_step fun K hK => by
    rw [if_pos hw]; obtain ⟨v, hq, hk⟩ := h
    exact ⟨v, hq, hK _ hk⟩
/-- A guarded operation that is not wanted. -/
theorem up_skip {P : Program} {ops : Array Oper} {w : World} {Q : Act → Prop} {a : Act} {o : Oper} {rest : List Oper} (hw : Region.wanted o (yielded ops a.tmps) = false)
    (h : wpQuiet P ops (Up w) Q rest (a.put o.dst undef)) : wpQuiet P ops (Up w) Q (o :: rest) a :=
  wpQuiet_step fun K hK => by
    rw [if_neg (by rw [hw]; exact Bool.false_ne_true)]
    exact hK _ h
theorem up_call {P : Program} {f : FuncId} {args : Array Value} {w w1 : World} {v : Value} (hw : Up w w1)
    (h : Calls P f args w1 fun e w' => e = .returned v ∧ Up w1 w') : Calls P f args w1 fun e w'' => e = .returned v ∧ Up w w'' :=
  h.mono fun _ _ ⟨he, u⟩ => ⟨he, hw.trans u⟩
end Go.Proofs.YtlikekmhccnilaaGreat

namespace Go.Proofs.YtlikekmhccnilaaGreat
set_option maxRecDepth 100000
open Go.RowKit
theorem block_of_add (a : Addr) (n : Nat) : (a.add n).block = a.block := by unfold Addr.add; split <;> rfl
def Reads (w : World) (B size : Nat) (A : Option Addr) (n : Nat) (xs : List Value) : Prop :=
  xs.length = n * size ∧ (0 < n → ∃ ad, A = some ad ∧ ad.block < B ∧ ∀ j u, xs[j]? = some u → w.cell? (ad.add j) = some u)
section
variable {w w' : World} {B B' size n : Nat} {A : Option Addr} {xs : List Value}
theorem Reads.keep (h : Reads w B size A n xs) (hk : ∀ p : Addr, p.block < B → w'.cell? p = w.cell? p) : Reads w' B size A n xs :=
  ⟨h.1, fun hn => by
    obtain ⟨ad, e, hb, hc⟩ := h.2 hn
    exact ⟨ad, e, hb, fun j u hu => (hk _ (by rw [block_of_add]; exact hb)).trans (hc j u hu)⟩⟩
theorem Reads.alloc (h : Reads w B size A n xs) (hB : B ≤ w.heap.size) (o : Obj) : Reads (w.alloc o) B size A n xs := h.keep fun p hp => World.cell?_alloc_lt w o p (by omega)
end
section
variable {P : Program} (w : World)
theorem run_append_of_nil (base : Nat) (t ty e : TypeId) (i : TypeInfo) (size : Nat) (ht : P.underlying t = some (.slice e)) (hi : P.info? e = some i)
    (v : Value) (n : Nat) (xs : List Value) (hown : w.ownsRow base e size v n xs) (c : Nat) : (Builtin.append_ #[t, t] ty #[v, .slice none 0 c]).run P w = .ok v w := by
  rcases hown.2 with ⟨rfl, rfl⟩ | ⟨g, cap, cur, rfl, _, _, hnc, _⟩
  · simp [Builtin.append_, run_underlying ht, sizeOf, typeInfo, hi, Builtin.lenOf, Builtin.firstCells]
  · simp [Builtin.append_, run_underlying ht, sizeOf, typeInfo, hi, Builtin.lenOf, Builtin.firstCells, hnc, storeCells]
theorem run_append_any (base : Nat) (t ty e : TypeId) (i : TypeInfo) (z : Value) (size bytes : Nat) (ht : P.underlying t = some (.slice e)) (hi : P.info? e = some i) (hz : i.zero = some z)
    (hsize : i.size = size) (hby : i.bytes = bytes) (hzs : z.cells.size = size) (hsz : 0 < size)
    (v : Value) (n : Nat) (xs : List Value) (hown : w.ownsRow base e size v n xs)
    (B : Nat) (A : Option Addr) (m c : Nat) (news : List Value) (hr : Reads w B size A m news) (h1 : ∀ u ∈ news, u.oneCell' = true)
    (h63 : n + m ≤ maxLen) (hbytes : (n + m) * bytes ≤ 140737488355328) (hbase : base ≤ w.heap.size) :
    ∃ v' w', (Builtin.append_ #[t, t] ty #[v, .slice A m c]).run P w = .ok v' w' ∧ w'.ownsRow base e size v' (n + m) (xs ++ news) ∧ w.grownBy w' v.ownBlock ∧
      (v'.ownBlock = v.ownBlock ∨ v'.ownBlock = some w.heap.size) := by
  rcases A with _ | ad
  · have hm : m = 0 := by
      rcases Nat.eq_zero_or_pos m with h0 | h0
      · exact h0
      · obtain ⟨ad, h, _⟩ := hr.2 h0
        cases h
    subst hm
    have hn : news = [] := List.eq_nil_of_length_eq_zero (by simpa using hr.1)
    subst hn
    exact ⟨v, w, run_append_of_nil w base t ty e i size ht hi v n xs hown c, by simpa using hown, World.grownBy.refl w _, .inl rfl⟩
  · have hcells : ∀ j u, news[j]? = some u → w.cell? (ad.add j) = some u := by
      intro j u hu
      rcases Nat.eq_zero_or_pos m with h0 | h0
      · subst h0
        have hn : news = [] := List.eq_nil_of_length_eq_zero (by simpa using hr.1)
        subst hn; simp at hu
      · obtain ⟨ad', h, _, hc⟩ := hr.2 h0
        injection h with h
        subst h
        exact hc j u hu
    obtain ⟨v', w', hrun, h2, h3, _, h5⟩ := run_append_own_at (P := P) w base t ty e i z size bytes ht hi hz hsize hby hzs hsz v n xs hown ad m c news hr.1 hcells h1 h63 hbytes hbase
    exact ⟨v', w', hrun, h2, h3, h5⟩
theorem wp_append_any {o : Oper} {a : Act} {K : Act → World → Prop} {Q : Exit → Act → World → Prop} (s x : Operand) (t : TypeId)
    (ho : o.op = .call { callee := .builtin .append, args := #[s, x], argTypes := #[t, t] })
    (base : Nat) (e : TypeId) (i : TypeInfo) (z : Value) (size bytes : Nat) (ht : P.underlying t = some (.slice e)) (hi : P.info? e = some i) (hz : i.zero = some z)
    (hsize : i.size = size) (hby : i.bytes = bytes) (hzs : z.cells.size = size) (hsz : 0 < size)
    (v : Value) (n : Nat) (xs : List Value) (hs : a.eval s = v) (hown : w.ownsRow base e size v n xs)
    (B : Nat) (A : Option Addr) (m c : Nat) (news : List Value) (hx : a.eval x = .slice A m c) (hr : Reads w B size A m news) (h1 : ∀ u ∈ news, u.oneCell' = true)
    (h63 : n + m ≤ maxLen) (hbytes : (n + m) * bytes ≤ 140737488355328) (hbase : base ≤ w.heap.size)
    (h : ∀ v' w', w'.ownsRow base e size v' (n + m) (xs ++ news) → w.grownBy w' v.ownBlock → (v'.ownBlock = v.ownBlock ∨ v'.ownBlock = some w.heap.size) → K (a.put o.dst v') w') : o.wp P a w K Q := by
  obtain ⟨v', w', hrun, h2, h3, h4⟩ := run_append_any (P := P) w base t o.type e i z size bytes ht hi hz hsize hby hzs hsz v n xs hown B A m c news hr h1 h63 hbytes hbase; unfold Oper.wp execOp; simp only [ho, resolve, invoke, builtin, Sem.run_bind, Sem.run_pure, Result.andThen_ok, List.map_toArray, List.map_cons, List.map_nil, hs, hx, hrun]
  exact h v' w' h2 h3 h4
theorem wpList_append_any {ops : Array Oper} {rest : List Oper} {o : Oper} {a : Act} {Q : Exit → Act → World → Prop} (hgd : o.guard = none) (s x : Operand) (t : TypeId)
    (ho : o.op = .call { callee := .builtin .append, args := #[s, x], argTypes := #[t, t] })
    (base : Nat) (e : TypeId) (i : TypeInfo) (z : Value) (size bytes : Nat) (ht : P.underlying t = some (.slice e)) (hi : P.info? e = some i) (hz : i.zero = some z)
    (hsize : i.size = size) (hby : i.bytes = bytes) (hzs : z.cells.size = size) (hsz : 0 < size)
    (v : Value) (n : Nat) (xs : List Value) (hs : a.eval s = v) (hown : w.ownsRow base e size v n xs)
    (B : Nat) (A : Option Addr) (m c : Nat) (news : List Value) (hx : a.eval x = .slice A m c) (hr : Reads w B size A m news) (h1 : ∀ u ∈ news, u.oneCell' = true)
    (h63 : n + m ≤ maxLen) (hbytes : (n + m) * bytes ≤ 140737488355328) (hbase : base ≤ w.heap.size)
    (h : ∀ v' w', w'.ownsRow base e size v' (n + m) (xs ++ news) → w.grownBy w' v.ownBlock → (v'.ownBlock = v.ownBlock ∨ v'.ownBlock = some w.heap.size) → wpList P ops Q rest (a.put o.dst v') w') : wpList P ops Q (o :: rest) a w :=
  wpList_plain hgd fun _ hK => wp_append_any w s x t ho base e i z size bytes ht hi hz hsize hby hzs hsz v n xs hs hown B A m c news hx hr h1 h63 hbytes hbase fun v' w' h2 h3 h4 => hK _ _ (h v' w' h2 h3 h4)
end
/-- An event's cells as a list. -/
def Evt.c6 (e : Evt) : List Value := [.int .i64 e.t, .int .i64 e.to, .int .i64 e.fr, .int .i64 e.sq, .int .i64 e.kd, .int .i64 e.dt]
/-- A list's cells. -/
def flat : List Evt → List Value
  | [] => []
  | e :: r => e.c6 ++ flat r
theorem flat_len : ∀ es : List Evt, (flat es).length = es.length * 6
  | [] => rfl
  | e :: r => by
    rw [flat, List.length_append, flat_len r]; simp [Evt.c6]
    omega
theorem flat_app : ∀ es fs : List Evt, flat (es ++ fs) = flat es ++ flat fs
  | [], _ => rfl
  | e :: r, fs => by rw [List.cons_append, flat, flat_app r fs, flat, List.append_assoc]
theorem flat_get : ∀ (es : List Evt) (i k : Nat), i < es.length → k < 6 → (flat es)[i * 6 + k]? = (es.getD i default).c6[k]?
  | [], i, _, hi, _ => absurd hi (by simp)
  | e :: r, 0, k, _, hk => by
    rw [flat, Nat.zero_mul, Nat.zero_add, List.getElem?_append_left (by simpa [Evt.c6] using hk)]
    rfl
  | e :: r, i + 1, k, hi, hk => by
    have hl : e.c6.length = 6 := rfl
    rw [flat, List.getElem?_append_right (by omega), hl, show (i + 1) * 6 + k - 6 = i * 6 + k by omega, flat_get r i k (by simpa using hi) hk]
    rfl
theorem flat_one (es : List Evt) : ∀ u ∈ flat es, u.oneCell' = true := by
  induction es with
  | nil => intro u hu; cases hu
  | cons e r ih =>
    intro u hu; rw [flat, List.mem_append] at hu
    rcases hu with hu | hu
    · simp only [Evt.c6, List.mem_cons, List.not_mem_nil, or_false] at hu
      rcases hu with rfl | rfl | rfl | rfl | rfl | rfl <;> rfl
    · exact ih u hu
theorem EvAt.at_ {w : World} {b o : Nat} {e : Evt} (h : EvAt w b o e) {k : Nat} {u : Value} (hk : k < 6) (hu : e.c6[k]? = some u) : w.cell? ⟨b, o + k, none⟩ = some u := by
  obtain ⟨h0, h1, h2, h3, h4, h5⟩ := h
  have h6 : k = 0 ∨ k = 1 ∨ k = 2 ∨ k = 3 ∨ k = 4 ∨ k = 5 := by omega
  rcases h6 with rfl | rfl | rfl | rfl | rfl | rfl
  · simp [Evt.c6] at hu; subst hu; exact h0
  · simp [Evt.c6] at hu; subst hu; exact h1
  · simp [Evt.c6] at hu; subst hu; exact h2
  · simp [Evt.c6] at hu; subst hu; exact h3
  · simp [Evt.c6] at hu; subst hu; exact h4
  · simp [Evt.c6] at hu; subst hu; exact h5
theorem Evs.reads {w : World} {A : Option Addr} {n : Nat} {es : List Evt} (h : Evs w A n es) : Reads w w.heap.size 6 A n (flat es) := by
  refine ⟨by rw [flat_len, h.1], fun hn => ?_⟩; obtain ⟨b, off, hA, hb, hc⟩ := h.2 hn; refine ⟨_, hA, hb, fun j u hu => ?_⟩
  have hj : j < (flat es).length := (List.getElem?_eq_some_iff.1 hu).1
  rw [flat_len, h.1] at hj
  have e : j = j / 6 * 6 + j % 6 := by omega
  have hi : j / 6 < n := by omega
  rw [e, flat_get es _ _ (by rw [h.1]; exact hi) (by omega)] at hu
  have := (hc _ hi).at_ (by omega) hu
  have ad : (⟨b, off, none⟩ : Addr).add j = ⟨b, off + j / 6 * 6 + j % 6, none⟩ := by
    unfold Addr.add
    split
    · rename_i h0; subst h0; rfl
    · rw [Nat.add_assoc, ← e]
  rw [ad]
  exact this
theorem own_evs {w : World} {base e n c : Nat} {A : Option Addr} {es : List Evt} (h : w.ownsRow base e 6 (.slice A n c) n (flat es)) : Evs w A n es := by
  have hl : es.length = n := by have := h.1; rw [flat_len] at this; omega
  refine ⟨hl, fun hn => ?_⟩; obtain ⟨g, cap, hv, _, hlt⟩ := h.form hn
  injection hv with hA _ hcap
  subst hA hcap; refine ⟨g, 0, rfl, hlt, fun i hi => ?_⟩
  have f : ∀ k, k < 6 → w.cell? ⟨g, 0 + i * 6 + k, none⟩ = (es.getD i default).c6[k]? := fun k hk => by
    rw [Nat.zero_add, h.cellAt (i * 6 + k) (by omega), flat_get es i k (by omega) hk]
  exact ⟨f 0 (by omega), f 1 (by omega), f 2 (by omega), f 3 (by omega), f 4 (by omega), f 5 (by omega)⟩
theorem Up.grown {a w w' : World} {row : Option Nat} (h : Up a w) (hg : w.grownBy w' row) (hr : ∀ k, row = some k → a.heap.size ≤ k) : Up a w' := Below.grown h hg h.size hr
theorem own_up {w w' : World} {b e size n : Nat} {v : Value} {xs : List Value} (h : w.ownsRow b e size v n xs) (u : Up w w') : w'.ownsRow b e size v n xs :=
  h.kept (row := none) ⟨u.below.os, u.below.tape, u.below.output, u.size, fun k hk _ => u.below.block k hk⟩ (by
    cases hv : v.ownBlock
    · exact .inl rfl
    · exact .inr (by simp))
/-- The new slice that a function hands back. -/
def NewSl (es : List Evt) (w : World) (x : Ending) (w' : World) : Prop :=
  ∃ A c, x = .returned (.slice A es.length c) ∧ es.length ≤ c ∧ c ≤ 9223372036854775807 ∧ Evs w' A es.length es ∧ w'.ownsRow w.heap.size 130 6 (.slice A es.length c) es.length (flat es) ∧ Up w w'
theorem own_slice {w : World} {base e n : Nat} {v : Value} {es : List Evt} (h : w.ownsRow base e 6 v n (flat es)) : n = es.length ∧ ∃ A c, v = .slice A n c ∧ n ≤ c ∧ c ≤ 9223372036854775807 := by
  have hl : es.length = n := by have := h.1; rw [flat_len] at this; omega
  refine ⟨hl.symm, ?_⟩
  rcases h.2 with ⟨rfl, rfl⟩ | ⟨g, cap, cur, rfl, _, _, hnc, hm, _⟩
  · exact ⟨none, 0, rfl, Nat.le_refl _, by omega⟩
  · exact ⟨_, cap, rfl, hnc, by unfold maxLen at hm; omega⟩
theorem NewSl.of_own {w w' : World} {n : Nat} {v : Value} {es : List Evt} (h : w'.ownsRow w.heap.size 130 6 v n (flat es)) (u : Up w w') : NewSl es w (.returned v) w' := by
  obtain ⟨rfl, A, c, rfl, hc, hm⟩ := own_slice h
  exact ⟨A, c, rfl, hc, hm, own_evs h, h, u⟩
/-- A block of one event's cells, as a slice of one. -/
theorem Evs.one {w : World} {b : Nat} {e : Evt} (h : w.cell? ⟨b, 0, none⟩ = some (.int .i64 e.t) ∧ w.cell? ⟨b, 1, none⟩ = some (.int .i64 e.to) ∧ w.cell? ⟨b, 2, none⟩ = some (.int .i64 e.fr) ∧ w.cell? ⟨b, 3, none⟩ = some (.int .i64 e.sq) ∧ w.cell? ⟨b, 4, none⟩ = some (.int .i64 e.kd) ∧ w.cell? ⟨b, 5, none⟩ = some (.int .i64 e.dt)) (hb : b < w.heap.size) :
    Evs w (some ⟨b, 0, none⟩) 1 [e] :=
  ⟨rfl, fun _ => ⟨b, 0, rfl, hb, fun i hi => by
    obtain rfl : i = 0 := by omega
    exact h⟩⟩
theorem Evs.new (w : World) (e : Evt) (t : TypeId) : Evs (w.alloc (.cells #[.int .i64 e.t, .int .i64 e.to, .int .i64 e.fr, .int .i64 e.sq, .int .i64 e.kd, .int .i64 e.dt] t)) (some ⟨w.heap.size, 0, none⟩) 1 [e] := by
  have hh := heap_alloc_new w (.cells #[.int .i64 e.t, .int .i64 e.to, .int .i64 e.fr, .int .i64 e.sq, .int .i64 e.kd, .int .i64 e.dt] t)
  exact Evs.one ⟨by rw [cell_of_row _ _ 0 _ _ _ hh]; rfl, by rw [cell_of_row _ _ 1 _ _ _ hh]; rfl, by rw [cell_of_row _ _ 2 _ _ _ hh]; rfl, by rw [cell_of_row _ _ 3 _ _ _ hh]; rfl, by rw [cell_of_row _ _ 4 _ _ _ hh]; rfl, by rw [cell_of_row _ _ 5 _ _ _ hh]; rfl⟩ (by simp)
end Go.Proofs.YtlikekmhccnilaaGreat

namespace Go.Proofs.YtlikekmhccnilaaGreat
set_option maxRecDepth 100000
open Go.RowKit
/-- e ahead of the first that is greater. -/
def ins (e : Evt) : List Evt → List Evt
  | [] => [e]
  | x :: r => if ltE e x = true then e :: x :: r else x :: ins e r
/-- What stands in the new list behind some of the old one. -/
def acc (e : Evt) (l : List Evt) : List Evt := if l.any (ltE e) = true then ins e l else l
theorem ins_none (e : Evt) : ∀ l : List Evt, l.any (ltE e) = false → ins e l = l ++ [e]
  | [], _ => rfl
  | x :: r, h => by
    simp only [List.any_cons, Bool.or_eq_false_iff] at h; rw [ins, if_neg (by rw [h.1]; exact Bool.false_ne_true), ins_none e r h.2, List.cons_append]
theorem ins_snoc (e x : Evt) : ∀ l : List Evt, l.any (ltE e) = true → ins e (l ++ [x]) = ins e l ++ [x]
  | [], h => by simp at h
  | y :: r, h => by
    rw [List.cons_append, ins, ins]
    by_cases hy : ltE e y = true
    · rw [if_pos hy, if_pos hy]; rfl
    · rw [if_neg hy, if_neg hy, ins_snoc e x r (by simpa [hy] using h), List.cons_append]
theorem ins_here (e x : Evt) : ∀ l : List Evt, l.any (ltE e) = false → ltE e x = true → ins e (l ++ [x]) = l ++ [e, x]
  | [], _, h => by rw [List.nil_append, ins, if_pos h]; rfl
  | y :: r, h, hx => by
    simp only [List.any_cons, Bool.or_eq_false_iff] at h; rw [List.cons_append, ins, if_neg (by rw [h.1]; exact Bool.false_ne_true), ins_here e x r h.2 hx]
    rfl
theorem ins_len (e : Evt) : ∀ l : List Evt, (ins e l).length = l.length + 1
  | [] => rfl
  | x :: r => by
    rw [ins]
    split
    · rfl
    · rw [List.length_cons, ins_len e r, List.length_cons]
theorem acc_true (e x : Evt) (l : List Evt) (h : l.any (ltE e) = true) : acc e (l ++ [x]) = acc e l ++ [x] ∧ (l ++ [x]).any (ltE e) = true := by
  have h2 : (l ++ [x]).any (ltE e) = true := by rw [List.any_append, h]; rfl
  exact ⟨by rw [acc, if_pos h2, acc, if_pos h, ins_snoc e x l h], h2⟩
theorem acc_here (e x : Evt) (l : List Evt) (h : l.any (ltE e) = false) (hx : ltE e x = true) : acc e (l ++ [x]) = (acc e l ++ [e]) ++ [x] ∧ (l ++ [x]).any (ltE e) = true := by
  have h2 : (l ++ [x]).any (ltE e) = true := by rw [List.any_append, h]; simp [hx]
  exact ⟨by rw [acc, if_pos h2, acc, if_neg (by rw [h]; exact Bool.false_ne_true), ins_here e x l h hx]; simp, h2⟩
theorem acc_no (e x : Evt) (l : List Evt) (h : l.any (ltE e) = false) (hx : ltE e x = false) : acc e (l ++ [x]) = acc e l ++ [x] ∧ (l ++ [x]).any (ltE e) = false := by
  have h2 : (l ++ [x]).any (ltE e) = false := by rw [List.any_append, h]; simp [hx]
  exact ⟨by rw [acc, if_neg (by rw [h2]; exact Bool.false_ne_true), acc, if_neg (by rw [h]; exact Bool.false_ne_true)], h2⟩
theorem acc_end (e : Evt) (l : List Evt) : (l.any (ltE e) = true → acc e l = ins e l) ∧ (l.any (ltE e) = false → acc e l ++ [e] = ins e l) :=
  ⟨fun h => by rw [acc, if_pos h], fun h => by rw [acc, if_neg (by rw [h]; exact Bool.false_ne_true), ins_none e l h]⟩
theorem take_snoc (es : List Evt) (k : Nat) (h : k < es.length) : es.take (k + 1) = es.take k ++ [es.getD k default] := by
  rw [List.take_succ_eq_append_getElem h]; simp [h]
theorem own_mono {w : World} {b b' e size n : Nat} {v : Value} {xs : List Value} (h : w.ownsRow b e size v n xs) (hb : b' ≤ b) : w.ownsRow b' e size v n xs := by
  refine ⟨h.1, ?_⟩
  rcases h.2 with hn | ⟨g, cap, cur, hv, hg, hr⟩
  · exact .inl hn
  · exact .inr ⟨g, cap, cur, hv, by omega, hr⟩
end Go.Proofs.YtlikekmhccnilaaGreat

namespace Go.Proofs.YtlikekmhccnilaaGreat
set_option maxRecDepth 100000
open Go.RowKit
theorem toEvt_any (e : Evt) (w : World) :
    Calls Tryz.prog 151 #[e.v] w fun x w' => x = .returned e.v ∧ Up w w' := by
  obtain ⟨et, eto, efr, esq, ekd, edt⟩ := e; unfold Evt.v; dsimp only
  go_enter Tryz.func151, Tryz.ntmps151
  go_wp2; refine bodyPost_ret (v := .agg #[.int .i64 et, .int .i64 eto, .int .i64 efr, .int .i64 esq, .int .i64 ekd, .int .i64 edt]) (by simp [results, Tryz.results151, go_sem]) rfl ⟨rfl, (((Up.refl _).alloc _).alloc _).alloc _⟩
end Go.Proofs.YtlikekmhccnilaaGreat

namespace Go.Proofs.YtlikekmhccnilaaGreat
set_option maxRecDepth 100000
open Go.RowKit
theorem info130 : (Tryz.prog.info? 130).map (fun i => (i.zero, i.size, i.bytes)) = some (some (.agg #[.int .i64 0, .int .i64 0, .int .i64 0, .int .i64 0, .int .i64 0, .int .i64 0]), 6, 48) := by kernel_rfl
theorem run_make_rowN {P : Program} (t e : TypeId) (i : TypeInfo) (z : Value) (ht : P.underlying t = some (.slice e)) (hi : P.info? e = some i) (hz : i.zero = some z)
    (kl kc : IntKind) (n c : Nat) (hnc : n ≤ c) (hbytes : i.bytes * c ≤ 281474976710656) (h63 : c ≤ 9223372036854775807) (w : World) :
    (Instr.makeSlice t (.int kl (n : Int)) (.int kc (c : Int))).run P w = .ok (.slice (some ⟨w.heap.size, 0, none⟩) n c) (w.alloc (.cells (madeCells z.cells (c * i.size)) e)) := by
  have hb : (i.bytes : Int) * (c : Int) ≤ 281474976710656 := by
    have h : ((i.bytes * c : Nat) : Int) ≤ 281474976710656 := by omega
    rwa [Int.natCast_mul] at h
  have hr := run_make (P := P) w t e i z ht hi hz kl kc n c (by omega) (by omega) hb (by omega)
  simp only [Int.toNat_natCast] at hr
  exact hr
set_option maxHeartbeats 1000000 in
theorem toS_any (A : Option Addr) (n cap : Nat) (es : List Evt) (w : World) (hn : n ≤ 1000000000) (hE : Evs w A n es) :
    Calls Tryz.prog 57 #[.slice A n cap] w (NewEvs es n w) := by
  obtain ⟨i0, hi, hz0, hz1, hz2⟩ := info_parts info130
  have hmk := fun W => run_make_rowN (P := Tryz.prog) 33 130 i0 _ Tryz.underlying33 hi hz0 .i64 .i64 n n (Nat.le_refl _) (by rw [hz2]; omega) (by omega) W
  rw [hz1] at hmk
  have HE := Lib.hid hE
  have LE := Lib.hid hE.1
  have CL := Lib.hid (fun a W => toEvt_any a W)
  clear hE hi hz0 hz1 hz2
  go_enter Tryz.func57, Tryz.ntmps57
  go_wp2
  generalize hg : w.heap.size = g
  have HG := Lib.hid (Nat.le_of_eq hg)
  go_loopw [4] (fun i wr => (∃ k : Nat, k ≤ n ∧ i = .int .i64 k ∧ Part wr g n k es) ∧ Up w wr) (fun i _ => n - (intOf i).toNat)
  case atStart =>
    refine ⟨⟨0, by omega, rfl, ?_⟩, (Up.refl _).alloc _⟩; subst hg
    exact Part.start w n es
  case round =>
    obtain ⟨⟨k, hk, rfl, hp⟩, ur⟩ := hrel
    by_cases hlt : k < n
    · obtain ⟨b, off, hA, hb, hc⟩ := HE.out.2 (by omega)
      subst hA
      have a0 := (hc k hlt).up ur hb
      have hb' : b < wr.heap.size := by have := ur.size; omega
      clear hc
      have cl := CL.out (es.getD k default)
      have HP := Lib.hid hp
      clear hp
      generalize hpk : es.getD k default = p at a0 cl
      obtain ⟨pt, pto, pfr, psq, pkd, pdt⟩ := p
      have HE' := Lib.hid hpk
      clear hpk; unfold EvAt at a0; unfold Evt.v at cl; dsimp only at a0 cl; obtain ⟨p0, p1, p2, p3, p4, p5⟩ := a0
      have C := Lib.hid cl
      clear cl
      have i4 : (k : Int) < n := by omega
      go_wp2_with fail
      refine (C.out _).mono ?_; rintro x wA ⟨rfl, uA⟩
      have P := HP.out.up uA
      obtain ⟨⟨v0, c0⟩, f0⟩ := P.2.2 (k * 6) (by omega); obtain ⟨⟨v1, c1⟩, f1⟩ := P.2.2 (k * 6 + 1) (by omega); obtain ⟨⟨v2, c2⟩, f2⟩ := P.2.2 (k * 6 + 2) (by omega); obtain ⟨⟨v3, c3⟩, f3⟩ := P.2.2 (k * 6 + 3) (by omega); obtain ⟨⟨v4, c4⟩, f4⟩ := P.2.2 (k * 6 + 4) (by omega); obtain ⟨⟨v5, c5⟩, f5⟩ := P.2.2 (k * 6 + 5) (by omega)
      have HP2 := Lib.hid P
      clear P p0 p1 p2 p3 p4 p5; go_wp2
      go_roundw
      case rel =>
        have hq := HP2.out.put HE'.out hlt
        have hu := (ur.trans uA).putEv (b := g) (o := k * 6) (e := ⟨pt, pto, pfr, psq, pkd, pdt⟩) HG.out
        unfold putEv at hq hu
        exact ⟨⟨k + 1, by omega, by go_num, hq⟩, hu⟩
      case measure => simp [intOf]; omega
    · have HP := Lib.hid hp
      clear hp; go_wp2; go_ret
      exact ⟨g, rfl, by omega, HP.out.own LE.out (by omega), ur⟩
end Go.Proofs.YtlikekmhccnilaaGreat

namespace Go.Proofs.YtlikekmhccnilaaGreat
set_option maxRecDepth 100000
open Go.RowKit
/-- Block b holds just this event's cells, none frozen. -/
structure Box (w : World) (b : Nat) (e : Evt) : Prop where
  lt : b < w.heap.size
  c0 : w.cell? ⟨b, 0, none⟩ = some (.int .i64 e.t)
  c1 : w.cell? ⟨b, 1, none⟩ = some (.int .i64 e.to)
  c2 : w.cell? ⟨b, 2, none⟩ = some (.int .i64 e.fr)
  c3 : w.cell? ⟨b, 3, none⟩ = some (.int .i64 e.sq)
  c4 : w.cell? ⟨b, 4, none⟩ = some (.int .i64 e.kd)
  c5 : w.cell? ⟨b, 5, none⟩ = some (.int .i64 e.dt)
  f0 : w.frozen? ⟨b, 0, none⟩ = false
  f1 : w.frozen? ⟨b, 1, none⟩ = false
  f2 : w.frozen? ⟨b, 2, none⟩ = false
  f3 : w.frozen? ⟨b, 3, none⟩ = false
  f4 : w.frozen? ⟨b, 4, none⟩ = false
  f5 : w.frozen? ⟨b, 5, none⟩ = false
theorem Box.keep {w w' : World} {b : Nat} {e : Evt} (h : Box w b e) (hs : w.heap.size ≤ w'.heap.size) (hc : ∀ o, w'.cell? ⟨b, o, none⟩ = w.cell? ⟨b, o, none⟩) (hf : ∀ o, w'.frozen? ⟨b, o, none⟩ = w.frozen? ⟨b, o, none⟩) : Box w' b e :=
  ⟨Nat.lt_of_lt_of_le h.lt hs, (hc 0).trans h.c0, (hc 1).trans h.c1, (hc 2).trans h.c2, (hc 3).trans h.c3, (hc 4).trans h.c4, (hc 5).trans h.c5, (hf 0).trans h.f0, (hf 1).trans h.f1, (hf 2).trans h.f2, (hf 3).trans h.f3, (hf 4).trans h.f4, (hf 5).trans h.f5⟩
theorem Box.up {w w' : World} {b : Nat} {e : Evt} (h : Box w b e) (u : Up w w') : Box w' b e := h.keep u.size (fun _ => u.cells _ _ h.lt) (fun _ => u.frozens _ _ h.lt)
theorem Box.alloc {w : World} {b : Nat} {e : Evt} (h : Box w b e) (o : Obj) : Box (w.alloc o) b e := h.up ((Up.refl w).alloc o)
theorem Box.new (w : World) (e : Evt) (t : TypeId) : Box (w.alloc (.cells #[.int .i64 e.t, .int .i64 e.to, .int .i64 e.fr, .int .i64 e.sq, .int .i64 e.kd, .int .i64 e.dt] t)) w.heap.size e := by
  have hh := heap_alloc_new w (.cells #[.int .i64 e.t, .int .i64 e.to, .int .i64 e.fr, .int .i64 e.sq, .int .i64 e.kd, .int .i64 e.dt] t)
  have ff : ∀ j, (w.alloc (.cells #[.int .i64 e.t, .int .i64 e.to, .int .i64 e.fr, .int .i64 e.sq, .int .i64 e.kd, .int .i64 e.dt] t)).frozen? ⟨w.heap.size, j, none⟩ = false := fun j => by
    unfold World.frozen?; rw [hh]; simp
  exact ⟨by simp, by rw [cell_of_row _ _ 0 _ _ _ hh]; rfl, by rw [cell_of_row _ _ 1 _ _ _ hh]; rfl, by rw [cell_of_row _ _ 2 _ _ _ hh]; rfl, by rw [cell_of_row _ _ 3 _ _ _ hh]; rfl, by rw [cell_of_row _ _ 4 _ _ _ hh]; rfl, by rw [cell_of_row _ _ 5 _ _ _ hh]; rfl, ff 0, ff 1, ff 2, ff 3, ff 4, ff 5⟩
theorem Box.setFar {w : World} {b : Nat} {e : Evt} (h : Box w b e) {p : Addr} (hp : p.block ≠ b) (u : Value) : Box (w.setCell p u) b e :=
  h.keep (by simp) (fun o => World.cell?_setCell_other _ _ _ _ (fun e => hp (by rw [e]))) (fun o => by simp [go_sem])
theorem Box.somes {w : World} {b : Nat} {e : Evt} (h : Box w b e) : ∀ k, k < 6 → ∃ v, w.cell? ⟨b, 0 + k, none⟩ = some v := fun k hk => by
  have h6 : k = 0 ∨ k = 1 ∨ k = 2 ∨ k = 3 ∨ k = 4 ∨ k = 5 := by omega
  rcases h6 with rfl | rfl | rfl | rfl | rfl | rfl
  · exact ⟨_, h.c0⟩
  · exact ⟨_, h.c1⟩
  · exact ⟨_, h.c2⟩
  · exact ⟨_, h.c3⟩
  · exact ⟨_, h.c4⟩
  · exact ⟨_, h.c5⟩
theorem Box.mk6 {w : World} {b : Nat} {z0 z1 z2 z3 z4 z5 : Int} (h : Box w b ⟨z0, z1, z2, z3, z4, z5⟩) :
    (w.cell? ⟨b, 0, none⟩ = some (.int .i64 z0) ∧ w.cell? ⟨b, 1, none⟩ = some (.int .i64 z1) ∧ w.cell? ⟨b, 2, none⟩ = some (.int .i64 z2) ∧ w.cell? ⟨b, 3, none⟩ = some (.int .i64 z3) ∧ w.cell? ⟨b, 4, none⟩ = some (.int .i64 z4) ∧ w.cell? ⟨b, 5, none⟩ = some (.int .i64 z5)) ∧ (w.frozen? ⟨b, 0, none⟩ = false ∧ w.frozen? ⟨b, 1, none⟩ = false ∧ w.frozen? ⟨b, 2, none⟩ = false ∧ w.frozen? ⟨b, 3, none⟩ = false ∧ w.frozen? ⟨b, 4, none⟩ = false ∧ w.frozen? ⟨b, 5, none⟩ = false) :=
  ⟨⟨h.c0, h.c1, h.c2, h.c3, h.c4, h.c5⟩, ⟨h.f0, h.f1, h.f2, h.f3, h.f4, h.f5⟩⟩
end Go.Proofs.YtlikekmhccnilaaGreat

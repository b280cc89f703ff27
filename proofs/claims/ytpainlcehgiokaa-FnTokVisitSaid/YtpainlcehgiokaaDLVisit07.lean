/-
  Appending onto a row of the call's own, in one sentence: the new row holds the old list and what was appended; for every source that lies in memory, nil let in.
  The putting of an event in its place, in one sentence: where it stands in the new list, as lists; no condition is made.
  What l1Put returns, in one sentence: a new slice of the list with the event ahead of the first that is greater; for every list that lies in memory.
-/
import Derived.Deep.AppendLies
import Derived.Deep.Draws
import Derived.Laws.OwnMore
import Derived.Maps.AppendAt
import Derived.OwnWalk
import Derived.RegionTactic
import Derived.Test.YtpainlcehgiokaaDLVisit02
import Derived.Test.YtpainlcehgiokaaDLVisit06
namespace Go.Proofs.Ytpainlcehgiokaa
set_option maxRecDepth 100000
open Go.RowKit
def Reads (w : World) (B size : Nat) (A : Option Addr) (n : Nat) (xs : List Value) : Prop :=
  xs.length = n * size ∧ (0 < n → ∃ ad, A = some ad ∧ ad.block < B ∧ ∀ j u, xs[j]? = some u → w.cell? (ad.add j) = some u)
section
variable {w w' : World} {B B' size n : Nat} {A : Option Addr} {xs : List Value}
end
section
variable {P : Program} (w : World)
theorem run_append_of_nil (base : Nat) (t ty e : TypeId) (i : TypeInfo) (size : Nat) (ht : P.underlying t = some (.slice e)) (hi : P.info? e = some i)
    (v : Value) (n : Nat) (xs : List Value) (hown : w.ownsRow base e size v n xs) (c : Nat) : (Builtin.append_ #[t, t] ty #[v, .slice none 0 c]).run P w = .ok v w := by
  rcases hown.2 with ⟨rfl, rfl⟩ | ⟨g, cap, cur, rfl, _, _, hnc, _⟩
  · simp [Builtin.append_, run_underlying ht, sizeOf, typeInfo, hi, Builtin.lenOf, Builtin.firstCells]
  · simp [Builtin.append_, run_underlying ht, sizeOf, typeInfo, hi, Builtin.lenOf, Builtin.firstCells, hnc, storeCells]
theorem run_append_any (base : Nat) (t ty e : TypeId) (i : TypeInfo) (z : Value) (size bytes : Nat) (ht : P.underlying t = some (.slice e)) (hi : P.info? e = some i) (hz : i.zero = some z)
    (hsize : i.size = size) (hby : i.bytes = bytes) (hzs : z.cells.size = size) (hsz : 0 < size)
    (v : Value) (n : Nat) (xs : List Value) (hown : w.ownsRow base e size v n xs)
    (B : Nat) (A : Option Addr) (m c : Nat) (news : List Value) (hr : Reads w B size A m news) (h1 : ∀ u ∈ news, u.oneCell' = true)
    (h63 : n + m ≤ maxLen) (hbytes : (n + m) * bytes ≤ 140737488355328) (hbase : base ≤ w.heap.size) :
    ∃ v' w', (Builtin.append_ #[t, t] ty #[v, .slice A m c]).run P w = .ok v' w' ∧ w'.ownsRow base e size v' (n + m) (xs ++ news) ∧ w.grownBy w' v.ownBlock ∧
      (v'.ownBlock = v.ownBlock ∨ v'.ownBlock = some w.heap.size) := by
  rcases A with _ | ad
  · have hm : m = 0 := by
      rcases Nat.eq_zero_or_pos m with h0 | h0
      · exact h0
      · obtain ⟨ad, h, _⟩ := hr.2 h0
        cases h
    subst hm
    have hn : news = [] := List.eq_nil_of_length_eq_zero (by simpa using hr.1)
    subst hn
    exact ⟨v, w, run_append_of_nil w base t ty e i size ht hi v n xs hown c, by simpa using hown, World.grownBy.refl w _, .inl rfl⟩
  · have hcells : ∀ j u, news[j]? = some u → w.cell? (ad.add j) = some u := by
      intro j u hu
      rcases Nat.eq_zero_or_pos m with h0 | h0
      · subst h0
        have hn : news = [] := List.eq_nil_of_length_eq_zero (by simpa using hr.1)
        subst hn; simp at hu
      · obtain ⟨ad', h, _, hc⟩ := hr.2 h0
        injection h with h
        subst h
        exact hc j u hu
    obtain ⟨v', w', hrun, h2, h3, _, h5⟩ := run_append_own_at (P := P) w base t ty e i z size bytes ht hi hz hsize hby hzs hsz v n xs hown ad m c news hr.1 hcells h1 h63 hbytes hbase
    exact ⟨v', w', hrun, h2, h3, h5⟩
theorem wp_append_any {o : Oper} {a : Act} {K : Act → World → Prop} {Q : Exit → Act → World → Prop} (s x : Operand) (t : TypeId)
    (ho : o.op = .call { callee := .builtin .append, args := #[s, x], argTypes := #[t, t] })
    (base : Nat) (e : TypeId) (i : TypeInfo) (z : Value) (size bytes : Nat) (ht : P.underlying t = some (.slice e)) (hi : P.info? e = some i) (hz : i.zero = some z)
    (hsize : i.size = size) (hby : i.bytes = bytes) (hzs : z.cells.size = size) (hsz : 0 < size)
    (v : Value) (n : Nat) (xs : List Value) (hs : a.eval s = v) (hown : w.ownsRow base e size v n xs)
    (B : Nat) (A : Option Addr) (m c : Nat) (news : List Value) (hx : a.eval x = .slice A m c) (hr : Reads w B size A m news) (h1 : ∀ u ∈ news, u.oneCell' = true)
    (h63 : n + m ≤ maxLen) (hbytes : (n + m) * bytes ≤ 140737488355328) (hbase : base ≤ w.heap.size)
    (h : ∀ v' w', w'.ownsRow base e size v' (n + m) (xs ++ news) → w.grownBy w' v.ownBlock → (v'.ownBlock = v.ownBlock ∨ v'.ownBlock = some w.heap.size) → K (a.put o.dst v') w') : o.wp P a w K Q := by
  obtain ⟨v', w', hrun, h2, h3, h4⟩ := run_append_any (P := P) w base t o.type e i z size bytes ht hi hz hsize hby hzs hsz v n xs hown B A m c news hr h1 h63 hbytes hbase; unfold Oper.wp execOp; simp only [ho, resolve, invoke, builtin, Sem.run_bind, Sem.run_pure, Result.andThen_ok, List.map_toArray, List.map_cons, List.map_nil, hs, hx, hrun]
  exact h v' w' h2 h3 h4
theorem wpList_append_any {ops : Array Oper} {rest : List Oper} {o : Oper} {a : Act} {Q : Exit → Act → World → Prop} (hgd : o.guard = none) (s x : Operand) (t : TypeId)
    (ho : o.op = .call { callee := .builtin .append, args := #[s, x], argTypes := #[t, t] })
    (base : Nat) (e : TypeId) (i : TypeInfo) (z : Value) (size bytes : Nat) (ht : P.underlying t = some (.slice e)) (hi : P.info? e = some i) (hz : i.zero = some z)
    (hsize : i.size = size) (hby : i.bytes = bytes) (hzs : z.cells.size = size) (hsz : 0 < size)
    (v : Value) (n : Nat) (xs : List Value) (hs : a.eval s = v) (hown : w.ownsRow base e size v n xs)
    (B : Nat) (A : Option Addr) (m c : Nat) (news : List Value) (hx : a.eval x = .slice A m c) (hr : Reads w B size A m news) (h1 : ∀ u ∈ news, u.oneCell' = true)
    (h63 : n + m ≤ maxLen) (hbytes : (n + m) * bytes ≤ 140737488355328) (hbase : base ≤ w.heap.size)
    (h : ∀ v' w', w'.ownsRow base e size v' (n + m) (xs ++ news) → w.grownBy w' v.ownBlock → (v'.ownBlock = v.ownBlock ∨ v'.ownBlock = some w.heap.size) → wpList P ops Q rest (a.put o.dst v') w') : wpList P ops Q (o :: rest) a w :=
  wpList_plain hgd fun _ hK => wp_append_any w s x t ho base e i z size bytes ht hi hz hsize hby hzs hsz v n xs hs hown B A m c news hx hr h1 h63 hbytes hbase fun v' w' h2 h3 h4 => hK _ _ (h v' w' h2 h3 h4)
end
/-- An event's cells as a list. -/
def Evt.c6 (e : Evt) : List Value := [.int .i64 e.t, .int .i64 e.to, .int .i64 e.fr, .int .i64 e.sq, .int .i64 e.kd, .int .i64 e.dt]
/-- A list's cells. -/
def flat : List Evt → List Value
  | [] => []
  | e :: r => e.c6 ++ flat r
theorem flat_len : ∀ es : List Evt, (flat es).length = es.length * 6
  | [] => rfl
  | e :: r => by
    rw [flat, List.length_append, flat_len r]; simp [Evt.c6]
    omega
theorem flat_app : ∀ es fs : List Evt, flat (es ++ fs) = flat es ++ flat fs
  | [], _ => rfl
  | e :: r, fs => by rw [List.cons_append, flat, flat_app r fs, flat, List.append_assoc]
theorem flat_get : ∀ (es : List Evt) (i k : Nat), i < es.length → k < 6 → (flat es)[i * 6 + k]? = (es.getD i default).c6[k]?
  | [], i, _, hi, _ => absurd hi (by simp)
  | e :: r, 0, k, _, hk => by
    rw [flat, Nat.zero_mul, Nat.zero_add, List.getElem?_append_left (by simpa [Evt.c6] using hk)]
    rfl
  | e :: r, i + 1, k, hi, hk => by
    have hl : e.c6.length = 6 := rfl
    rw [flat, List.getElem?_append_right (by omega), hl, show (i + 1) * 6 + k - 6 = i * 6 + k by omega, flat_get r i k (by simpa using hi) hk]
    rfl
theorem flat_one (es : List Evt) : ∀ u ∈ flat es, u.oneCell' = true := by
  induction es with
  | nil => intro u hu; cases hu
  | cons e r ih =>
    intro u hu; rw [flat, List.mem_append] at hu
    rcases hu with hu | hu
    · simp only [Evt.c6, List.mem_cons, List.not_mem_nil, or_false] at hu
      rcases hu with rfl | rfl | rfl | rfl | rfl | rfl <;> rfl
    · exact ih u hu
theorem EvAt.at_ {w : World} {b o : Nat} {e : Evt} (h : EvAt w b o e) {k : Nat} {u : Value} (hk : k < 6) (hu : e.c6[k]? = some u) : w.cell? ⟨b, o + k, none⟩ = some u := by
  obtain ⟨h0, h1, h2, h3, h4, h5⟩ := h
  have h6 : k = 0 ∨ k = 1 ∨ k = 2 ∨ k = 3 ∨ k = 4 ∨ k = 5 := by omega
  rcases h6 with rfl | rfl | rfl | rfl | rfl | rfl
  · simp [Evt.c6] at hu; subst hu; exact h0
  · simp [Evt.c6] at hu; subst hu; exact h1
  · simp [Evt.c6] at hu; subst hu; exact h2
  · simp [Evt.c6] at hu; subst hu; exact h3
  · simp [Evt.c6] at hu; subst hu; exact h4
  · simp [Evt.c6] at hu; subst hu; exact h5
theorem Evs.reads {w : World} {A : Option Addr} {n : Nat} {es : List Evt} (h : Evs w A n es) : Reads w w.heap.size 6 A n (flat es) := by
  refine ⟨by rw [flat_len, h.1], fun hn => ?_⟩; obtain ⟨b, off, hA, hb, hc⟩ := h.2 hn; refine ⟨_, hA, hb, fun j u hu => ?_⟩
  have hj : j < (flat es).length := (List.getElem?_eq_some_iff.1 hu).1
  rw [flat_len, h.1] at hj
  have e : j = j / 6 * 6 + j % 6 := by omega
  have hi : j / 6 < n := by omega
  rw [e, flat_get es _ _ (by rw [h.1]; exact hi) (by omega)] at hu
  have := (hc _ hi).at_ (by omega) hu
  have ad : (⟨b, off, none⟩ : Addr).add j = ⟨b, off + j / 6 * 6 + j % 6, none⟩ := by
    unfold Addr.add
    split
    · rename_i h0; subst h0; rfl
    · rw [Nat.add_assoc, ← e]
  rw [ad]
  exact this
theorem own_evs {w : World} {base e n c : Nat} {A : Option Addr} {es : List Evt} (h : w.ownsRow base e 6 (.slice A n c) n (flat es)) : Evs w A n es := by
  have hl : es.length = n := by have := h.1; rw [flat_len] at this; omega
  refine ⟨hl, fun hn => ?_⟩; obtain ⟨g, cap, hv, _, hlt⟩ := h.form hn
  injection hv with hA _ hcap
  subst hA hcap; refine ⟨g, 0, rfl, hlt, fun i hi => ?_⟩
  have f : ∀ k, k < 6 → w.cell? ⟨g, 0 + i * 6 + k, none⟩ = (es.getD i default).c6[k]? := fun k hk => by
    rw [Nat.zero_add, h.cellAt (i * 6 + k) (by omega), flat_get es i k (by omega) hk]
  exact ⟨f 0 (by omega), f 1 (by omega), f 2 (by omega), f 3 (by omega), f 4 (by omega), f 5 (by omega)⟩
theorem Up.grown {a w w' : World} {row : Option Nat} (h : Up a w) (hg : w.grownBy w' row) (hr : ∀ k, row = some k → a.heap.size ≤ k) : Up a w' := Below.grown h hg h.size hr
theorem own_up {w w' : World} {b e size n : Nat} {v : Value} {xs : List Value} (h : w.ownsRow b e size v n xs) (u : Up w w') : w'.ownsRow b e size v n xs :=
  h.kept (row := none) ⟨u.below.os, u.below.tape, u.below.output, u.size, fun k hk _ => u.below.block k hk⟩ (by
    cases hv : v.ownBlock
    · exact .inl rfl
    · exact .inr (by simp))
/-- The new slice that a function hands back. -/
def NewSl (es : List Evt) (w : World) (x : Ending) (w' : World) : Prop :=
  ∃ A c, x = .returned (.slice A es.length c) ∧ es.length ≤ c ∧ c ≤ 9223372036854775807 ∧ Evs w' A es.length es ∧ w'.ownsRow w.heap.size 71 6 (.slice A es.length c) es.length (flat es) ∧ Up w w'
theorem own_slice {w : World} {base e n : Nat} {v : Value} {es : List Evt} (h : w.ownsRow base e 6 v n (flat es)) : n = es.length ∧ ∃ A c, v = .slice A n c ∧ n ≤ c ∧ c ≤ 9223372036854775807 := by
  have hl : es.length = n := by have := h.1; rw [flat_len] at this; omega
  refine ⟨hl.symm, ?_⟩
  rcases h.2 with ⟨rfl, rfl⟩ | ⟨g, cap, cur, rfl, _, _, hnc, hm, _⟩
  · exact ⟨none, 0, rfl, Nat.le_refl _, by omega⟩
  · exact ⟨_, cap, rfl, hnc, by unfold maxLen at hm; omega⟩
theorem NewSl.of_own {w w' : World} {n : Nat} {v : Value} {es : List Evt} (h : w'.ownsRow w.heap.size 71 6 v n (flat es)) (u : Up w w') : NewSl es w (.returned v) w' := by
  obtain ⟨rfl, A, c, rfl, hc, hm⟩ := own_slice h
  exact ⟨A, c, rfl, hc, hm, own_evs h, h, u⟩
/-- A block of one event's cells, as a slice of one. -/
theorem Evs.one {w : World} {b : Nat} {e : Evt} (h : w.cell? ⟨b, 0, none⟩ = some (.int .i64 e.t) ∧ w.cell? ⟨b, 1, none⟩ = some (.int .i64 e.to) ∧ w.cell? ⟨b, 2, none⟩ = some (.int .i64 e.fr) ∧ w.cell? ⟨b, 3, none⟩ = some (.int .i64 e.sq) ∧ w.cell? ⟨b, 4, none⟩ = some (.int .i64 e.kd) ∧ w.cell? ⟨b, 5, none⟩ = some (.int .i64 e.dt)) (hb : b < w.heap.size) :
    Evs w (some ⟨b, 0, none⟩) 1 [e] :=
  ⟨rfl, fun _ => ⟨b, 0, rfl, hb, fun i hi => by
    obtain rfl : i = 0 := by omega
    exact h⟩⟩
theorem Evs.new (w : World) (e : Evt) (t : TypeId) : Evs (w.alloc (.cells #[.int .i64 e.t, .int .i64 e.to, .int .i64 e.fr, .int .i64 e.sq, .int .i64 e.kd, .int .i64 e.dt] t)) (some ⟨w.heap.size, 0, none⟩) 1 [e] := by
  have hh := heap_alloc_new w (.cells #[.int .i64 e.t, .int .i64 e.to, .int .i64 e.fr, .int .i64 e.sq, .int .i64 e.kd, .int .i64 e.dt] t)
  exact Evs.one ⟨by rw [cell_of_row _ _ 0 _ _ _ hh]; rfl, by rw [cell_of_row _ _ 1 _ _ _ hh]; rfl, by rw [cell_of_row _ _ 2 _ _ _ hh]; rfl, by rw [cell_of_row _ _ 3 _ _ _ hh]; rfl, by rw [cell_of_row _ _ 4 _ _ _ hh]; rfl, by rw [cell_of_row _ _ 5 _ _ _ hh]; rfl⟩ (by simp)
end Go.Proofs.Ytpainlcehgiokaa

namespace Go.Proofs.Ytpainlcehgiokaa
set_option maxRecDepth 100000
open Go.RowKit
/-- e ahead of the first that is greater. -/
def ins (e : Evt) : List Evt → List Evt
  | [] => [e]
  | x :: r => if ltE e x = true then e :: x :: r else x :: ins e r
/-- What stands in the new list behind some of the old one. -/
def acc (e : Evt) (l : List Evt) : List Evt := if l.any (ltE e) = true then ins e l else l
theorem ins_none (e : Evt) : ∀ l : List Evt, l.any (ltE e) = false → ins e l = l ++ [e]
  | [], _ => rfl
  | x :: r, h => by
    simp only [List.any_cons, Bool.or_eq_false_iff] at h; rw [ins, if_neg (by rw [h.1]; exact Bool.false_ne_true), ins_none e r h.2, List.cons_append]
theorem ins_snoc (e x : Evt) : ∀ l : List Evt, l.any (ltE e) = true → ins e (l ++ [x]) = ins e l ++ [x]
  | [], h => by simp at h
  | y :: r, h => by
    rw [List.cons_append, ins, ins]
    by_cases hy : ltE e y = true
    · rw [if_pos hy, if_pos hy]; rfl
    · rw [if_neg hy, if_neg hy, ins_snoc e x r (by simpa [hy] using h), List.cons_append]
theorem ins_here (e x : Evt) : ∀ l : List Evt, l.any (ltE e) = false → ltE e x = true → ins e (l ++ [x]) = l ++ [e, x]
  | [], _, h => by rw [List.nil_append, ins, if_pos h]; rfl
  | y :: r, h, hx => by
    simp only [List.any_cons, Bool.or_eq_false_iff] at h; rw [List.cons_append, ins, if_neg (by rw [h.1]; exact Bool.false_ne_true), ins_here e x r h.2 hx]
    rfl
theorem ins_len (e : Evt) : ∀ l : List Evt, (ins e l).length = l.length + 1
  | [] => rfl
  | x :: r => by
    rw [ins]
    split
    · rfl
    · rw [List.length_cons, ins_len e r, List.length_cons]
theorem acc_true (e x : Evt) (l : List Evt) (h : l.any (ltE e) = true) : acc e (l ++ [x]) = acc e l ++ [x] ∧ (l ++ [x]).any (ltE e) = true := by
  have h2 : (l ++ [x]).any (ltE e) = true := by rw [List.any_append, h]; rfl
  exact ⟨by rw [acc, if_pos h2, acc, if_pos h, ins_snoc e x l h], h2⟩
theorem acc_here (e x : Evt) (l : List Evt) (h : l.any (ltE e) = false) (hx : ltE e x = true) : acc e (l ++ [x]) = (acc e l ++ [e]) ++ [x] ∧ (l ++ [x]).any (ltE e) = true := by
  have h2 : (l ++ [x]).any (ltE e) = true := by rw [List.any_append, h]; simp [hx]
  exact ⟨by rw [acc, if_pos h2, acc, if_neg (by rw [h]; exact Bool.false_ne_true), ins_here e x l h hx]; simp, h2⟩
theorem acc_no (e x : Evt) (l : List Evt) (h : l.any (ltE e) = false) (hx : ltE e x = false) : acc e (l ++ [x]) = acc e l ++ [x] ∧ (l ++ [x]).any (ltE e) = false := by
  have h2 : (l ++ [x]).any (ltE e) = false := by rw [List.any_append, h]; simp [hx]
  exact ⟨by rw [acc, if_neg (by rw [h2]; exact Bool.false_ne_true), acc, if_neg (by rw [h]; exact Bool.false_ne_true)], h2⟩
theorem acc_end (e : Evt) (l : List Evt) : (l.any (ltE e) = true → acc e l = ins e l) ∧ (l.any (ltE e) = false → acc e l ++ [e] = ins e l) :=
  ⟨fun h => by rw [acc, if_pos h], fun h => by rw [acc, if_neg (by rw [h]; exact Bool.false_ne_true), ins_none e l h]⟩
theorem take_snoc (es : List Evt) (k : Nat) (h : k < es.length) : es.take (k + 1) = es.take k ++ [es.getD k default] := by
  rw [List.take_succ_eq_append_getElem h]; simp [h]
theorem own_mono {w : World} {b b' e size n : Nat} {v : Value} {xs : List Value} (h : w.ownsRow b e size v n xs) (hb : b' ≤ b) : w.ownsRow b' e size v n xs := by
  refine ⟨h.1, ?_⟩
  rcases h.2 with hn | ⟨g, cap, cur, hv, hg, hr⟩
  · exact .inl hn
  · exact .inr ⟨g, cap, cur, hv, by omega, hr⟩
end Go.Proofs.Ytpainlcehgiokaa

namespace Go.Proofs.Ytpainlcehgiokaa
set_option maxRecDepth 100000
open Go.RowKit
/-- What the loop keeps. -/
def PutRel (es : List Evt) (lt : Evt → Bool) (ac : List Evt → List Evt) (n base : Nat) (v d i : Value) (wr : World) : Prop :=
  ∃ (k : Nat) (b : Bool) (l : List Evt), k ≤ n ∧ i = .int .i64 k ∧ d = .bool b ∧ (es.take k).any lt = b ∧ l = ac (es.take k) ∧ (l.length ≤ k ∨ (b = true ∧ l.length ≤ k + 1)) ∧ wr.ownsRow base 71 6 v l.length (flat l)
theorem flat_snoc (l : List Evt) (x : Evt) : flat l ++ flat [x] = flat (l ++ [x]) := (flat_app _ _).symm
theorem own_snoc {w : World} {b e n : Nat} {v : Value} {l : List Evt} {x : Evt} (h : w.ownsRow b e 6 v n (flat l ++ flat [x])) (hn : n = l.length + 1) : w.ownsRow b e 6 v (l ++ [x]).length (flat (l ++ [x])) := by
  rw [flat_snoc] at h; subst hn
  simpa using h
theorem Box.grown {w w' : World} {b : Nat} {e : Evt} {row : Option Nat} (h : Box w b e) (hg : w.grownBy w' row) (hb : some b ≠ row) : Box w' b e :=
  h.keep hg.size (fun _ => World.cell?_of_block (hg.block b h.lt hb)) (fun _ => World.frozen?_of_block (hg.block b h.lt hb))
theorem own_ne {w : World} {base e n b : Nat} {v : Value} {xs : List Value} (h : w.ownsRow base e 6 v n xs) (hb : b < base) : some b ≠ v.ownBlock := fun he => by
  have := (h.lt b he.symm).1
  omega
theorem EvAt.grown {w w' : World} {b o : Nat} {e : Evt} {row : Option Nat} (h : EvAt w b o e) (hg : w.grownBy w' row) (hb : some b ≠ row) : EvAt w' b o e := by
  obtain ⟨h0, h1, h2, h3, h4, h5⟩ := h
  exact ⟨hg.cell h0 hb, hg.cell h1 hb, hg.cell h2 hb, hg.cell h3 hb, hg.cell h4 hb, hg.cell h5 hb⟩
theorem bs_alloc {w w' : World} {b : Nat} {o : Obj} (h : b ≤ w.heap.size) (hs : w.heap.size ≤ w'.heap.size) : b ≤ (w'.alloc o).heap.size := by
  simp
  omega
set_option maxHeartbeats 8000000 in
theorem l1Put_any (A : Option Addr) (n cap : Nat) (es : List Evt) (e : Evt) (w : World) (hn : n ≤ 1000000000) (hE : Evs w A n es) :
    Calls Try.prog 38 #[.slice A n cap, e.v] w (NewSl (ins e es) w) := by
  obtain ⟨i0, hi0, hz0, hz1, hz2⟩ := info_parts info71
  have HE := Lib.hid hE
  have LE := Lib.hid hE.1
  have TS := Lib.hid (take_snoc es)
  have AT := Lib.hid (acc_true e)
  have AH := Lib.hid (acc_here e)
  have AN := Lib.hid (acc_no e)
  have AE := Lib.hid (acc_end e es)
  have CL := Lib.hid (fun x W => specLess_any e x W)
  have INF := Lib.hid (And.intro hi0 (And.intro hz0 (And.intro hz1 hz2)))
  have SIX := Lib.hid (show 0 < 6 by omega)
  clear hE hi0 hz0 hz1 hz2
  generalize hins : ins e es = res at AE
  have HI := Lib.hid hins
  clear hins
  generalize hlt : ltE e = lt at AT AH AN AE CL
  generalize hac : acc e = ac at AT AH AN AE
  have ac0 : ac [] = [] := by rw [← hac]; rfl
  have AC0 := Lib.hid ac0
  clear hlt hac ac0; obtain ⟨et, eto, efr, esq, ekd, edt⟩ := e; unfold Evt.v at CL ⊢; dsimp only at CL ⊢
  go_enter Try.func38, Try.ntmps38
  go_wp2
  go_loopw [5, 6, 7] (fun v d i wr => PutRel es lt ac n (w.heap.size + 1) v d i wr ∧ Up w wr ∧ Box wr w.heap.size ⟨et, eto, efr, esq, ekd, edt⟩) (fun _ _ i _ => n - (intOf i).toNat)
  case atStart =>
    refine ⟨⟨0, false, [], by omega, rfl, rfl, rfl, AC0.out.symm, .inl (by simp), ?_⟩, ((Up.refl w).alloc _).alloc _, (Box.new w ⟨et, eto, efr, esq, ekd, edt⟩ 71).alloc _⟩
    have := World.ownsRow_lit (base := w.heap.size + 1) (e := 71) (size := 6) (w.alloc (.cells #[.int .i64 et, .int .i64 eto, .int .i64 efr, .int .i64 esq, .int .i64 ekd, .int .i64 edt] 71)) #[] 0 (by simp) (by simp only [maxLen]; omega) (by simp)
    simpa [flat] using this
  case round =>
    obtain ⟨⟨k, b, l, hk, rfl, rfl, hb, hl, hlx, ho⟩, ur, bx⟩ := hrel
    have hll : l.length ≤ k + 1 := by rcases hlx with h | h <;> omega
    have HLX := Lib.hid (show b = false → l.length ≤ k from fun h => by rcases hlx with h2 | ⟨h2, _⟩; exact h2; rw [h] at h2; cases h2)
    clear hlx
    have HBB := Lib.hid hb
    have HL := Lib.hid hl
    have HO := Lib.hid ho
    have BX := Lib.hid bx
    have hs := ur.size
    have hsx := bx.lt
    clear hb hl ho bx
    by_cases hlt : k < n
    · obtain ⟨bb, off, hA, hbb, hc⟩ := HE.out.2 (by omega)
      subst hA
      have a0 := (hc k hlt).up ur hbb
      have hbb' : bb < wr.heap.size := by omega
      clear hc
      have ts := TS.out k (by rw [LE.out]; exact hlt)
      have cl := CL.out (es.getD k default)
      have lx1 := AT.out (es.getD k default) (es.take k)
      have lx2 := AH.out (es.getD k default) (es.take k)
      have lx3 := AN.out (es.getD k default) (es.take k)
      generalize es.getD k default = x at a0 ts cl lx1 lx2 lx3
      rw [← ts, HBB.out, ← HL.out] at lx1 lx2 lx3
      have LX1 := Lib.hid lx1
      generalize hltx : lt x = lx at cl lx2 lx3
      have LX2 := Lib.hid lx2
      have LX3 := Lib.hid lx3
      clear ts hltx lx1 lx2 lx3; obtain ⟨xt, xto, xfr, xsq, xkd, xdt⟩ := x
      have AX := Lib.hid a0
      unfold EvAt at a0; dsimp only at a0 cl
      have C := Lib.hid cl
      clear cl
      have i4 : (k : Int) < n := by omega
      have HMX := Lib.hid (show l.length + 1 ≤ maxLen by simp only [maxLen]; omega)
      have HBY := Lib.hid (show (l.length + 1) * 48 ≤ 140737488355328 by omega)
      have HMX2 := Lib.hid (show (l ++ [(⟨et, eto, efr, esq, ekd, edt⟩ : Evt)]).length + 1 ≤ maxLen by simp only [maxLen, List.length_append, List.length_singleton]; omega)
      have HBY2 := Lib.hid (show ((l ++ [(⟨et, eto, efr, esq, ekd, edt⟩ : Evt)]).length + 1) * 48 ≤ 140737488355328 by simp only [List.length_append, List.length_singleton]; omega)
      obtain ⟨⟨e0, e1, e2, e3, e4, e5⟩, -⟩ := BX.out.mk6; obtain ⟨p0, p1, p2, p3, p4, p5⟩ := a0
      cases b
      · cases lx
        · go_wp2
          refine region_up (by kernel_rfl) (by kernel_rfl) ?_; refine up_step rfl ?_; apply Exists.intro; refine ⟨fun w1 hw1 => ?_, ?_⟩
          · go_simp
            try rfl
          go_simp; refine up_step rfl ?_; apply Exists.intro; refine ⟨fun w1 hw1 => ?_, ?_⟩
          · go_simp
            try rfl
          go_simp; refine up_step rfl ?_; apply Exists.intro; refine ⟨fun w1 hw1 => ?_, ?_⟩
          · go_simp
            try rfl
          go_simp; refine up_want (by rfl) ?_; apply Exists.intro; refine ⟨fun w1 hw1 => ?_, ?_⟩
          · obtain ⟨hc, hf, hz⟩ := hw1.facts
            try simp at hz
            go_simp
            try rfl
          go_simp; refine up_want (by rfl) ?_; apply Exists.intro; refine ⟨fun w1 hw1 => ?_, ?_⟩
          · go_simp
            try rfl
          go_simp; refine up_want (by rfl) ?_; apply Exists.intro; refine ⟨fun w1 hw1 => ?_, ?_⟩
          · go_simp
            try rfl
          go_simp; refine up_want (by rfl) ?_; apply Exists.intro; refine ⟨fun w1 hw1 => ?_, ?_⟩
          · go_simp
            try rfl
          go_simp; refine up_want (by rfl) ?_; apply Exists.intro; refine ⟨fun w1 hw1 => ?_, ?_⟩
          · obtain ⟨hc, hf, hz⟩ := hw1.facts
            try simp at hz
            go_simp
            try rfl
          go_simp; refine up_want (by rfl) ?_; apply Exists.intro; refine ⟨fun w1 hw1 => ?_, ?_⟩
          · go_simp
            exact up_call hw1 (C.out _)
          go_simp; refine up_step rfl ?_; apply Exists.intro; refine ⟨fun w1 hw1 => ?_, ?_⟩
          · go_simp
            try rfl
          go_simp; refine wpQuiet_nil ?_; intro wA uA
          have UA := Lib.hid uA
          have HOA := Lib.hid (own_up (own_up HO.out UA.out) ((Up.refl wA).alloc (.cells #[.int .i64 xt, .int .i64 xto, .int .i64 xfr, .int .i64 xsq, .int .i64 xkd, .int .i64 xdt] 71)))
          have HR := Lib.hid (Evs.new wA ⟨xt, xto, xfr, xsq, xkd, xdt⟩ 71).reads
          have HBS := Lib.hid (show w.heap.size + 1 ≤ (wA.alloc (.cells #[.int .i64 xt, .int .i64 xto, .int .i64 xfr, .int .i64 xsq, .int .i64 xkd, .int .i64 xdt] 71)).heap.size by have := UA.out.size; simp; omega)
          have UG := Lib.hid (ur.trans UA.out)
          have BG := Lib.hid ((BX.out.up UA.out).alloc (.cells #[.int .i64 xt, .int .i64 xto, .int .i64 xfr, .int .i64 xsq, .int .i64 xkd, .int .i64 xdt] 71))
          obtain ⟨hc, hf, hz⟩ := uA.facts; clear uA
          go_wp2_with (at_builtin; refine wpList_append_any _ rfl (.tmp 29) (.tmp 34) 24 rfl (w.heap.size + 1) 71 i0 _ 6 48 Try.underlying24 INF.out.1 INF.out.2.1 INF.out.2.2.1 INF.out.2.2.2 rfl SIX.out _ _ (flat l) rfl HOA.out _ _ 1 1 (flat [⟨xt, xto, xfr, xsq, xkd, xdt⟩]) rfl HR.out (flat_one _) HMX.out HBY.out HBS.out ?_; intro v2 w2 ho2 hg2 _)
          have HO2 := Lib.hid ho2
          have HG2 := Lib.hid hg2
          clear ho2 hg2
          go_roundw
          case rel =>
            have hlk := HLX.out (by first | trivial | rfl)
            obtain ⟨q1, q2⟩ := LX3.out (by first | trivial | rfl) (by first | trivial | rfl)
            exact ⟨⟨k + 1, false, l ++ [⟨xt, xto, xfr, xsq, xkd, xdt⟩], by omega, by go_num, rfl, q2, q1.symm, .inl (by simp; omega), own_snoc HO2.out rfl⟩, (UG.out.alloc _).grown HG2.out (fun j hj => by have := (HOA.out.lt j hj).1; omega), BG.out.grown HG2.out (own_ne HOA.out (by omega))⟩
          case measure => simp [intOf]; omega
        · go_wp2
          refine region_up (by kernel_rfl) (by kernel_rfl) ?_; refine up_step rfl ?_; apply Exists.intro; refine ⟨fun w1 hw1 => ?_, ?_⟩
          · go_simp
            try rfl
          go_simp; refine up_step rfl ?_; apply Exists.intro; refine ⟨fun w1 hw1 => ?_, ?_⟩
          · go_simp
            try rfl
          go_simp; refine up_step rfl ?_; apply Exists.intro; refine ⟨fun w1 hw1 => ?_, ?_⟩
          · go_simp
            try rfl
          go_simp; refine up_want (by rfl) ?_; apply Exists.intro; refine ⟨fun w1 hw1 => ?_, ?_⟩
          · obtain ⟨hc, hf, hz⟩ := hw1.facts
            try simp at hz
            go_simp
            try rfl
          go_simp; refine up_want (by rfl) ?_; apply Exists.intro; refine ⟨fun w1 hw1 => ?_, ?_⟩
          · go_simp
            try rfl
          go_simp; refine up_want (by rfl) ?_; apply Exists.intro; refine ⟨fun w1 hw1 => ?_, ?_⟩
          · go_simp
            try rfl
          go_simp; refine up_want (by rfl) ?_; apply Exists.intro; refine ⟨fun w1 hw1 => ?_, ?_⟩
          · go_simp
            try rfl
          go_simp; refine up_want (by rfl) ?_; apply Exists.intro; refine ⟨fun w1 hw1 => ?_, ?_⟩
          · obtain ⟨hc, hf, hz⟩ := hw1.facts
            try simp at hz
            go_simp
            try rfl
          go_simp; refine up_want (by rfl) ?_; apply Exists.intro; refine ⟨fun w1 hw1 => ?_, ?_⟩
          · go_simp
            exact up_call hw1 (C.out _)
          go_simp; refine up_step rfl ?_; apply Exists.intro; refine ⟨fun w1 hw1 => ?_, ?_⟩
          · go_simp
            try rfl
          go_simp; refine wpQuiet_nil ?_; intro wA uA
          have HOA := Lib.hid (own_up (own_up HO.out uA) ((Up.refl wA).alloc (.cells #[.int .i64 et, .int .i64 eto, .int .i64 efr, .int .i64 esq, .int .i64 ekd, .int .i64 edt] 71)))
          have HR := Lib.hid (Evs.new wA ⟨et, eto, efr, esq, ekd, edt⟩ 71).reads
          have HBS := Lib.hid (show w.heap.size + 1 ≤ (wA.alloc (.cells #[.int .i64 et, .int .i64 eto, .int .i64 efr, .int .i64 esq, .int .i64 ekd, .int .i64 edt] 71)).heap.size by have := uA.size; simp; omega)
          have UG := Lib.hid (ur.trans uA)
          have BG := Lib.hid ((BX.out.up uA).alloc (.cells #[.int .i64 et, .int .i64 eto, .int .i64 efr, .int .i64 esq, .int .i64 ekd, .int .i64 edt] 71))
          obtain ⟨hc, hf, hz⟩ := uA.facts
          have hwb : w.heap.size < wA.heap.size := by omega
          have HBX := Lib.hid (show bb < w.heap.size + 1 by omega)
          have AXA := Lib.hid ((AX.out.up uA hbb').up ((Up.refl wA).alloc (.cells #[.int .i64 et, .int .i64 eto, .int .i64 efr, .int .i64 esq, .int .i64 ekd, .int .i64 edt] 71)) (Nat.lt_of_lt_of_le hbb' uA.size))
          clear uA
          go_wp2_with (first | (at_builtin; refine wpList_append_any _ rfl (.tmp 25) (.tmp 27) 24 rfl (w.heap.size + 1) 71 i0 _ 6 48 Try.underlying24 INF.out.1 INF.out.2.1 INF.out.2.2.1 INF.out.2.2.2 rfl SIX.out _ _ (flat l) rfl HOA.out _ _ 1 1 (flat [⟨et, eto, efr, esq, ekd, edt⟩]) rfl HR.out (flat_one _) HMX.out HBY.out HBS.out ?_; intro v2 w2 ho2 hg2 _; have HO2 := Lib.hid (own_snoc ho2 rfl); have HG2 := Lib.hid hg2; have HS2 := Lib.hid hg2.size; have AX2 := AXA.out.grown hg2 (own_ne HOA.out HBX.out); unfold EvAt at AX2; dsimp only at AX2; obtain ⟨z0, z1, z2, z3, z4, z5⟩ := AX2; have HOA2 := Lib.hid (own_up HO2.out ((Up.refl w2).alloc (.cells #[.int .i64 xt, .int .i64 xto, .int .i64 xfr, .int .i64 xsq, .int .i64 xkd, .int .i64 xdt] 71))); have HR2 := Lib.hid (Evs.new w2 ⟨xt, xto, xfr, xsq, xkd, xdt⟩ 71).reads; have HBS2 := Lib.hid (bs_alloc (o := (.cells #[.int .i64 xt, .int .i64 xto, .int .i64 xfr, .int .i64 xsq, .int .i64 xkd, .int .i64 xdt] 71)) HBS.out HS2.out); clear ho2 hg2) | (at_builtin; refine wpList_append_any _ rfl (.tmp 29) (.tmp 34) 24 rfl (w.heap.size + 1) 71 i0 _ 6 48 Try.underlying24 INF.out.1 INF.out.2.1 INF.out.2.2.1 INF.out.2.2.2 rfl SIX.out _ _ (flat (l ++ [(⟨et, eto, efr, esq, ekd, edt⟩ : Evt)])) rfl HOA2.out _ _ 1 1 (flat [⟨xt, xto, xfr, xsq, xkd, xdt⟩]) rfl HR2.out (flat_one _) HMX2.out HBY2.out HBS2.out ?_; intro v3 w3 ho3 hg3 _))
          have HO3 := Lib.hid ho3
          have HG3 := Lib.hid hg3
          clear ho3 hg3
          go_roundw
          case rel =>
            have hlk := HLX.out (by first | trivial | rfl)
            obtain ⟨q1, q2⟩ := LX2.out (by first | trivial | rfl) (by first | trivial | rfl)
            have g1 := (UG.out.alloc (.cells #[.int .i64 et, .int .i64 eto, .int .i64 efr, .int .i64 esq, .int .i64 ekd, .int .i64 edt] 71)).grown HG2.out (fun j hj => by have := (HOA.out.lt j hj).1; omega)
            exact ⟨⟨k + 1, true, l ++ [⟨et, eto, efr, esq, ekd, edt⟩] ++ [⟨xt, xto, xfr, xsq, xkd, xdt⟩], by omega, by go_num, rfl, q2, q1.symm, .inr ⟨rfl, by simp; omega⟩, own_snoc HO3.out rfl⟩, (g1.alloc _).grown HG3.out (fun j hj => by have := (HOA2.out.lt j hj).1; omega), ((BG.out.grown HG2.out (own_ne HOA.out (by omega))).alloc _).grown HG3.out (own_ne HOA2.out (by omega))⟩
          case measure => simp [intOf]; omega
      · go_wp2
        refine region_up (by kernel_rfl) (by kernel_rfl) ?_; refine up_step rfl ?_; apply Exists.intro; refine ⟨fun w1 hw1 => ?_, ?_⟩
        · go_simp
          try rfl
        go_simp; refine up_step rfl ?_; apply Exists.intro; refine ⟨fun w1 hw1 => ?_, ?_⟩
        · go_simp
          try rfl
        go_simp; refine up_step rfl ?_; apply Exists.intro; refine ⟨fun w1 hw1 => ?_, ?_⟩
        · go_simp
          try rfl
        go_simp; refine up_skip (by rfl) ?_; go_simp; refine up_skip (by rfl) ?_; go_simp; refine up_skip (by rfl) ?_; go_simp; refine up_skip (by rfl) ?_; go_simp; refine up_skip (by rfl) ?_; go_simp; refine up_skip (by rfl) ?_; go_simp; refine up_step rfl ?_; apply Exists.intro; refine ⟨fun w1 hw1 => ?_, ?_⟩
        · go_simp
          try rfl
        go_simp; refine wpQuiet_nil ?_; intro wA uA
        have UA := Lib.hid uA
        have HOA := Lib.hid (own_up (own_up HO.out UA.out) ((Up.refl wA).alloc (.cells #[.int .i64 xt, .int .i64 xto, .int .i64 xfr, .int .i64 xsq, .int .i64 xkd, .int .i64 xdt] 71)))
        have HR := Lib.hid (Evs.new wA ⟨xt, xto, xfr, xsq, xkd, xdt⟩ 71).reads
        have HBS := Lib.hid (show w.heap.size + 1 ≤ (wA.alloc (.cells #[.int .i64 xt, .int .i64 xto, .int .i64 xfr, .int .i64 xsq, .int .i64 xkd, .int .i64 xdt] 71)).heap.size by have := UA.out.size; simp; omega)
        have UG := Lib.hid (ur.trans UA.out)
        have BG := Lib.hid ((BX.out.up UA.out).alloc (.cells #[.int .i64 xt, .int .i64 xto, .int .i64 xfr, .int .i64 xsq, .int .i64 xkd, .int .i64 xdt] 71))
        obtain ⟨hc, hf, hz⟩ := uA.facts; clear uA
        go_wp2_with (at_builtin; refine wpList_append_any _ rfl (.tmp 29) (.tmp 34) 24 rfl (w.heap.size + 1) 71 i0 _ 6 48 Try.underlying24 INF.out.1 INF.out.2.1 INF.out.2.2.1 INF.out.2.2.2 rfl SIX.out _ _ (flat l) rfl HOA.out _ _ 1 1 (flat [⟨xt, xto, xfr, xsq, xkd, xdt⟩]) rfl HR.out (flat_one _) HMX.out HBY.out HBS.out ?_; intro v2 w2 ho2 hg2 _)
        have HO2 := Lib.hid ho2
        have HG2 := Lib.hid hg2
        clear ho2 hg2
        go_roundw
        case rel =>
          obtain ⟨q1, q2⟩ := LX1.out (by first | trivial | rfl)
          exact ⟨⟨k + 1, true, l ++ [⟨xt, xto, xfr, xsq, xkd, xdt⟩], by omega, by go_num, rfl, q2, q1.symm, .inr ⟨rfl, by simp; omega⟩, own_snoc HO2.out rfl⟩, (UG.out.alloc _).grown HG2.out (fun j hj => by have := (HOA.out.lt j hj).1; omega), BG.out.grown HG2.out (own_ne HOA.out (by omega))⟩
        case measure => simp [intOf]; omega
    · have hkn : k = n := by omega
      have TK := Lib.hid (show es.take k = es by rw [hkn, ← LE.out, List.take_length])
      have HLE := Lib.hid hll
      clear hkn hll; obtain ⟨⟨e0, e1, e2, e3, e4, e5⟩, -⟩ := BX.out.mk6
      cases b
      · have HOA := Lib.hid (own_up HO.out ((Up.refl wr).alloc (.cells #[.int .i64 et, .int .i64 eto, .int .i64 efr, .int .i64 esq, .int .i64 ekd, .int .i64 edt] 71)))
        have HR := Lib.hid (Evs.new wr ⟨et, eto, efr, esq, ekd, edt⟩ 71).reads
        have HMX := Lib.hid (show l.length + 1 ≤ maxLen by have := HLE.out; simp only [maxLen]; omega)
        have HBY := Lib.hid (show (l.length + 1) * 48 ≤ 140737488355328 by have := HLE.out; omega)
        have HBS := Lib.hid (show w.heap.size + 1 ≤ (wr.alloc (.cells #[.int .i64 et, .int .i64 eto, .int .i64 efr, .int .i64 esq, .int .i64 ekd, .int .i64 edt] 71)).heap.size by simp; omega)
        go_wp2_with (at_builtin; refine wpList_append_any _ rfl (.tmp 38) (.tmp 40) 24 rfl (w.heap.size + 1) 71 i0 _ 6 48 Try.underlying24 INF.out.1 INF.out.2.1 INF.out.2.2.1 INF.out.2.2.2 rfl SIX.out _ _ (flat l) rfl HOA.out _ _ 1 1 (flat [⟨et, eto, efr, esq, ekd, edt⟩]) rfl HR.out (flat_one _) HMX.out HBY.out HBS.out ?_; intro v2 w2 ho2 hg2 _)
        have HO2 := Lib.hid ho2
        have HG2 := Lib.hid hg2
        clear ho2 hg2; go_ret
        have hres : l ++ [⟨et, eto, efr, esq, ekd, edt⟩] = res := by
          have h1 := HBB.out
          have h2 := HL.out
          rw [TK.out] at h1 h2; rw [h2]
          exact AE.out.2 h1
        rw [← hres]
        exact NewSl.of_own (own_mono (own_snoc HO2.out rfl) (by omega)) ((ur.alloc _).grown HG2.out (fun j hj => by have := (HOA.out.lt j hj).1; omega))
      · go_wp2
        go_ret
        have hres : l = res := by
          have h1 := HBB.out
          have h2 := HL.out
          rw [TK.out] at h1 h2; rw [h2]
          exact AE.out.1 h1
        rw [← hres]
        exact NewSl.of_own (own_mono HO.out (by omega)) ur
end Go.Proofs.Ytpainlcehgiokaa

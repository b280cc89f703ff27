/-
  Appending onto a row of the call's own, in one sentence: the new row holds the old list and what was appended; for every source that lies in memory, nil let in.
  The putting of an event in its place, in one sentence: where it stands in the new list, as lists; no condition is made.
  What pick gives, in one sentence: a number below its bound, and the reader is one further; for every reader that lies in memory.
  What odd and l20Open give, in one sentence: a bool and the reader one further; a new reader; for every reader and every code that lie in memory.
-/
import Derived.Test.YtpainlcehgiokaaKA
import Derived.Laws.OwnMore
import Derived.Deep.AppendLies
import Derived.Deep.Draws
import Derived.Maps.AppendAt
import Derived.RegionTactic
import Derived.OwnWalk
namespace Go.Proofs.Ytpainlcehgiokaa
set_option maxRecDepth 100000
open Go.RowKit

theorem block_of_add (a : Addr) (n : Nat) : (a.add n).block = a.block := by unfold Addr.add; split <;> rfl
theorem add_of_add (a : Addr) (i j : Nat) : (a.add i).add j = a.add (i + j) := by
  unfold Addr.add
  by_cases hi : i = 0 <;> by_cases hj : j = 0 <;> simp [hi, hj, Nat.add_assoc]

def Reads (w : World) (B size : Nat) (A : Option Addr) (n : Nat) (xs : List Value) : Prop :=
  xs.length = n * size ∧ (0 < n → ∃ ad, A = some ad ∧ ad.block < B ∧ ∀ j u, xs[j]? = some u → w.cell? (ad.add j) = some u)

section
variable {w w' : World} {B B' size n : Nat} {A : Option Addr} {xs : List Value}
theorem Reads.none_ : Reads w B size A 0 [] := ⟨by simp, fun h => absurd h (by omega)⟩
theorem Reads.at_ {k : Nat} (h : Reads w B 1 A n xs) (hk : k < n) : ∃ ad u, A = some ad ∧ ad.block < B ∧ xs[k]? = some u ∧ w.cell? (ad.add k) = some u := by
  obtain ⟨ad, e, hb, hc⟩ := h.2 (by omega)
  have hl : k < xs.length := by have := h.1; omega
  exact ⟨ad, xs[k], e, hb, List.getElem?_eq_getElem hl, hc k _ (List.getElem?_eq_getElem hl)⟩
theorem Reads.keep (h : Reads w B size A n xs) (hk : ∀ p : Addr, p.block < B → w'.cell? p = w.cell? p) : Reads w' B size A n xs :=
  ⟨h.1, fun hn => by
    obtain ⟨ad, e, hb, hc⟩ := h.2 hn
    exact ⟨ad, e, hb, fun j u hu => (hk _ (by rw [block_of_add]; exact hb)).trans (hc j u hu)⟩⟩
theorem Reads.more (h : Reads w B size A n xs) (hB : B ≤ B') : Reads w B' size A n xs :=
  ⟨h.1, fun hn => by
    obtain ⟨ad, e, hb, hc⟩ := h.2 hn
    exact ⟨ad, e, by omega, hc⟩⟩
theorem Reads.below (h : Reads w B size A n xs) (hb : Below B w w') : Reads w' B size A n xs := h.keep fun _ hp => hb.cell hp
theorem Reads.drew (h : Reads w B size A n xs) : Reads w.drew B size A n xs := h
theorem Reads.drewN (h : Reads w B size A n xs) (k : Nat) : Reads (w.drewN k) B size A n xs := h
theorem Reads.alloc (h : Reads w B size A n xs) (hB : B ≤ w.heap.size) (o : Obj) : Reads (w.alloc o) B size A n xs := h.keep fun p hp => World.cell?_alloc_lt w o p (by omega)
theorem Reads.setCell (h : Reads w B size A n xs) {p : Addr} (hB : B ≤ p.block) (u : Value) : Reads (w.setCell p u) B size A n xs :=
  h.keep fun q hq => World.cell?_setCell_other w p q u (fun e => by subst e; omega)
theorem Reads.grown (h : Reads w B size A n xs) {row : Option Nat} (hg : w.grownBy w' row) (hB : B ≤ w.heap.size) (hr : ∀ g, row = some g → B ≤ g) : Reads w' B size A n xs :=
  h.keep fun p hp => World.cell?_of_block (hg.block p.block (by omega) (fun e => by have := hr _ e.symm; omega))
theorem Reads.cut (h : Reads w B size A n xs) {k cap : Nat} (hk : k ≤ n) (hc : n ≤ cap) :
    Reads w B size (if cap = k then A else A.map (·.add (k * size))) (n - k) (xs.drop (k * size)) := by
  refine ⟨by rw [List.length_drop, h.1, Nat.sub_mul], fun hn => ?_⟩
  obtain ⟨ad, rfl, hb, hcell⟩ := h.2 (by omega)
  rw [if_neg (by omega)]
  refine ⟨ad.add (k * size), rfl, by rw [block_of_add]; exact hb, fun j u hu => ?_⟩
  rw [add_of_add]
  exact hcell _ u (by rw [← hu, List.getElem?_drop])
theorem Reads.of_own {base : Nat} {e : TypeId} {c : Nat} (h : w.ownsRow base e size (.slice A n c) n xs) : Reads w w.heap.size size A n xs := by
  refine ⟨h.1, fun hn => ?_⟩
  obtain ⟨g, cap, hv, _, hlt⟩ := h.form hn
  have hA : A = some ⟨g, 0, none⟩ := by injection hv
  subst hA
  exact ⟨_, rfl, hlt, h.cells (g := g) rfl⟩
end

section
variable {P : Program} (w : World)

theorem run_append_of_nil (base : Nat) (t ty e : TypeId) (i : TypeInfo) (size : Nat) (ht : P.underlying t = some (.slice e)) (hi : P.info? e = some i)
    (v : Value) (n : Nat) (xs : List Value) (hown : w.ownsRow base e size v n xs) (c : Nat) : (Builtin.append_ #[t, t] ty #[v, .slice none 0 c]).run P w = .ok v w := by
  rcases hown.2 with ⟨rfl, rfl⟩ | ⟨g, cap, cur, rfl, _, _, hnc, _⟩
  · simp [Builtin.append_, run_underlying ht, sizeOf, typeInfo, hi, Builtin.lenOf, Builtin.firstCells]
  · simp [Builtin.append_, run_underlying ht, sizeOf, typeInfo, hi, Builtin.lenOf, Builtin.firstCells, hnc, storeCells]

theorem run_append_any (base : Nat) (t ty e : TypeId) (i : TypeInfo) (z : Value) (size bytes : Nat) (ht : P.underlying t = some (.slice e)) (hi : P.info? e = some i) (hz : i.zero = some z)
    (hsize : i.size = size) (hby : i.bytes = bytes) (hzs : z.cells.size = size) (hsz : 0 < size)
    (v : Value) (n : Nat) (xs : List Value) (hown : w.ownsRow base e size v n xs)
    (B : Nat) (A : Option Addr) (m c : Nat) (news : List Value) (hr : Reads w B size A m news) (h1 : ∀ u ∈ news, u.oneCell' = true)
    (h63 : n + m ≤ maxLen) (hbytes : (n + m) * bytes ≤ 140737488355328) (hbase : base ≤ w.heap.size) :
    ∃ v' w', (Builtin.append_ #[t, t] ty #[v, .slice A m c]).run P w = .ok v' w' ∧ w'.ownsRow base e size v' (n + m) (xs ++ news) ∧ w.grownBy w' v.ownBlock ∧
      (v'.ownBlock = v.ownBlock ∨ v'.ownBlock = some w.heap.size) := by
  rcases A with _ | ad
  · have hm : m = 0 := by
      rcases Nat.eq_zero_or_pos m with h0 | h0
      · exact h0
      · obtain ⟨ad, h, _⟩ := hr.2 h0
        cases h
    subst hm
    have hn : news = [] := List.eq_nil_of_length_eq_zero (by simpa using hr.1)
    subst hn
    exact ⟨v, w, run_append_of_nil w base t ty e i size ht hi v n xs hown c, by simpa using hown, World.grownBy.refl w _, .inl rfl⟩
  · have hcells : ∀ j u, news[j]? = some u → w.cell? (ad.add j) = some u := by
      intro j u hu
      rcases Nat.eq_zero_or_pos m with h0 | h0
      · subst h0
        have hn : news = [] := List.eq_nil_of_length_eq_zero (by simpa using hr.1)
        subst hn
        simp at hu
      · obtain ⟨ad', h, _, hc⟩ := hr.2 h0
        injection h with h
        subst h
        exact hc j u hu
    obtain ⟨v', w', hrun, h2, h3, _, h5⟩ := run_append_own_at (P := P) w base t ty e i z size bytes ht hi hz hsize hby hzs hsz v n xs hown ad m c news hr.1 hcells h1 h63 hbytes hbase
    exact ⟨v', w', hrun, h2, h3, h5⟩

theorem wp_append_any {o : Oper} {a : Act} {K : Act → World → Prop} {Q : Exit → Act → World → Prop} (s x : Operand) (t : TypeId)
    (ho : o.op = .call { callee := .builtin .append, args := #[s, x], argTypes := #[t, t] })
    (base : Nat) (e : TypeId) (i : TypeInfo) (z : Value) (size bytes : Nat) (ht : P.underlying t = some (.slice e)) (hi : P.info? e = some i) (hz : i.zero = some z)
    (hsize : i.size = size) (hby : i.bytes = bytes) (hzs : z.cells.size = size) (hsz : 0 < size)
    (v : Value) (n : Nat) (xs : List Value) (hs : a.eval s = v) (hown : w.ownsRow base e size v n xs)
    (B : Nat) (A : Option Addr) (m c : Nat) (news : List Value) (hx : a.eval x = .slice A m c) (hr : Reads w B size A m news) (h1 : ∀ u ∈ news, u.oneCell' = true)
    (h63 : n + m ≤ maxLen) (hbytes : (n + m) * bytes ≤ 140737488355328) (hbase : base ≤ w.heap.size)
    (h : ∀ v' w', w'.ownsRow base e size v' (n + m) (xs ++ news) → w.grownBy w' v.ownBlock → (v'.ownBlock = v.ownBlock ∨ v'.ownBlock = some w.heap.size) → K (a.put o.dst v') w') : o.wp P a w K Q := by
  obtain ⟨v', w', hrun, h2, h3, h4⟩ := run_append_any (P := P) w base t o.type e i z size bytes ht hi hz hsize hby hzs hsz v n xs hown B A m c news hr h1 h63 hbytes hbase
  unfold Oper.wp execOp
  simp only [ho, resolve, invoke, builtin, Sem.run_bind, Sem.run_pure, Result.andThen_ok, List.map_toArray, List.map_cons, List.map_nil, hs, hx, hrun]
  exact h v' w' h2 h3 h4

theorem wpList_append_any {ops : Array Oper} {rest : List Oper} {o : Oper} {a : Act} {Q : Exit → Act → World → Prop} (hgd : o.guard = none) (s x : Operand) (t : TypeId)
    (ho : o.op = .call { callee := .builtin .append, args := #[s, x], argTypes := #[t, t] })
    (base : Nat) (e : TypeId) (i : TypeInfo) (z : Value) (size bytes : Nat) (ht : P.underlying t = some (.slice e)) (hi : P.info? e = some i) (hz : i.zero = some z)
    (hsize : i.size = size) (hby : i.bytes = bytes) (hzs : z.cells.size = size) (hsz : 0 < size)
    (v : Value) (n : Nat) (xs : List Value) (hs : a.eval s = v) (hown : w.ownsRow base e size v n xs)
    (B : Nat) (A : Option Addr) (m c : Nat) (news : List Value) (hx : a.eval x = .slice A m c) (hr : Reads w B size A m news) (h1 : ∀ u ∈ news, u.oneCell' = true)
    (h63 : n + m ≤ maxLen) (hbytes : (n + m) * bytes ≤ 140737488355328) (hbase : base ≤ w.heap.size)
    (h : ∀ v' w', w'.ownsRow base e size v' (n + m) (xs ++ news) → w.grownBy w' v.ownBlock → (v'.ownBlock = v.ownBlock ∨ v'.ownBlock = some w.heap.size) → wpList P ops Q rest (a.put o.dst v') w') : wpList P ops Q (o :: rest) a w :=
  wpList_plain hgd fun _ hK => wp_append_any w s x t ho base e i z size bytes ht hi hz hsize hby hzs hsz v n xs hs hown B A m c news hx hr h1 h63 hbytes hbase fun v' w' h2 h3 h4 => hK _ _ (h v' w' h2 h3 h4)

theorem step_append_any {ops : Array Oper} {o : Oper} {a : Act} {K : Act → World → Prop} {Q : Exit → Act → World → Prop} {E : Prop} (hgd : o.guard = none) (s x : Operand) (t : TypeId)
    (ho : o.op = .call { callee := .builtin .append, args := #[s, x], argTypes := #[t, t] })
    (base : Nat) (e : TypeId) (i : TypeInfo) (z : Value) (size bytes : Nat) (ht : P.underlying t = some (.slice e)) (hi : P.info? e = some i) (hz : i.zero = some z)
    (hsize : i.size = size) (hby : i.bytes = bytes) (hzs : z.cells.size = size) (hsz : 0 < size)
    (v : Value) (n : Nat) (xs : List Value) (hs : a.eval s = v) (hown : w.ownsRow base e size v n xs)
    (B : Nat) (A : Option Addr) (m c : Nat) (news : List Value) (hx : a.eval x = .slice A m c) (hr : Reads w B size A m news) (h1 : ∀ u ∈ news, u.oneCell' = true)
    (h63 : n + m ≤ maxLen) (hbytes : (n + m) * bytes ≤ 140737488355328) (hbase : base ≤ w.heap.size)
    (h : ∀ v' w', w'.ownsRow base e size v' (n + m) (xs ++ news) → w.grownBy w' v.ownBlock → (v'.ownBlock = v.ownBlock ∨ v'.ownBlock = some w.heap.size) → K (a.put o.dst v') w') :
    if Region.wanted o (yielded ops a.tmps) = true then Oper.wp P o a w K Q else E := by
  have hw : Region.wanted o (yielded ops a.tmps) = true := by simp [Region.wanted, hgd]
  rw [if_pos hw]
  exact wp_append_any w s x t ho base e i z size bytes ht hi hz hsize hby hzs hsz v n xs hs hown B A m c news hx hr h1 h63 hbytes hbase h
end

/-- An event's cells as a list. -/
def Evt.c6 (e : Evt) : List Value := [.int .i64 e.t, .int .i64 e.to, .int .i64 e.fr, .int .i64 e.sq, .int .i64 e.kd, .int .i64 e.dt]
/-- A list's cells. -/
def flat : List Evt → List Value
  | [] => []
  | e :: r => e.c6 ++ flat r

theorem flat_len : ∀ es : List Evt, (flat es).length = es.length * 6
  | [] => rfl
  | e :: r => by
    rw [flat, List.length_append, flat_len r]
    simp [Evt.c6]
    omega
theorem flat_app : ∀ es fs : List Evt, flat (es ++ fs) = flat es ++ flat fs
  | [], _ => rfl
  | e :: r, fs => by rw [List.cons_append, flat, flat_app r fs, flat, List.append_assoc]
theorem flat_get : ∀ (es : List Evt) (i k : Nat), i < es.length → k < 6 → (flat es)[i * 6 + k]? = (es.getD i default).c6[k]?
  | [], i, _, hi, _ => absurd hi (by simp)
  | e :: r, 0, k, _, hk => by
    rw [flat, Nat.zero_mul, Nat.zero_add, List.getElem?_append_left (by simpa [Evt.c6] using hk)]
    rfl
  | e :: r, i + 1, k, hi, hk => by
    have hl : e.c6.length = 6 := rfl
    rw [flat, List.getElem?_append_right (by omega), hl, show (i + 1) * 6 + k - 6 = i * 6 + k by omega, flat_get r i k (by simpa using hi) hk]
    rfl
theorem flat_one (es : List Evt) : ∀ u ∈ flat es, u.oneCell' = true := by
  induction es with
  | nil => intro u hu; cases hu
  | cons e r ih =>
    intro u hu
    rw [flat, List.mem_append] at hu
    rcases hu with hu | hu
    · simp only [Evt.c6, List.mem_cons, List.not_mem_nil, or_false] at hu
      rcases hu with rfl | rfl | rfl | rfl | rfl | rfl <;> rfl
    · exact ih u hu

theorem EvAt.at_ {w : World} {b o : Nat} {e : Evt} (h : EvAt w b o e) {k : Nat} {u : Value} (hk : k < 6) (hu : e.c6[k]? = some u) : w.cell? ⟨b, o + k, none⟩ = some u := by
  obtain ⟨h0, h1, h2, h3, h4, h5⟩ := h
  have h6 : k = 0 ∨ k = 1 ∨ k = 2 ∨ k = 3 ∨ k = 4 ∨ k = 5 := by omega
  rcases h6 with rfl | rfl | rfl | rfl | rfl | rfl
  · simp [Evt.c6] at hu; subst hu; exact h0
  · simp [Evt.c6] at hu; subst hu; exact h1
  · simp [Evt.c6] at hu; subst hu; exact h2
  · simp [Evt.c6] at hu; subst hu; exact h3
  · simp [Evt.c6] at hu; subst hu; exact h4
  · simp [Evt.c6] at hu; subst hu; exact h5

theorem Evs.reads {w : World} {A : Option Addr} {n : Nat} {es : List Evt} (h : Evs w A n es) : Reads w w.heap.size 6 A n (flat es) := by
  refine ⟨by rw [flat_len, h.1], fun hn => ?_⟩
  obtain ⟨b, off, hA, hb, hc⟩ := h.2 hn
  refine ⟨_, hA, hb, fun j u hu => ?_⟩
  have hj : j < (flat es).length := (List.getElem?_eq_some_iff.1 hu).1
  rw [flat_len, h.1] at hj
  have e : j = j / 6 * 6 + j % 6 := by omega
  have hi : j / 6 < n := by omega
  rw [e, flat_get es _ _ (by rw [h.1]; exact hi) (by omega)] at hu
  have := (hc _ hi).at_ (by omega) hu
  have ad : (⟨b, off, none⟩ : Addr).add j = ⟨b, off + j / 6 * 6 + j % 6, none⟩ := by
    unfold Addr.add
    split
    · rename_i h0; subst h0; rfl
    · rw [Nat.add_assoc, ← e]
  rw [ad]
  exact this

theorem own_evs {w : World} {base e n c : Nat} {A : Option Addr} {es : List Evt} (h : w.ownsRow base e 6 (.slice A n c) n (flat es)) : Evs w A n es := by
  have hl : es.length = n := by have := h.1; rw [flat_len] at this; omega
  refine ⟨hl, fun hn => ?_⟩
  obtain ⟨g, cap, hv, _, hlt⟩ := h.form hn
  injection hv with hA _ hcap
  subst hA hcap
  refine ⟨g, 0, rfl, hlt, fun i hi => ?_⟩
  have f : ∀ k, k < 6 → w.cell? ⟨g, 0 + i * 6 + k, none⟩ = (es.getD i default).c6[k]? := fun k hk => by
    rw [Nat.zero_add, h.cellAt (i * 6 + k) (by omega), flat_get es i k (by omega) hk]
  exact ⟨f 0 (by omega), f 1 (by omega), f 2 (by omega), f 3 (by omega), f 4 (by omega), f 5 (by omega)⟩

theorem Up.grown {a w w' : World} {row : Option Nat} (h : Up a w) (hg : w.grownBy w' row) (hr : ∀ k, row = some k → a.heap.size ≤ k) : Up a w' := Below.grown h hg h.size hr
theorem Up.own {a w w' : World} {e size n : Nat} {v : Value} {xs : List Value} (h : Up a w) (ho : w.ownsRow a.heap.size e size v n xs) (hg : w.grownBy w' v.ownBlock) : Up a w' :=
  h.grown hg fun k hk => (ho.lt k hk).1

theorem own_up {w w' : World} {b e size n : Nat} {v : Value} {xs : List Value} (h : w.ownsRow b e size v n xs) (u : Up w w') : w'.ownsRow b e size v n xs :=
  h.kept (row := none) ⟨u.below.os, u.below.tape, u.below.output, u.size, fun k hk _ => u.below.block k hk⟩ (by
    cases hv : v.ownBlock
    · exact .inl rfl
    · exact .inr (by simp))

/-- The new slice that a function hands back. -/
def NewSl (es : List Evt) (w : World) (x : Ending) (w' : World) : Prop :=
  ∃ A c, x = .returned (.slice A es.length c) ∧ es.length ≤ c ∧ c ≤ 9223372036854775807 ∧ Evs w' A es.length es ∧ w'.ownsRow w.heap.size 71 6 (.slice A es.length c) es.length (flat es) ∧ Up w w'

theorem own_slice {w : World} {base e n : Nat} {v : Value} {es : List Evt} (h : w.ownsRow base e 6 v n (flat es)) : n = es.length ∧ ∃ A c, v = .slice A n c ∧ n ≤ c ∧ c ≤ 9223372036854775807 := by
  have hl : es.length = n := by have := h.1; rw [flat_len] at this; omega
  refine ⟨hl.symm, ?_⟩
  rcases h.2 with ⟨rfl, rfl⟩ | ⟨g, cap, cur, rfl, _, _, hnc, hm, _⟩
  · exact ⟨none, 0, rfl, Nat.le_refl _, by omega⟩
  · exact ⟨_, cap, rfl, hnc, by unfold maxLen at hm; omega⟩

theorem NewSl.of_own {w w' : World} {n : Nat} {v : Value} {es : List Evt} (h : w'.ownsRow w.heap.size 71 6 v n (flat es)) (u : Up w w') : NewSl es w (.returned v) w' := by
  obtain ⟨rfl, A, c, rfl, hc, hm⟩ := own_slice h
  exact ⟨A, c, rfl, hc, hm, own_evs h, h, u⟩

/-- A block of one event's cells, as a slice of one. -/
theorem Evs.one {w : World} {b : Nat} {e : Evt} (h : w.cell? ⟨b, 0, none⟩ = some (.int .i64 e.t) ∧ w.cell? ⟨b, 1, none⟩ = some (.int .i64 e.to) ∧ w.cell? ⟨b, 2, none⟩ = some (.int .i64 e.fr) ∧ w.cell? ⟨b, 3, none⟩ = some (.int .i64 e.sq) ∧ w.cell? ⟨b, 4, none⟩ = some (.int .i64 e.kd) ∧ w.cell? ⟨b, 5, none⟩ = some (.int .i64 e.dt)) (hb : b < w.heap.size) :
    Evs w (some ⟨b, 0, none⟩) 1 [e] :=
  ⟨rfl, fun _ => ⟨b, 0, rfl, hb, fun i hi => by
    obtain rfl : i = 0 := by omega
    exact h⟩⟩
theorem Evs.new (w : World) (e : Evt) (t : TypeId) : Evs (w.alloc (.cells #[.int .i64 e.t, .int .i64 e.to, .int .i64 e.fr, .int .i64 e.sq, .int .i64 e.kd, .int .i64 e.dt] t)) (some ⟨w.heap.size, 0, none⟩) 1 [e] := by
  have hh := heap_alloc_new w (.cells #[.int .i64 e.t, .int .i64 e.to, .int .i64 e.fr, .int .i64 e.sq, .int .i64 e.kd, .int .i64 e.dt] t)
  exact Evs.one ⟨by rw [cell_of_row _ _ 0 _ _ _ hh]; rfl, by rw [cell_of_row _ _ 1 _ _ _ hh]; rfl, by rw [cell_of_row _ _ 2 _ _ _ hh]; rfl, by rw [cell_of_row _ _ 3 _ _ _ hh]; rfl, by rw [cell_of_row _ _ 4 _ _ _ hh]; rfl, by rw [cell_of_row _ _ 5 _ _ _ hh]; rfl⟩ (by simp)

end Go.Proofs.Ytpainlcehgiokaa

namespace Go.Proofs.Ytpainlcehgiokaa
set_option maxRecDepth 100000
open Go.RowKit

/-- e ahead of the first that is greater. -/
def ins (e : Evt) : List Evt → List Evt
  | [] => [e]
  | x :: r => if ltE e x = true then e :: x :: r else x :: ins e r
/-- What stands in the new list behind some of the old one. -/
def acc (e : Evt) (l : List Evt) : List Evt := if l.any (ltE e) = true then ins e l else l

theorem ins_none (e : Evt) : ∀ l : List Evt, l.any (ltE e) = false → ins e l = l ++ [e]
  | [], _ => rfl
  | x :: r, h => by
    simp only [List.any_cons, Bool.or_eq_false_iff] at h
    rw [ins, if_neg (by rw [h.1]; exact Bool.false_ne_true), ins_none e r h.2, List.cons_append]
theorem ins_snoc (e x : Evt) : ∀ l : List Evt, l.any (ltE e) = true → ins e (l ++ [x]) = ins e l ++ [x]
  | [], h => by simp at h
  | y :: r, h => by
    rw [List.cons_append, ins, ins]
    by_cases hy : ltE e y = true
    · rw [if_pos hy, if_pos hy]; rfl
    · rw [if_neg hy, if_neg hy, ins_snoc e x r (by simpa [hy] using h), List.cons_append]
theorem ins_here (e x : Evt) : ∀ l : List Evt, l.any (ltE e) = false → ltE e x = true → ins e (l ++ [x]) = l ++ [e, x]
  | [], _, h => by rw [List.nil_append, ins, if_pos h]; rfl
  | y :: r, h, hx => by
    simp only [List.any_cons, Bool.or_eq_false_iff] at h
    rw [List.cons_append, ins, if_neg (by rw [h.1]; exact Bool.false_ne_true), ins_here e x r h.2 hx]
    rfl
theorem ins_len (e : Evt) : ∀ l : List Evt, (ins e l).length = l.length + 1
  | [] => rfl
  | x :: r => by
    rw [ins]
    split
    · rfl
    · rw [List.length_cons, ins_len e r, List.length_cons]

theorem acc_true (e x : Evt) (l : List Evt) (h : l.any (ltE e) = true) : acc e (l ++ [x]) = acc e l ++ [x] ∧ (l ++ [x]).any (ltE e) = true := by
  have h2 : (l ++ [x]).any (ltE e) = true := by rw [List.any_append, h]; rfl
  exact ⟨by rw [acc, if_pos h2, acc, if_pos h, ins_snoc e x l h], h2⟩
theorem acc_here (e x : Evt) (l : List Evt) (h : l.any (ltE e) = false) (hx : ltE e x = true) : acc e (l ++ [x]) = (acc e l ++ [e]) ++ [x] ∧ (l ++ [x]).any (ltE e) = true := by
  have h2 : (l ++ [x]).any (ltE e) = true := by rw [List.any_append, h]; simp [hx]
  exact ⟨by rw [acc, if_pos h2, acc, if_neg (by rw [h]; exact Bool.false_ne_true), ins_here e x l h hx]; simp, h2⟩
theorem acc_no (e x : Evt) (l : List Evt) (h : l.any (ltE e) = false) (hx : ltE e x = false) : acc e (l ++ [x]) = acc e l ++ [x] ∧ (l ++ [x]).any (ltE e) = false := by
  have h2 : (l ++ [x]).any (ltE e) = false := by rw [List.any_append, h]; simp [hx]
  exact ⟨by rw [acc, if_neg (by rw [h2]; exact Bool.false_ne_true), acc, if_neg (by rw [h]; exact Bool.false_ne_true)], h2⟩
theorem acc_end (e : Evt) (l : List Evt) : (l.any (ltE e) = true → acc e l = ins e l) ∧ (l.any (ltE e) = false → acc e l ++ [e] = ins e l) :=
  ⟨fun h => by rw [acc, if_pos h], fun h => by rw [acc, if_neg (by rw [h]; exact Bool.false_ne_true), ins_none e l h]⟩
theorem take_snoc (es : List Evt) (k : Nat) (h : k < es.length) : es.take (k + 1) = es.take k ++ [es.getD k default] := by
  rw [List.take_succ_eq_append_getElem h]
  simp [h]

theorem own_mono {w : World} {b b' e size n : Nat} {v : Value} {xs : List Value} (h : w.ownsRow b e size v n xs) (hb : b' ≤ b) : w.ownsRow b' e size v n xs := by
  refine ⟨h.1, ?_⟩
  rcases h.2 with hn | ⟨g, cap, cur, hv, hg, hr⟩
  · exact .inl hn
  · exact .inr ⟨g, cap, cur, hv, by omega, hr⟩

end Go.Proofs.Ytpainlcehgiokaa

namespace Go.Proofs.Ytpainlcehgiokaa
set_option maxRecDepth 100000
open Go.RowKit

theorem wr (x : Int) (c : Nat) (h : x = c) (hc : c < 4611686018427387904) : IntKind.i64.wrap x = c := by
  rw [h]
  exact IntWalk.i64_in _ (by omega)

set_option maxHeartbeats 2000000 in
theorem pick_any (g N : Nat) (m : Int) (w : World) (hm : I64 m) (hN : N ≤ 1000000) (hR : Rd w g N) :
    Calls Try.prog 20 #[.pointer (some ⟨g, 0, none⟩), .int .i64 m] w (Picked g N m w) := by
  obtain ⟨A, n, cap, p, h0, h1, hf, hp, hg, hn, hb⟩ := hR
  have R := Lib.hid (Rd.step h0 h1 hf hp hg hn hb)
  have HM := Lib.hid hm
  clear hm
  by_cases hm1 : m < 1
  · go_enter Try.func20, Try.ntmps20
    go_wp2
    go_ret
    exact ⟨0, rfl, by omega, .inr rfl, R.out, (Mv.refl _ _).setCell _⟩
  · by_cases hn0 : n = 0
    · subst hn0
      go_enter Try.func20, Try.ntmps20
      go_wp2
      go_ret
      exact ⟨0, rfl, by omega, .inr rfl, R.out, (Mv.refl _ _).setCell _⟩
    · obtain ⟨b, off, rfl, hbg, hc⟩ := hb (by omega)
      have hn0' : ((n : Int) == 0) = false := by simp; omega
      have HC := Lib.hid hc
      clear hc
      have hne : b ≠ g := by omega
      by_cases hpn : p < n
      · obtain ⟨z, hz, hcz⟩ := HC.out p hpn
        go_enter Try.func20, Try.ntmps20
        go_wp2
        go_ret
        exact ⟨_, rfl, Int.emod_nonneg _ (by omega), .inl (Int.emod_lt_of_pos _ (by omega)), R.out, (Mv.refl _ _).setCell _⟩
      · obtain ⟨q1, hq1, e1⟩ : ∃ q : Nat, q < n ∧ (p : Int).tmod (n : Int) = (q : Int) := ⟨p % n, Nat.mod_lt _ (by omega), by rw [Int.tmod_eq_emod_of_nonneg (by omega)]; rfl⟩
        obtain ⟨q2, hq2, e2⟩ : ∃ q : Nat, q < n ∧ ((p * 7 + 3 : Nat) : Int).tmod (n : Int) = (q : Int) := ⟨(p * 7 + 3) % n, Nat.mod_lt _ (by omega), by rw [Int.tmod_eq_emod_of_nonneg (by omega)]; rfl⟩
        obtain ⟨q3, hq3, e3⟩ : ∃ q : Nat, q ≤ p ∧ (p : Int).tdiv (n : Int) = (q : Int) := ⟨p / n, Nat.div_le_self _ _, by rw [Int.tdiv_eq_ediv_of_nonneg (by omega)]; rfl⟩
        obtain ⟨z1, hz1, hcz1⟩ := HC.out q1 hq1
        obtain ⟨z2, hz2, hcz2⟩ := HC.out q2 hq2
        have w1 : IntKind.i64.wrap (z1 : Int) = z1 := wr _ _ rfl (by omega)
        have w2 : IntKind.i64.wrap (z2 : Int) = z2 := wr _ _ rfl (by omega)
        obtain ⟨y1, hy1, w3⟩ : ∃ y : Nat, y ≤ 1000000 ∧ IntKind.i64.wrap ((z1 : Int) * 131) = (y : Int) := ⟨z1 * 131, by omega, wr _ _ (by omega) (by omega)⟩
        obtain ⟨y2, hy2, w4⟩ : ∃ y : Nat, y ≤ 1000000 ∧ IntKind.i64.wrap ((z2 : Int) * 1117) = (y : Int) := ⟨z2 * 1117, by omega, wr _ _ (by omega) (by omega)⟩
        obtain ⟨s1, hs1, w5⟩ : ∃ s : Nat, s = p * 7 ∧ IntKind.i64.wrap ((p : Int) * 7) = (s : Int) := ⟨p * 7, rfl, wr _ _ (by omega) (by omega)⟩
        obtain ⟨s2, hs2, w6⟩ : ∃ s : Nat, s = p * 7 + 3 ∧ IntKind.i64.wrap ((s1 : Int) + 3) = (s : Int) := ⟨p * 7 + 3, rfl, wr _ _ (by omega) (by omega)⟩
        rw [← hs2] at e2
        obtain ⟨y3, hy3, w7⟩ : ∃ y : Nat, y ≤ 2000000 ∧ IntKind.i64.wrap ((y1 : Int) + (y2 : Int)) = (y : Int) := ⟨y1 + y2, by omega, wr _ _ (by omega) (by omega)⟩
        obtain ⟨y4, hy4, w8⟩ : ∃ y : Nat, y ≤ 29000000 ∧ IntKind.i64.wrap ((p : Int) * 29) = (y : Int) := ⟨p * 29, by omega, wr _ _ (by omega) (by omega)⟩
        obtain ⟨y5, hy5, w9⟩ : ∃ y : Nat, y ≤ 31000000 ∧ IntKind.i64.wrap ((y3 : Int) + (y4 : Int)) = (y : Int) := ⟨y3 + y4, by omega, wr _ _ (by omega) (by omega)⟩
        have wq : IntKind.i64.wrap (q3 : Int) = q3 := wr _ _ rfl (by omega)
        obtain ⟨y6, hy6, w10⟩ : ∃ y : Nat, y ≤ 53000000 ∧ IntKind.i64.wrap ((q3 : Int) * 53) = (y : Int) := ⟨q3 * 53, by omega, wr _ _ (by omega) (by omega)⟩
        obtain ⟨y7, hy7, w11⟩ : ∃ y : Nat, y ≤ 90000000 ∧ IntKind.i64.wrap ((y5 : Int) + (y6 : Int)) = (y : Int) := ⟨y5 + y6, by omega, wr _ _ (by omega) (by omega)⟩
        obtain ⟨y8, hy8, w12⟩ : ∃ y : Nat, y ≤ 90000000 ∧ (y7 : Int) / 64 = (y : Int) := ⟨y7 / 64, by omega, by omega⟩
        obtain ⟨y9, hy9, w13⟩ := xor_i64 y7 y8 (by omega) (by omega)
        have hbw : b < w.heap.size := by omega
        have lq1 : (q1 : Int) < n := by omega
        have lq2 : (q2 : Int) < n := by omega
        have nn : ((n : Int) == 0) = false := hn0'
        clear hs1 hs2
        go_enter Try.func20, Try.ntmps20
        go_wp2
        refine region_up (by kernel_rfl) (by kernel_rfl) ?_
        refine up_step rfl ?_
        apply Exists.intro
        refine ⟨fun w1 hw1 => ?_, ?_⟩
        · go_simp
          try rfl
        go_simp
        refine up_step rfl ?_
        apply Exists.intro
        refine ⟨fun w1 hw1 => ?_, ?_⟩
        · go_simp
          try rfl
        go_simp
        refine up_step rfl ?_
        apply Exists.intro
        refine ⟨fun w1 hw1 => ?_, ?_⟩
        · go_simp
          try rfl
        go_simp
        refine up_step rfl ?_
        apply Exists.intro
        refine ⟨fun w1 hw1 => ?_, ?_⟩
        · obtain ⟨hc, hf, hz⟩ := hw1.facts
          try simp at hz
          go_simp
          try rfl
        go_simp
        refine up_step rfl ?_
        apply Exists.intro
        refine ⟨fun w1 hw1 => ?_, ?_⟩
        · go_simp
          try rfl
        go_simp
        refine up_step rfl ?_
        apply Exists.intro
        refine ⟨fun w1 hw1 => ?_, ?_⟩
        · go_simp
          try rfl
        go_simp
        refine up_step rfl ?_
        apply Exists.intro
        refine ⟨fun w1 hw1 => ?_, ?_⟩
        · go_simp
          try rfl
        go_simp
        refine up_step rfl ?_
        apply Exists.intro
        refine ⟨fun w1 hw1 => ?_, ?_⟩
        · go_simp
          try rfl
        go_simp
        refine up_step rfl ?_
        apply Exists.intro
        refine ⟨fun w1 hw1 => ?_, ?_⟩
        · obtain ⟨hc, hf, hz⟩ := hw1.facts
          try simp at hz
          go_simp
          try rfl
        go_simp
        refine up_step rfl ?_
        apply Exists.intro
        refine ⟨fun w1 hw1 => ?_, ?_⟩
        · go_simp
          try rfl
        go_simp
        refine up_step rfl ?_
        apply Exists.intro
        refine ⟨fun w1 hw1 => ?_, ?_⟩
        · go_simp
          try rfl
        go_simp
        refine up_step rfl ?_
        apply Exists.intro
        refine ⟨fun w1 hw1 => ?_, ?_⟩
        · go_simp
          try rfl
        go_simp
        refine up_step rfl ?_
        apply Exists.intro
        refine ⟨fun w1 hw1 => ?_, ?_⟩
        · obtain ⟨hc, hf, hz⟩ := hw1.facts
          try simp at hz
          go_simp
          try rfl
        go_simp
        refine up_step rfl ?_
        apply Exists.intro
        refine ⟨fun w1 hw1 => ?_, ?_⟩
        · go_simp
          try rfl
        go_simp
        refine up_step rfl ?_
        apply Exists.intro
        refine ⟨fun w1 hw1 => ?_, ?_⟩
        · go_simp
          try rfl
        go_simp
        refine up_step rfl ?_
        apply Exists.intro
        refine ⟨fun w1 hw1 => ?_, ?_⟩
        · go_simp
          try rfl
        go_simp
        refine up_step rfl ?_
        apply Exists.intro
        refine ⟨fun w1 hw1 => ?_, ?_⟩
        · go_simp
          try rfl
        go_simp
        refine up_step rfl ?_
        apply Exists.intro
        refine ⟨fun w1 hw1 => ?_, ?_⟩
        · go_simp
          try rfl
        go_simp
        refine up_step rfl ?_
        apply Exists.intro
        refine ⟨fun w1 hw1 => ?_, ?_⟩
        · obtain ⟨hc, hf, hz⟩ := hw1.facts
          try simp at hz
          go_simp
          try rfl
        go_simp
        refine up_step rfl ?_
        apply Exists.intro
        refine ⟨fun w1 hw1 => ?_, ?_⟩
        · go_simp
          try rfl
        go_simp
        refine up_step rfl ?_
        apply Exists.intro
        refine ⟨fun w1 hw1 => ?_, ?_⟩
        · go_simp
          try rfl
        go_simp
        refine up_step rfl ?_
        apply Exists.intro
        refine ⟨fun w1 hw1 => ?_, ?_⟩
        · go_simp
          try rfl
        go_simp
        refine up_step rfl ?_
        apply Exists.intro
        refine ⟨fun w1 hw1 => ?_, ?_⟩
        · go_simp
          try rfl
        go_simp
        refine up_step rfl ?_
        apply Exists.intro
        refine ⟨fun w1 hw1 => ?_, ?_⟩
        · go_simp
          try rfl
        go_simp
        refine up_step rfl ?_
        apply Exists.intro
        refine ⟨fun w1 hw1 => ?_, ?_⟩
        · go_simp
          try rfl
        go_simp
        refine up_step rfl ?_
        apply Exists.intro
        refine ⟨fun w1 hw1 => ?_, ?_⟩
        · obtain ⟨hc, hf, hz⟩ := hw1.facts
          try simp at hz
          go_simp
          try rfl
        go_simp
        refine up_step rfl ?_
        apply Exists.intro
        refine ⟨fun w1 hw1 => ?_, ?_⟩
        · go_simp
          try rfl
        go_simp
        refine up_step rfl ?_
        apply Exists.intro
        refine ⟨fun w1 hw1 => ?_, ?_⟩
        · go_simp
          try rfl
        go_simp
        refine up_step rfl ?_
        apply Exists.intro
        refine ⟨fun w1 hw1 => ?_, ?_⟩
        · go_simp
          try rfl
        go_simp
        refine up_step rfl ?_
        apply Exists.intro
        refine ⟨fun w1 hw1 => ?_, ?_⟩
        · obtain ⟨hc, hf, hz⟩ := hw1.facts
          try simp at hz
          go_simp
          try rfl
        go_simp
        refine up_step rfl ?_
        apply Exists.intro
        refine ⟨fun w1 hw1 => ?_, ?_⟩
        · go_simp
          try rfl
        go_simp
        refine up_step rfl ?_
        apply Exists.intro
        refine ⟨fun w1 hw1 => ?_, ?_⟩
        · go_simp
          try rfl
        go_simp
        refine up_step rfl ?_
        apply Exists.intro
        refine ⟨fun w1 hw1 => ?_, ?_⟩
        · go_simp
          try rfl
        go_simp
        refine up_step rfl ?_
        apply Exists.intro
        refine ⟨fun w1 hw1 => ?_, ?_⟩
        · go_simp
          try rfl
        go_simp
        refine up_step rfl ?_
        apply Exists.intro
        refine ⟨fun w1 hw1 => ?_, ?_⟩
        · go_simp
          try rfl
        go_simp
        refine up_step rfl ?_
        apply Exists.intro
        refine ⟨fun w1 hw1 => ?_, ?_⟩
        · go_simp
          try rfl
        go_simp
        refine up_step rfl ?_
        apply Exists.intro
        refine ⟨fun w1 hw1 => ?_, ?_⟩
        · go_simp
          try rfl
        go_simp
        refine up_step rfl ?_
        apply Exists.intro
        refine ⟨fun w1 hw1 => ?_, ?_⟩
        · go_simp
          try rfl
        go_simp
        refine up_step rfl ?_
        apply Exists.intro
        refine ⟨fun w1 hw1 => ?_, ?_⟩
        · go_simp
          try rfl
        go_simp
        refine up_step rfl ?_
        apply Exists.intro
        refine ⟨fun w1 hw1 => ?_, ?_⟩
        · go_simp
          try rfl
        go_simp
        refine up_step rfl ?_
        apply Exists.intro
        refine ⟨fun w1 hw1 => ?_, ?_⟩
        · obtain ⟨hc, hf, hz⟩ := hw1.facts
          try simp at hz
          go_simp
          try rfl
        go_simp
        refine up_step rfl ?_
        apply Exists.intro
        refine ⟨fun w1 hw1 => ?_, ?_⟩
        · go_simp
          try rfl
        go_simp
        refine up_step rfl ?_
        apply Exists.intro
        refine ⟨fun w1 hw1 => ?_, ?_⟩
        · go_simp
          try rfl
        go_simp
        refine up_step rfl ?_
        apply Exists.intro
        refine ⟨fun w1 hw1 => ?_, ?_⟩
        · go_simp
          try rfl
        go_simp
        refine up_step rfl ?_
        apply Exists.intro
        refine ⟨fun w1 hw1 => ?_, ?_⟩
        · go_simp
          try rfl
        go_simp
        refine up_step rfl ?_
        apply Exists.intro
        refine ⟨fun w1 hw1 => ?_, ?_⟩
        · go_simp
          try rfl
        go_simp
        refine wpQuiet_nil ?_
        intro wA uA
        clear w1 w2 w3 w4 w5 w6 w7 w8 w9 wq w10 w11 e1 e2 e3
        go_wp2
        go_ret
        exact ⟨_, rfl, Int.emod_nonneg _ (by omega), .inl (Int.emod_lt_of_pos _ (by omega)), R.out.up uA, ((Mv.refl _ _).setCell _).trans (uA.mv g)⟩

end Go.Proofs.Ytpainlcehgiokaa

namespace Go.Proofs.Ytpainlcehgiokaa
set_option maxRecDepth 100000
open Go.RowKit

theorem Rd.alloc {w : World} {g N : Nat} (h : Rd w g N) (o : Obj) : Rd (w.alloc o) g N := h.up ((Up.refl w).alloc o)
/-- What odd gives. -/
def Tossed (g N : Nat) (w : World) (x : Ending) (w' : World) : Prop :=
  ∃ b : Bool, x = .returned (.bool b) ∧ Rd w' g N ∧ Mv g w w'

set_option maxHeartbeats 400000 in
theorem odd_any (g N : Nat) (m : Int) (w : World) (hm : I64 m) (hN : N ≤ 1000000) (hR : Rd w g N) :
    Calls Try.prog 39 #[.pointer (some ⟨g, 0, none⟩), .int .i64 m] w (Tossed g (N + 1) w) := by
  have R := Lib.hid hR
  clear hR
  by_cases h : 0 < m
  · have hm2 : m ≤ 9223372036854775807 := hm.2
    have HM := Lib.hid hm
    clear hm
    go_enter Try.func39, Try.ntmps39
    go_wp2_with fail
    refine (pick_any g N m _ HM.out hN R.out).mono ?_
    rintro x w1 ⟨v, rfl, _, _, R1, M1⟩
    have RR := Lib.hid R1
    have MM := Lib.hid M1
    clear R1 M1
    go_wp2
    all_goals go_ret
    all_goals exact ⟨_, rfl, RR.out, MM.out⟩
  · have HM := Lib.hid hm
    clear hm
    go_enter Try.func39, Try.ntmps39
    go_wp2
    go_ret
    exact ⟨_, rfl, R.out.mono (by omega), Mv.refl _ _⟩

/-- A new reader. -/
def Opened (w : World) (x : Ending) (w' : World) : Prop :=
  ∃ g, x = .returned (.pointer (some ⟨g, 0, none⟩)) ∧ w.heap.size ≤ g ∧ Rd w' g 0 ∧ Up w w'

theorem Bys.less {w : World} {A : Option Addr} {n k B : Nat} (h : Bys w A n B) (hk : k ≤ n) : Bys w A k B := fun h0 => by
  obtain ⟨b, off, hA, hb, hc⟩ := h (by omega)
  exact ⟨b, off, hA, hb, fun i hi => hc i (by omega)⟩

theorem Rd.new {w : World} {A : Option Addr} {n cap : Nat} (hn : n ≤ 2000) (hB : Bys w A n w.heap.size) (t : TypeId) : Rd (w.alloc (.cells #[.slice A n cap, .int .i64 0] t)) w.heap.size 0 := by
  have hh := heap_alloc_new w (.cells #[.slice A n cap, .int .i64 0] t)
  refine ⟨A, n, cap, 0, ?_, ?_, ?_, Nat.le_refl _, by simp, hn, hB.keep fun b o hb => World.cell?_alloc_lt w _ ⟨b, o, none⟩ hb⟩
  · rw [cell_of_row _ _ 0 _ _ _ hh]; rfl
  · rw [cell_of_row _ _ 1 _ _ _ hh]; rfl
  · unfold World.frozen?
    rw [hh]
    simp

theorem open_any (A : Option Addr) (n cap : Nat) (w : World) (hc : n ≤ cap) (hmax : cap ≤ 9223372036854775807) (hB : Bys w A n w.heap.size) :
    Calls Try.prog 16 #[.slice A n cap] w (Opened w) := by
  have HB := Lib.hid hB
  clear hB
  by_cases h : 2000 < n
  · obtain ⟨b, off, rfl, _, _⟩ := HB.out (by omega)
    have h1 : ((n : Int) > 2000) := by omega
    go_enter Try.func16, Try.ntmps16
    go_wp2
    go_ret
    exact ⟨w.heap.size, rfl, Nat.le_refl _, Rd.new (Nat.le_refl _) (HB.out.less (by omega)) _, (Up.refl _).alloc _⟩
  · go_enter Try.func16, Try.ntmps16
    go_wp2
    go_ret
    exact ⟨w.heap.size, rfl, Nat.le_refl _, Rd.new (by omega) HB.out _, (Up.refl _).alloc _⟩

end Go.Proofs.Ytpainlcehgiokaa

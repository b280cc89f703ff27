/-
  Appending onto a row of the call's own, in one sentence: the new row holds the old list and what was appended; for every source that lies in memory, nil let in.
  Heaps whose blocks are typed, in one sentence: of each block from a S on whose element type a table lists, every cell holds what the table says, and what each step keeps of it; no condition is made.
-/
import Derived.ArgAppend
import Derived.Deep.AppendLies
import Derived.Deep.Draws
import Derived.Laws.OwnMore
import Derived.Maps.AppendAt
import Derived.OwnWalk
import Derived.RegionTactic
import Derived.Test.YtakmlfgkppekoaaDLRok01
namespace Go.Proofs.Ytakmlfgkppekoaa
set_option maxRecDepth 100000
open Go.RowKit
theorem block_of_add (a : Addr) (n : Nat) : (a.add n).block = a.block := by unfold Addr.add; split <;> rfl
def Reads (w : World) (B size : Nat) (A : Option Addr) (n : Nat) (xs : List Value) : Prop :=
  xs.length = n * size ∧ (0 < n → ∃ ad, A = some ad ∧ ad.block < B ∧ ∀ j u, xs[j]? = some u → w.cell? (ad.add j) = some u)
section
variable {w w' : World} {B B' size n : Nat} {A : Option Addr} {xs : List Value}
theorem Reads.keep (h : Reads w B size A n xs) (hk : ∀ p : Addr, p.block < B → w'.cell? p = w.cell? p) : Reads w' B size A n xs :=
  ⟨h.1, fun hn => by
    obtain ⟨ad, e, hb, hc⟩ := h.2 hn
    exact ⟨ad, e, hb, fun j u hu => (hk _ (by rw [block_of_add]; exact hb)).trans (hc j u hu)⟩⟩
theorem Reads.below (h : Reads w B size A n xs) (hb : Below B w w') : Reads w' B size A n xs := h.keep fun _ hp => hb.cell hp
end
section
variable {P : Program} (w : World)
theorem run_append_of_nil (base : Nat) (t ty e : TypeId) (i : TypeInfo) (size : Nat) (ht : P.underlying t = some (.slice e)) (hi : P.info? e = some i)
    (v : Value) (n : Nat) (xs : List Value) (hown : w.ownsRow base e size v n xs) (c : Nat) : (Builtin.append_ #[t, t] ty #[v, .slice none 0 c]).run P w = .ok v w := by
  rcases hown.2 with ⟨rfl, rfl⟩ | ⟨g, cap, cur, rfl, _, _, hnc, _⟩
  · simp [Builtin.append_, run_underlying ht, sizeOf, typeInfo, hi, Builtin.lenOf, Builtin.firstCells]
  · simp [Builtin.append_, run_underlying ht, sizeOf, typeInfo, hi, Builtin.lenOf, Builtin.firstCells, hnc, storeCells]
theorem run_append_any (base : Nat) (t ty e : TypeId) (i : TypeInfo) (z : Value) (size bytes : Nat) (ht : P.underlying t = some (.slice e)) (hi : P.info? e = some i) (hz : i.zero = some z)
    (hsize : i.size = size) (hby : i.bytes = bytes) (hzs : z.cells.size = size) (hsz : 0 < size)
    (v : Value) (n : Nat) (xs : List Value) (hown : w.ownsRow base e size v n xs)
    (B : Nat) (A : Option Addr) (m c : Nat) (news : List Value) (hr : Reads w B size A m news) (h1 : ∀ u ∈ news, u.oneCell' = true)
    (h63 : n + m ≤ maxLen) (hbytes : (n + m) * bytes ≤ 140737488355328) (hbase : base ≤ w.heap.size) :
    ∃ v' w', (Builtin.append_ #[t, t] ty #[v, .slice A m c]).run P w = .ok v' w' ∧ w'.ownsRow base e size v' (n + m) (xs ++ news) ∧ w.grownBy w' v.ownBlock ∧
      (v'.ownBlock = v.ownBlock ∨ v'.ownBlock = some w.heap.size) := by
  rcases A with _ | ad
  · have hm : m = 0 := by
      rcases Nat.eq_zero_or_pos m with h0 | h0
      · exact h0
      · obtain ⟨ad, h, _⟩ := hr.2 h0
        cases h
    subst hm
    have hn : news = [] := List.eq_nil_of_length_eq_zero (by simpa using hr.1)
    subst hn
    exact ⟨v, w, run_append_of_nil w base t ty e i size ht hi v n xs hown c, by simpa using hown, World.grownBy.refl w _, .inl rfl⟩
  · have hcells : ∀ j u, news[j]? = some u → w.cell? (ad.add j) = some u := by
      intro j u hu
      rcases Nat.eq_zero_or_pos m with h0 | h0
      · subst h0
        have hn : news = [] := List.eq_nil_of_length_eq_zero (by simpa using hr.1)
        subst hn; simp at hu
      · obtain ⟨ad', h, _, hc⟩ := hr.2 h0
        injection h with h
        subst h
        exact hc j u hu
    obtain ⟨v', w', hrun, h2, h3, _, h5⟩ := run_append_own_at (P := P) w base t ty e i z size bytes ht hi hz hsize hby hzs hsz v n xs hown ad m c news hr.1 hcells h1 h63 hbytes hbase
    exact ⟨v', w', hrun, h2, h3, h5⟩
theorem wp_append_any {o : Oper} {a : Act} {K : Act → World → Prop} {Q : Exit → Act → World → Prop} (s x : Operand) (t : TypeId)
    (ho : o.op = .call { callee := .builtin .append, args := #[s, x], argTypes := #[t, t] })
    (base : Nat) (e : TypeId) (i : TypeInfo) (z : Value) (size bytes : Nat) (ht : P.underlying t = some (.slice e)) (hi : P.info? e = some i) (hz : i.zero = some z)
    (hsize : i.size = size) (hby : i.bytes = bytes) (hzs : z.cells.size = size) (hsz : 0 < size)
    (v : Value) (n : Nat) (xs : List Value) (hs : a.eval s = v) (hown : w.ownsRow base e size v n xs)
    (B : Nat) (A : Option Addr) (m c : Nat) (news : List Value) (hx : a.eval x = .slice A m c) (hr : Reads w B size A m news) (h1 : ∀ u ∈ news, u.oneCell' = true)
    (h63 : n + m ≤ maxLen) (hbytes : (n + m) * bytes ≤ 140737488355328) (hbase : base ≤ w.heap.size)
    (h : ∀ v' w', w'.ownsRow base e size v' (n + m) (xs ++ news) → w.grownBy w' v.ownBlock → (v'.ownBlock = v.ownBlock ∨ v'.ownBlock = some w.heap.size) → K (a.put o.dst v') w') : o.wp P a w K Q := by
  obtain ⟨v', w', hrun, h2, h3, h4⟩ := run_append_any (P := P) w base t o.type e i z size bytes ht hi hz hsize hby hzs hsz v n xs hown B A m c news hr h1 h63 hbytes hbase; unfold Oper.wp execOp; simp only [ho, resolve, invoke, builtin, Sem.run_bind, Sem.run_pure, Result.andThen_ok, List.map_toArray, List.map_cons, List.map_nil, hs, hx, hrun]
  exact h v' w' h2 h3 h4
theorem wpList_append_any {ops : Array Oper} {rest : List Oper} {o : Oper} {a : Act} {Q : Exit → Act → World → Prop} (hgd : o.guard = none) (s x : Operand) (t : TypeId)
    (ho : o.op = .call { callee := .builtin .append, args := #[s, x], argTypes := #[t, t] })
    (base : Nat) (e : TypeId) (i : TypeInfo) (z : Value) (size bytes : Nat) (ht : P.underlying t = some (.slice e)) (hi : P.info? e = some i) (hz : i.zero = some z)
    (hsize : i.size = size) (hby : i.bytes = bytes) (hzs : z.cells.size = size) (hsz : 0 < size)
    (v : Value) (n : Nat) (xs : List Value) (hs : a.eval s = v) (hown : w.ownsRow base e size v n xs)
    (B : Nat) (A : Option Addr) (m c : Nat) (news : List Value) (hx : a.eval x = .slice A m c) (hr : Reads w B size A m news) (h1 : ∀ u ∈ news, u.oneCell' = true)
    (h63 : n + m ≤ maxLen) (hbytes : (n + m) * bytes ≤ 140737488355328) (hbase : base ≤ w.heap.size)
    (h : ∀ v' w', w'.ownsRow base e size v' (n + m) (xs ++ news) → w.grownBy w' v.ownBlock → (v'.ownBlock = v.ownBlock ∨ v'.ownBlock = some w.heap.size) → wpList P ops Q rest (a.put o.dst v') w') : wpList P ops Q (o :: rest) a w :=
  wpList_plain hgd fun _ hK => wp_append_any w s x t ho base e i z size bytes ht hi hz hsize hby hzs hsz v n xs hs hown B A m c news hx hr h1 h63 hbytes hbase fun v' w' h2 h3 h4 => hK _ _ (h v' w' h2 h3 h4)
end
/-- An event's cells as a list. -/
def Evt.c6 (e : Evt) : List Value := [.int .i64 e.t, .int .i64 e.to, .int .i64 e.fr, .int .i64 e.sq, .int .i64 e.kd, .int .i64 e.dt]
/-- A list's cells. -/
def flat : List Evt → List Value
  | [] => []
  | e :: r => e.c6 ++ flat r
theorem flat_len : ∀ es : List Evt, (flat es).length = es.length * 6
  | [] => rfl
  | e :: r => by
    rw [flat, List.length_append, flat_len r]; simp [Evt.c6]
    omega
theorem flat_app : ∀ es fs : List Evt, flat (es ++ fs) = flat es ++ flat fs
  | [], _ => rfl
  | e :: r, fs => by rw [List.cons_append, flat, flat_app r fs, flat, List.append_assoc]
theorem flat_get : ∀ (es : List Evt) (i k : Nat), i < es.length → k < 6 → (flat es)[i * 6 + k]? = (es.getD i default).c6[k]?
  | [], i, _, hi, _ => absurd hi (by simp)
  | e :: r, 0, k, _, hk => by
    rw [flat, Nat.zero_mul, Nat.zero_add, List.getElem?_append_left (by simpa [Evt.c6] using hk)]
    rfl
  | e :: r, i + 1, k, hi, hk => by
    have hl : e.c6.length = 6 := rfl
    rw [flat, List.getElem?_append_right (by omega), hl, show (i + 1) * 6 + k - 6 = i * 6 + k by omega, flat_get r i k (by simpa using hi) hk]
    rfl
theorem flat_one (es : List Evt) : ∀ u ∈ flat es, u.oneCell' = true := by
  induction es with
  | nil => intro u hu; cases hu
  | cons e r ih =>
    intro u hu; rw [flat, List.mem_append] at hu
    rcases hu with hu | hu
    · simp only [Evt.c6, List.mem_cons, List.not_mem_nil, or_false] at hu
      rcases hu with rfl | rfl | rfl | rfl | rfl | rfl <;> rfl
    · exact ih u hu
theorem EvAt.at_ {w : World} {b o : Nat} {e : Evt} (h : EvAt w b o e) {k : Nat} {u : Value} (hk : k < 6) (hu : e.c6[k]? = some u) : w.cell? ⟨b, o + k, none⟩ = some u := by
  obtain ⟨h0, h1, h2, h3, h4, h5⟩ := h
  have h6 : k = 0 ∨ k = 1 ∨ k = 2 ∨ k = 3 ∨ k = 4 ∨ k = 5 := by omega
  rcases h6 with rfl | rfl | rfl | rfl | rfl | rfl
  · simp [Evt.c6] at hu; subst hu; exact h0
  · simp [Evt.c6] at hu; subst hu; exact h1
  · simp [Evt.c6] at hu; subst hu; exact h2
  · simp [Evt.c6] at hu; subst hu; exact h3
  · simp [Evt.c6] at hu; subst hu; exact h4
  · simp [Evt.c6] at hu; subst hu; exact h5
theorem Evs.reads {w : World} {A : Option Addr} {n : Nat} {es : List Evt} (h : Evs w A n es) : Reads w w.heap.size 6 A n (flat es) := by
  refine ⟨by rw [flat_len, h.1], fun hn => ?_⟩; obtain ⟨b, off, hA, hb, hc⟩ := h.2 hn; refine ⟨_, hA, hb, fun j u hu => ?_⟩
  have hj : j < (flat es).length := (List.getElem?_eq_some_iff.1 hu).1
  rw [flat_len, h.1] at hj
  have e : j = j / 6 * 6 + j % 6 := by omega
  have hi : j / 6 < n := by omega
  rw [e, flat_get es _ _ (by rw [h.1]; exact hi) (by omega)] at hu
  have := (hc _ hi).at_ (by omega) hu
  have ad : (⟨b, off, none⟩ : Addr).add j = ⟨b, off + j / 6 * 6 + j % 6, none⟩ := by
    unfold Addr.add
    split
    · rename_i h0; subst h0; rfl
    · rw [Nat.add_assoc, ← e]
  rw [ad]
  exact this
theorem own_evs {w : World} {base e n c : Nat} {A : Option Addr} {es : List Evt} (h : w.ownsRow base e 6 (.slice A n c) n (flat es)) : Evs w A n es := by
  have hl : es.length = n := by have := h.1; rw [flat_len] at this; omega
  refine ⟨hl, fun hn => ?_⟩; obtain ⟨g, cap, hv, _, hlt⟩ := h.form hn
  injection hv with hA _ hcap
  subst hA hcap; refine ⟨g, 0, rfl, hlt, fun i hi => ?_⟩
  have f : ∀ k, k < 6 → w.cell? ⟨g, 0 + i * 6 + k, none⟩ = (es.getD i default).c6[k]? := fun k hk => by
    rw [Nat.zero_add, h.cellAt (i * 6 + k) (by omega), flat_get es i k (by omega) hk]
  exact ⟨f 0 (by omega), f 1 (by omega), f 2 (by omega), f 3 (by omega), f 4 (by omega), f 5 (by omega)⟩
theorem Up.grown {a w w' : World} {row : Option Nat} (h : Up a w) (hg : w.grownBy w' row) (hr : ∀ k, row = some k → a.heap.size ≤ k) : Up a w' := Below.grown h hg h.size hr
theorem own_up {w w' : World} {b e size n : Nat} {v : Value} {xs : List Value} (h : w.ownsRow b e size v n xs) (u : Up w w') : w'.ownsRow b e size v n xs :=
  h.kept (row := none) ⟨u.below.os, u.below.tape, u.below.output, u.size, fun k hk _ => u.below.block k hk⟩ (by
    cases hv : v.ownBlock
    · exact .inl rfl
    · exact .inr (by simp))
/-- The new slice that a function hands back. -/
def NewSl (es : List Evt) (w : World) (x : Ending) (w' : World) : Prop :=
  ∃ A c, x = .returned (.slice A es.length c) ∧ es.length ≤ c ∧ c ≤ 9223372036854775807 ∧ Evs w' A es.length es ∧ w'.ownsRow w.heap.size 45 6 (.slice A es.length c) es.length (flat es) ∧ Up w w'
theorem own_slice {w : World} {base e n : Nat} {v : Value} {es : List Evt} (h : w.ownsRow base e 6 v n (flat es)) : n = es.length ∧ ∃ A c, v = .slice A n c ∧ n ≤ c ∧ c ≤ 9223372036854775807 := by
  have hl : es.length = n := by have := h.1; rw [flat_len] at this; omega
  refine ⟨hl.symm, ?_⟩
  rcases h.2 with ⟨rfl, rfl⟩ | ⟨g, cap, cur, rfl, _, _, hnc, hm, _⟩
  · exact ⟨none, 0, rfl, Nat.le_refl _, by omega⟩
  · exact ⟨_, cap, rfl, hnc, by unfold maxLen at hm; omega⟩
theorem NewSl.of_own {w w' : World} {n : Nat} {v : Value} {es : List Evt} (h : w'.ownsRow w.heap.size 45 6 v n (flat es)) (u : Up w w') : NewSl es w (.returned v) w' := by
  obtain ⟨rfl, A, c, rfl, hc, hm⟩ := own_slice h
  exact ⟨A, c, rfl, hc, hm, own_evs h, h, u⟩
/-- A block of one event's cells, as a slice of one. -/
theorem Evs.one {w : World} {b : Nat} {e : Evt} (h : w.cell? ⟨b, 0, none⟩ = some (.int .i64 e.t) ∧ w.cell? ⟨b, 1, none⟩ = some (.int .i64 e.to) ∧ w.cell? ⟨b, 2, none⟩ = some (.int .i64 e.fr) ∧ w.cell? ⟨b, 3, none⟩ = some (.int .i64 e.sq) ∧ w.cell? ⟨b, 4, none⟩ = some (.int .i64 e.kd) ∧ w.cell? ⟨b, 5, none⟩ = some (.int .i64 e.dt)) (hb : b < w.heap.size) :
    Evs w (some ⟨b, 0, none⟩) 1 [e] :=
  ⟨rfl, fun _ => ⟨b, 0, rfl, hb, fun i hi => by
    obtain rfl : i = 0 := by omega
    exact h⟩⟩
theorem Evs.new (w : World) (e : Evt) (t : TypeId) : Evs (w.alloc (.cells #[.int .i64 e.t, .int .i64 e.to, .int .i64 e.fr, .int .i64 e.sq, .int .i64 e.kd, .int .i64 e.dt] t)) (some ⟨w.heap.size, 0, none⟩) 1 [e] := by
  have hh := heap_alloc_new w (.cells #[.int .i64 e.t, .int .i64 e.to, .int .i64 e.fr, .int .i64 e.sq, .int .i64 e.kd, .int .i64 e.dt] t)
  exact Evs.one ⟨by rw [cell_of_row _ _ 0 _ _ _ hh]; rfl, by rw [cell_of_row _ _ 1 _ _ _ hh]; rfl, by rw [cell_of_row _ _ 2 _ _ _ hh]; rfl, by rw [cell_of_row _ _ 3 _ _ _ hh]; rfl, by rw [cell_of_row _ _ 4 _ _ _ hh]; rfl, by rw [cell_of_row _ _ 5 _ _ _ hh]; rfl⟩ (by simp)
end Go.Proofs.Ytakmlfgkppekoaa

namespace Go.Proofs.Ytakmlfgkppekoaa
set_option maxRecDepth 100000
open Go.RowKit
/-- What a cell may hold: a number; a slice of at most mx elements of type e, of so many cells each. -/
inductive CK where
  | num
  | sl (e size mx : Nat)
/-- A slice of n elements of type e in a block of the call's own. -/
def Gs (w : World) (S : Nat → Prop) (e size n : Nat) (v : Value) : Prop :=
  (v = .slice none 0 0 ∧ n = 0) ∨ ∃ b cap arr, v = .slice (some ⟨b, 0, none⟩) n cap ∧ S b ∧ w.heap[b]? = some (.cells arr e (0, 0)) ∧ n ≤ cap ∧ cap ≤ maxLen ∧ arr.size = cap * size
def COk (w : World) (S : Nat → Prop) : CK → Value → Prop
  | .num, v => ∃ z, v = .int .i64 z
  | .sl e size mx, v => ∃ n, n ≤ mx ∧ Gs w S e size n v
abbrev Tbl := Nat → List CK
/-- The cell at j of a block of type e holds what the table says. -/
def TC (T : Tbl) (w : World) (S : Nat → Prop) (e j : Nat) (v : Value) : Prop := ∃ k, (T e)[j % (T e).length]? = some k ∧ COk w S k v
def TH (T : Tbl) (S : Nat → Prop) (w : World) : Prop :=
  ∀ (b : Nat) (arr : Array Value) (e : Nat) (fz : Nat × Nat), S b → w.heap[b]? = some (.cells arr e fz) → T e ≠ [] → fz = (0, 0) ∧ ∀ j v, arr[j]? = some v → TC T w S e j v
/-- What each step keeps. -/
structure St (T : Tbl) (S : Nat → Prop) (g : Nat) (w w' : World) : Prop where
  os : w'.os = w.os
  tape : w'.tape = w.tape
  output : w'.output = w.output
  size : w.heap.size ≤ w'.heap.size
  old : ∀ k, ¬ S k → k ≠ g → w'.heap[k]? = w.heap[k]?
  shape : ∀ (k : Nat) (arr : Array Value) (e : Nat) (fz : Nat × Nat), w.heap[k]? = some (.cells arr e fz) → ∃ arr', w'.heap[k]? = some (.cells arr' e fz) ∧ arr'.size = arr.size
  free : ∀ (k : Nat) (arr : Array Value) (e : Nat) (fz : Nat × Nat), k ≠ g → w.heap[k]? = some (.cells arr e fz) → T e = [] → w'.heap[k]? = w.heap[k]?
section
variable {T : Tbl} {S : Nat → Prop} {g : Nat} {w w' w'' : World}
theorem St.refl (w : World) : St T S g w w := ⟨rfl, rfl, rfl, Nat.le_refl _, fun _ _ _ => rfl, fun _ arr _ _ h => ⟨arr, h, rfl⟩, fun _ _ _ _ _ _ _ => rfl⟩
theorem St.trans (h : St T S g w w') (k : St T S g w' w'') : St T S g w w'' :=
  ⟨k.os.trans h.os, k.tape.trans h.tape, k.output.trans h.output, Nat.le_trans h.size k.size, fun j hj hne => (k.old j hj hne).trans (h.old j hj hne),
    fun j arr e fz ha => by
      obtain ⟨arr', h1, h2⟩ := h.shape j arr e fz ha; obtain ⟨arr'', h3, h4⟩ := k.shape j arr' e fz h1
      exact ⟨arr'', h3, h4.trans h2⟩,
    fun j arr e fz hne ha ht => by
      have h1 := h.free j arr e fz hne ha ht
      exact (k.free j arr e fz hne (h1.trans ha) ht).trans h1⟩
theorem St.drew (h : St T S g w w') : St T S g w w'.drew := ⟨h.os, h.tape, h.output, h.size, h.old, h.shape, h.free⟩
theorem TH.drew (h : TH T S w) : TH T S w.drew := h
theorem St.mv {w0 : World} (h : St T S g w w') (hs : ∀ j, j < w0.heap.size → ¬ S j) (k : Mv g w0 w) : Mv g w0 w' :=
  ⟨h.os.trans k.os, h.tape.trans k.tape, h.output.trans k.output, Nat.le_trans k.size h.size, fun j hj hne => (h.old j (hs j hj) hne).trans (k.block j hj hne)⟩
theorem Gs.st {e size n : Nat} {v : Value} (h : Gs w S e size n v) (k : St T S g w w') : Gs w' S e size n v := by
  rcases h with h | ⟨b, cap, arr, h1, h2, h3, h4, h5, h6⟩
  · exact .inl h
  · obtain ⟨arr', h7, h8⟩ := k.shape b arr e (0, 0) h3
    exact .inr ⟨b, cap, arr', h1, h2, h7, h4, h5, h8.trans h6⟩
theorem COk.st {c : CK} {v : Value} (h : COk w S c v) (k : St T S g w w') : COk w' S c v := by
  cases c with
  | num => exact h
  | sl e size mx =>
    obtain ⟨n, h1, h2⟩ := h
    exact ⟨n, h1, h2.st k⟩
theorem TC.st {e j : Nat} {v : Value} (h : TC T w S e j v) (k : St T S g w w') : TC T w' S e j v := by
  obtain ⟨c, h1, h2⟩ := h
  exact ⟨c, h1, h2.st k⟩
theorem COk.one {c : CK} {v : Value} (h : COk w S c v) : v.oneCell' = true := by
  cases c with
  | num => obtain ⟨z, rfl⟩ := h; rfl
  | sl e size mx =>
    obtain ⟨n, _, h2⟩ := h
    rcases h2 with ⟨rfl, _⟩ | ⟨b, cap, arr, rfl, _⟩
    · rfl
    · rfl
/-- What reads of a typed block. -/
theorem TH.read {b o e : Nat} {arr : Array Value} {fz : Nat × Nat} (h : TH T S w) (hb : S b) (ha : w.heap[b]? = some (.cells arr e fz)) (ht : T e ≠ []) (ho : o < arr.size) :
    ∃ v, w.cell? ⟨b, o, none⟩ = some v ∧ TC T w S e o v ∧ w.frozen? ⟨b, o, none⟩ = false := by
  obtain ⟨rfl, hc⟩ := h b arr e fz hb ha ht
  have hv : arr[o]? = some arr[o] := Array.getElem?_eq_getElem ho
  refine ⟨arr[o], ?_, hc o _ hv, ?_⟩
  · unfold World.cell?
    dsimp only; rw [ha]
    exact hv
  · unfold World.frozen?
    dsimp only; rw [ha]; simp
/-- A new block. -/
theorem St.alloc (w : World) (arr : Array Value) (e : Nat) (hB : ∀ b, w.heap.size ≤ b → S b) : St T S g w (w.alloc (.cells arr e)) :=
  ⟨rfl, rfl, rfl, by simp, fun k hk _ => heap_alloc_old w _ (Nat.lt_of_not_le fun h => hk (hB k h)), fun k a e' fz ha => ⟨a, by
      have : k < w.heap.size := (Array.getElem?_eq_some_iff.1 ha).1
      rw [heap_alloc_old w _ this]
      exact ha, rfl⟩, fun k a e' fz _ ha _ => heap_alloc_old w _ (Array.getElem?_eq_some_iff.1 ha).1⟩
theorem TH.alloc {arr : Array Value} {e : Nat} (h : TH T S w) (hB : ∀ b, w.heap.size ≤ b → S b) (hn : T e ≠ [] → ∀ j v, arr[j]? = some v → TC T w S e j v) : TH T S (w.alloc (.cells arr e)) := by
  have st : St T S 0 w (w.alloc (.cells arr e)) := St.alloc w arr e hB
  intro b a e' fz hb ha ht
  by_cases hlt : b < w.heap.size
  · rw [heap_alloc_old w _ hlt] at ha
    obtain ⟨h1, h2⟩ := h b a e' fz hb ha ht
    exact ⟨h1, fun j v hv => (h2 j v hv).st st⟩
  · have hlt2 := (Array.getElem?_eq_some_iff.1 ha).1
    have hs : b < w.heap.size + 1 := by simpa using hlt2
    obtain rfl : b = w.heap.size := by omega
    rw [heap_alloc_new] at ha
    injection ha with ha
    injection ha with ha1 ha2 ha3
    subst ha1 ha2 ha3
    exact ⟨rfl, fun j v hv => (hn ht j v hv).st st⟩
theorem heap_set (w : World) (b o : Nat) (u : Value) {arr : Array Value} {e : Nat} {fz : Nat × Nat} (ha : w.heap[b]? = some (.cells arr e fz)) :
    (w.setCell ⟨b, o, none⟩ u).heap[b]? = some (.cells (arr.setIfInBounds o u) e fz) := by
  unfold World.setCell; simp [Array.getElem?_modify, ha]
/-- A cell of a typed block is written. -/
theorem St.set {b o e : Nat} {u : Value} {arr : Array Value} {fz : Nat × Nat} (hb : S b) (ha : w.heap[b]? = some (.cells arr e fz)) (ht : T e ≠ []) : St T S g w (w.setCell ⟨b, o, none⟩ u) := by
  have other : ∀ k, k ≠ b → (w.setCell ⟨b, o, none⟩ u).heap[k]? = w.heap[k]? := fun k hk => Below.heap_setCell w ⟨b, o, none⟩ u k hk
  refine ⟨rfl, rfl, rfl, by simp, fun k hk _ => other k (fun e => hk (e ▸ hb)), fun k a e' fz' hk => ?_, fun k a e' fz' _ hk hf => ?_⟩
  · by_cases hkb : k = b
    · subst hkb
      rw [ha] at hk
      injection hk with hk
      injection hk with h1 h2 h3
      subst h1 h2 h3
      exact ⟨_, heap_set w k o u ha, by simp⟩
    · exact ⟨a, (other k hkb).trans hk, rfl⟩
  · by_cases hkb : k = b
    · subst hkb
      rw [ha] at hk
      injection hk with hk
      injection hk with h1 h2 h3
      subst h2
      exact absurd hf ht
    · exact other k hkb
theorem TH.set {b o e : Nat} {u : Value} {arr : Array Value} {fz : Nat × Nat} (h : TH T S w) (hb : S b) (ha : w.heap[b]? = some (.cells arr e fz)) (ht : T e ≠ []) (hu : TC T w S e o u) : TH T S (w.setCell ⟨b, o, none⟩ u) := by
  have st : St T S 0 w (w.setCell ⟨b, o, none⟩ u) := St.set hb ha ht
  intro b' a e' fz' hb' ha' ht'
  by_cases hkb : b' = b
  · subst hkb
    rw [heap_set w b' o u ha] at ha'
    injection ha' with ha'
    injection ha' with h1 h2 h3
    subst h1 h2 h3; obtain ⟨h4, h5⟩ := h b' arr e fz hb ha ht; refine ⟨h4, fun j v hv => ?_⟩; rw [Array.getElem?_setIfInBounds] at hv
    by_cases hj : o = j
    · subst hj
      rw [if_pos rfl] at hv
      split at hv
      · injection hv with hv
        subst hv
        exact hu.st st
      · cases hv
    · rw [if_neg hj] at hv
      exact (h5 j v hv).st st
  · rw [Below.heap_setCell w ⟨b, o, none⟩ u b' hkb] at ha'
    obtain ⟨h4, h5⟩ := h b' a e' fz' hb' ha' ht'
    exact ⟨h4, fun j v hv => (h5 j v hv).st st⟩
/-- Several cells in a row. -/
theorem set_row {b e : Nat} (hb : S b) (ht : T e ≠ []) : ∀ (us : List Value) (o : Nat) (w : World) (arr : Array Value) (fz : Nat × Nat), w.heap[b]? = some (.cells arr e fz) → TH T S w →
    (∀ j u, us[j]? = some u → TC T w S e (o + j) u) → TH T S (w.setCells b o us) ∧ St T S g w (w.setCells b o us)
  | [], _, w, _, _, _, h, _ => ⟨h, St.refl w⟩
  | u :: r, o, w, arr, fz, ha, h, hu => by
    have st : St T S g w (w.setCell ⟨b, o, none⟩ u) := St.set hb ha ht
    have h1 := h.set (o := o) (u := u) hb ha ht (by simpa using hu 0 u rfl)
    obtain ⟨h2, h3⟩ := set_row hb ht r (o + 1) (w.setCell ⟨b, o, none⟩ u) _ fz (heap_set w b o u ha) h1 (fun j v hv => by
      have := hu (j + 1) v (by simpa using hv)
      rw [show o + (j + 1) = o + 1 + j by omega] at this
      exact this.st st)
    exact ⟨h2, st.trans h3⟩
/-- The reader's block is written, no block is made. -/
structure Pk (g : Nat) (w w' : World) : Prop where
  mv : Mv g w w'
  size : w'.heap.size = w.heap.size
  shape : ∀ (arr : Array Value) (e : Nat) (fz : Nat × Nat), w.heap[g]? = some (.cells arr e fz) → ∃ arr', w'.heap[g]? = some (.cells arr' e fz) ∧ arr'.size = arr.size
theorem Pk.refl (g : Nat) (w : World) : Pk g w w := ⟨Mv.refl _ _, rfl, fun arr _ _ h => ⟨arr, h, rfl⟩⟩
theorem Pk.trans {a b c : World} (h : Pk g a b) (k : Pk g b c) : Pk g a c :=
  ⟨h.mv.trans k.mv, k.size.trans h.size, fun arr e fz ha => by
    obtain ⟨a1, h1, h2⟩ := h.shape arr e fz ha; obtain ⟨a2, h3, h4⟩ := k.shape a1 e fz h1
    exact ⟨a2, h3, h4.trans h2⟩⟩
theorem Pk.set {a b : World} (h : Pk g a b) (o : Nat) (u : Value) : Pk g a (b.setCell ⟨g, o, none⟩ u) :=
  ⟨h.mv.setCell u, by simpa using h.size, fun arr e fz ha => by
    obtain ⟨a1, h1, h2⟩ := h.shape arr e fz ha
    exact ⟨_, heap_set b g o u h1, by simpa using h2⟩⟩
theorem Pk.st (h : Pk g w w') : St T S g w w' :=
  ⟨h.mv.os, h.mv.tape, h.mv.output, h.mv.size, fun k _ hne => by
      by_cases hk : k < w.heap.size
      · exact h.mv.block k hk hne
      · rw [Array.getElem?_eq_none (by have := h.size; omega), Array.getElem?_eq_none (by omega)],
    fun k arr e fz ha => by
      by_cases hk : k = g
      · subst hk; exact h.shape arr e fz ha
      · exact ⟨arr, (h.mv.block k (Array.getElem?_eq_some_iff.1 ha).1 hk).trans ha, rfl⟩,
    fun k arr e fz hne ha _ => h.mv.block k (Array.getElem?_eq_some_iff.1 ha).1 hne⟩
theorem TH.pk (h : TH T S w) (k : Pk g w w') (hg : ¬ S g) : TH T S w' := by
  have st : St T S g w w' := k.st
  intro b arr e fz hb ha ht
  have hlt : b < w.heap.size := by have := (Array.getElem?_eq_some_iff.1 ha).1; have := k.size; omega
  rw [k.mv.block b hlt (fun e => hg (e ▸ hb))] at ha; obtain ⟨h1, h2⟩ := h b arr e fz hb ha ht
  exact ⟨h1, fun j v hv => (h2 j v hv).st st⟩
/-- What a type's zero is. -/
def ZOk : CK → Value → Prop
  | .num, v => ∃ z, v = .int .i64 z
  | .sl _ _ _, v => v = .slice none 0 0
theorem ZOk.ok {c : CK} {v : Value} (h : ZOk c v) : COk w S c v := by
  cases c with
  | num => exact h
  | sl e size mx => exact ⟨0, Nat.zero_le _, .inl ⟨h, rfl⟩⟩
theorem zeros_tc {z : Array Value} {e : Nat} (hz : z.size = (T e).length) (hp : 0 < z.size) (h : ∀ (j : Nat) (u : Value), z[j]? = some u → ∃ k, (T e)[j]? = some k ∧ ZOk k u) (N j : Nat) (v : Value) (hv : (Builtin.zeroCells z N)[j]? = some v) : TC T w S e j v := by
  have hlt := (Array.getElem?_eq_some_iff.1 hv).1
  unfold Builtin.zeroCells at hv hlt; simp only [Array.getElem?_map, Array.size_map, Array.size_range] at hv hlt; rw [Array.getElem?_range] at hv; rw [if_pos hlt] at hv
  have hm : j % z.size < z.size := Nat.mod_lt _ hp
  have e1 : z[j % z.size]? = some v := by
    have : z[j % z.size]! = v := by simpa using hv
    rw [← this, Array.getElem?_eq_getElem hm]; simp [hm]
  obtain ⟨k, h1, h2⟩ := h _ v e1
  exact ⟨k, by rw [← hz]; exact h1, h2.ok⟩
end
/-- Appending onto a typed slice. -/
theorem run_append_ty {P : Program} {T : Tbl} {S : Nat → Prop} {g : Nat} (w : World) (t ty e : Nat) (i : TypeInfo) (z : Value) (size bytes : Nat) (ht : P.underlying t = some (.slice e)) (hi : P.info? e = some i) (hz : i.zero = some z)
    (hsize : i.size = size) (hby : i.bytes = bytes) (hzs : z.cells.size = size) (hsz : 0 < size) (hT : (T e).length = size) (hzt : ∀ (j : Nat) (u : Value), z.cells[j]? = some u → ∃ k, (T e)[j]? = some k ∧ ZOk k u)
    (v : Value) (n : Nat) (hv : Gs w S e size n v) (ad : Addr) (m c : Nat) (news : List Value) (hl : news.length = m * size) (hnews : ∀ j u, news[j]? = some u → w.cell? (ad.add j) = some u)
    (hn : ∀ j u, news[j]? = some u → TC T w S e j u) (hm : 0 < m) (b1 : n + m ≤ 1000000) (b2 : (n + m) * bytes ≤ 140737488355328) (hB : ∀ b, w.heap.size ≤ b → S b) (hTH : TH T S w) :
    ∃ v' w', (Builtin.append_ #[t, t] ty #[v, .slice (some ad) m c]).run P w = .ok v' w' ∧ Gs w' S e size (n + m) v' ∧ TH T S w' ∧ St T S g w w' := by
  subst hsize; subst hby
  have hne : T e ≠ [] := fun h => by rw [h] at hT; simp at hT; omega
  have hone : ∀ u ∈ news, u.oneCell' = true := fun u hu => by
    obtain ⟨j, hj⟩ := List.getElem?_of_mem hu; obtain ⟨k, _, h2⟩ := hn j u hj
    exact h2.one
  have hcm : ∀ k, k = n + m → ∀ old, grownCap w k old e ≤ maxLen := fun k hk old => grownCap_le_maxLen w k old e (by simp only [maxLen]; omega)
  have mod_add : ∀ j, (n * i.size + j) % (T e).length = j % (T e).length := fun j => by rw [hT, Nat.mul_comm, Nat.mul_add_mod]
  rcases hv with ⟨rfl, rfl⟩ | ⟨b, cap, arr, rfl, hb, ha, hnc, hcl, hsz2⟩
  · have hr := run_append_nil (P := P) w t ty e i z ht hi hz ad m c news hl hnews hm (by omega) (by simp at b2; omega)
    have hge := grownCap_ge w m 0 e
    refine ⟨_, _, hr, .inr ⟨w.heap.size, grownCap w m 0 e, _, by simp, hB _ (Nat.le_refl _), heap_alloc_new w.drew _, by simpa using hge, hcm m (by simp) 0, ?_⟩, ?_, ?_⟩
    · simp only [Array.size_append, List.size_toArray, size_zeroCells, hzs, hl, ← Nat.add_mul]
      congr 1
      omega
    · refine TH.alloc (hTH.drew) hB fun _ j u hu => ?_
      rw [Array.getElem?_append] at hu
      split at hu
      · exact hn j u (by simpa using hu)
      · rename_i hlt
        have := zeros_tc (T := T) (w := w) (S := S) (e := e) (hzs.trans hT.symm) (by omega) hzt _ _ _ hu
        obtain ⟨k, h1, h2⟩ := this; refine ⟨k, ?_, h2⟩; rw [← h1]; simp only [List.size_toArray, hl] at hlt ⊢
        congr 1
        rw [hT]; obtain ⟨d, rfl⟩ : ∃ d, j = m * i.size + d := ⟨j - m * i.size, by omega⟩; rw [Nat.add_sub_cancel_left, Nat.mul_comm, Nat.mul_add_mod]
    · exact (St.refl w).drew.trans (St.alloc w.drew _ e hB)
  · by_cases hroom : n + m ≤ cap
    · have inb : ∀ j, j < news.length → n * i.size + j < arr.size := fun j hj => by
        rw [hsz2]
        have h7 : (n + m) * i.size ≤ cap * i.size := Nat.mul_le_mul_right _ hroom
        rw [Nat.add_mul] at h7
        omega
      have hr := run_append_room_cells (P := P) w t ty e i ht hi b 0 n cap ad m c news hl hnews hone hroom
        (fun j hj => by
          obtain ⟨u, hu, _⟩ := hTH.read hb ha hne (inb j hj)
          rw [Nat.zero_add, hu]; rfl)
        (fun j hj => by
          obtain ⟨u, _, _, hf⟩ := hTH.read hb ha hne (inb j hj)
          rw [Nat.zero_add]; exact hf)
      obtain ⟨h1, h2⟩ := set_row (T := T) (S := S) (g := g) hb hne news (0 + n * i.size) w arr (0, 0) ha hTH (fun j u hu => by
        obtain ⟨k, h3, h4⟩ := hn j u hu
        exact ⟨k, by rw [Nat.zero_add, mod_add]; exact h3, h4⟩)
      obtain ⟨arr', h3, h4⟩ := h2.shape b arr e (0, 0) ha
      exact ⟨_, _, hr, .inr ⟨b, cap, arr', rfl, hb, h3, hroom, hcl, h4.trans hsz2⟩, h1, h2⟩
    · have hle : n * i.size ≤ arr.size := by rw [hsz2]; exact Nat.mul_le_mul_right _ hnc
      have hol : (arr.toList.take (n * i.size)).length = n * i.size := by rw [List.length_take]; simp; omega
      have hat : ∀ j u, (arr.toList.take (n * i.size))[j]? = some u → arr[j]? = some u := fun j u hu => by
        rw [List.getElem?_take] at hu
        split at hu
        · simpa using hu
        · cases hu
      have hr := run_append_grow (P := P) w t ty e i z ht hi hz ⟨b, 0, none⟩ n cap (arr.toList.take (n * i.size)) hol
        (fun j u hu => by
          rw [Addr.add_lit, Nat.zero_add]; unfold World.cell?; dsimp only; rw [ha]
          exact hat j u hu) ad m c news hl hnews (by omega) (by omega) (growslice_fits (by omega) b2)
      have hge := grownCap_ge w (n + m) cap e
      refine ⟨_, _, hr, .inr ⟨w.heap.size, _, _, rfl, hB _ (Nat.le_refl _), heap_alloc_new w.drew _, hge, hcm _ rfl cap, ?_⟩, ?_, ?_⟩
      · simp only [Array.size_append, List.size_toArray, size_zeroCells, hzs, hol, hl, ← Nat.add_mul]
        congr 1
        omega
      · refine TH.alloc (hTH.drew) hB fun _ j u hu => ?_
        rw [Array.getElem?_append] at hu
        split at hu
        · rw [Array.getElem?_append] at hu
          split at hu
          · obtain ⟨_, h5⟩ := hTH b arr e (0, 0) hb ha hne
            exact h5 j u (hat j u (by simpa using hu))
          · rename_i hlt
            simp only [List.size_toArray, hol] at hlt hu; obtain ⟨k, h1, h2⟩ := hn (j - n * i.size) u (by simpa using hu); refine ⟨k, ?_, h2⟩; rw [← h1, ← mod_add (j - n * i.size), show n * i.size + (j - n * i.size) = j by omega]
        · rename_i hlt
          have := zeros_tc (T := T) (w := w) (S := S) (e := e) (hzs.trans hT.symm) (by omega) hzt _ _ _ hu
          obtain ⟨k, h1, h2⟩ := this; refine ⟨k, ?_, h2⟩; rw [← h1]; simp only [Array.size_append, List.size_toArray, hol, hl] at hlt ⊢
          congr 1
          rw [hT]; obtain ⟨d, rfl⟩ : ∃ d, j = n * i.size + m * i.size + d := ⟨j - (n * i.size + m * i.size), by omega⟩; rw [Nat.add_sub_cancel_left, ← Nat.add_mul, Nat.mul_comm, Nat.mul_add_mod]
      · exact (St.refl w).drew.trans (St.alloc w.drew _ e hB)
/-- The same for one operation. -/
theorem wp_append_ty {P : Program} {T : Tbl} {S : Nat → Prop} {g : Nat} (w : World) {o : Oper} {a : Act} {K : Act → World → Prop} {Q : Exit → Act → World → Prop} (s x : Operand) (t : Nat)
    (ho : o.op = .call { callee := .builtin .append, args := #[s, x], argTypes := #[t, t] })
    (e : Nat) (i : TypeInfo) (z : Value) (size bytes : Nat) (ht : P.underlying t = some (.slice e)) (hi : P.info? e = some i) (hz : i.zero = some z)
    (hsize : i.size = size) (hby : i.bytes = bytes) (hzs : z.cells.size = size) (hsz : 0 < size) (hT : (T e).length = size) (hzt : ∀ (j : Nat) (u : Value), z.cells[j]? = some u → ∃ k, (T e)[j]? = some k ∧ ZOk k u)
    (v : Value) (n : Nat) (hs : a.eval s = v) (hv : Gs w S e size n v) (ad : Addr) (m c : Nat) (news : List Value) (hx : a.eval x = .slice (some ad) m c) (hl : news.length = m * size) (hnews : ∀ j u, news[j]? = some u → w.cell? (ad.add j) = some u)
    (hn : ∀ j u, news[j]? = some u → TC T w S e j u) (hm : 0 < m) (b1 : n + m ≤ 1000000) (b2 : (n + m) * bytes ≤ 140737488355328) (hB : ∀ b, w.heap.size ≤ b → S b) (hTH : TH T S w)
    (h : ∀ v' w', Gs w' S e size (n + m) v' → TH T S w' → St T S g w w' → K (a.put o.dst v') w') : o.wp P a w K Q := by
  obtain ⟨v', w', hrun, h2, h3, h4⟩ := run_append_ty (P := P) (g := g) w t o.type e i z size bytes ht hi hz hsize hby hzs hsz hT hzt v n hv ad m c news hl hnews hn hm b1 b2 hB hTH; unfold Oper.wp execOp; simp only [ho, resolve, invoke, builtin, Sem.run_bind, Sem.run_pure, Result.andThen_ok, List.map_toArray, List.map_cons, List.map_nil, hs, hx, hrun]
  exact h v' w' h2 h3 h4
end Go.Proofs.Ytakmlfgkppekoaa

/-
  What stands in the slots of regions over a typed heap, in one sentence: numbers, arrays of numbers, aggregates, slices in typed blocks, each kept by every step; no condition is made.
  What pick gives, in one sentence: a number below its bound, and the reader is one further; for every reader that lies in memory.
  A region that draws its order and only reads, in one sentence: one walk in the order of the text serves every order, and no block is made.
-/
import Derived.Test.YtakmlfgkppekoaaDLRok01
import Derived.Test.YtakmlfgkppekoaaDLRok02
import Derived.Test.YtakmlfgkppekoaaDLRok03
import Derived.Test.YtakmlfgkppekoaaDLRok04
namespace Go.Proofs.Ytakmlfgkppekoaa
set_option maxRecDepth 100000
open Go.RowKit
/-- What holds between two operations of a region, k of them being left. -/
structure GT (K : Nat) (S : Nat → Prop) (g N0 : Nat) (W0 : World) (k : Nat) (w : World) : Prop where
  th : TH (TM K) S w
  rd : ∃ c, c + k ≤ N0 ∧ Rd w g c
  st : St (TM K) S g W0 w
  lo : ∀ b, w.heap.size ≤ b → S b
def PEq (c v : Value) (_ : World) : Prop := v = c
def PInt (lo hi : Int) (v : Value) (_ : World) : Prop := ∃ z : Int, v = .int .i64 z ∧ lo ≤ z ∧ z ≤ hi
def PArr (g n : Nat) (lo hi : Int) (v : Value) (w : World) : Prop :=
  ∃ b arr, v = .slice (some ⟨b, 0, none⟩) n n ∧ b ≠ g ∧ w.heap[b]? = some (.cells arr 3 (0, 0)) ∧ arr.size = n ∧ ∀ j, j < n → ∃ z, arr[j]? = some (.int .i64 z) ∧ lo ≤ z ∧ z ≤ hi
def PEl (g : Nat) (lo hi : Int) (v : Value) (w : World) : Prop :=
  ∃ b j arr z, v = .pointer (some ⟨b, j, none⟩) ∧ b ≠ g ∧ w.heap[b]? = some (.cells arr 3 (0, 0)) ∧ arr[j]? = some (.int .i64 z) ∧ lo ≤ z ∧ z ≤ hi
def PSnd (v : Value) (_ : World) : Prop := ∃ z0 z1 z2 z3 z4 z5 : Int, v = .agg #[.int .i64 z0, .int .i64 z1, .int .i64 z2, .int .i64 z3, .int .i64 z4, .int .i64 z5]
def PGs (S : Nat → Prop) (e size n : Nat) (v : Value) (w : World) : Prop := Gs w S e size n v
def PLe (S : Nat → Prop) (e size K : Nat) (v : Value) (w : World) : Prop := ∃ n, n ≤ K ∧ Gs w S e size n v
def PRule (S : Nat → Prop) (K : Nat) (v : Value) (w : World) : Prop := ∃ (z0 z1 z2 z3 : Int) (s : Value), v = .agg #[.int .i64 z0, .int .i64 z1, .int .i64 z2, .int .i64 z3, s] ∧ ∃ n, n ≤ K ∧ Gs w S 140 6 n s
section
variable {S : Nat → Prop} {K g N0 : Nat} {W0 w w' : World}
theorem TM_int (K : Nat) : TM K 3 = [] := by simp [TM]
theorem TM_mdl (K : Nat) : TM K 33 = [] := by simp [TM]
theorem PEq.st {c v : Value} (h : PEq c v w) (_ : St (TM K) S g w w') : PEq c v w' := h
theorem PInt.st {lo hi : Int} {v : Value} (h : PInt lo hi v w) (_ : St (TM K) S g w w') : PInt lo hi v w' := h
theorem PSnd.st {v : Value} (h : PSnd v w) (_ : St (TM K) S g w w') : PSnd v w' := h
theorem PArr.st {n : Nat} {lo hi : Int} {v : Value} (h : PArr g n lo hi v w) (k : St (TM K) S g w w') : PArr g n lo hi v w' := by
  obtain ⟨b, arr, h1, h2, h3, h4⟩ := h
  exact ⟨b, arr, h1, h2, (k.free b arr _ _ h2 h3 (TM_int K)).trans h3, h4⟩
theorem PEl.st {lo hi : Int} {v : Value} (h : PEl g lo hi v w) (k : St (TM K) S g w w') : PEl g lo hi v w' := by
  obtain ⟨b, j, arr, z, h1, h2, h3, h4⟩ := h
  exact ⟨b, j, arr, z, h1, h2, (k.free b arr _ _ h2 h3 (TM_int K)).trans h3, h4⟩
theorem PGs.st {e size n : Nat} {v : Value} (h : PGs S e size n v w) (k : St (TM K) S g w w') : PGs S e size n v w' := Gs.st h k
theorem PLe.st {e size n : Nat} {v : Value} (h : PLe S e size n v w) (k : St (TM K) S g w w') : PLe S e size n v w' := by
  obtain ⟨n, h1, h2⟩ := h
  exact ⟨n, h1, h2.st k⟩
theorem PRule.st {n : Nat} {v : Value} (h : PRule S n v w) (k : St (TM K) S g w w') : PRule S n v w' := by
  obtain ⟨z0, z1, z2, z3, s, h1, n, h2, h3⟩ := h
  exact ⟨z0, z1, z2, z3, s, h1, n, h2, h3.st k⟩
theorem GT.less {k : Nat} (h : GT K S g N0 W0 (k + 1) w) : GT K S g N0 W0 k w :=
  ⟨h.th, by obtain ⟨c, h1, h2⟩ := h.rd; exact ⟨c, by omega, h2⟩, h.st, h.lo⟩
theorem GT.pk {k c : Nat} (h : GT K S g N0 W0 (k + 1) w) (p : Pk g w w') (hg : ¬ S g) (r : Rd w' g (c + 1)) (hc : c + (k + 1) ≤ N0) : GT K S g N0 W0 k w' :=
  ⟨h.th.pk p hg, ⟨c + 1, by omega, r⟩, h.st.trans p.st, by rw [p.size]; exact h.lo⟩
theorem Rd.st {c : Nat} (r : Rd w g c) (h : ∀ k, k ≤ g → w'.heap[k]? = w.heap[k]?) (hs : w.heap.size ≤ w'.heap.size) : Rd w' g c := by
  obtain ⟨A, n, cap, p, h0, h1, hf, hp, hg, hn, hb⟩ := r
  have cell : ∀ b o, b ≤ g → w'.cell? ⟨b, o, none⟩ = w.cell? ⟨b, o, none⟩ := fun b o hb => World.cell?_of_block (w := w) (a := ⟨b, o, none⟩) (h b hb)
  exact ⟨A, n, cap, p, (cell _ _ (Nat.le_refl _)).trans h0, (cell _ _ (Nat.le_refl _)).trans h1, (World.frozen?_of_block (w := w) (a := ⟨g, 1, none⟩) (h g (Nat.le_refl _))).trans hf, hp, by omega, hn, hb.keep fun b o hb => cell b o (by omega)⟩
theorem GT.alloc {k e : Nat} {arr : Array Value} (h : GT K S g N0 W0 (k + 1) w) (hn : TM K e ≠ [] → ∀ j v, arr[j]? = some v → TC (TM K) w S e j v) : GT K S g N0 W0 k (w.alloc (.cells arr e)) :=
  ⟨h.th.alloc h.lo hn, by
    obtain ⟨c, h1, h2⟩ := h.rd
    exact ⟨c, by omega, Rd.st h2 (fun j hj => heap_alloc_old w _ (by have := h2.lt; omega)) (by simp)⟩, h.st.trans (St.alloc w arr e h.lo), fun b hb => h.lo b (by simp at hb; omega)⟩
theorem GT.grow {k : Nat} (h : GT K S g N0 W0 (k + 1) w) (t : TH (TM K) S w') (s : St (TM K) S g w w') (hg : w'.heap[g]? = w.heap[g]?) (hgb : ∀ j, j ≤ g → ¬ S j) : GT K S g N0 W0 k w' :=
  ⟨t, by
    obtain ⟨c, h1, h2⟩ := h.rd
    exact ⟨c, by omega, h2.st (fun j hj => by
      by_cases e : j = g
      · subst e; exact hg
      · exact s.old j (hgb j hj) e) s.size⟩, h.st.trans s, fun b hb => h.lo b (Nat.le_trans s.size hb)⟩
theorem PArr.new2 {lo hi a b : Int} (hg : g < w.heap.size) (ha : lo ≤ a ∧ a ≤ hi) (hb : lo ≤ b ∧ b ≤ hi) : PArr g 2 lo hi (.slice (some ⟨w.heap.size, 0, none⟩) 2 2) (w.alloc (.cells #[.int .i64 a, .int .i64 b] 3)) :=
  ⟨w.heap.size, _, rfl, by omega, heap_alloc_new w _, rfl, fun j hj => by
    have : j = 0 ∨ j = 1 := by omega
    rcases this with rfl | rfl
    · exact ⟨a, rfl, ha⟩
    · exact ⟨b, rfl, hb⟩⟩
theorem PArr.el {n : Nat} {lo hi : Int} {v : Value} (h : PArr g n lo hi v w) : ∃ b, v = .slice (some ⟨b, 0, none⟩) n n ∧ ∀ j, j < n → PEl g lo hi (.pointer (some ⟨b, j, none⟩)) w := by
  obtain ⟨b, arr, h1, h2, h3, _, h5⟩ := h; refine ⟨b, h1, fun j hj => ?_⟩; obtain ⟨z, h6, h7⟩ := h5 j hj
  exact ⟨b, j, arr, z, rfl, h2, h3, h6, h7⟩
theorem PEl.cell {lo hi : Int} {v : Value} (h : PEl g lo hi v w) : ∃ b j z, v = .pointer (some ⟨b, j, none⟩) ∧ w.cell? ⟨b, j, none⟩ = some (.int .i64 z) ∧ lo ≤ z ∧ z ≤ hi := by
  obtain ⟨b, j, arr, z, h1, _, h3, h4, h5⟩ := h; refine ⟨b, j, z, h1, ?_, h5⟩; unfold World.cell?; dsimp only; rw [h3]
  exact h4
/-- A new block of one send. -/
theorem snd_tc (z0 z1 z2 z3 z4 z5 : Int) (j : Nat) (v : Value) (hv : (#[.int .i64 z0, .int .i64 z1, .int .i64 z2, .int .i64 z3, .int .i64 z4, .int .i64 z5] : Array Value)[j]? = some v) : TC (TM K) w S 140 j v := by
  have hj : j < 6 := (Array.getElem?_eq_some_iff.1 hv).1
  have h6 : j = 0 ∨ j = 1 ∨ j = 2 ∨ j = 3 ∨ j = 4 ∨ j = 5 := by omega
  refine ⟨.num, by rw [TM_snd]; rcases h6 with rfl | rfl | rfl | rfl | rfl | rfl <;> rfl, ?_⟩
  rcases h6 with rfl | rfl | rfl | rfl | rfl | rfl <;> (injection hv with hv; exact ⟨_, hv.symm⟩)
theorem rule_tc {z0 z1 z2 z3 : Int} {s : Value} (hs : ∃ n, n ≤ K ∧ Gs w S 140 6 n s) (j : Nat) (v : Value) (hv : (#[.int .i64 z0, .int .i64 z1, .int .i64 z2, .int .i64 z3, s] : Array Value)[j]? = some v) : TC (TM K) w S 63 j v := by
  have hj : j < 5 := (Array.getElem?_eq_some_iff.1 hv).1
  have h6 : j = 0 ∨ j = 1 ∨ j = 2 ∨ j = 3 ∨ j = 4 := by omega
  rcases h6 with rfl | rfl | rfl | rfl | rfl
  · exact ⟨.num, by rw [TM_rule]; rfl, by injection hv with hv; exact ⟨_, hv.symm⟩⟩
  · exact ⟨.num, by rw [TM_rule]; rfl, by injection hv with hv; exact ⟨_, hv.symm⟩⟩
  · exact ⟨.num, by rw [TM_rule]; rfl, by injection hv with hv; exact ⟨_, hv.symm⟩⟩
  · exact ⟨.num, by rw [TM_rule]; rfl, by injection hv with hv; exact ⟨_, hv.symm⟩⟩
  · exact ⟨.sl 140 6 K, by rw [TM_rule]; rfl, by injection hv with hv; subst hv; exact hs⟩
theorem row_tc {s : Value} (hs : ∃ n, n ≤ K ∧ Gs w S 63 5 n s) (j : Nat) (v : Value) (hv : (#[s] : Array Value)[j]? = some v) : TC (TM K) w S 60 j v := by
  have hj : j < 1 := (Array.getElem?_eq_some_iff.1 hv).1
  obtain rfl : j = 0 := by omega
  exact ⟨.sl 63 5 K, by rw [TM_row]; rfl, by injection hv with hv; subst hv; exact hs⟩
theorem Gs.new {arr : Array Value} {e size n : Nat} (hlo : ∀ b, w.heap.size ≤ b → S b) (hs : arr.size = n * size) (hn : n ≤ 1000000) : Gs (w.alloc (.cells arr e)) S e size n (.slice (some ⟨w.heap.size, 0, none⟩) n n) :=
  .inr ⟨w.heap.size, n, arr, rfl, hlo _ (Nat.le_refl _), heap_alloc_new w _, Nat.le_refl _, by simp only [maxLen]; omega, hs⟩
/-- What a slice in a typed heap holds, as news for append. -/
theorem Gs.news {T : Tbl} {e size m : Nat} {v : Value} (h : TH T S w) (hg : Gs w S e size m v) (ht : T e ≠ []) (hm : 0 < m) :
    ∃ (ad : Addr) (c : Nat) (news : List Value), v = .slice (some ad) m c ∧ news.length = m * size ∧ (∀ (j : Nat) (u : Value), news[j]? = some u → w.cell? (ad.add j) = some u) ∧ ∀ (j : Nat) (u : Value), news[j]? = some u → TC T w S e j u := by
  rcases hg with ⟨_, rfl⟩ | ⟨b, cap, arr, h1, h2, h3, h4, h5, h6⟩
  · omega
  · have hle : m * size ≤ arr.size := by rw [h6]; exact Nat.mul_le_mul_right _ h4
    have hat : ∀ (j : Nat) (u : Value), (arr.toList.take (m * size))[j]? = some u → arr[j]? = some u := fun j u hu => by
      rw [List.getElem?_take] at hu
      split at hu
      · simpa using hu
      · cases hu
    refine ⟨_, cap, arr.toList.take (m * size), h1, by rw [List.length_take]; simp; omega, fun j u hu => ?_, fun j u hu => (h b arr e (0, 0) h2 h3 ht).2 j u (hat j u hu)⟩; rw [Addr.add_lit, Nat.zero_add]; unfold World.cell?; dsimp only; rw [h3]
    exact hat j u hu
end
section
variable {T : Tbl} {S S' : Nat → Prop} {g : Nat} {w w' : World}
/-- Only the shapes of blocks matter to a slice. -/
def Shp (S : Nat → Prop) (w w' : World) : Prop := ∀ (k : Nat) (arr : Array Value) (e : Nat) (fz : Nat × Nat), S k → w.heap[k]? = some (.cells arr e fz) → ∃ arr', w'.heap[k]? = some (.cells arr' e fz) ∧ arr'.size = arr.size
theorem Gs.shp {e size n : Nat} {v : Value} (h : Gs w S e size n v) (k : Shp S w w') : Gs w' S e size n v := by
  rcases h with h | ⟨b, cap, arr, h1, h2, h3, h4, h5, h6⟩
  · exact .inl h
  · obtain ⟨arr', h7, h8⟩ := k b arr e (0, 0) h2 h3
    exact .inr ⟨b, cap, arr', h1, h2, h7, h4, h5, h8.trans h6⟩
theorem TC.shp {e j : Nat} {v : Value} (h : TC T w S e j v) (k : Shp S w w') : TC T w' S e j v := by
  obtain ⟨c, h1, h2⟩ := h; refine ⟨c, h1, ?_⟩
  cases c with
  | num => exact h2
  | sl e size mx =>
    obtain ⟨n, h3, h4⟩ := h2
    exact ⟨n, h3, h4.shp k⟩
theorem Gs.sub {e size n : Nat} {v : Value} (h : Gs w S e size n v) (k : ∀ b, S b → b < w.heap.size → S' b) : Gs w S' e size n v := by
  rcases h with h | ⟨b, cap, arr, h1, h2, h3, h4⟩
  · exact .inl h
  · exact .inr ⟨b, cap, arr, h1, k b h2 (Array.getElem?_eq_some_iff.1 h3).1, h3, h4⟩
theorem TC.sub {e j : Nat} {v : Value} (h : TC T w S e j v) (k : ∀ b, S b → b < w.heap.size → S' b) : TC T w S' e j v := by
  obtain ⟨c, h1, h2⟩ := h; refine ⟨c, h1, ?_⟩
  cases c with
  | num => exact h2
  | sl e size mx =>
    obtain ⟨n, h3, h4⟩ := h2
    exact ⟨n, h3, h4.sub k⟩
/-- The blocks of S are as they were. -/
theorem TH.keep (h : TH T S w) (k : ∀ b, S b → w'.heap[b]? = w.heap[b]?) : TH T S w' := by
  have sh : Shp S w w' := fun b arr e fz hb ha => ⟨arr, (k b hb).trans ha, rfl⟩
  intro b arr e fz hb ha ht; rw [k b hb] at ha; obtain ⟨h1, h2⟩ := h b arr e fz hb ha ht
  exact ⟨h1, fun j v hv => (h2 j v hv).shp sh⟩
theorem Gs.keep {e size n : Nat} {v : Value} (h : Gs w S e size n v) (k : ∀ b, S b → w'.heap[b]? = w.heap[b]?) : Gs w' S e size n v := h.shp fun b arr _ _ hb ha => ⟨arr, (k b hb).trans ha, rfl⟩
/-- Another set with the same blocks. -/
theorem TH.sub (h : TH T S w) (k : ∀ b, S b → b < w.heap.size → S' b) (k' : ∀ b, S' b → b < w.heap.size → S b) : TH T S' w := by
  intro b arr e fz hb ha ht
  have hlt := (Array.getElem?_eq_some_iff.1 ha).1
  obtain ⟨h1, h2⟩ := h b arr e fz (k' b hb hlt) ha ht
  exact ⟨h1, fun j v hv => (h2 j v hv).sub k⟩
/-- A cell of a block of which nothing is asked is written. -/
theorem shp_set (w : World) (b o : Nat) (u : Value) : Shp S w (w.setCell ⟨b, o, none⟩ u) := fun k arr e fz _ ha => by
  by_cases hk : k = b
  · subst hk
    exact ⟨_, heap_set w k o u ha, by simp⟩
  · exact ⟨arr, (Below.heap_setCell w ⟨b, o, none⟩ u k hk).trans ha, rfl⟩
theorem TH.setF {b o e : Nat} {u : Value} {arr : Array Value} {fz : Nat × Nat} (h : TH T S w) (ha : w.heap[b]? = some (.cells arr e fz)) (ht : T e = []) : TH T S (w.setCell ⟨b, o, none⟩ u) := by
  intro b' a e' fz' hb' ha' ht'
  by_cases hkb : b' = b
  · subst hkb
    rw [heap_set w b' o u ha] at ha'
    injection ha' with ha'
    injection ha' with h1 h2 h3
    subst h2
    exact absurd ht ht'
  · rw [Below.heap_setCell w ⟨b, o, none⟩ u b' hkb] at ha'
    obtain ⟨h4, h5⟩ := h b' a e' fz' hb' ha' ht'
    exact ⟨h4, fun j v hv => (h5 j v hv).shp (shp_set w b o u)⟩
theorem TH.free' {arr : Array Value} {e : Nat} (h : TH T S w) (ht : T e = []) : TH T S (w.alloc (.cells arr e)) := by
  have sh : Shp S w (w.alloc (.cells arr e)) := fun k a e' fz _ ha => ⟨a, (heap_alloc_old w _ (Array.getElem?_eq_some_iff.1 ha).1).trans ha, rfl⟩
  intro b a e' fz hb ha ht'
  by_cases hlt : b < w.heap.size
  · rw [heap_alloc_old w _ hlt] at ha
    obtain ⟨h1, h2⟩ := h b a e' fz hb ha ht'
    exact ⟨h1, fun j v hv => (h2 j v hv).shp sh⟩
  · have hlt2 := (Array.getElem?_eq_some_iff.1 ha).1
    have hs : b < w.heap.size + 1 := by simpa using hlt2
    obtain rfl : b = w.heap.size := by omega
    rw [heap_alloc_new] at ha
    injection ha with ha
    injection ha with ha1 ha2 ha3
    subst ha2
    exact absurd ht ht'
theorem Gs.alloc {e size n : Nat} {v : Value} (h : Gs w S e size n v) (o : Obj) : Gs (w.alloc o) S e size n v := h.shp fun _ a _ _ _ ha => ⟨a, (heap_alloc_old w _ (Array.getElem?_eq_some_iff.1 ha).1).trans ha, rfl⟩
theorem Gs.setCell {e size n : Nat} {v : Value} (h : Gs w S e size n v) (b o : Nat) (u : Value) : Gs (w.setCell ⟨b, o, none⟩ u) S e size n v := h.shp (shp_set w b o u)
/-- A block known whole. -/
def Blk (w : World) (b e : Nat) (arr : Array Value) : Prop := w.heap[b]? = some (.cells arr e (0, 0))
theorem Blk.cell {b e j : Nat} {arr : Array Value} {v : Value} (h : Blk w b e arr) (hv : arr[j]? = some v) : w.cell? ⟨b, j, none⟩ = some v := by
  unfold World.cell?; dsimp only; rw [h]
  exact hv
theorem Blk.frozen {b e : Nat} {arr : Array Value} (h : Blk w b e arr) (j : Nat) : w.frozen? ⟨b, j, none⟩ = false := by
  unfold World.frozen?; dsimp only; rw [h]; simp
theorem Blk.lt {b e : Nat} {arr : Array Value} (h : Blk w b e arr) : b < w.heap.size := (Array.getElem?_eq_some_iff.1 h).1
theorem Blk.st {b e : Nat} {arr : Array Value} (h : Blk w b e arr) (k : St T S g w w') (ht : T e = []) (hb : b ≠ g) : Blk w' b e arr := (k.free b arr e _ hb h ht).trans h
theorem Blk.pk {b e : Nat} {arr : Array Value} (h : Blk w b e arr) (k : Pk g w w') (hb : b ≠ g) : Blk w' b e arr := (k.mv.block b h.lt hb).trans h
theorem Blk.mv {b e : Nat} {arr : Array Value} (h : Blk w b e arr) (k : Mv g w w') (hb : b ≠ g) : Blk w' b e arr := (k.block b h.lt hb).trans h
theorem Blk.up {b e : Nat} {arr : Array Value} (h : Blk w b e arr) (k : Up w w') : Blk w' b e arr := (k.below.block b h.lt).trans h
theorem Blk.alloc {b e : Nat} {arr : Array Value} (h : Blk w b e arr) (o : Obj) : Blk (w.alloc o) b e arr := (heap_alloc_old w _ h.lt).trans h
theorem Blk.new (w : World) (arr : Array Value) (e : Nat) : Blk (w.alloc (.cells arr e)) w.heap.size e arr := heap_alloc_new w _
theorem Blk.set {b e : Nat} {arr : Array Value} (h : Blk w b e arr) (o : Nat) (u : Value) : Blk (w.setCell ⟨b, o, none⟩ u) b e (arr.setIfInBounds o u) := heap_set w b o u h
theorem Blk.far {b b' e : Nat} {arr : Array Value} (h : Blk w b e arr) (o : Nat) (u : Value) (hb : b ≠ b') : Blk (w.setCell ⟨b', o, none⟩ u) b e arr := (Below.heap_setCell w ⟨b', o, none⟩ u b hb).trans h
end
/-- Appending one typed slice onto another. -/
theorem wp_append_gs {P : Program} {T : Tbl} {S : Nat → Prop} {g : Nat} (w : World) {o : Oper} {a : Act} {L : Act → World → Prop} {Q : Exit → Act → World → Prop} (s x : Operand) (t : Nat)
    (ho : o.op = .call { callee := .builtin .append, args := #[s, x], argTypes := #[t, t] })
    (e : Nat) (i : TypeInfo) (z : Value) (size bytes : Nat) (ht : P.underlying t = some (.slice e)) (hi : P.info? e = some i) (hz : i.zero = some z)
    (hsize : i.size = size) (hby : i.bytes = bytes) (hzs : z.cells.size = size) (hsz : 0 < size) (hT : (T e).length = size) (hzt : ∀ (j : Nat) (u : Value), z.cells[j]? = some u → ∃ k, (T e)[j]? = some k ∧ ZOk k u)
    (v : Value) (n : Nat) (hs : a.eval s = v) (hv : Gs w S e size n v) (y : Value) (m : Nat) (hx : a.eval x = y) (hy : Gs w S e size m y)
    (hm : 0 < m) (b1 : n + m ≤ 1000000) (b2 : (n + m) * bytes ≤ 140737488355328) (hB : ∀ b, w.heap.size ≤ b → S b) (hTH : TH T S w) (hg : ¬ S g)
    (h : ∀ v' w', Gs w' S e size (n + m) v' → TH T S w' → St T S g w w' → w'.heap[g]? = w.heap[g]? → L (a.put o.dst v') w') : o.wp P a w L Q := by
  have hne : T e ≠ [] := fun h => by rw [h] at hT; simp at hT; omega
  obtain ⟨ad, c, news, rfl, h1, h2, h3⟩ := Gs.news hTH hy hne hm
  refine wp_append_ty (g := w.heap.size) w s x t ho e i z size bytes ht hi hz hsize hby hzs hsz hT hzt v n hs hv ad m c news hx h1 h2 h3 hm b1 b2 hB hTH fun v' w' r1 r2 r3 => ?_
  have hgg : w'.heap[g]? = w.heap[g]? := r3.old g hg (fun e => hg (hB g (by omega)))
  refine h v' w' r1 r2 ⟨r3.os, r3.tape, r3.output, r3.size, fun k hk _ => r3.old k hk (fun e => hk (hB k (by omega))), r3.shape, fun k arr e' fz _ ha hf => r3.free k arr e' fz (by have := (Array.getElem?_eq_some_iff.1 ha).1; omega) ha hf⟩ hgg
theorem wpList_append_gs {P : Program} {T : Tbl} {S : Nat → Prop} {g : Nat} (w : World) {ops : Array Oper} {rest : List Oper} {o : Oper} {a : Act} {Q : Exit → Act → World → Prop} (hgd : o.guard = none) (s x : Operand) (t : Nat)
    (ho : o.op = .call { callee := .builtin .append, args := #[s, x], argTypes := #[t, t] })
    (e : Nat) (i : TypeInfo) (z : Value) (size bytes : Nat) (ht : P.underlying t = some (.slice e)) (hi : P.info? e = some i) (hz : i.zero = some z)
    (hsize : i.size = size) (hby : i.bytes = bytes) (hzs : z.cells.size = size) (hsz : 0 < size) (hT : (T e).length = size) (hzt : ∀ (j : Nat) (u : Value), z.cells[j]? = some u → ∃ k, (T e)[j]? = some k ∧ ZOk k u)
    (v : Value) (n : Nat) (hs : a.eval s = v) (hv : Gs w S e size n v) (y : Value) (m : Nat) (hx : a.eval x = y) (hy : Gs w S e size m y)
    (hm : 0 < m) (b1 : n + m ≤ 1000000) (b2 : (n + m) * bytes ≤ 140737488355328) (hB : ∀ b, w.heap.size ≤ b → S b) (hTH : TH T S w) (hg : ¬ S g)
    (h : ∀ v' w', Gs w' S e size (n + m) v' → TH T S w' → St T S g w w' → w'.heap[g]? = w.heap[g]? → wpList P ops Q rest (a.put o.dst v') w') : wpList P ops Q (o :: rest) a w :=
  wpList_plain hgd fun _ hK => wp_append_gs w s x t ho e i z size bytes ht hi hz hsize hby hzs hsz hT hzt v n hs hv y m hx hy hm b1 b2 hB hTH hg fun v' w' h1 h2 h3 h4 => hK _ _ (h v' w' h1 h2 h3 h4)
end Go.Proofs.Ytakmlfgkppekoaa

namespace Go.Proofs.Ytakmlfgkppekoaa
set_option maxRecDepth 100000
open Go.RowKit
theorem wr (x : Int) (c : Nat) (h : x = c) (hc : c < 4611686018427387904) : IntKind.i64.wrap x = c := by
  rw [h]
  exact IntWalk.i64_in _ (by omega)
set_option maxHeartbeats 2000000 in
theorem pick_any (g N : Nat) (m : Int) (w : World) (hm : I64 m) (hN : N ≤ 1000000) (hR : Rd w g N) :
    Calls Try.prog 80 #[.pointer (some ⟨g, 0, none⟩), .int .i64 m] w (Picked g N m w) := by
  obtain ⟨A, n, cap, p, h0, h1, hf, hp, hg, hn, hb⟩ := hR
  have R := Lib.hid (Rd.step h0 h1 hf hp hg hn hb)
  have HM := Lib.hid hm
  clear hm
  by_cases hm1 : m < 1
  · go_enter Try.func80, Try.ntmps80
    go_wp2; go_ret
    exact ⟨0, rfl, by omega, .inr rfl, R.out, (Mv.refl _ _).setCell _⟩
  · by_cases hn0 : n = 0
    · subst hn0
      go_enter Try.func80, Try.ntmps80
      go_wp2; go_ret
      exact ⟨0, rfl, by omega, .inr rfl, R.out, (Mv.refl _ _).setCell _⟩
    · obtain ⟨b, off, rfl, hbg, hc⟩ := hb (by omega)
      have hn0' : ((n : Int) == 0) = false := by simp; omega
      have HC := Lib.hid hc
      clear hc
      have hne : b ≠ g := by omega
      by_cases hpn : p < n
      · obtain ⟨z, hz, hcz⟩ := HC.out p hpn
        go_enter Try.func80, Try.ntmps80
        go_wp2; go_ret
        exact ⟨_, rfl, Int.emod_nonneg _ (by omega), .inl (Int.emod_lt_of_pos _ (by omega)), R.out, (Mv.refl _ _).setCell _⟩
      · obtain ⟨q1, hq1, e1⟩ : ∃ q : Nat, q < n ∧ (p : Int).tmod (n : Int) = (q : Int) := ⟨p % n, Nat.mod_lt _ (by omega), by rw [Int.tmod_eq_emod_of_nonneg (by omega)]; rfl⟩
        obtain ⟨q2, hq2, e2⟩ : ∃ q : Nat, q < n ∧ ((p * 7 + 3 : Nat) : Int).tmod (n : Int) = (q : Int) := ⟨(p * 7 + 3) % n, Nat.mod_lt _ (by omega), by rw [Int.tmod_eq_emod_of_nonneg (by omega)]; rfl⟩; obtain ⟨q3, hq3, e3⟩ : ∃ q : Nat, q ≤ p ∧ (p : Int).tdiv (n : Int) = (q : Int) := ⟨p / n, Nat.div_le_self _ _, by rw [Int.tdiv_eq_ediv_of_nonneg (by omega)]; rfl⟩; obtain ⟨z1, hz1, hcz1⟩ := HC.out q1 hq1; obtain ⟨z2, hz2, hcz2⟩ := HC.out q2 hq2
        have w1 : IntKind.i64.wrap (z1 : Int) = z1 := wr _ _ rfl (by omega)
        have w2 : IntKind.i64.wrap (z2 : Int) = z2 := wr _ _ rfl (by omega)
        obtain ⟨y1, hy1, w3⟩ : ∃ y : Nat, y ≤ 1000000 ∧ IntKind.i64.wrap ((z1 : Int) * 131) = (y : Int) := ⟨z1 * 131, by omega, wr _ _ (by omega) (by omega)⟩; obtain ⟨y2, hy2, w4⟩ : ∃ y : Nat, y ≤ 1000000 ∧ IntKind.i64.wrap ((z2 : Int) * 1117) = (y : Int) := ⟨z2 * 1117, by omega, wr _ _ (by omega) (by omega)⟩; obtain ⟨s1, hs1, w5⟩ : ∃ s : Nat, s = p * 7 ∧ IntKind.i64.wrap ((p : Int) * 7) = (s : Int) := ⟨p * 7, rfl, wr _ _ (by omega) (by omega)⟩; obtain ⟨s2, hs2, w6⟩ : ∃ s : Nat, s = p * 7 + 3 ∧ IntKind.i64.wrap ((s1 : Int) + 3) = (s : Int) := ⟨p * 7 + 3, rfl, wr _ _ (by omega) (by omega)⟩; rw [← hs2] at e2
        obtain ⟨y3, hy3, w7⟩ : ∃ y : Nat, y ≤ 2000000 ∧ IntKind.i64.wrap ((y1 : Int) + (y2 : Int)) = (y : Int) := ⟨y1 + y2, by omega, wr _ _ (by omega) (by omega)⟩; obtain ⟨y4, hy4, w8⟩ : ∃ y : Nat, y ≤ 29000000 ∧ IntKind.i64.wrap ((p : Int) * 29) = (y : Int) := ⟨p * 29, by omega, wr _ _ (by omega) (by omega)⟩; obtain ⟨y5, hy5, w9⟩ : ∃ y : Nat, y ≤ 31000000 ∧ IntKind.i64.wrap ((y3 : Int) + (y4 : Int)) = (y : Int) := ⟨y3 + y4, by omega, wr _ _ (by omega) (by omega)⟩
        have wq : IntKind.i64.wrap (q3 : Int) = q3 := wr _ _ rfl (by omega)
        obtain ⟨y6, hy6, w10⟩ : ∃ y : Nat, y ≤ 53000000 ∧ IntKind.i64.wrap ((q3 : Int) * 53) = (y : Int) := ⟨q3 * 53, by omega, wr _ _ (by omega) (by omega)⟩; obtain ⟨y7, hy7, w11⟩ : ∃ y : Nat, y ≤ 90000000 ∧ IntKind.i64.wrap ((y5 : Int) + (y6 : Int)) = (y : Int) := ⟨y5 + y6, by omega, wr _ _ (by omega) (by omega)⟩; obtain ⟨y8, hy8, w12⟩ : ∃ y : Nat, y ≤ 90000000 ∧ (y7 : Int) / 64 = (y : Int) := ⟨y7 / 64, by omega, by omega⟩; obtain ⟨y9, hy9, w13⟩ := xor_i64 y7 y8 (by omega) (by omega)
        have hbw : b < w.heap.size := by omega
        have lq1 : (q1 : Int) < n := by omega
        have lq2 : (q2 : Int) < n := by omega
        have nn : ((n : Int) == 0) = false := hn0'
        clear hs1 hs2
        go_enter Try.func80, Try.ntmps80
        go_wp2; refine region_up (by kernel_rfl) (by kernel_rfl) ?_; refine up_step rfl ?_; apply Exists.intro; refine ⟨fun w1 hw1 => ?_, ?_⟩
        · go_simp
          try rfl
        go_simp; refine up_step rfl ?_; apply Exists.intro; refine ⟨fun w1 hw1 => ?_, ?_⟩
        · go_simp
          try rfl
        go_simp; refine up_step rfl ?_; apply Exists.intro; refine ⟨fun w1 hw1 => ?_, ?_⟩
        · go_simp
          try rfl
        go_simp; refine up_step rfl ?_; apply Exists.intro; refine ⟨fun w1 hw1 => ?_, ?_⟩
        · obtain ⟨hc, hf, hz⟩ := hw1.facts
          try simp at hz
          go_simp
          try rfl
        go_simp; refine up_step rfl ?_; apply Exists.intro; refine ⟨fun w1 hw1 => ?_, ?_⟩
        · go_simp
          try rfl
        go_simp; refine up_step rfl ?_; apply Exists.intro; refine ⟨fun w1 hw1 => ?_, ?_⟩
        · go_simp
          try rfl
        go_simp; refine up_step rfl ?_; apply Exists.intro; refine ⟨fun w1 hw1 => ?_, ?_⟩
        · go_simp
          try rfl
        go_simp; refine up_step rfl ?_; apply Exists.intro; refine ⟨fun w1 hw1 => ?_, ?_⟩
        · go_simp
          try rfl
        go_simp; refine up_step rfl ?_; apply Exists.intro; refine ⟨fun w1 hw1 => ?_, ?_⟩
        · obtain ⟨hc, hf, hz⟩ := hw1.facts
          try simp at hz
          go_simp
          try rfl
        go_simp; refine up_step rfl ?_; apply Exists.intro; refine ⟨fun w1 hw1 => ?_, ?_⟩
        · go_simp
          try rfl
        go_simp; refine up_step rfl ?_; apply Exists.intro; refine ⟨fun w1 hw1 => ?_, ?_⟩
        · go_simp
          try rfl
        go_simp; refine up_step rfl ?_; apply Exists.intro; refine ⟨fun w1 hw1 => ?_, ?_⟩
        · go_simp
          try rfl
        go_simp; refine up_step rfl ?_; apply Exists.intro; refine ⟨fun w1 hw1 => ?_, ?_⟩
        · obtain ⟨hc, hf, hz⟩ := hw1.facts
          try simp at hz
          go_simp
          try rfl
        go_simp; refine up_step rfl ?_; apply Exists.intro; refine ⟨fun w1 hw1 => ?_, ?_⟩
        · go_simp
          try rfl
        go_simp; refine up_step rfl ?_; apply Exists.intro; refine ⟨fun w1 hw1 => ?_, ?_⟩
        · go_simp
          try rfl
        go_simp; refine up_step rfl ?_; apply Exists.intro; refine ⟨fun w1 hw1 => ?_, ?_⟩
        · go_simp
          try rfl
        go_simp; refine up_step rfl ?_; apply Exists.intro; refine ⟨fun w1 hw1 => ?_, ?_⟩
        · go_simp
          try rfl
        go_simp; refine up_step rfl ?_; apply Exists.intro; refine ⟨fun w1 hw1 => ?_, ?_⟩
        · go_simp
          try rfl
        go_simp; refine up_step rfl ?_; apply Exists.intro; refine ⟨fun w1 hw1 => ?_, ?_⟩
        · obtain ⟨hc, hf, hz⟩ := hw1.facts
          try simp at hz
          go_simp
          try rfl
        go_simp; refine up_step rfl ?_; apply Exists.intro; refine ⟨fun w1 hw1 => ?_, ?_⟩
        · go_simp
          try rfl
        go_simp; refine up_step rfl ?_; apply Exists.intro; refine ⟨fun w1 hw1 => ?_, ?_⟩
        · go_simp
          try rfl
        go_simp; refine up_step rfl ?_; apply Exists.intro; refine ⟨fun w1 hw1 => ?_, ?_⟩
        · go_simp
          try rfl
        go_simp; refine up_step rfl ?_; apply Exists.intro; refine ⟨fun w1 hw1 => ?_, ?_⟩
        · go_simp
          try rfl
        go_simp; refine up_step rfl ?_; apply Exists.intro; refine ⟨fun w1 hw1 => ?_, ?_⟩
        · go_simp
          try rfl
        go_simp; refine up_step rfl ?_; apply Exists.intro; refine ⟨fun w1 hw1 => ?_, ?_⟩
        · go_simp
          try rfl
        go_simp; refine up_step rfl ?_; apply Exists.intro; refine ⟨fun w1 hw1 => ?_, ?_⟩
        · obtain ⟨hc, hf, hz⟩ := hw1.facts
          try simp at hz
          go_simp
          try rfl
        go_simp; refine up_step rfl ?_; apply Exists.intro; refine ⟨fun w1 hw1 => ?_, ?_⟩
        · go_simp
          try rfl
        go_simp; refine up_step rfl ?_; apply Exists.intro; refine ⟨fun w1 hw1 => ?_, ?_⟩
        · go_simp
          try rfl
        go_simp; refine up_step rfl ?_; apply Exists.intro; refine ⟨fun w1 hw1 => ?_, ?_⟩
        · go_simp
          try rfl
        go_simp; refine up_step rfl ?_; apply Exists.intro; refine ⟨fun w1 hw1 => ?_, ?_⟩
        · obtain ⟨hc, hf, hz⟩ := hw1.facts
          try simp at hz
          go_simp
          try rfl
        go_simp; refine up_step rfl ?_; apply Exists.intro; refine ⟨fun w1 hw1 => ?_, ?_⟩
        · go_simp
          try rfl
        go_simp; refine up_step rfl ?_; apply Exists.intro; refine ⟨fun w1 hw1 => ?_, ?_⟩
        · go_simp
          try rfl
        go_simp; refine up_step rfl ?_; apply Exists.intro; refine ⟨fun w1 hw1 => ?_, ?_⟩
        · go_simp
          try rfl
        go_simp; refine up_step rfl ?_; apply Exists.intro; refine ⟨fun w1 hw1 => ?_, ?_⟩
        · go_simp
          try rfl
        go_simp; refine up_step rfl ?_; apply Exists.intro; refine ⟨fun w1 hw1 => ?_, ?_⟩
        · go_simp
          try rfl
        go_simp; refine up_step rfl ?_; apply Exists.intro; refine ⟨fun w1 hw1 => ?_, ?_⟩
        · go_simp
          try rfl
        go_simp; refine up_step rfl ?_; apply Exists.intro; refine ⟨fun w1 hw1 => ?_, ?_⟩
        · go_simp
          try rfl
        go_simp; refine up_step rfl ?_; apply Exists.intro; refine ⟨fun w1 hw1 => ?_, ?_⟩
        · go_simp
          try rfl
        go_simp; refine up_step rfl ?_; apply Exists.intro; refine ⟨fun w1 hw1 => ?_, ?_⟩
        · go_simp
          try rfl
        go_simp; refine up_step rfl ?_; apply Exists.intro; refine ⟨fun w1 hw1 => ?_, ?_⟩
        · go_simp
          try rfl
        go_simp; refine up_step rfl ?_; apply Exists.intro; refine ⟨fun w1 hw1 => ?_, ?_⟩
        · obtain ⟨hc, hf, hz⟩ := hw1.facts
          try simp at hz
          go_simp
          try rfl
        go_simp; refine up_step rfl ?_; apply Exists.intro; refine ⟨fun w1 hw1 => ?_, ?_⟩
        · go_simp
          try rfl
        go_simp; refine up_step rfl ?_; apply Exists.intro; refine ⟨fun w1 hw1 => ?_, ?_⟩
        · go_simp
          try rfl
        go_simp; refine up_step rfl ?_; apply Exists.intro; refine ⟨fun w1 hw1 => ?_, ?_⟩
        · go_simp
          try rfl
        go_simp; refine up_step rfl ?_; apply Exists.intro; refine ⟨fun w1 hw1 => ?_, ?_⟩
        · go_simp
          try rfl
        go_simp; refine up_step rfl ?_; apply Exists.intro; refine ⟨fun w1 hw1 => ?_, ?_⟩
        · go_simp
          try rfl
        go_simp; refine wpQuiet_nil ?_; intro wA uA; clear w1 w2 w3 w4 w5 w6 w7 w8 w9 wq w10 w11 e1 e2 e3; go_wp2; go_ret
        exact ⟨_, rfl, Int.emod_nonneg _ (by omega), .inl (Int.emod_lt_of_pos _ (by omega)), R.out.up uA, ((Mv.refl _ _).setCell _).trans (uA.mv g)⟩
end Go.Proofs.Ytakmlfgkppekoaa

namespace Go.Proofs.Ytakmlfgkppekoaa
set_option maxRecDepth 100000
open Go.RowKit
/-- The same heap. -/
structure Nu (w w' : World) : Prop where
  heap : w'.heap = w.heap
  os : w'.os = w.os
  tape : w'.tape = w.tape
  output : w'.output = w.output
theorem Nu.facts {w w' : World} (h : Nu w w') : (∀ b o, w'.cell? ⟨b, o, none⟩ = w.cell? ⟨b, o, none⟩) ∧ (∀ b o, w'.frozen? ⟨b, o, none⟩ = w.frozen? ⟨b, o, none⟩) ∧ w.heap.size ≤ w'.heap.size :=
  ⟨fun b o => by unfold World.cell?; rw [h.heap], fun b o => by unfold World.frozen?; rw [h.heap], by rw [h.heap]; exact Nat.le_refl _⟩
theorem Pk.nu {g : Nat} {a w w' : World} (h : Pk g a w) (k : Nu w w') : Pk g a w' :=
  h.trans ⟨⟨k.os, k.tape, k.output, by rw [k.heap]; exact Nat.le_refl _, fun j _ _ => by rw [k.heap]⟩, by rw [k.heap], fun arr e fz ha => ⟨arr, by rw [k.heap]; exact ha, rfl⟩⟩
theorem Rd.nu {w w' : World} {g N : Nat} (h : Rd w g N) (k : Nu w w') : Rd w' g N := by
  obtain ⟨hc, hf, hz⟩ := k.facts; obtain ⟨A, n, cap, p, h0, h1, hfr, hp, hg, hn, hb⟩ := h
  exact ⟨A, n, cap, p, (hc _ _).trans h0, (hc _ _).trans h1, (hf _ _).trans hfr, hp, by omega, hn, hb.keep fun b o _ => hc b o⟩
theorem region_nu {P : Program} {id : Nat} {Q : Exit → Act → World → Prop} {a : Act} {w : World} {l : List Oper} (hm : P.follows .mixedOrders = true) (hB : Region.lexB .any l.toArray = true)
    (h : wpQuiet P l.toArray (Nu w) (fun a' => ∀ w', Nu w w' → Q .normal a' w') l a) : (Code.region id l.toArray true).wp P Q a w :=
  wp_region_quiet (C := Nu w) hm hB (show Nu w w.drew from ⟨rfl, rfl, rfl, rfl⟩) (by simpa using h)
theorem nu_step {P : Program} {ops : Array Oper} {w : World} {Q : Act → Prop} {a : Act} {o : Oper} {rest : List Oper} (hg : o.guard = none)
    (h : ∃ v, (∀ w1, Nu w w1 → Oper.quietUpon P (Nu w) w1 v ((execOp a.eval o).run P w1)) ∧ wpQuiet P ops (Nu w) Q rest (a.put o.dst v)) : wpQuiet P ops (Nu w) Q (o :: rest) a :=
  wpQuiet_step fun K hK => by
    have hw : Region.wanted o (yielded ops a.tmps) = true := by simp [Region.wanted, hg]
    rw [if_pos hw]; obtain ⟨v, hq, hk⟩ := h
    exact ⟨v, hq, hK _ hk⟩
/-- What a pick gives: a number below m, the reader is one further, and no block is made. -/
def PickedP (g N : Nat) (m : Int) (w : World) (x : Ending) (w' : World) : Prop :=
  ∃ v : Int, x = .returned (.int .i64 v) ∧ 0 ≤ v ∧ (v < m ∨ v = 0) ∧ Rd w' g (N + 1) ∧ Pk g w w'
theorem PickedP.cases {g N : Nat} {m : Int} {w : World} {x : Ending} {w' : World} (h : PickedP g N m w x w') (hm : m ≤ 1000000) :
    ∃ v : Int, x = .returned (.int .i64 v) ∧ 0 ≤ v ∧ v ≤ 1000000 ∧ (v < m ∨ v = 0) ∧ Rd w' g (N + 1) ∧ Pk g w w' := by
  obtain ⟨v, hx, h0, h1, h2, h3⟩ := h
  exact ⟨v, hx, h0, by omega, h1, h2, h3⟩
def TossedP (g N : Nat) (w : World) (x : Ending) (w' : World) : Prop :=
  ∃ b : Bool, x = .returned (.bool b) ∧ Rd w' g N ∧ Pk g w w'
end Go.Proofs.Ytakmlfgkppekoaa

/-
  Heaps whose blocks are typed, in one sentence: of each block from a S on whose element type a table lists, every cell holds what the table says, and what each step keeps of it; no condition is made.
  What sendOk and l2Send return, in one sentence: the bool that the bounds give; for every send and every number of components in bounds.
  Models in memory, in one sentence: what it means that cells hold a rule, rules, rows of rules and a model, and what both MdlOk compute; no condition is made.
-/
import Derived.ArgAppend
import Derived.Test.YtipjcjjjkkaigaaDLHstNew01
import Derived.Test.YtipjcjjjkkaigaaDLHstNew02
namespace Go.Proofs.Ytipjcjjjkkaigaa
set_option maxRecDepth 100000
open Go.RowKit
/-- What a cell may hold: a number; a slice of at most mx elements of type e, of so many cells each. -/
inductive CK where
  | num
  | sl (e size mx : Nat)
/-- A slice of n elements of type e in a block of the call's own. -/
def Gs (w : World) (S : Nat → Prop) (e size n : Nat) (v : Value) : Prop :=
  (v = .slice none 0 0 ∧ n = 0) ∨ ∃ b cap arr, v = .slice (some ⟨b, 0, none⟩) n cap ∧ S b ∧ w.heap[b]? = some (.cells arr e (0, 0)) ∧ n ≤ cap ∧ cap ≤ maxLen ∧ arr.size = cap * size
def COk (w : World) (S : Nat → Prop) : CK → Value → Prop
  | .num, v => ∃ z, v = .int .i64 z
  | .sl e size mx, v => ∃ n, n ≤ mx ∧ Gs w S e size n v
abbrev Tbl := Nat → List CK
/-- The cell at j of a block of type e holds what the table says. -/
def TC (T : Tbl) (w : World) (S : Nat → Prop) (e j : Nat) (v : Value) : Prop := ∃ k, (T e)[j % (T e).length]? = some k ∧ COk w S k v
def TH (T : Tbl) (S : Nat → Prop) (w : World) : Prop :=
  ∀ (b : Nat) (arr : Array Value) (e : Nat) (fz : Nat × Nat), S b → w.heap[b]? = some (.cells arr e fz) → T e ≠ [] → fz = (0, 0) ∧ ∀ j v, arr[j]? = some v → TC T w S e j v
/-- What each step keeps. -/
structure St (T : Tbl) (S : Nat → Prop) (g : Nat) (w w' : World) : Prop where
  os : w'.os = w.os
  tape : w'.tape = w.tape
  output : w'.output = w.output
  size : w.heap.size ≤ w'.heap.size
  old : ∀ k, ¬ S k → k ≠ g → w'.heap[k]? = w.heap[k]?
  shape : ∀ (k : Nat) (arr : Array Value) (e : Nat) (fz : Nat × Nat), w.heap[k]? = some (.cells arr e fz) → ∃ arr', w'.heap[k]? = some (.cells arr' e fz) ∧ arr'.size = arr.size
  free : ∀ (k : Nat) (arr : Array Value) (e : Nat) (fz : Nat × Nat), k ≠ g → w.heap[k]? = some (.cells arr e fz) → T e = [] → w'.heap[k]? = w.heap[k]?
section
variable {T : Tbl} {S : Nat → Prop} {g : Nat} {w w' w'' : World}
theorem St.refl (w : World) : St T S g w w := ⟨rfl, rfl, rfl, Nat.le_refl _, fun _ _ _ => rfl, fun _ arr _ _ h => ⟨arr, h, rfl⟩, fun _ _ _ _ _ _ _ => rfl⟩
theorem St.trans (h : St T S g w w') (k : St T S g w' w'') : St T S g w w'' :=
  ⟨k.os.trans h.os, k.tape.trans h.tape, k.output.trans h.output, Nat.le_trans h.size k.size, fun j hj hne => (k.old j hj hne).trans (h.old j hj hne),
    fun j arr e fz ha => by
      obtain ⟨arr', h1, h2⟩ := h.shape j arr e fz ha; obtain ⟨arr'', h3, h4⟩ := k.shape j arr' e fz h1
      exact ⟨arr'', h3, h4.trans h2⟩,
    fun j arr e fz hne ha ht => by
      have h1 := h.free j arr e fz hne ha ht
      exact (k.free j arr e fz hne (h1.trans ha) ht).trans h1⟩
theorem St.drew (h : St T S g w w') : St T S g w w'.drew := ⟨h.os, h.tape, h.output, h.size, h.old, h.shape, h.free⟩
theorem TH.drew (h : TH T S w) : TH T S w.drew := h
theorem St.mv {w0 : World} (h : St T S g w w') (hs : ∀ j, j < w0.heap.size → ¬ S j) (k : Mv g w0 w) : Mv g w0 w' :=
  ⟨h.os.trans k.os, h.tape.trans k.tape, h.output.trans k.output, Nat.le_trans k.size h.size, fun j hj hne => (h.old j (hs j hj) hne).trans (k.block j hj hne)⟩
theorem Gs.st {e size n : Nat} {v : Value} (h : Gs w S e size n v) (k : St T S g w w') : Gs w' S e size n v := by
  rcases h with h | ⟨b, cap, arr, h1, h2, h3, h4, h5, h6⟩
  · exact .inl h
  · obtain ⟨arr', h7, h8⟩ := k.shape b arr e (0, 0) h3
    exact .inr ⟨b, cap, arr', h1, h2, h7, h4, h5, h8.trans h6⟩
theorem COk.st {c : CK} {v : Value} (h : COk w S c v) (k : St T S g w w') : COk w' S c v := by
  cases c with
  | num => exact h
  | sl e size mx =>
    obtain ⟨n, h1, h2⟩ := h
    exact ⟨n, h1, h2.st k⟩
theorem TC.st {e j : Nat} {v : Value} (h : TC T w S e j v) (k : St T S g w w') : TC T w' S e j v := by
  obtain ⟨c, h1, h2⟩ := h
  exact ⟨c, h1, h2.st k⟩
theorem COk.one {c : CK} {v : Value} (h : COk w S c v) : v.oneCell' = true := by
  cases c with
  | num => obtain ⟨z, rfl⟩ := h; rfl
  | sl e size mx =>
    obtain ⟨n, _, h2⟩ := h
    rcases h2 with ⟨rfl, _⟩ | ⟨b, cap, arr, rfl, _⟩
    · rfl
    · rfl
/-- What reads of a typed block. -/
theorem TH.read {b o e : Nat} {arr : Array Value} {fz : Nat × Nat} (h : TH T S w) (hb : S b) (ha : w.heap[b]? = some (.cells arr e fz)) (ht : T e ≠ []) (ho : o < arr.size) :
    ∃ v, w.cell? ⟨b, o, none⟩ = some v ∧ TC T w S e o v ∧ w.frozen? ⟨b, o, none⟩ = false := by
  obtain ⟨rfl, hc⟩ := h b arr e fz hb ha ht
  have hv : arr[o]? = some arr[o] := Array.getElem?_eq_getElem ho
  refine ⟨arr[o], ?_, hc o _ hv, ?_⟩
  · unfold World.cell?
    dsimp only; rw [ha]
    exact hv
  · unfold World.frozen?
    dsimp only; rw [ha]; simp
/-- A new block. -/
theorem St.alloc (w : World) (arr : Array Value) (e : Nat) (hB : ∀ b, w.heap.size ≤ b → S b) : St T S g w (w.alloc (.cells arr e)) :=
  ⟨rfl, rfl, rfl, by simp, fun k hk _ => heap_alloc_old w _ (Nat.lt_of_not_le fun h => hk (hB k h)), fun k a e' fz ha => ⟨a, by
      have : k < w.heap.size := (Array.getElem?_eq_some_iff.1 ha).1
      rw [heap_alloc_old w _ this]
      exact ha, rfl⟩, fun k a e' fz _ ha _ => heap_alloc_old w _ (Array.getElem?_eq_some_iff.1 ha).1⟩
theorem TH.alloc {arr : Array Value} {e : Nat} (h : TH T S w) (hB : ∀ b, w.heap.size ≤ b → S b) (hn : T e ≠ [] → ∀ j v, arr[j]? = some v → TC T w S e j v) : TH T S (w.alloc (.cells arr e)) := by
  have st : St T S 0 w (w.alloc (.cells arr e)) := St.alloc w arr e hB
  intro b a e' fz hb ha ht
  by_cases hlt : b < w.heap.size
  · rw [heap_alloc_old w _ hlt] at ha
    obtain ⟨h1, h2⟩ := h b a e' fz hb ha ht
    exact ⟨h1, fun j v hv => (h2 j v hv).st st⟩
  · have hlt2 := (Array.getElem?_eq_some_iff.1 ha).1
    have hs : b < w.heap.size + 1 := by simpa using hlt2
    obtain rfl : b = w.heap.size := by omega
    rw [heap_alloc_new] at ha
    injection ha with ha
    injection ha with ha1 ha2 ha3
    subst ha1 ha2 ha3
    exact ⟨rfl, fun j v hv => (hn ht j v hv).st st⟩
theorem heap_set (w : World) (b o : Nat) (u : Value) {arr : Array Value} {e : Nat} {fz : Nat × Nat} (ha : w.heap[b]? = some (.cells arr e fz)) :
    (w.setCell ⟨b, o, none⟩ u).heap[b]? = some (.cells (arr.setIfInBounds o u) e fz) := by
  unfold World.setCell; simp [Array.getElem?_modify, ha]
/-- A cell of a typed block is written. -/
theorem St.set {b o e : Nat} {u : Value} {arr : Array Value} {fz : Nat × Nat} (hb : S b) (ha : w.heap[b]? = some (.cells arr e fz)) (ht : T e ≠ []) : St T S g w (w.setCell ⟨b, o, none⟩ u) := by
  have other : ∀ k, k ≠ b → (w.setCell ⟨b, o, none⟩ u).heap[k]? = w.heap[k]? := fun k hk => Below.heap_setCell w ⟨b, o, none⟩ u k hk
  refine ⟨rfl, rfl, rfl, by simp, fun k hk _ => other k (fun e => hk (e ▸ hb)), fun k a e' fz' hk => ?_, fun k a e' fz' _ hk hf => ?_⟩
  · by_cases hkb : k = b
    · subst hkb
      rw [ha] at hk
      injection hk with hk
      injection hk with h1 h2 h3
      subst h1 h2 h3
      exact ⟨_, heap_set w k o u ha, by simp⟩
    · exact ⟨a, (other k hkb).trans hk, rfl⟩
  · by_cases hkb : k = b
    · subst hkb
      rw [ha] at hk
      injection hk with hk
      injection hk with h1 h2 h3
      subst h2
      exact absurd hf ht
    · exact other k hkb
theorem TH.set {b o e : Nat} {u : Value} {arr : Array Value} {fz : Nat × Nat} (h : TH T S w) (hb : S b) (ha : w.heap[b]? = some (.cells arr e fz)) (ht : T e ≠ []) (hu : TC T w S e o u) : TH T S (w.setCell ⟨b, o, none⟩ u) := by
  have st : St T S 0 w (w.setCell ⟨b, o, none⟩ u) := St.set hb ha ht
  intro b' a e' fz' hb' ha' ht'
  by_cases hkb : b' = b
  · subst hkb
    rw [heap_set w b' o u ha] at ha'
    injection ha' with ha'
    injection ha' with h1 h2 h3
    subst h1 h2 h3; obtain ⟨h4, h5⟩ := h b' arr e fz hb ha ht; refine ⟨h4, fun j v hv => ?_⟩; rw [Array.getElem?_setIfInBounds] at hv
    by_cases hj : o = j
    · subst hj
      rw [if_pos rfl] at hv
      split at hv
      · injection hv with hv
        subst hv
        exact hu.st st
      · cases hv
    · rw [if_neg hj] at hv
      exact (h5 j v hv).st st
  · rw [Below.heap_setCell w ⟨b, o, none⟩ u b' hkb] at ha'
    obtain ⟨h4, h5⟩ := h b' a e' fz' hb' ha' ht'
    exact ⟨h4, fun j v hv => (h5 j v hv).st st⟩
/-- Several cells in a row. -/
theorem set_row {b e : Nat} (hb : S b) (ht : T e ≠ []) : ∀ (us : List Value) (o : Nat) (w : World) (arr : Array Value) (fz : Nat × Nat), w.heap[b]? = some (.cells arr e fz) → TH T S w →
    (∀ j u, us[j]? = some u → TC T w S e (o + j) u) → TH T S (w.setCells b o us) ∧ St T S g w (w.setCells b o us)
  | [], _, w, _, _, _, h, _ => ⟨h, St.refl w⟩
  | u :: r, o, w, arr, fz, ha, h, hu => by
    have st : St T S g w (w.setCell ⟨b, o, none⟩ u) := St.set hb ha ht
    have h1 := h.set (o := o) (u := u) hb ha ht (by simpa using hu 0 u rfl)
    obtain ⟨h2, h3⟩ := set_row hb ht r (o + 1) (w.setCell ⟨b, o, none⟩ u) _ fz (heap_set w b o u ha) h1 (fun j v hv => by
      have := hu (j + 1) v (by simpa using hv)
      rw [show o + (j + 1) = o + 1 + j by omega] at this
      exact this.st st)
    exact ⟨h2, st.trans h3⟩
/-- The reader's block is written, no block is made. -/
structure Pk (g : Nat) (w w' : World) : Prop where
  mv : Mv g w w'
  size : w'.heap.size = w.heap.size
  shape : ∀ (arr : Array Value) (e : Nat) (fz : Nat × Nat), w.heap[g]? = some (.cells arr e fz) → ∃ arr', w'.heap[g]? = some (.cells arr' e fz) ∧ arr'.size = arr.size
theorem Pk.refl (g : Nat) (w : World) : Pk g w w := ⟨Mv.refl _ _, rfl, fun arr _ _ h => ⟨arr, h, rfl⟩⟩
theorem Pk.trans {a b c : World} (h : Pk g a b) (k : Pk g b c) : Pk g a c :=
  ⟨h.mv.trans k.mv, k.size.trans h.size, fun arr e fz ha => by
    obtain ⟨a1, h1, h2⟩ := h.shape arr e fz ha; obtain ⟨a2, h3, h4⟩ := k.shape a1 e fz h1
    exact ⟨a2, h3, h4.trans h2⟩⟩
theorem Pk.set {a b : World} (h : Pk g a b) (o : Nat) (u : Value) : Pk g a (b.setCell ⟨g, o, none⟩ u) :=
  ⟨h.mv.setCell u, by simpa using h.size, fun arr e fz ha => by
    obtain ⟨a1, h1, h2⟩ := h.shape arr e fz ha
    exact ⟨_, heap_set b g o u h1, by simpa using h2⟩⟩
theorem Pk.st (h : Pk g w w') : St T S g w w' :=
  ⟨h.mv.os, h.mv.tape, h.mv.output, h.mv.size, fun k _ hne => by
      by_cases hk : k < w.heap.size
      · exact h.mv.block k hk hne
      · rw [Array.getElem?_eq_none (by have := h.size; omega), Array.getElem?_eq_none (by omega)],
    fun k arr e fz ha => by
      by_cases hk : k = g
      · subst hk; exact h.shape arr e fz ha
      · exact ⟨arr, (h.mv.block k (Array.getElem?_eq_some_iff.1 ha).1 hk).trans ha, rfl⟩,
    fun k arr e fz hne ha _ => h.mv.block k (Array.getElem?_eq_some_iff.1 ha).1 hne⟩
theorem TH.pk (h : TH T S w) (k : Pk g w w') (hg : ¬ S g) : TH T S w' := by
  have st : St T S g w w' := k.st
  intro b arr e fz hb ha ht
  have hlt : b < w.heap.size := by have := (Array.getElem?_eq_some_iff.1 ha).1; have := k.size; omega
  rw [k.mv.block b hlt (fun e => hg (e ▸ hb))] at ha; obtain ⟨h1, h2⟩ := h b arr e fz hb ha ht
  exact ⟨h1, fun j v hv => (h2 j v hv).st st⟩
/-- What a type's zero is. -/
def ZOk : CK → Value → Prop
  | .num, v => ∃ z, v = .int .i64 z
  | .sl _ _ _, v => v = .slice none 0 0
theorem ZOk.ok {c : CK} {v : Value} (h : ZOk c v) : COk w S c v := by
  cases c with
  | num => exact h
  | sl e size mx => exact ⟨0, Nat.zero_le _, .inl ⟨h, rfl⟩⟩
theorem zeros_tc {z : Array Value} {e : Nat} (hz : z.size = (T e).length) (hp : 0 < z.size) (h : ∀ (j : Nat) (u : Value), z[j]? = some u → ∃ k, (T e)[j]? = some k ∧ ZOk k u) (N j : Nat) (v : Value) (hv : (Builtin.zeroCells z N)[j]? = some v) : TC T w S e j v := by
  have hlt := (Array.getElem?_eq_some_iff.1 hv).1
  unfold Builtin.zeroCells at hv hlt; simp only [Array.getElem?_map, Array.size_map, Array.size_range] at hv hlt; rw [Array.getElem?_range] at hv; rw [if_pos hlt] at hv
  have hm : j % z.size < z.size := Nat.mod_lt _ hp
  have e1 : z[j % z.size]? = some v := by
    have : z[j % z.size]! = v := by simpa using hv
    rw [← this, Array.getElem?_eq_getElem hm]; simp [hm]
  obtain ⟨k, h1, h2⟩ := h _ v e1
  exact ⟨k, by rw [← hz]; exact h1, h2.ok⟩
end
/-- Appending onto a typed slice. -/
theorem run_append_ty {P : Program} {T : Tbl} {S : Nat → Prop} {g : Nat} (w : World) (t ty e : Nat) (i : TypeInfo) (z : Value) (size bytes : Nat) (ht : P.underlying t = some (.slice e)) (hi : P.info? e = some i) (hz : i.zero = some z)
    (hsize : i.size = size) (hby : i.bytes = bytes) (hzs : z.cells.size = size) (hsz : 0 < size) (hT : (T e).length = size) (hzt : ∀ (j : Nat) (u : Value), z.cells[j]? = some u → ∃ k, (T e)[j]? = some k ∧ ZOk k u)
    (v : Value) (n : Nat) (hv : Gs w S e size n v) (ad : Addr) (m c : Nat) (news : List Value) (hl : news.length = m * size) (hnews : ∀ j u, news[j]? = some u → w.cell? (ad.add j) = some u)
    (hn : ∀ j u, news[j]? = some u → TC T w S e j u) (hm : 0 < m) (b1 : n + m ≤ 1000000) (b2 : (n + m) * bytes ≤ 140737488355328) (hB : ∀ b, w.heap.size ≤ b → S b) (hTH : TH T S w) :
    ∃ v' w', (Builtin.append_ #[t, t] ty #[v, .slice (some ad) m c]).run P w = .ok v' w' ∧ Gs w' S e size (n + m) v' ∧ TH T S w' ∧ St T S g w w' := by
  subst hsize; subst hby
  have hne : T e ≠ [] := fun h => by rw [h] at hT; simp at hT; omega
  have hone : ∀ u ∈ news, u.oneCell' = true := fun u hu => by
    obtain ⟨j, hj⟩ := List.getElem?_of_mem hu; obtain ⟨k, _, h2⟩ := hn j u hj
    exact h2.one
  have hcm : ∀ k, k = n + m → ∀ old, grownCap w k old e ≤ maxLen := fun k hk old => grownCap_le_maxLen w k old e (by simp only [maxLen]; omega)
  have mod_add : ∀ j, (n * i.size + j) % (T e).length = j % (T e).length := fun j => by rw [hT, Nat.mul_comm, Nat.mul_add_mod]
  rcases hv with ⟨rfl, rfl⟩ | ⟨b, cap, arr, rfl, hb, ha, hnc, hcl, hsz2⟩
  · have hr := run_append_nil (P := P) w t ty e i z ht hi hz ad m c news hl hnews hm (by omega) (by simp at b2; omega)
    have hge := grownCap_ge w m 0 e
    refine ⟨_, _, hr, .inr ⟨w.heap.size, grownCap w m 0 e, _, by simp, hB _ (Nat.le_refl _), heap_alloc_new w.drew _, by simpa using hge, hcm m (by simp) 0, ?_⟩, ?_, ?_⟩
    · simp only [Array.size_append, List.size_toArray, size_zeroCells, hzs, hl, ← Nat.add_mul]
      congr 1
      omega
    · refine TH.alloc (hTH.drew) hB fun _ j u hu => ?_
      rw [Array.getElem?_append] at hu
      split at hu
      · exact hn j u (by simpa using hu)
      · rename_i hlt
        have := zeros_tc (T := T) (w := w) (S := S) (e := e) (hzs.trans hT.symm) (by omega) hzt _ _ _ hu
        obtain ⟨k, h1, h2⟩ := this; refine ⟨k, ?_, h2⟩; rw [← h1]; simp only [List.size_toArray, hl] at hlt ⊢
        congr 1
        rw [hT]; obtain ⟨d, rfl⟩ : ∃ d, j = m * i.size + d := ⟨j - m * i.size, by omega⟩; rw [Nat.add_sub_cancel_left, Nat.mul_comm, Nat.mul_add_mod]
    · exact (St.refl w).drew.trans (St.alloc w.drew _ e hB)
  · by_cases hroom : n + m ≤ cap
    · have inb : ∀ j, j < news.length → n * i.size + j < arr.size := fun j hj => by
        rw [hsz2]
        have h7 : (n + m) * i.size ≤ cap * i.size := Nat.mul_le_mul_right _ hroom
        rw [Nat.add_mul] at h7
        omega
      have hr := run_append_room_cells (P := P) w t ty e i ht hi b 0 n cap ad m c news hl hnews hone hroom
        (fun j hj => by
          obtain ⟨u, hu, _⟩ := hTH.read hb ha hne (inb j hj)
          rw [Nat.zero_add, hu]; rfl)
        (fun j hj => by
          obtain ⟨u, _, _, hf⟩ := hTH.read hb ha hne (inb j hj)
          rw [Nat.zero_add]; exact hf)
      obtain ⟨h1, h2⟩ := set_row (T := T) (S := S) (g := g) hb hne news (0 + n * i.size) w arr (0, 0) ha hTH (fun j u hu => by
        obtain ⟨k, h3, h4⟩ := hn j u hu
        exact ⟨k, by rw [Nat.zero_add, mod_add]; exact h3, h4⟩)
      obtain ⟨arr', h3, h4⟩ := h2.shape b arr e (0, 0) ha
      exact ⟨_, _, hr, .inr ⟨b, cap, arr', rfl, hb, h3, hroom, hcl, h4.trans hsz2⟩, h1, h2⟩
    · have hle : n * i.size ≤ arr.size := by rw [hsz2]; exact Nat.mul_le_mul_right _ hnc
      have hol : (arr.toList.take (n * i.size)).length = n * i.size := by rw [List.length_take]; simp; omega
      have hat : ∀ j u, (arr.toList.take (n * i.size))[j]? = some u → arr[j]? = some u := fun j u hu => by
        rw [List.getElem?_take] at hu
        split at hu
        · simpa using hu
        · cases hu
      have hr := run_append_grow (P := P) w t ty e i z ht hi hz ⟨b, 0, none⟩ n cap (arr.toList.take (n * i.size)) hol
        (fun j u hu => by
          rw [Addr.add_lit, Nat.zero_add]; unfold World.cell?; dsimp only; rw [ha]
          exact hat j u hu) ad m c news hl hnews (by omega) (by omega) (growslice_fits (by omega) b2)
      have hge := grownCap_ge w (n + m) cap e
      refine ⟨_, _, hr, .inr ⟨w.heap.size, _, _, rfl, hB _ (Nat.le_refl _), heap_alloc_new w.drew _, hge, hcm _ rfl cap, ?_⟩, ?_, ?_⟩
      · simp only [Array.size_append, List.size_toArray, size_zeroCells, hzs, hol, hl, ← Nat.add_mul]
        congr 1
        omega
      · refine TH.alloc (hTH.drew) hB fun _ j u hu => ?_
        rw [Array.getElem?_append] at hu
        split at hu
        · rw [Array.getElem?_append] at hu
          split at hu
          · obtain ⟨_, h5⟩ := hTH b arr e (0, 0) hb ha hne
            exact h5 j u (hat j u (by simpa using hu))
          · rename_i hlt
            simp only [List.size_toArray, hol] at hlt hu; obtain ⟨k, h1, h2⟩ := hn (j - n * i.size) u (by simpa using hu); refine ⟨k, ?_, h2⟩; rw [← h1, ← mod_add (j - n * i.size), show n * i.size + (j - n * i.size) = j by omega]
        · rename_i hlt
          have := zeros_tc (T := T) (w := w) (S := S) (e := e) (hzs.trans hT.symm) (by omega) hzt _ _ _ hu
          obtain ⟨k, h1, h2⟩ := this; refine ⟨k, ?_, h2⟩; rw [← h1]; simp only [Array.size_append, List.size_toArray, hol, hl] at hlt ⊢
          congr 1
          rw [hT]; obtain ⟨d, rfl⟩ : ∃ d, j = n * i.size + m * i.size + d := ⟨j - (n * i.size + m * i.size), by omega⟩; rw [Nat.add_sub_cancel_left, ← Nat.add_mul, Nat.mul_comm, Nat.mul_add_mod]
      · exact (St.refl w).drew.trans (St.alloc w.drew _ e hB)
/-- The same for one operation. -/
theorem wp_append_ty {P : Program} {T : Tbl} {S : Nat → Prop} {g : Nat} (w : World) {o : Oper} {a : Act} {K : Act → World → Prop} {Q : Exit → Act → World → Prop} (s x : Operand) (t : Nat)
    (ho : o.op = .call { callee := .builtin .append, args := #[s, x], argTypes := #[t, t] })
    (e : Nat) (i : TypeInfo) (z : Value) (size bytes : Nat) (ht : P.underlying t = some (.slice e)) (hi : P.info? e = some i) (hz : i.zero = some z)
    (hsize : i.size = size) (hby : i.bytes = bytes) (hzs : z.cells.size = size) (hsz : 0 < size) (hT : (T e).length = size) (hzt : ∀ (j : Nat) (u : Value), z.cells[j]? = some u → ∃ k, (T e)[j]? = some k ∧ ZOk k u)
    (v : Value) (n : Nat) (hs : a.eval s = v) (hv : Gs w S e size n v) (ad : Addr) (m c : Nat) (news : List Value) (hx : a.eval x = .slice (some ad) m c) (hl : news.length = m * size) (hnews : ∀ j u, news[j]? = some u → w.cell? (ad.add j) = some u)
    (hn : ∀ j u, news[j]? = some u → TC T w S e j u) (hm : 0 < m) (b1 : n + m ≤ 1000000) (b2 : (n + m) * bytes ≤ 140737488355328) (hB : ∀ b, w.heap.size ≤ b → S b) (hTH : TH T S w)
    (h : ∀ v' w', Gs w' S e size (n + m) v' → TH T S w' → St T S g w w' → K (a.put o.dst v') w') : o.wp P a w K Q := by
  obtain ⟨v', w', hrun, h2, h3, h4⟩ := run_append_ty (P := P) (g := g) w t o.type e i z size bytes ht hi hz hsize hby hzs hsz hT hzt v n hv ad m c news hl hnews hn hm b1 b2 hB hTH; unfold Oper.wp execOp; simp only [ho, resolve, invoke, builtin, Sem.run_bind, Sem.run_pure, Result.andThen_ok, List.map_toArray, List.map_cons, List.map_nil, hs, hx, hrun]
  exact h v' w' h2 h3 h4
end Go.Proofs.Ytipjcjjjkkaigaa

namespace Go.Proofs.Ytipjcjjjkkaigaa
set_option maxRecDepth 100000
open Go.RowKit
/-- What both compute: to, delay, kind, plus, mod, rem. -/
def sndB (e : Evt) (many : Int) : Bool :=
  inB e.t 0 (many - 1) && inB e.to 1 9 && inB e.fr 0 2 && inB e.sq 0 96 && inB e.kd 1 9 && inB e.dt 0 (e.kd - 1)
set_option maxHeartbeats 2000000 in
theorem implSnd_any (e : Evt) (many : Int) (hm1 : 1 ≤ many) (hm2 : many ≤ 4) (w : World) :
    Calls Try.prog 146 #[e.v, .int .i64 many] w fun x w' => x = .returned (.bool (sndB e many)) ∧ Up w w' := by
  unfold sndB; obtain ⟨et, eto, efr, esq, ekd, edt⟩ := e; unfold Evt.v; dsimp only
  by_cases hk : 1 ≤ ekd ∧ ekd ≤ 9
  · have hin : inB ekd 1 9 = true := inB_iff.2 hk
    obtain ⟨hk1, hk2⟩ := hk
    go_enter Try.func146, Try.ntmps146
    go_wp2_with (go_at_call 69; refine (within_any _ _ _ _).mono ?_; rintro e w' ⟨rfl, rfl⟩)
    all_goals go_ret
    all_goals exact ⟨ret_bool (by simp [*]), (Up.refl _).alloc _⟩
  · have hin : inB ekd 1 9 = false := inB_no.2 hk
    clear hk
    go_enter Try.func146, Try.ntmps146
    go_wp2_with (go_at_call 69; refine (within_any _ _ _ _).mono ?_; rintro e w' ⟨rfl, rfl⟩)
    all_goals go_ret
    all_goals exact ⟨ret_bool (by simp [*]), (Up.refl _).alloc _⟩
set_option maxHeartbeats 2000000 in
theorem specSnd_any (e : Evt) (many : Int) (hm1 : 1 ≤ many) (hm2 : many ≤ 4) (w : World) :
    Calls Try.prog 101 #[e.v, .int .i64 many] w fun x w' => x = .returned (.bool (sndB e many)) ∧ Up w w' := by
  unfold sndB; obtain ⟨et, eto, efr, esq, ekd, edt⟩ := e; unfold Evt.v; dsimp only
  by_cases hk : 1 ≤ ekd ∧ ekd ≤ 9
  · have hin : inB ekd 1 9 = true := inB_iff.2 hk
    obtain ⟨hk1, hk2⟩ := hk
    go_enter Try.func101, Try.ntmps101
    go_wp2_with (go_at_call 41; refine (l1In_any _ _ _ _).mono ?_; rintro e w' ⟨rfl, rfl⟩)
    all_goals go_ret
    all_goals exact ⟨ret_bool (by simp [*]), (Up.refl _).alloc _⟩
  · have hin : inB ekd 1 9 = false := inB_no.2 hk
    clear hk
    go_enter Try.func101, Try.ntmps101
    go_wp2_with (go_at_call 41; refine (l1In_any _ _ _ _).mono ?_; rintro e w' ⟨rfl, rfl⟩)
    all_goals go_ret
    all_goals exact ⟨ret_bool (by simp [*]), (Up.refl _).alloc _⟩
end Go.Proofs.Ytipjcjjjkkaigaa

namespace Go.Proofs.Ytipjcjjjkkaigaa
set_option maxRecDepth 100000
open Go.RowKit
/-- A rule: kind, a, b, c, and what it sends (to, delay, kind, plus, mod, rem). -/
structure Rule where
  kd : Int
  a : Int
  b : Int
  c : Int
  sends : List Evt
instance : Inhabited Rule := ⟨⟨0, 0, 0, 0, []⟩⟩
deriving instance DecidableEq for Rule
def Rule.v (r : Rule) (s : Value) : Value := .agg #[.int .i64 r.kd, .int .i64 r.a, .int .i64 r.b, .int .i64 r.c, s]
/-- The five cells of a rule, from o on. -/
def RuleAt (w : World) (b o : Nat) (r : Rule) : Prop :=
  ∃ A n c, (w.cell? ⟨b, o, none⟩ = some (.int .i64 r.kd) ∧ w.cell? ⟨b, o + 1, none⟩ = some (.int .i64 r.a) ∧ w.cell? ⟨b, o + 2, none⟩ = some (.int .i64 r.b) ∧ w.cell? ⟨b, o + 3, none⟩ = some (.int .i64 r.c) ∧ w.cell? ⟨b, o + 4, none⟩ = some (.slice A n c)) ∧
    n ≤ 9223372036854775807 ∧ Evs w A n r.sends
def Rules (w : World) (A : Option Addr) (n : Nat) (rs : List Rule) : Prop :=
  rs.length = n ∧ n ≤ 9223372036854775807 ∧ (0 < n → ∃ b off, A = some ⟨b, off, none⟩ ∧ b < w.heap.size ∧ ∀ i, i < n → RuleAt w b (off + i * 5) (rs.getD i default))
def Rulz (w : World) (A : Option Addr) (n : Nat) (rss : List (List Rule)) : Prop :=
  rss.length = n ∧ n ≤ 9223372036854775807 ∧ (0 < n → ∃ b off, A = some ⟨b, off, none⟩ ∧ b < w.heap.size ∧ ∀ i, i < n → ∃ A' n' c', w.cell? ⟨b, off + i, none⟩ = some (.slice A' n' c') ∧ Rules w A' n' (rss.getD i []))
theorem RuleAt.up {w w' : World} {b o : Nat} {r : Rule} (h : RuleAt w b o r) (u : Up w w') (hb : b < w.heap.size) : RuleAt w' b o r := by
  obtain ⟨A, n, c, ⟨h0, h1, h2, h3, h4⟩, hn, hE⟩ := h
  exact ⟨A, n, c, ⟨(u.cells _ _ hb).trans h0, (u.cells _ _ hb).trans h1, (u.cells _ _ hb).trans h2, (u.cells _ _ hb).trans h3, (u.cells _ _ hb).trans h4⟩, hn, hE.up u⟩
theorem Rules.up {w w' : World} {A : Option Addr} {n : Nat} {rs : List Rule} (h : Rules w A n rs) (u : Up w w') : Rules w' A n rs :=
  ⟨h.1, h.2.1, fun hn => by
    obtain ⟨b, off, hA, hb, hc⟩ := h.2.2 hn
    exact ⟨b, off, hA, by have := u.size; omega, fun i hi => (hc i hi).up u hb⟩⟩
theorem Rulz.up {w w' : World} {A : Option Addr} {n : Nat} {rss : List (List Rule)} (h : Rulz w A n rss) (u : Up w w') : Rulz w' A n rss :=
  ⟨h.1, h.2.1, fun hn => by
    obtain ⟨b, off, hA, hb, hc⟩ := h.2.2 hn
    exact ⟨b, off, hA, by have := u.size; omega, fun i hi => by
      obtain ⟨A', n', c', h1, h2⟩ := hc i hi
      exact ⟨A', n', c', (u.cells _ _ hb).trans h1, h2.up u⟩⟩⟩
/-- A model. -/
structure Mdl where
  rules : List (List Rule)
  starts : List Evt
  til : Int
deriving DecidableEq
/-- Its value, over these slices. -/
structure MdlV (w : World) (A : Option Addr) (n : Nat) (B : Option Addr) (k : Nat) (m : Mdl) : Prop where
  rules : Rulz w A n m.rules
  starts : Evs w B k m.starts
  big : k ≤ 9223372036854775807
theorem MdlV.up {w w' : World} {A B : Option Addr} {n k : Nat} {m : Mdl} (h : MdlV w A n B k m) (u : Up w w') : MdlV w' A n B k m := ⟨h.rules.up u, h.starts.up u, h.big⟩
def ruleB (r : Rule) (many : Int) : Bool :=
  r.sends.all (fun e => sndB e many) && decide ((r.sends.length : Int) ≤ 2) && inB r.kd 0 2 && inB r.a 0 96 && inB r.b 0 96 && inB r.c 0 96
/-- Rules behind one of kind bf. -/
def rulesB (many bf : Int) : List Rule → Bool
  | [] => true
  | r :: rs => decide (bf < r.kd) && ruleB r many && rulesB many r.kd rs
def startB (til many : Int) (e : Evt) : Bool := decide (e.fr = -1) && decide (e.t ≤ til) && okB e many
theorem all_drop {α : Type} {f : α → Bool} {d : α} (es : List α) (k : Nat) (h : k < es.length) : (es.drop k).all f = (f (es.getD k d) && (es.drop (k + 1)).all f) := by
  rw [List.drop_eq_getElem_cons h, List.all_cons]; simp [h]
theorem all_end {α : Type} {f : α → Bool} (es : List α) (k : Nat) (h : es.length ≤ k) : (es.drop k).all f = true := by
  rw [List.drop_eq_nil_of_le h]; rfl
theorem rulesB_drop (many bf : Int) (rs : List Rule) (k : Nat) (h : k < rs.length) : rulesB many bf (rs.drop k) = (decide (bf < (rs.getD k default).kd) && ruleB (rs.getD k default) many && rulesB many (rs.getD k default).kd (rs.drop (k + 1))) := by
  rw [List.drop_eq_getElem_cons h, rulesB]; simp [h]
theorem rulesB_end (many bf : Int) (rs : List Rule) (k : Nat) (h : rs.length ≤ k) : rulesB many bf (rs.drop k) = true := by
  rw [List.drop_eq_nil_of_le h]; rfl
end Go.Proofs.Ytipjcjjjkkaigaa

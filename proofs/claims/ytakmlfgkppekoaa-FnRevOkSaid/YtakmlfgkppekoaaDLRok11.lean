/-
  What stands in the slots of l20Model's regions, in one sentence: numbers, arrays, rules, slices; no condition is made.
-/
import Derived.Test.YtakmlfgkppekoaaDLRok07
import Derived.Test.YtakmlfgkppekoaaDLRok08
import Derived.Test.YtakmlfgkppekoaaDLRok09
import Derived.Test.YtakmlfgkppekoaaDLRok10
namespace Go.Proofs.Ytakmlfgkppekoaa
set_option maxRecDepth 100000
open Go.RowKit
/-- A rule's block of the call's own. -/
def PBox (S : Nat → Prop) (v : Value) (w : World) : Prop := ∃ b arr, v = .pointer (some ⟨b, 0, none⟩) ∧ S b ∧ Blk w b 63 arr ∧ arr.size = 5
theorem PBox.st {S : Nat → Prop} {K g : Nat} {v : Value} {w w' : World} (h : PBox S v w) (u : St (TM K) S g w w') : PBox S v w' := by
  obtain ⟨b, arr, h1, h2, h3, h4⟩ := h; obtain ⟨arr', h5, h6⟩ := u.shape b arr _ _ h3
  exact ⟨b, arr', h1, h2, h5, h6.trans h4⟩
theorem GT.start {S : Nat → Prop} {K g N0 n c : Nat} {w : World} (t : TH (TM K) S w) (r : Rd w g c) (hc : c + n ≤ N0) (lo : ∀ b, w.heap.size ≤ b → S b) : GT K S g N0 w n w.drew :=
  ⟨t.drew, ⟨c, hc, r⟩, (St.refl w).drew, lo⟩
theorem heap_setCells (b : Nat) : ∀ (us : List Value) (o : Nat) (w : World) (k : Nat), k ≠ b → (w.setCells b o us).heap[k]? = w.heap[k]?
  | [], _, _, _, _ => rfl
  | u :: r, o, w, k, hk => (heap_setCells b r (o + 1) (w.setCell ⟨b, o, none⟩ u) k hk).trans (Below.heap_setCell w ⟨b, o, none⟩ u k hk)
/-- A rule is laid into its block. -/
theorem rule_laid {S : Nat → Prop} {K g bx : Nat} {w : World} {arr : Array Value} {z0 z1 z2 z3 : Int} {s : Value} (h : TH (TM K) S w) (hb : Blk w bx 63 arr) (h5 : arr.size = 5) (hS : S bx) (hs : ∃ n, n ≤ K ∧ Gs w S 140 6 n s) :
    TH (TM K) S (((((w.setCell ⟨bx, 0, none⟩ (.int .i64 z0)).setCell ⟨bx, 1, none⟩ (.int .i64 z1)).setCell ⟨bx, 2, none⟩ (.int .i64 z2)).setCell ⟨bx, 3, none⟩ (.int .i64 z3)).setCell ⟨bx, 4, none⟩ s) ∧
    St (TM K) S g w (((((w.setCell ⟨bx, 0, none⟩ (.int .i64 z0)).setCell ⟨bx, 1, none⟩ (.int .i64 z1)).setCell ⟨bx, 2, none⟩ (.int .i64 z2)).setCell ⟨bx, 3, none⟩ (.int .i64 z3)).setCell ⟨bx, 4, none⟩ s) ∧
    (∃ arr', Blk (((((w.setCell ⟨bx, 0, none⟩ (.int .i64 z0)).setCell ⟨bx, 1, none⟩ (.int .i64 z1)).setCell ⟨bx, 2, none⟩ (.int .i64 z2)).setCell ⟨bx, 3, none⟩ (.int .i64 z3)).setCell ⟨bx, 4, none⟩ s) bx 63 arr' ∧ arr'.size = 5) ∧
    ∀ k, k ≠ bx → (((((w.setCell ⟨bx, 0, none⟩ (.int .i64 z0)).setCell ⟨bx, 1, none⟩ (.int .i64 z1)).setCell ⟨bx, 2, none⟩ (.int .i64 z2)).setCell ⟨bx, 3, none⟩ (.int .i64 z3)).setCell ⟨bx, 4, none⟩ s).heap[k]? = w.heap[k]? := by
  have r := set_row (T := TM K) (S := S) (g := g) hS (TM_rule_ne K) [.int .i64 z0, .int .i64 z1, .int .i64 z2, .int .i64 z3, s] 0 w arr (0, 0) hb h (fun j u hu => by
    rw [Nat.zero_add]
    exact rule_tc (z0 := z0) (z1 := z1) (z2 := z2) (z3 := z3) hs j u (by simpa using hu))
  refine ⟨r.1, r.2, ?_, fun k hk => heap_setCells bx [.int .i64 z0, .int .i64 z1, .int .i64 z2, .int .i64 z3, s] 0 w k hk⟩; obtain ⟨arr', h1, h2⟩ := r.2.shape bx arr _ _ hb
  exact ⟨arr', h1, h2.trans h5⟩
theorem Blk.some_ {w : World} {b e n j : Nat} {arr : Array Value} (h : Blk w b e arr) (hn : arr.size = n) (hj : j < n) : ∃ v, w.cell? ⟨b, j, none⟩ = some v :=
  ⟨_, h.cell (Array.getElem?_eq_getElem (by omega))⟩
/-- A rule's block, read. -/
theorem rule_read {S : Nat → Prop} {K bx : Nat} {w : World} {arr : Array Value} (h : TH (TM K) S w) (hb : Blk w bx 63 arr) (h5 : arr.size = 5) (hS : S bx) :
    ∃ (z0 z1 z2 z3 : Int) (s : Value), w.cell? ⟨bx, 0, none⟩ = some (.int .i64 z0) ∧ w.cell? ⟨bx, 1, none⟩ = some (.int .i64 z1) ∧ w.cell? ⟨bx, 2, none⟩ = some (.int .i64 z2) ∧ w.cell? ⟨bx, 3, none⟩ = some (.int .i64 z3) ∧ w.cell? ⟨bx, 4, none⟩ = some s ∧ ∃ n, n ≤ K ∧ Gs w S 140 6 n s := by
  obtain ⟨z0, c0⟩ := h.num (o := 0) hS hb (by omega) (by rw [TM_rule]; rfl); obtain ⟨z1, c1⟩ := h.num (o := 1) hS hb (by omega) (by rw [TM_rule]; rfl); obtain ⟨z2, c2⟩ := h.num (o := 2) hS hb (by omega) (by rw [TM_rule]; rfl); obtain ⟨z3, c3⟩ := h.num (o := 3) hS hb (by omega) (by rw [TM_rule]; rfl); obtain ⟨s, c4, t4, _⟩ := h.read (o := 4) hS hb (TM_rule_ne K) (by omega)
  have k4 := t4.at_ (k := .sl 140 6 K) (by rw [TM_rule]; rfl)
  exact ⟨z0, z1, z2, z3, s, c0, c1, c2, c3, c4, k4⟩
theorem zero_snd (K : Nat) (j : Nat) (u : Value) (h : (Value.agg #[.int .i64 0, .int .i64 0, .int .i64 0, .int .i64 0, .int .i64 0, .int .i64 0]).cells[j]? = some u) : ∃ k, (TM K 140)[j]? = some k ∧ ZOk k u := by
  have h : (#[.int .i64 0, .int .i64 0, .int .i64 0, .int .i64 0, .int .i64 0, .int .i64 0] : Array Value)[j]? = some u := h
  have hj : j < 6 := (Array.getElem?_eq_some_iff.1 h).1
  have h6 : j = 0 ∨ j = 1 ∨ j = 2 ∨ j = 3 ∨ j = 4 ∨ j = 5 := by omega
  refine ⟨.num, by rw [TM_snd]; rcases h6 with rfl | rfl | rfl | rfl | rfl | rfl <;> rfl, ?_⟩
  rcases h6 with rfl | rfl | rfl | rfl | rfl | rfl <;> (injection h with h; exact ⟨_, h.symm⟩)
theorem zero_rule (K : Nat) (j : Nat) (u : Value) (h : (Value.agg #[.int .i64 0, .int .i64 0, .int .i64 0, .int .i64 0, .slice none 0 0]).cells[j]? = some u) : ∃ k, (TM K 63)[j]? = some k ∧ ZOk k u := by
  have h : (#[.int .i64 0, .int .i64 0, .int .i64 0, .int .i64 0, .slice none 0 0] : Array Value)[j]? = some u := h
  have hj : j < 5 := (Array.getElem?_eq_some_iff.1 h).1
  have h6 : j = 0 ∨ j = 1 ∨ j = 2 ∨ j = 3 ∨ j = 4 := by omega
  rcases h6 with rfl | rfl | rfl | rfl | rfl
  · exact ⟨.num, by rw [TM_rule]; rfl, by injection h with h; exact ⟨_, h.symm⟩⟩
  · exact ⟨.num, by rw [TM_rule]; rfl, by injection h with h; exact ⟨_, h.symm⟩⟩
  · exact ⟨.num, by rw [TM_rule]; rfl, by injection h with h; exact ⟨_, h.symm⟩⟩
  · exact ⟨.num, by rw [TM_rule]; rfl, by injection h with h; exact ⟨_, h.symm⟩⟩
  · exact ⟨.sl 140 6 K, by rw [TM_rule]; rfl, by injection h with h; exact h.symm⟩
theorem zero_row (K : Nat) (j : Nat) (u : Value) (h : (Value.slice none 0 0).cells[j]? = some u) : ∃ k, (TM K 60)[j]? = some k ∧ ZOk k u := by
  have h : (#[.slice none 0 0] : Array Value)[j]? = some u := h
  have hj : j < 1 := (Array.getElem?_eq_some_iff.1 h).1
  obtain rfl : j = 0 := by omega
  exact ⟨.sl 63 5 K, by rw [TM_row]; rfl, by injection h with h; exact h.symm⟩
/-- A new slice of one event. -/
def PEv1 (g lo : Nat) (v : Value) (w : World) : Prop := ∃ b e, v = .slice (some ⟨b, 0, none⟩) 1 1 ∧ b ≠ g ∧ lo ≤ b ∧ b < w.heap.size ∧ EvAt w b 0 e
theorem PEv1.mv {g lo : Nat} {v : Value} {w w' : World} (h : PEv1 g lo v w) (m : Mv g w w') : PEv1 g lo v w' := by
  obtain ⟨b, e, h1, h2, h3, h4, c0, c1, c2, c3, c4, c5⟩ := h
  exact ⟨b, e, h1, h2, h3, Nat.lt_of_lt_of_le h4 m.size, (m.cells _ _ h4 h2).trans c0, (m.cells _ _ h4 h2).trans c1, (m.cells _ _ h4 h2).trans c2, (m.cells _ _ h4 h2).trans c3, (m.cells _ _ h4 h2).trans c4, (m.cells _ _ h4 h2).trans c5⟩
theorem PEv1.new {g : Nat} (w : World) (e : Evt) (hg : g < w.heap.size) {lo : Nat} (hl : lo ≤ w.heap.size) : PEv1 g lo (.slice (some ⟨w.heap.size, 0, none⟩) 1 1) (w.alloc (.cells #[.int .i64 e.t, .int .i64 e.to, .int .i64 e.fr, .int .i64 e.sq, .int .i64 e.kd, .int .i64 e.dt] 45)) := by
  have b := Box.new w e 45
  exact ⟨w.heap.size, e, rfl, by omega, hl, b.lt, b.c0, b.c1, b.c2, b.c3, b.c4, b.c5⟩
def mR36 (g b6 lo : Nat) (many : Int) (vs : Value) (i : Nat) (v : Value) (w : World) : Prop :=
  if i = 0 then v = .pointer (some ⟨b6, 1, none⟩) else if i = 1 then v = vs else if i = 2 then v = .pointer (some ⟨g, 0, none⟩) else if i = 3 then v = .int .i64 many else if i = 4 then (∃ e : Evt, v = e.v) else if i = 5 then PEv1 g lo v w else True
theorem mR36_0 {g b6 lo : Nat} {many : Int} {vs v : Value} {w : World} : mR36 g b6 lo many vs 0 v w = (v = .pointer (some ⟨b6, 1, none⟩)) := by simp [mR36]
theorem mR36_1 {g b6 lo : Nat} {many : Int} {vs v : Value} {w : World} : mR36 g b6 lo many vs 1 v w = (v = vs) := by simp [mR36]
theorem mR36_2 {g b6 lo : Nat} {many : Int} {vs v : Value} {w : World} : mR36 g b6 lo many vs 2 v w = (v = .pointer (some ⟨g, 0, none⟩)) := by simp [mR36]
theorem mR36_3 {g b6 lo : Nat} {many : Int} {vs v : Value} {w : World} : mR36 g b6 lo many vs 3 v w = (v = .int .i64 many) := by simp [mR36]
theorem mR36_4 {g b6 lo : Nat} {many : Int} {vs v : Value} {w : World} : mR36 g b6 lo many vs 4 v w = (∃ e : Evt, v = e.v) := by simp [mR36]
theorem mR36_5 {g b6 lo : Nat} {many : Int} {vs v : Value} {w : World} : mR36 g b6 lo many vs 5 v w = PEv1 g lo v w := by simp [mR36]
theorem mR36_mv {g b6 lo : Nat} {many : Int} {vs : Value} {i : Nat} {v : Value} {w w' : World} (h : mR36 g b6 lo many vs i v w) (m : Mv g w w') : mR36 g b6 lo many vs i v w' := by
  unfold mR36 at h ⊢
  by_cases h5 : i = 5
  · subst h5
    simp only [Nat.reduceEqDiff, if_false, if_true] at h ⊢
    exact h.mv m
  · simp only [h5, if_false] at h ⊢
    exact h
/-- The reader within its bound, old blocks as they were. -/
structure G36 (g B : Nat) (w0 : World) (k : Nat) (w : World) : Prop where
  rd : ∃ c, c + 21 * k ≤ B ∧ Rd w g c
  mv : Mv g w0 w
def mR11 (S : Nat → Prop) (_K g : Nat) (kind : Int)  (d : Nat) (v : Value) (w : World) : Prop :=
  if d = 36 then PEq (.int .i64 kind) v w else if d = 37 then PEq (.pointer (some ⟨g, 0, none⟩)) v w else if d = 38 then PInt 0 96 v w else if d = 39 then PArr g 2 0 1000 v w else if d = 40 then PEq (.pointer (some ⟨g, 0, none⟩)) v w else if d = 41 then PInt 0 1 v w else if d = 42 then PEl g 0 1000 v w else if d = 43 then PInt 0 1000 v w else if d = 44 then PEq (.pointer (some ⟨g, 0, none⟩)) v w else if d = 45 then PInt 0 96 v w else if d = 46 then PArr g 2 0 1000 v w else if d = 47 then PEq (.pointer (some ⟨g, 0, none⟩)) v w else if d = 48 then PInt 0 1 v w else if d = 49 then PEl g 0 1000 v w else if d = 50 then PInt 0 1000 v w else if d = 51 then PEq (.pointer (some ⟨g, 0, none⟩)) v w else if d = 52 then PInt 0 8 v w else if d = 53 then PRule S 0 v w else if d = 10 then PBox S v w else True
theorem mR11_36 {S : Nat → Prop} {K g : Nat} {kind : Int}  {v : Value} {w : World} : mR11 S K g kind 36 v w = (PEq (.int .i64 kind) v w) := by simp [mR11]
theorem mR11_37 {S : Nat → Prop} {K g : Nat} {kind : Int}  {v : Value} {w : World} : mR11 S K g kind 37 v w = (PEq (.pointer (some ⟨g, 0, none⟩)) v w) := by simp [mR11]
theorem mR11_38 {S : Nat → Prop} {K g : Nat} {kind : Int}  {v : Value} {w : World} : mR11 S K g kind 38 v w = (PInt 0 96 v w) := by simp [mR11]
theorem mR11_39 {S : Nat → Prop} {K g : Nat} {kind : Int}  {v : Value} {w : World} : mR11 S K g kind 39 v w = (PArr g 2 0 1000 v w) := by simp [mR11]
theorem mR11_40 {S : Nat → Prop} {K g : Nat} {kind : Int}  {v : Value} {w : World} : mR11 S K g kind 40 v w = (PEq (.pointer (some ⟨g, 0, none⟩)) v w) := by simp [mR11]
theorem mR11_41 {S : Nat → Prop} {K g : Nat} {kind : Int}  {v : Value} {w : World} : mR11 S K g kind 41 v w = (PInt 0 1 v w) := by simp [mR11]
theorem mR11_42 {S : Nat → Prop} {K g : Nat} {kind : Int}  {v : Value} {w : World} : mR11 S K g kind 42 v w = (PEl g 0 1000 v w) := by simp [mR11]
theorem mR11_43 {S : Nat → Prop} {K g : Nat} {kind : Int}  {v : Value} {w : World} : mR11 S K g kind 43 v w = (PInt 0 1000 v w) := by simp [mR11]
theorem mR11_44 {S : Nat → Prop} {K g : Nat} {kind : Int}  {v : Value} {w : World} : mR11 S K g kind 44 v w = (PEq (.pointer (some ⟨g, 0, none⟩)) v w) := by simp [mR11]
theorem mR11_45 {S : Nat → Prop} {K g : Nat} {kind : Int}  {v : Value} {w : World} : mR11 S K g kind 45 v w = (PInt 0 96 v w) := by simp [mR11]
theorem mR11_46 {S : Nat → Prop} {K g : Nat} {kind : Int}  {v : Value} {w : World} : mR11 S K g kind 46 v w = (PArr g 2 0 1000 v w) := by simp [mR11]
theorem mR11_47 {S : Nat → Prop} {K g : Nat} {kind : Int}  {v : Value} {w : World} : mR11 S K g kind 47 v w = (PEq (.pointer (some ⟨g, 0, none⟩)) v w) := by simp [mR11]
theorem mR11_48 {S : Nat → Prop} {K g : Nat} {kind : Int}  {v : Value} {w : World} : mR11 S K g kind 48 v w = (PInt 0 1 v w) := by simp [mR11]
theorem mR11_49 {S : Nat → Prop} {K g : Nat} {kind : Int}  {v : Value} {w : World} : mR11 S K g kind 49 v w = (PEl g 0 1000 v w) := by simp [mR11]
theorem mR11_50 {S : Nat → Prop} {K g : Nat} {kind : Int}  {v : Value} {w : World} : mR11 S K g kind 50 v w = (PInt 0 1000 v w) := by simp [mR11]
theorem mR11_51 {S : Nat → Prop} {K g : Nat} {kind : Int}  {v : Value} {w : World} : mR11 S K g kind 51 v w = (PEq (.pointer (some ⟨g, 0, none⟩)) v w) := by simp [mR11]
theorem mR11_52 {S : Nat → Prop} {K g : Nat} {kind : Int}  {v : Value} {w : World} : mR11 S K g kind 52 v w = (PInt 0 8 v w) := by simp [mR11]
theorem mR11_53 {S : Nat → Prop} {K g : Nat} {kind : Int}  {v : Value} {w : World} : mR11 S K g kind 53 v w = (PRule S 0 v w) := by simp [mR11]
theorem mR11_10 {S : Nat → Prop} {K g : Nat} {kind : Int}  {v : Value} {w : World} : mR11 S K g kind 10 v w = (PBox S v w) := by simp [mR11]
theorem mR11_st {S : Nat → Prop} {K g : Nat} {kind : Int}  {d : Nat} {v : Value} {w w' : World} (h : mR11 S K g kind d v w) (u : St (TM K) S g w w') : mR11 S K g kind d v w' := by
  unfold mR11 at h ⊢
  by_cases h36 : d = 36
  · rw [if_pos h36] at h ⊢
    exact PEq.st h u
  rw [if_neg h36] at h ⊢
  by_cases h37 : d = 37
  · rw [if_pos h37] at h ⊢
    exact PEq.st h u
  rw [if_neg h37] at h ⊢
  by_cases h38 : d = 38
  · rw [if_pos h38] at h ⊢
    exact PInt.st h u
  rw [if_neg h38] at h ⊢
  by_cases h39 : d = 39
  · rw [if_pos h39] at h ⊢
    exact PArr.st h u
  rw [if_neg h39] at h ⊢
  by_cases h40 : d = 40
  · rw [if_pos h40] at h ⊢
    exact PEq.st h u
  rw [if_neg h40] at h ⊢
  by_cases h41 : d = 41
  · rw [if_pos h41] at h ⊢
    exact PInt.st h u
  rw [if_neg h41] at h ⊢
  by_cases h42 : d = 42
  · rw [if_pos h42] at h ⊢
    exact PEl.st h u
  rw [if_neg h42] at h ⊢
  by_cases h43 : d = 43
  · rw [if_pos h43] at h ⊢
    exact PInt.st h u
  rw [if_neg h43] at h ⊢
  by_cases h44 : d = 44
  · rw [if_pos h44] at h ⊢
    exact PEq.st h u
  rw [if_neg h44] at h ⊢
  by_cases h45 : d = 45
  · rw [if_pos h45] at h ⊢
    exact PInt.st h u
  rw [if_neg h45] at h ⊢
  by_cases h46 : d = 46
  · rw [if_pos h46] at h ⊢
    exact PArr.st h u
  rw [if_neg h46] at h ⊢
  by_cases h47 : d = 47
  · rw [if_pos h47] at h ⊢
    exact PEq.st h u
  rw [if_neg h47] at h ⊢
  by_cases h48 : d = 48
  · rw [if_pos h48] at h ⊢
    exact PInt.st h u
  rw [if_neg h48] at h ⊢
  by_cases h49 : d = 49
  · rw [if_pos h49] at h ⊢
    exact PEl.st h u
  rw [if_neg h49] at h ⊢
  by_cases h50 : d = 50
  · rw [if_pos h50] at h ⊢
    exact PInt.st h u
  rw [if_neg h50] at h ⊢
  by_cases h51 : d = 51
  · rw [if_pos h51] at h ⊢
    exact PEq.st h u
  rw [if_neg h51] at h ⊢
  by_cases h52 : d = 52
  · rw [if_pos h52] at h ⊢
    exact PInt.st h u
  rw [if_neg h52] at h ⊢
  by_cases h53 : d = 53
  · rw [if_pos h53] at h ⊢
    exact PRule.st h u
  rw [if_neg h53] at h ⊢
  by_cases h10 : d = 10
  · rw [if_pos h10] at h ⊢
    exact PBox.st h u
  rw [if_neg h10] at h ⊢
  exact trivial
def mR16 (S : Nat → Prop) (K g : Nat) (bx many md : Nat)  (d : Nat) (v : Value) (w : World) : Prop :=
  if d = 63 then PEq (.pointer (some ⟨bx, 4, none⟩)) v w else if d = 64 then PLe S 140 6 K v w else if d = 65 then PEq (.pointer (some ⟨g, 0, none⟩)) v w else if d = 66 then PEq (.int .i64 (many : Int)) v w else if d = 67 then PInt 0 1000 v w else if d = 68 then PEq (.pointer (some ⟨g, 0, none⟩)) v w else if d = 69 then PInt 0 4 v w else if d = 70 then PInt 1 5 v w else if d = 71 then PEq (.pointer (some ⟨g, 0, none⟩)) v w else if d = 72 then PInt 0 2 v w else if d = 73 then PEq (.pointer (some ⟨g, 0, none⟩)) v w else if d = 74 then PInt 0 8 v w else if d = 75 then PEq (.int .i64 (md : Int)) v w else if d = 76 then PEq (.pointer (some ⟨g, 0, none⟩)) v w else if d = 77 then PEq (.int .i64 (md : Int)) v w else if d = 78 then PInt 0 1000 v w else if d = 79 then PSnd v w else if d = 80 then PGs S 140 6 1 v w else if d = 81 then PLe S 140 6 (K + 1) v w else True
theorem mR16_63 {S : Nat → Prop} {K g : Nat} {bx many md : Nat}  {v : Value} {w : World} : mR16 S K g bx many md 63 v w = (PEq (.pointer (some ⟨bx, 4, none⟩)) v w) := by simp [mR16]
theorem mR16_64 {S : Nat → Prop} {K g : Nat} {bx many md : Nat}  {v : Value} {w : World} : mR16 S K g bx many md 64 v w = (PLe S 140 6 K v w) := by simp [mR16]
theorem mR16_65 {S : Nat → Prop} {K g : Nat} {bx many md : Nat}  {v : Value} {w : World} : mR16 S K g bx many md 65 v w = (PEq (.pointer (some ⟨g, 0, none⟩)) v w) := by simp [mR16]
theorem mR16_66 {S : Nat → Prop} {K g : Nat} {bx many md : Nat}  {v : Value} {w : World} : mR16 S K g bx many md 66 v w = (PEq (.int .i64 (many : Int)) v w) := by simp [mR16]
theorem mR16_67 {S : Nat → Prop} {K g : Nat} {bx many md : Nat}  {v : Value} {w : World} : mR16 S K g bx many md 67 v w = (PInt 0 1000 v w) := by simp [mR16]
theorem mR16_68 {S : Nat → Prop} {K g : Nat} {bx many md : Nat}  {v : Value} {w : World} : mR16 S K g bx many md 68 v w = (PEq (.pointer (some ⟨g, 0, none⟩)) v w) := by simp [mR16]
theorem mR16_69 {S : Nat → Prop} {K g : Nat} {bx many md : Nat}  {v : Value} {w : World} : mR16 S K g bx many md 69 v w = (PInt 0 4 v w) := by simp [mR16]
theorem mR16_70 {S : Nat → Prop} {K g : Nat} {bx many md : Nat}  {v : Value} {w : World} : mR16 S K g bx many md 70 v w = (PInt 1 5 v w) := by simp [mR16]
theorem mR16_71 {S : Nat → Prop} {K g : Nat} {bx many md : Nat}  {v : Value} {w : World} : mR16 S K g bx many md 71 v w = (PEq (.pointer (some ⟨g, 0, none⟩)) v w) := by simp [mR16]
theorem mR16_72 {S : Nat → Prop} {K g : Nat} {bx many md : Nat}  {v : Value} {w : World} : mR16 S K g bx many md 72 v w = (PInt 0 2 v w) := by simp [mR16]
theorem mR16_73 {S : Nat → Prop} {K g : Nat} {bx many md : Nat}  {v : Value} {w : World} : mR16 S K g bx many md 73 v w = (PEq (.pointer (some ⟨g, 0, none⟩)) v w) := by simp [mR16]
theorem mR16_74 {S : Nat → Prop} {K g : Nat} {bx many md : Nat}  {v : Value} {w : World} : mR16 S K g bx many md 74 v w = (PInt 0 8 v w) := by simp [mR16]
theorem mR16_75 {S : Nat → Prop} {K g : Nat} {bx many md : Nat}  {v : Value} {w : World} : mR16 S K g bx many md 75 v w = (PEq (.int .i64 (md : Int)) v w) := by simp [mR16]
theorem mR16_76 {S : Nat → Prop} {K g : Nat} {bx many md : Nat}  {v : Value} {w : World} : mR16 S K g bx many md 76 v w = (PEq (.pointer (some ⟨g, 0, none⟩)) v w) := by simp [mR16]
theorem mR16_77 {S : Nat → Prop} {K g : Nat} {bx many md : Nat}  {v : Value} {w : World} : mR16 S K g bx many md 77 v w = (PEq (.int .i64 (md : Int)) v w) := by simp [mR16]
theorem mR16_78 {S : Nat → Prop} {K g : Nat} {bx many md : Nat}  {v : Value} {w : World} : mR16 S K g bx many md 78 v w = (PInt 0 1000 v w) := by simp [mR16]
theorem mR16_79 {S : Nat → Prop} {K g : Nat} {bx many md : Nat}  {v : Value} {w : World} : mR16 S K g bx many md 79 v w = (PSnd v w) := by simp [mR16]
theorem mR16_80 {S : Nat → Prop} {K g : Nat} {bx many md : Nat}  {v : Value} {w : World} : mR16 S K g bx many md 80 v w = (PGs S 140 6 1 v w) := by simp [mR16]
theorem mR16_81 {S : Nat → Prop} {K g : Nat} {bx many md : Nat}  {v : Value} {w : World} : mR16 S K g bx many md 81 v w = (PLe S 140 6 (K + 1) v w) := by simp [mR16]
theorem mR16_st {S : Nat → Prop} {K g : Nat} {bx many md : Nat}  {d : Nat} {v : Value} {w w' : World} (h : mR16 S K g bx many md d v w) (u : St (TM K) S g w w') : mR16 S K g bx many md d v w' := by
  unfold mR16 at h ⊢
  by_cases h63 : d = 63
  · rw [if_pos h63] at h ⊢
    exact PEq.st h u
  rw [if_neg h63] at h ⊢
  by_cases h64 : d = 64
  · rw [if_pos h64] at h ⊢
    exact PLe.st h u
  rw [if_neg h64] at h ⊢
  by_cases h65 : d = 65
  · rw [if_pos h65] at h ⊢
    exact PEq.st h u
  rw [if_neg h65] at h ⊢
  by_cases h66 : d = 66
  · rw [if_pos h66] at h ⊢
    exact PEq.st h u
  rw [if_neg h66] at h ⊢
  by_cases h67 : d = 67
  · rw [if_pos h67] at h ⊢
    exact PInt.st h u
  rw [if_neg h67] at h ⊢
  by_cases h68 : d = 68
  · rw [if_pos h68] at h ⊢
    exact PEq.st h u
  rw [if_neg h68] at h ⊢
  by_cases h69 : d = 69
  · rw [if_pos h69] at h ⊢
    exact PInt.st h u
  rw [if_neg h69] at h ⊢
  by_cases h70 : d = 70
  · rw [if_pos h70] at h ⊢
    exact PInt.st h u
  rw [if_neg h70] at h ⊢
  by_cases h71 : d = 71
  · rw [if_pos h71] at h ⊢
    exact PEq.st h u
  rw [if_neg h71] at h ⊢
  by_cases h72 : d = 72
  · rw [if_pos h72] at h ⊢
    exact PInt.st h u
  rw [if_neg h72] at h ⊢
  by_cases h73 : d = 73
  · rw [if_pos h73] at h ⊢
    exact PEq.st h u
  rw [if_neg h73] at h ⊢
  by_cases h74 : d = 74
  · rw [if_pos h74] at h ⊢
    exact PInt.st h u
  rw [if_neg h74] at h ⊢
  by_cases h75 : d = 75
  · rw [if_pos h75] at h ⊢
    exact PEq.st h u
  rw [if_neg h75] at h ⊢
  by_cases h76 : d = 76
  · rw [if_pos h76] at h ⊢
    exact PEq.st h u
  rw [if_neg h76] at h ⊢
  by_cases h77 : d = 77
  · rw [if_pos h77] at h ⊢
    exact PEq.st h u
  rw [if_neg h77] at h ⊢
  by_cases h78 : d = 78
  · rw [if_pos h78] at h ⊢
    exact PInt.st h u
  rw [if_neg h78] at h ⊢
  by_cases h79 : d = 79
  · rw [if_pos h79] at h ⊢
    exact PSnd.st h u
  rw [if_neg h79] at h ⊢
  by_cases h80 : d = 80
  · rw [if_pos h80] at h ⊢
    exact PGs.st h u
  rw [if_neg h80] at h ⊢
  by_cases h81 : d = 81
  · rw [if_pos h81] at h ⊢
    exact PLe.st h u
  rw [if_neg h81] at h ⊢
  exact trivial
def mR38 (S : Nat → Prop) (K g : Nat) (b6 br kk k cr : Nat)  (d : Nat) (v : Value) (w : World) : Prop :=
  if d = 186 then PEq (.pointer (some ⟨b6, 0, none⟩)) v w else if d = 187 then PEq (.slice (some ⟨br, 0, none⟩) k cr) v w else if d = 188 then PEq (.int .i64 (kk : Int)) v w else if d = 189 then PEq (.pointer (some ⟨b6, 0, none⟩)) v w else if d = 190 then PEq (.slice (some ⟨br, 0, none⟩) k cr) v w else if d = 191 then PEq (.int .i64 (kk : Int)) v w else if d = 192 then PEq (.pointer (some ⟨br, kk, none⟩)) v w else if d = 193 then PLe S 63 5 K v w else if d = 194 then PEq (.pointer (some ⟨g, 0, none⟩)) v w else if d = 195 then PInt 0 3 v w else if d = 196 then PEq (.pointer (some ⟨g, 0, none⟩)) v w else if d = 197 then PInt 0 98 v w else if d = 198 then PEq (.pointer (some ⟨g, 0, none⟩)) v w else if d = 199 then PInt 0 2 v w else if d = 200 then PEq (.pointer (some ⟨g, 0, none⟩)) v w else if d = 201 then PInt 0 1 v w else if d = 202 then PRule S 0 v w else if d = 203 then PGs S 63 5 1 v w else if d = 204 then PLe S 63 5 (K + 1) v w else True
theorem mR38_186 {S : Nat → Prop} {K g : Nat} {b6 br kk k cr : Nat}  {v : Value} {w : World} : mR38 S K g b6 br kk k cr 186 v w = (PEq (.pointer (some ⟨b6, 0, none⟩)) v w) := by simp [mR38]
theorem mR38_187 {S : Nat → Prop} {K g : Nat} {b6 br kk k cr : Nat}  {v : Value} {w : World} : mR38 S K g b6 br kk k cr 187 v w = (PEq (.slice (some ⟨br, 0, none⟩) k cr) v w) := by simp [mR38]
theorem mR38_188 {S : Nat → Prop} {K g : Nat} {b6 br kk k cr : Nat}  {v : Value} {w : World} : mR38 S K g b6 br kk k cr 188 v w = (PEq (.int .i64 (kk : Int)) v w) := by simp [mR38]
theorem mR38_189 {S : Nat → Prop} {K g : Nat} {b6 br kk k cr : Nat}  {v : Value} {w : World} : mR38 S K g b6 br kk k cr 189 v w = (PEq (.pointer (some ⟨b6, 0, none⟩)) v w) := by simp [mR38]
theorem mR38_190 {S : Nat → Prop} {K g : Nat} {b6 br kk k cr : Nat}  {v : Value} {w : World} : mR38 S K g b6 br kk k cr 190 v w = (PEq (.slice (some ⟨br, 0, none⟩) k cr) v w) := by simp [mR38]
theorem mR38_191 {S : Nat → Prop} {K g : Nat} {b6 br kk k cr : Nat}  {v : Value} {w : World} : mR38 S K g b6 br kk k cr 191 v w = (PEq (.int .i64 (kk : Int)) v w) := by simp [mR38]
theorem mR38_192 {S : Nat → Prop} {K g : Nat} {b6 br kk k cr : Nat}  {v : Value} {w : World} : mR38 S K g b6 br kk k cr 192 v w = (PEq (.pointer (some ⟨br, kk, none⟩)) v w) := by simp [mR38]
theorem mR38_193 {S : Nat → Prop} {K g : Nat} {b6 br kk k cr : Nat}  {v : Value} {w : World} : mR38 S K g b6 br kk k cr 193 v w = (PLe S 63 5 K v w) := by simp [mR38]
theorem mR38_194 {S : Nat → Prop} {K g : Nat} {b6 br kk k cr : Nat}  {v : Value} {w : World} : mR38 S K g b6 br kk k cr 194 v w = (PEq (.pointer (some ⟨g, 0, none⟩)) v w) := by simp [mR38]
theorem mR38_195 {S : Nat → Prop} {K g : Nat} {b6 br kk k cr : Nat}  {v : Value} {w : World} : mR38 S K g b6 br kk k cr 195 v w = (PInt 0 3 v w) := by simp [mR38]
theorem mR38_196 {S : Nat → Prop} {K g : Nat} {b6 br kk k cr : Nat}  {v : Value} {w : World} : mR38 S K g b6 br kk k cr 196 v w = (PEq (.pointer (some ⟨g, 0, none⟩)) v w) := by simp [mR38]
theorem mR38_197 {S : Nat → Prop} {K g : Nat} {b6 br kk k cr : Nat}  {v : Value} {w : World} : mR38 S K g b6 br kk k cr 197 v w = (PInt 0 98 v w) := by simp [mR38]
theorem mR38_198 {S : Nat → Prop} {K g : Nat} {b6 br kk k cr : Nat}  {v : Value} {w : World} : mR38 S K g b6 br kk k cr 198 v w = (PEq (.pointer (some ⟨g, 0, none⟩)) v w) := by simp [mR38]
theorem mR38_199 {S : Nat → Prop} {K g : Nat} {b6 br kk k cr : Nat}  {v : Value} {w : World} : mR38 S K g b6 br kk k cr 199 v w = (PInt 0 2 v w) := by simp [mR38]
theorem mR38_200 {S : Nat → Prop} {K g : Nat} {b6 br kk k cr : Nat}  {v : Value} {w : World} : mR38 S K g b6 br kk k cr 200 v w = (PEq (.pointer (some ⟨g, 0, none⟩)) v w) := by simp [mR38]
theorem mR38_201 {S : Nat → Prop} {K g : Nat} {b6 br kk k cr : Nat}  {v : Value} {w : World} : mR38 S K g b6 br kk k cr 201 v w = (PInt 0 1 v w) := by simp [mR38]
theorem mR38_202 {S : Nat → Prop} {K g : Nat} {b6 br kk k cr : Nat}  {v : Value} {w : World} : mR38 S K g b6 br kk k cr 202 v w = (PRule S 0 v w) := by simp [mR38]
theorem mR38_203 {S : Nat → Prop} {K g : Nat} {b6 br kk k cr : Nat}  {v : Value} {w : World} : mR38 S K g b6 br kk k cr 203 v w = (PGs S 63 5 1 v w) := by simp [mR38]
theorem mR38_204 {S : Nat → Prop} {K g : Nat} {b6 br kk k cr : Nat}  {v : Value} {w : World} : mR38 S K g b6 br kk k cr 204 v w = (PLe S 63 5 (K + 1) v w) := by simp [mR38]
theorem mR38_st {S : Nat → Prop} {K g : Nat} {b6 br kk k cr : Nat}  {d : Nat} {v : Value} {w w' : World} (h : mR38 S K g b6 br kk k cr d v w) (u : St (TM K) S g w w') : mR38 S K g b6 br kk k cr d v w' := by
  unfold mR38 at h ⊢
  by_cases h186 : d = 186
  · rw [if_pos h186] at h ⊢
    exact PEq.st h u
  rw [if_neg h186] at h ⊢
  by_cases h187 : d = 187
  · rw [if_pos h187] at h ⊢
    exact PEq.st h u
  rw [if_neg h187] at h ⊢
  by_cases h188 : d = 188
  · rw [if_pos h188] at h ⊢
    exact PEq.st h u
  rw [if_neg h188] at h ⊢
  by_cases h189 : d = 189
  · rw [if_pos h189] at h ⊢
    exact PEq.st h u
  rw [if_neg h189] at h ⊢
  by_cases h190 : d = 190
  · rw [if_pos h190] at h ⊢
    exact PEq.st h u
  rw [if_neg h190] at h ⊢
  by_cases h191 : d = 191
  · rw [if_pos h191] at h ⊢
    exact PEq.st h u
  rw [if_neg h191] at h ⊢
  by_cases h192 : d = 192
  · rw [if_pos h192] at h ⊢
    exact PEq.st h u
  rw [if_neg h192] at h ⊢
  by_cases h193 : d = 193
  · rw [if_pos h193] at h ⊢
    exact PLe.st h u
  rw [if_neg h193] at h ⊢
  by_cases h194 : d = 194
  · rw [if_pos h194] at h ⊢
    exact PEq.st h u
  rw [if_neg h194] at h ⊢
  by_cases h195 : d = 195
  · rw [if_pos h195] at h ⊢
    exact PInt.st h u
  rw [if_neg h195] at h ⊢
  by_cases h196 : d = 196
  · rw [if_pos h196] at h ⊢
    exact PEq.st h u
  rw [if_neg h196] at h ⊢
  by_cases h197 : d = 197
  · rw [if_pos h197] at h ⊢
    exact PInt.st h u
  rw [if_neg h197] at h ⊢
  by_cases h198 : d = 198
  · rw [if_pos h198] at h ⊢
    exact PEq.st h u
  rw [if_neg h198] at h ⊢
  by_cases h199 : d = 199
  · rw [if_pos h199] at h ⊢
    exact PInt.st h u
  rw [if_neg h199] at h ⊢
  by_cases h200 : d = 200
  · rw [if_pos h200] at h ⊢
    exact PEq.st h u
  rw [if_neg h200] at h ⊢
  by_cases h201 : d = 201
  · rw [if_pos h201] at h ⊢
    exact PInt.st h u
  rw [if_neg h201] at h ⊢
  by_cases h202 : d = 202
  · rw [if_pos h202] at h ⊢
    exact PRule.st h u
  rw [if_neg h202] at h ⊢
  by_cases h203 : d = 203
  · rw [if_pos h203] at h ⊢
    exact PGs.st h u
  rw [if_neg h203] at h ⊢
  by_cases h204 : d = 204
  · rw [if_pos h204] at h ⊢
    exact PLe.st h u
  rw [if_neg h204] at h ⊢
  exact trivial
def mR40 (S : Nat → Prop) (K _g : Nat) (b6 br kk k cr : Nat)  (d : Nat) (v : Value) (w : World) : Prop :=
  if d = 208 then PEq (.pointer (some ⟨b6, 0, none⟩)) v w else if d = 209 then PEq (.slice (some ⟨br, 0, none⟩) k cr) v w else if d = 210 then PEq (.int .i64 (kk : Int)) v w else if d = 211 then PEq (.pointer (some ⟨b6, 0, none⟩)) v w else if d = 212 then PEq (.slice (some ⟨br, 0, none⟩) k cr) v w else if d = 213 then PEq (.int .i64 (kk : Int)) v w else if d = 214 then PEq (.pointer (some ⟨br, kk, none⟩)) v w else if d = 215 then PLe S 63 5 K v w else if d = 216 then PEq (.int .i64 (k : Int)) v w else if d = 217 then PSnd v w else if d = 218 then PGs S 140 6 1 v w else if d = 219 then PRule S 1 v w else if d = 220 then PGs S 63 5 1 v w else if d = 221 then PLe S 63 5 (K + 1) v w else True
theorem mR40_208 {S : Nat → Prop} {K g : Nat} {b6 br kk k cr : Nat}  {v : Value} {w : World} : mR40 S K g b6 br kk k cr 208 v w = (PEq (.pointer (some ⟨b6, 0, none⟩)) v w) := by simp [mR40]
theorem mR40_209 {S : Nat → Prop} {K g : Nat} {b6 br kk k cr : Nat}  {v : Value} {w : World} : mR40 S K g b6 br kk k cr 209 v w = (PEq (.slice (some ⟨br, 0, none⟩) k cr) v w) := by simp [mR40]
theorem mR40_210 {S : Nat → Prop} {K g : Nat} {b6 br kk k cr : Nat}  {v : Value} {w : World} : mR40 S K g b6 br kk k cr 210 v w = (PEq (.int .i64 (kk : Int)) v w) := by simp [mR40]
theorem mR40_211 {S : Nat → Prop} {K g : Nat} {b6 br kk k cr : Nat}  {v : Value} {w : World} : mR40 S K g b6 br kk k cr 211 v w = (PEq (.pointer (some ⟨b6, 0, none⟩)) v w) := by simp [mR40]
theorem mR40_212 {S : Nat → Prop} {K g : Nat} {b6 br kk k cr : Nat}  {v : Value} {w : World} : mR40 S K g b6 br kk k cr 212 v w = (PEq (.slice (some ⟨br, 0, none⟩) k cr) v w) := by simp [mR40]
theorem mR40_213 {S : Nat → Prop} {K g : Nat} {b6 br kk k cr : Nat}  {v : Value} {w : World} : mR40 S K g b6 br kk k cr 213 v w = (PEq (.int .i64 (kk : Int)) v w) := by simp [mR40]
theorem mR40_214 {S : Nat → Prop} {K g : Nat} {b6 br kk k cr : Nat}  {v : Value} {w : World} : mR40 S K g b6 br kk k cr 214 v w = (PEq (.pointer (some ⟨br, kk, none⟩)) v w) := by simp [mR40]
theorem mR40_215 {S : Nat → Prop} {K g : Nat} {b6 br kk k cr : Nat}  {v : Value} {w : World} : mR40 S K g b6 br kk k cr 215 v w = (PLe S 63 5 K v w) := by simp [mR40]
theorem mR40_216 {S : Nat → Prop} {K g : Nat} {b6 br kk k cr : Nat}  {v : Value} {w : World} : mR40 S K g b6 br kk k cr 216 v w = (PEq (.int .i64 (k : Int)) v w) := by simp [mR40]
theorem mR40_217 {S : Nat → Prop} {K g : Nat} {b6 br kk k cr : Nat}  {v : Value} {w : World} : mR40 S K g b6 br kk k cr 217 v w = (PSnd v w) := by simp [mR40]
theorem mR40_218 {S : Nat → Prop} {K g : Nat} {b6 br kk k cr : Nat}  {v : Value} {w : World} : mR40 S K g b6 br kk k cr 218 v w = (PGs S 140 6 1 v w) := by simp [mR40]
theorem mR40_219 {S : Nat → Prop} {K g : Nat} {b6 br kk k cr : Nat}  {v : Value} {w : World} : mR40 S K g b6 br kk k cr 219 v w = (PRule S 1 v w) := by simp [mR40]
theorem mR40_220 {S : Nat → Prop} {K g : Nat} {b6 br kk k cr : Nat}  {v : Value} {w : World} : mR40 S K g b6 br kk k cr 220 v w = (PGs S 63 5 1 v w) := by simp [mR40]
theorem mR40_221 {S : Nat → Prop} {K g : Nat} {b6 br kk k cr : Nat}  {v : Value} {w : World} : mR40 S K g b6 br kk k cr 221 v w = (PLe S 63 5 (K + 1) v w) := by simp [mR40]
theorem mR40_st {S : Nat → Prop} {K g : Nat} {b6 br kk k cr : Nat}  {d : Nat} {v : Value} {w w' : World} (h : mR40 S K g b6 br kk k cr d v w) (u : St (TM K) S g w w') : mR40 S K g b6 br kk k cr d v w' := by
  unfold mR40 at h ⊢
  by_cases h208 : d = 208
  · rw [if_pos h208] at h ⊢
    exact PEq.st h u
  rw [if_neg h208] at h ⊢
  by_cases h209 : d = 209
  · rw [if_pos h209] at h ⊢
    exact PEq.st h u
  rw [if_neg h209] at h ⊢
  by_cases h210 : d = 210
  · rw [if_pos h210] at h ⊢
    exact PEq.st h u
  rw [if_neg h210] at h ⊢
  by_cases h211 : d = 211
  · rw [if_pos h211] at h ⊢
    exact PEq.st h u
  rw [if_neg h211] at h ⊢
  by_cases h212 : d = 212
  · rw [if_pos h212] at h ⊢
    exact PEq.st h u
  rw [if_neg h212] at h ⊢
  by_cases h213 : d = 213
  · rw [if_pos h213] at h ⊢
    exact PEq.st h u
  rw [if_neg h213] at h ⊢
  by_cases h214 : d = 214
  · rw [if_pos h214] at h ⊢
    exact PEq.st h u
  rw [if_neg h214] at h ⊢
  by_cases h215 : d = 215
  · rw [if_pos h215] at h ⊢
    exact PLe.st h u
  rw [if_neg h215] at h ⊢
  by_cases h216 : d = 216
  · rw [if_pos h216] at h ⊢
    exact PEq.st h u
  rw [if_neg h216] at h ⊢
  by_cases h217 : d = 217
  · rw [if_pos h217] at h ⊢
    exact PSnd.st h u
  rw [if_neg h217] at h ⊢
  by_cases h218 : d = 218
  · rw [if_pos h218] at h ⊢
    exact PGs.st h u
  rw [if_neg h218] at h ⊢
  by_cases h219 : d = 219
  · rw [if_pos h219] at h ⊢
    exact PRule.st h u
  rw [if_neg h219] at h ⊢
  by_cases h220 : d = 220
  · rw [if_pos h220] at h ⊢
    exact PGs.st h u
  rw [if_neg h220] at h ⊢
  by_cases h221 : d = 221
  · rw [if_pos h221] at h ⊢
    exact PLe.st h u
  rw [if_neg h221] at h ⊢
  exact trivial
def mR42 (S : Nat → Prop) (_K g : Nat) (b6 br kk k cr : Nat)  (d : Nat) (v : Value) (w : World) : Prop :=
  if d = 225 then PEq (.pointer (some ⟨b6, 0, none⟩)) v w else if d = 226 then PEq (.slice (some ⟨br, 0, none⟩) k cr) v w else if d = 227 then PEq (.int .i64 (kk : Int)) v w else if d = 228 then PArr g 2 0 10 v w else if d = 229 then PEq (.pointer (some ⟨g, 0, none⟩)) v w else if d = 230 then PInt 0 1 v w else if d = 231 then PEl g 0 10 v w else if d = 232 then PInt 0 10 v w else if d = 233 then PSnd v w else if d = 234 then PGs S 140 6 1 v w else if d = 235 then PRule S 1 v w else if d = 236 then PGs S 63 5 1 v w else True
theorem mR42_225 {S : Nat → Prop} {K g : Nat} {b6 br kk k cr : Nat}  {v : Value} {w : World} : mR42 S K g b6 br kk k cr 225 v w = (PEq (.pointer (some ⟨b6, 0, none⟩)) v w) := by simp [mR42]
theorem mR42_226 {S : Nat → Prop} {K g : Nat} {b6 br kk k cr : Nat}  {v : Value} {w : World} : mR42 S K g b6 br kk k cr 226 v w = (PEq (.slice (some ⟨br, 0, none⟩) k cr) v w) := by simp [mR42]
theorem mR42_227 {S : Nat → Prop} {K g : Nat} {b6 br kk k cr : Nat}  {v : Value} {w : World} : mR42 S K g b6 br kk k cr 227 v w = (PEq (.int .i64 (kk : Int)) v w) := by simp [mR42]
theorem mR42_228 {S : Nat → Prop} {K g : Nat} {b6 br kk k cr : Nat}  {v : Value} {w : World} : mR42 S K g b6 br kk k cr 228 v w = (PArr g 2 0 10 v w) := by simp [mR42]
theorem mR42_229 {S : Nat → Prop} {K g : Nat} {b6 br kk k cr : Nat}  {v : Value} {w : World} : mR42 S K g b6 br kk k cr 229 v w = (PEq (.pointer (some ⟨g, 0, none⟩)) v w) := by simp [mR42]
theorem mR42_230 {S : Nat → Prop} {K g : Nat} {b6 br kk k cr : Nat}  {v : Value} {w : World} : mR42 S K g b6 br kk k cr 230 v w = (PInt 0 1 v w) := by simp [mR42]
theorem mR42_231 {S : Nat → Prop} {K g : Nat} {b6 br kk k cr : Nat}  {v : Value} {w : World} : mR42 S K g b6 br kk k cr 231 v w = (PEl g 0 10 v w) := by simp [mR42]
theorem mR42_232 {S : Nat → Prop} {K g : Nat} {b6 br kk k cr : Nat}  {v : Value} {w : World} : mR42 S K g b6 br kk k cr 232 v w = (PInt 0 10 v w) := by simp [mR42]
theorem mR42_233 {S : Nat → Prop} {K g : Nat} {b6 br kk k cr : Nat}  {v : Value} {w : World} : mR42 S K g b6 br kk k cr 233 v w = (PSnd v w) := by simp [mR42]
theorem mR42_234 {S : Nat → Prop} {K g : Nat} {b6 br kk k cr : Nat}  {v : Value} {w : World} : mR42 S K g b6 br kk k cr 234 v w = (PGs S 140 6 1 v w) := by simp [mR42]
theorem mR42_235 {S : Nat → Prop} {K g : Nat} {b6 br kk k cr : Nat}  {v : Value} {w : World} : mR42 S K g b6 br kk k cr 235 v w = (PRule S 1 v w) := by simp [mR42]
theorem mR42_236 {S : Nat → Prop} {K g : Nat} {b6 br kk k cr : Nat}  {v : Value} {w : World} : mR42 S K g b6 br kk k cr 236 v w = (PGs S 63 5 1 v w) := by simp [mR42]
theorem mR42_st {S : Nat → Prop} {K g : Nat} {b6 br kk k cr : Nat}  {d : Nat} {v : Value} {w w' : World} (h : mR42 S K g b6 br kk k cr d v w) (u : St (TM K) S g w w') : mR42 S K g b6 br kk k cr d v w' := by
  unfold mR42 at h ⊢
  by_cases h225 : d = 225
  · rw [if_pos h225] at h ⊢
    exact PEq.st h u
  rw [if_neg h225] at h ⊢
  by_cases h226 : d = 226
  · rw [if_pos h226] at h ⊢
    exact PEq.st h u
  rw [if_neg h226] at h ⊢
  by_cases h227 : d = 227
  · rw [if_pos h227] at h ⊢
    exact PEq.st h u
  rw [if_neg h227] at h ⊢
  by_cases h228 : d = 228
  · rw [if_pos h228] at h ⊢
    exact PArr.st h u
  rw [if_neg h228] at h ⊢
  by_cases h229 : d = 229
  · rw [if_pos h229] at h ⊢
    exact PEq.st h u
  rw [if_neg h229] at h ⊢
  by_cases h230 : d = 230
  · rw [if_pos h230] at h ⊢
    exact PInt.st h u
  rw [if_neg h230] at h ⊢
  by_cases h231 : d = 231
  · rw [if_pos h231] at h ⊢
    exact PEl.st h u
  rw [if_neg h231] at h ⊢
  by_cases h232 : d = 232
  · rw [if_pos h232] at h ⊢
    exact PInt.st h u
  rw [if_neg h232] at h ⊢
  by_cases h233 : d = 233
  · rw [if_pos h233] at h ⊢
    exact PSnd.st h u
  rw [if_neg h233] at h ⊢
  by_cases h234 : d = 234
  · rw [if_pos h234] at h ⊢
    exact PGs.st h u
  rw [if_neg h234] at h ⊢
  by_cases h235 : d = 235
  · rw [if_pos h235] at h ⊢
    exact PRule.st h u
  rw [if_neg h235] at h ⊢
  by_cases h236 : d = 236
  · rw [if_pos h236] at h ⊢
    exact PGs.st h u
  rw [if_neg h236] at h ⊢
  exact trivial
def mR28 (S : Nat → Prop) (_K g : Nat) (b6 br kk k cr : Nat)  (d : Nat) (v : Value) (w : World) : Prop :=
  if d = 134 then PEq (.pointer (some ⟨b6, 0, none⟩)) v w else if d = 135 then PEq (.slice (some ⟨br, 0, none⟩) k cr) v w else if d = 136 then PEq (.int .i64 (kk : Int)) v w else if d = 137 then PEq (.pointer (some ⟨g, 0, none⟩)) v w else if d = 138 then PInt 0 2 v w else if d = 139 then PEq (.pointer (some ⟨g, 0, none⟩)) v w else if d = 140 then PInt 0 2 v w else if d = 141 then PSnd v w else if d = 142 then PGs S 140 6 1 v w else if d = 143 then PRule S 1 v w else if d = 144 then PGs S 63 5 1 v w else True
theorem mR28_134 {S : Nat → Prop} {K g : Nat} {b6 br kk k cr : Nat}  {v : Value} {w : World} : mR28 S K g b6 br kk k cr 134 v w = (PEq (.pointer (some ⟨b6, 0, none⟩)) v w) := by simp [mR28]
theorem mR28_135 {S : Nat → Prop} {K g : Nat} {b6 br kk k cr : Nat}  {v : Value} {w : World} : mR28 S K g b6 br kk k cr 135 v w = (PEq (.slice (some ⟨br, 0, none⟩) k cr) v w) := by simp [mR28]
theorem mR28_136 {S : Nat → Prop} {K g : Nat} {b6 br kk k cr : Nat}  {v : Value} {w : World} : mR28 S K g b6 br kk k cr 136 v w = (PEq (.int .i64 (kk : Int)) v w) := by simp [mR28]
theorem mR28_137 {S : Nat → Prop} {K g : Nat} {b6 br kk k cr : Nat}  {v : Value} {w : World} : mR28 S K g b6 br kk k cr 137 v w = (PEq (.pointer (some ⟨g, 0, none⟩)) v w) := by simp [mR28]
theorem mR28_138 {S : Nat → Prop} {K g : Nat} {b6 br kk k cr : Nat}  {v : Value} {w : World} : mR28 S K g b6 br kk k cr 138 v w = (PInt 0 2 v w) := by simp [mR28]
theorem mR28_139 {S : Nat → Prop} {K g : Nat} {b6 br kk k cr : Nat}  {v : Value} {w : World} : mR28 S K g b6 br kk k cr 139 v w = (PEq (.pointer (some ⟨g, 0, none⟩)) v w) := by simp [mR28]
theorem mR28_140 {S : Nat → Prop} {K g : Nat} {b6 br kk k cr : Nat}  {v : Value} {w : World} : mR28 S K g b6 br kk k cr 140 v w = (PInt 0 2 v w) := by simp [mR28]
theorem mR28_141 {S : Nat → Prop} {K g : Nat} {b6 br kk k cr : Nat}  {v : Value} {w : World} : mR28 S K g b6 br kk k cr 141 v w = (PSnd v w) := by simp [mR28]
theorem mR28_142 {S : Nat → Prop} {K g : Nat} {b6 br kk k cr : Nat}  {v : Value} {w : World} : mR28 S K g b6 br kk k cr 142 v w = (PGs S 140 6 1 v w) := by simp [mR28]
theorem mR28_143 {S : Nat → Prop} {K g : Nat} {b6 br kk k cr : Nat}  {v : Value} {w : World} : mR28 S K g b6 br kk k cr 143 v w = (PRule S 1 v w) := by simp [mR28]
theorem mR28_144 {S : Nat → Prop} {K g : Nat} {b6 br kk k cr : Nat}  {v : Value} {w : World} : mR28 S K g b6 br kk k cr 144 v w = (PGs S 63 5 1 v w) := by simp [mR28]
theorem mR28_st {S : Nat → Prop} {K g : Nat} {b6 br kk k cr : Nat}  {d : Nat} {v : Value} {w w' : World} (h : mR28 S K g b6 br kk k cr d v w) (u : St (TM K) S g w w') : mR28 S K g b6 br kk k cr d v w' := by
  unfold mR28 at h ⊢
  by_cases h134 : d = 134
  · rw [if_pos h134] at h ⊢
    exact PEq.st h u
  rw [if_neg h134] at h ⊢
  by_cases h135 : d = 135
  · rw [if_pos h135] at h ⊢
    exact PEq.st h u
  rw [if_neg h135] at h ⊢
  by_cases h136 : d = 136
  · rw [if_pos h136] at h ⊢
    exact PEq.st h u
  rw [if_neg h136] at h ⊢
  by_cases h137 : d = 137
  · rw [if_pos h137] at h ⊢
    exact PEq.st h u
  rw [if_neg h137] at h ⊢
  by_cases h138 : d = 138
  · rw [if_pos h138] at h ⊢
    exact PInt.st h u
  rw [if_neg h138] at h ⊢
  by_cases h139 : d = 139
  · rw [if_pos h139] at h ⊢
    exact PEq.st h u
  rw [if_neg h139] at h ⊢
  by_cases h140 : d = 140
  · rw [if_pos h140] at h ⊢
    exact PInt.st h u
  rw [if_neg h140] at h ⊢
  by_cases h141 : d = 141
  · rw [if_pos h141] at h ⊢
    exact PSnd.st h u
  rw [if_neg h141] at h ⊢
  by_cases h142 : d = 142
  · rw [if_pos h142] at h ⊢
    exact PGs.st h u
  rw [if_neg h142] at h ⊢
  by_cases h143 : d = 143
  · rw [if_pos h143] at h ⊢
    exact PRule.st h u
  rw [if_neg h143] at h ⊢
  by_cases h144 : d = 144
  · rw [if_pos h144] at h ⊢
    exact PGs.st h u
  rw [if_neg h144] at h ⊢
  exact trivial
end Go.Proofs.Ytakmlfgkppekoaa

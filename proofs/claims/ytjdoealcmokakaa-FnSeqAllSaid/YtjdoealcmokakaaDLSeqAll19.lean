/-
  Sorted permutations of events, in one sentence: there is but one; and a slice of these events in a block of the call's own; no condition is made.
  Heaps of events as rows, in one sentence: the first is least, a sorted row is one, and moving up or down mends what one event disturbs; no condition is made.
  Lists of events in a block of the call's own with one event written, in one sentence: the list with that event set, or two changed places; no condition is made.
  What the implementation's EvtLess returns, in one sentence: whether the first field that differs is less; for every two events.
  What the methods Len, Less and Swap of pendingHeap do, in one sentence: the number, the comparison, two events change places; for every list of events in a block of the call's own.
  What Swap of pendingHeap does with one place alone, in one sentence: nothing is changed; for every list of events in a block of the call's own.
  pendingHeap's methods found by its interface, in one sentence: which function, and which value it is called with; for every pointer to a slice.
  What container/heap's up does, in one sentence: a heap but for one event that is too small becomes a heap, none is lost; for every list of events in a block of the call's own.
-/
import Derived.BigRegion
import Derived.ChangeAlike
import Derived.RegionTactic
import Derived.Test.YtjdoealcmokakaaDLSeqAll01
import Derived.Test.YtjdoealcmokakaaDLSeqAll18
namespace Go.Proofs.Ytjdoealcmokakaa
set_option maxRecDepth 100000
open Go.RowKit
theorem ins_perm (e : Evt) : ∀ l : List Evt, (ins e l).Perm (e :: l)
  | [] => List.Perm.refl _
  | x :: r => by
    rw [ins]
    split
    · exact List.Perm.refl _
    · exact ((ins_perm e r).cons x).trans (List.Perm.swap e x r)
theorem rise_pairwise : ∀ l : List Evt, riseB l = true → l.Pairwise leE
  | [], _ => List.Pairwise.nil
  | [a], _ => List.pairwise_singleton _ _
  | a :: b :: r, h => by
    rw [riseB, Bool.and_eq_true] at h
    have ih := rise_pairwise (b :: r) h.2
    refine List.Pairwise.cons (fun x hx => ?_) ih
    rcases List.mem_cons.1 hx with rfl | hx
    · exact ltE_le h.1
    · exact leE_trans (ltE_le h.1) ((List.pairwise_cons.1 ih).1 x hx)
theorem ins_pairwise (e : Evt) : ∀ l : List Evt, l.Pairwise leE → (ins e l).Pairwise leE
  | [], _ => List.pairwise_singleton _ _
  | x :: r, h => by
    have h2 := List.pairwise_cons.1 h
    rw [ins]
    split
    · rename_i hl
      refine List.Pairwise.cons (fun y hy => ?_) h
      rcases List.mem_cons.1 hy with rfl | hy
      · exact ltE_le hl
      · exact leE_trans (ltE_le hl) (h2.1 y hy)
    · rename_i hl
      refine List.Pairwise.cons (fun y hy => ?_) (ins_pairwise e r h2.2)
      rcases List.mem_cons.1 ((ins_perm e r).mem_iff.1 hy) with rfl | hy
      · exact Bool.eq_false_iff.2 hl
      · exact h2.1 y hy
theorem sortF_pairwise {F : Nat → Evt} {N : Nat} (h : SortF F 0 N) : ((List.range N).map F).Pairwise leE := by
  rw [List.pairwise_iff_getElem]; intro i j hi hj hij; simp only [List.length_map, List.length_range] at hi hj; simp only [List.getElem_map, List.getElem_range]
  exact h.le' (Nat.zero_le _) (by omega) hj
theorem range_getD (es : List Evt) : (List.range es.length).map (fun i => es.getD i default) = es := by
  apply List.ext_getElem
  · simp
  · intro i h1 h2
    simp [h2]
end Go.Proofs.Ytjdoealcmokakaa

namespace Go.Proofs.Ytjdoealcmokakaa
set_option maxRecDepth 100000
open Go.RowKit
/-- No event is less than the one at half its place. -/
def HeapF (F : Nat → Evt) (n : Nat) : Prop := ∀ i, 0 < i → i < n → leE (F ((i - 1) / 2)) (F i)
theorem HeapF.min {F : Nat → Evt} {n : Nat} (h : HeapF F n) : ∀ d i, i ≤ d → i < n → leE (F 0) (F i)
  | 0, i, hd, _ => by
    obtain rfl : i = 0 := by omega
    exact leE_refl _
  | d + 1, i, hd, hi => by
    by_cases h0 : i = 0
    · subst h0
      exact leE_refl _
    · exact leE_trans (HeapF.min h d ((i - 1) / 2) (by omega) (by omega)) (h i (by omega) hi)
theorem swp_l (f : Nat → Evt) (i j : Nat) : swp f i j i = f j := by simp [swp]
theorem swp_r (f : Nat → Evt) (i j : Nat) : swp f i j j = f i := by
  unfold swp
  split
  · rename_i h; rw [h]
  · rw [if_pos rfl]
theorem swp_o (f : Nat → Evt) {i j k : Nat} (h1 : k ≠ i) (h2 : k ≠ j) : swp f i j k = f k := by
  unfold swp; rw [if_neg h1, if_neg h2]
/-- A heap but for the event at j, which may be too small. -/
structure UpF (F : Nat → Evt) (n j : Nat) : Prop where
  pairs : ∀ i, 0 < i → i < n → i ≠ j → leE (F ((i - 1) / 2)) (F i)
  over : 0 < j → ∀ i, 0 < i → i < n → (i - 1) / 2 = j → leE (F ((j - 1) / 2)) (F i)
theorem UpF.start {F : Nat → Evt} {n : Nat} (h : HeapF F n) : UpF F (n + 1) n := ⟨fun i h0 hi hne => h i h0 (by omega), fun _ i _ hi hp => by omega⟩
theorem UpF.stop {F : Nat → Evt} {n j : Nat} (h : UpF F n j) (hs : 0 < j → leE (F ((j - 1) / 2)) (F j)) : HeapF F n := fun i h0 hi => by
  by_cases e : i = j
  · subst e
    exact hs h0
  · exact h.pairs i h0 hi e
theorem UpF.step {F : Nat → Evt} {n j p : Nat} (h : UpF F n j) (hp : p = (j - 1) / 2) (hj : 0 < j) (hn : j < n) (hl : ltE (F j) (F p) = true) : UpF (swp F p j) n p := by
  have hlt : p < j := by omega
  refine ⟨fun i h0 hi hne => ?_, fun h0 i hi0 hi hpi => ?_⟩
  · by_cases e : i = j
    · subst e
      rw [← hp, swp_l, swp_r]
      exact ltE_le hl
    · rw [swp_o F hne e]
      by_cases e1 : (i - 1) / 2 = j
      · rw [e1, swp_r]
        have := h.over hj i h0 hi e1
        rwa [← hp] at this
      · by_cases e2 : (i - 1) / 2 = p
        · rw [e2, swp_l]
          have := h.pairs i h0 hi e
          rw [e2] at this
          exact leE_trans (ltE_le hl) this
        · rw [swp_o F e2 e1]
          exact h.pairs i h0 hi e
  · have hpp : leE (F ((p - 1) / 2)) (F p) := h.pairs p h0 (by omega) (by omega)
    rw [swp_o F (show (p - 1) / 2 ≠ p by omega) (show (p - 1) / 2 ≠ j by omega)]
    by_cases e : i = j
    · subst e
      rw [swp_r]
      exact hpp
    · rw [swp_o F (show i ≠ p by omega) e]
      have := h.pairs i hi0 hi e
      rw [hpi] at this
      exact leE_trans hpp this
/-- A heap but for the event at i, which may be too great. -/
structure DownF (F : Nat → Evt) (n i : Nat) : Prop where
  pairs : ∀ k, 0 < k → k < n → (k - 1) / 2 ≠ i → leE (F ((k - 1) / 2)) (F k)
  over : 0 < i → ∀ k, 0 < k → k < n → (k - 1) / 2 = i → leE (F ((i - 1) / 2)) (F k)
theorem DownF.start {F : Nat → Evt} {n : Nat} (h : HeapF F (n + 1)) : DownF (swp F 0 n) n 0 :=
  ⟨fun k h0 hk hne => by
    rw [swp_o F hne (show (k - 1) / 2 ≠ n by omega), swp_o F (show k ≠ 0 by omega) (show k ≠ n by omega)]
    exact h k h0 (by omega), fun h => absurd h (by omega)⟩
theorem DownF.stop {F : Nat → Evt} {n i : Nat} (h : DownF F n i) (hs : ∀ k, 0 < k → k < n → (k - 1) / 2 = i → leE (F i) (F k)) : HeapF F n := fun k h0 hk => by
  by_cases e : (k - 1) / 2 = i
  · rw [e]
    exact hs k h0 hk e
  · exact h.pairs k h0 hk e
theorem DownF.step {F : Nat → Evt} {n i j : Nat} (h : DownF F n i) (h0 : 0 < j) (hn : j < n) (hp : (j - 1) / 2 = i) (hl : ltE (F j) (F i) = true) (hm : ∀ k, 0 < k → k < n → (k - 1) / 2 = i → leE (F j) (F k)) : DownF (swp F i j) n j := by
  have hlt : i < j := by omega
  refine ⟨fun k k0 hk hne => ?_, fun _ k k0 hk hpk => ?_⟩
  · by_cases e : (k - 1) / 2 = i
    · rw [e, swp_l]
      by_cases e1 : k = j
      · subst e1
        rw [swp_r]
        exact ltE_le hl
      · rw [swp_o F (show k ≠ i by omega) e1]
        exact hm k k0 hk e
    · rw [swp_o F e hne]
      by_cases e2 : k = i
      · subst e2
        rw [swp_l]
        exact h.over k0 j h0 hn hp
      · have e3 : k ≠ j := fun e3 => e (by rw [e3]; exact hp)
        rw [swp_o F e2 e3]
        exact h.pairs k k0 hk e
  · rw [hp, swp_l, swp_o F (show k ≠ i by omega) (show k ≠ j by omega)]
    have := h.pairs k k0 hk (by omega)
    rwa [hpk] at this
end Go.Proofs.Ytjdoealcmokakaa

namespace Go.Proofs.Ytjdoealcmokakaa
set_option maxRecDepth 100000
open Go.RowKit
theorem heap_setC (w : World) (b o : Nat) (u : Value) {arr : Array Value} {e : Nat} {fz : Nat × Nat} (ha : w.heap[b]? = some (.cells arr e fz)) :
    (w.setCell ⟨b, o, none⟩ u).heap[b]? = some (.cells (arr.setIfInBounds o u) e fz) := by
  unfold World.setCell; simp [Array.getElem?_modify, ha]
theorem putEv_blk {w : World} {g o t : Nat} {e : Evt} {cur : Array Value} (h : w.heap[g]? = some (.cells cur t (0, 0))) : ∃ cur', (putEv w g o e).heap[g]? = some (.cells cur' t (0, 0)) ∧ cur'.size = cur.size := by
  unfold putEv
  exact ⟨_, heap_setC _ _ _ _ (heap_setC _ _ _ _ (heap_setC _ _ _ _ (heap_setC _ _ _ _ (heap_setC _ _ _ _ (heap_setC _ _ _ _ h))))), by simp⟩
/-- A row out of its cells. -/
theorem own_of_row {w : World} {lo g n c : Nat} {cur : Array Value} {es : List Evt} (hl : es.length = n) (hg : lo ≤ g) (hc : n ≤ c) (hm : c ≤ maxLen) (hs : cur.size = c * 6) (hb : w.heap[g]? = some (.cells cur 39 (0, 0)))
    (hr : ∀ i, i < n → EvAt w g (i * 6) (es.getD i default)) : w.ownsRow lo 39 6 (.slice (some ⟨g, 0, none⟩) n c) n (flat es) := by
  refine ⟨by rw [flat_len, hl], .inr ⟨g, c, cur, rfl, hg, hb, hc, hm, hs, ?_⟩⟩
  refine List.ext_getElem? fun j => ?_
  by_cases hj : j < n * 6
  · have hi : j / 6 < n := by omega
    have hk : j % 6 < 6 := by omega
    have e6 : j = j / 6 * 6 + j % 6 := by omega
    rw [List.getElem?_take_of_lt hj]
    have hcell : w.cell? ⟨g, j, none⟩ = cur[j]? := cell_of_row _ _ j _ _ _ hb
    have hfl : (flat es)[j]? = (es.getD (j / 6) default).c6[j % 6]? := by
      conv => lhs; rw [e6]
      exact flat_get es _ _ (by omega) hk
    rw [hfl, Array.getElem?_toList, ← hcell]
    have ha := hr (j / 6) hi
    generalize es.getD (j / 6) default = e at ha
    obtain ⟨h0, h1, h2, h3, h4, h5⟩ := ha
    have h6 : j % 6 = 0 ∨ j % 6 = 1 ∨ j % 6 = 2 ∨ j % 6 = 3 ∨ j % 6 = 4 ∨ j % 6 = 5 := by omega
    rcases h6 with h | h | h | h | h | h <;> rw [h]
    · rw [show j = j / 6 * 6 by omega]; exact h0
    · rw [show j = j / 6 * 6 + 1 by omega]; exact h1
    · rw [show j = j / 6 * 6 + 2 by omega]; exact h2
    · rw [show j = j / 6 * 6 + 3 by omega]; exact h3
    · rw [show j = j / 6 * 6 + 4 by omega]; exact h4
    · rw [show j = j / 6 * 6 + 5 by omega]; exact h5
  · rw [List.getElem?_eq_none (by simp; omega), List.getElem?_eq_none (by rw [flat_len]; omega)]
/-- A list of events in a block of the call's own, that may be changed. -/
structure Hp (w : World) (lo g n c : Nat) (f : Nat → Evt) : Prop where
  row : Row w g n f
  lo : lo ≤ g
  len : n ≤ c
  max : c ≤ maxLen
  blk : ∃ cur, w.heap[g]? = some (.cells cur 39 (0, 0)) ∧ cur.size = c * 6
theorem Hp.put {w : World} {lo g n c k : Nat} {f : Nat → Evt} {e : Evt} (h : Hp w lo g n c f) (hk : k < n) : Hp (putEv w g (k * 6) e) lo g n c (fun i => if i = k then e else f i) := by
  obtain ⟨cur, hb, hs⟩ := h.blk; obtain ⟨cur', hb', hs'⟩ := putEv_blk (o := k * 6) (e := e) hb
  exact ⟨h.row.put hk, h.lo, h.len, h.max, cur', hb', by rw [hs', hs]⟩
theorem Hp.as_ {w : World} {lo g n c : Nat} {f f' : Nat → Evt} (h : Hp w lo g n c f) (e : ∀ i, i < n → f i = f' i) : Hp w lo g n c f' := ⟨h.row.as_ e, h.lo, h.len, h.max, h.blk⟩
theorem Hp.up {w w' : World} {lo g n c : Nat} {f : Nat → Evt} (h : Hp w lo g n c f) (u : Up w w') : Hp w' lo g n c f :=
  ⟨h.row.up u, h.lo, h.len, h.max, by obtain ⟨cur, hb, hs⟩ := h.blk; exact ⟨cur, (u.below.block g h.row.1).trans hb, hs⟩⟩
theorem Hp.mv {w w' : World} {lo g n c b : Nat} {f : Nat → Evt} (h : Hp w lo g n c f) (m : Mv b w w') (hb : g ≠ b) : Hp w' lo g n c f := by
  obtain ⟨cur, hb', hs⟩ := h.blk; refine ⟨⟨Nat.lt_of_lt_of_le h.row.1 m.size, fun i hi => ?_, fun j hj => ?_⟩, h.lo, h.len, h.max, cur, (m.block g h.row.1 hb).trans hb', hs⟩
  · obtain ⟨h0, h1, h2, h3, h4, h5⟩ := h.row.2.1 i hi
    exact ⟨(m.cells _ _ h.row.1 hb).trans h0, (m.cells _ _ h.row.1 hb).trans h1, (m.cells _ _ h.row.1 hb).trans h2, (m.cells _ _ h.row.1 hb).trans h3, (m.cells _ _ h.row.1 hb).trans h4, (m.cells _ _ h.row.1 hb).trans h5⟩
  · unfold World.frozen?
    rw [m.block g h.row.1 hb]
    exact h.row.2.2 j hj
theorem Hp.less {w : World} {lo g n m c : Nat} {f : Nat → Evt} (h : Hp w lo g n c f) (hm : m ≤ n) : Hp w lo g m c f :=
  ⟨⟨h.row.1, fun i hi => h.row.2.1 i (by omega), fun j hj => h.row.2.2 j (by omega)⟩, h.lo, by have := h.len; omega, h.max, h.blk⟩
theorem Hp.own {w : World} {lo g n c : Nat} {f : Nat → Evt} (h : Hp w lo g n c f) : w.ownsRow lo 39 6 (.slice (some ⟨g, 0, none⟩) n c) n (flat ((List.range n).map f)) := by
  obtain ⟨cur, hb, hs⟩ := h.blk
  refine own_of_row (by simp) h.lo h.len h.max hs hb fun i hi => ?_
  have : ((List.range n).map f).getD i default = f i := by simp [List.getD, hi]
  rw [this]
  exact h.row.2.1 i hi
theorem Hp.of_own {w : World} {lo g n c : Nat} {es : List Evt} (h : w.ownsRow lo 39 6 (.slice (some ⟨g, 0, none⟩) n c) n (flat es)) (hn : 0 < n) : Hp w lo g n c (fun i => es.getD i default) := by
  have hr := Row.of_own h hn
  obtain ⟨_, h2⟩ := h
  rcases h2 with ⟨_, h0⟩ | ⟨g', cap, cur, hv, hg, hb, hc, hm, hs, _⟩
  · omega
  · injection hv with hA _ hcap
    injection hA with hA
    injection hA with hA _ _
    subst hA hcap
    exact ⟨hr, hg, hc, hm, cur, hb, hs⟩
/-- The two events change places. -/
theorem Hp.swp {w' : World} {lo g n c i j : Nat} {f : Nat → Evt} (h : Hp w' lo g n c (fun k => if k = j then f i else if k = i then f j else f k)) : Hp w' lo g n c (Go.Proofs.Ytjdoealcmokakaa.swp f i j) :=
  h.as_ fun k _ => by
    unfold Go.Proofs.Ytjdoealcmokakaa.swp
    by_cases h2 : k = j
    · rw [if_pos h2]
      by_cases h1 : k = i
      · rw [if_pos h1, ← h1, ← h2]
      · rw [if_neg h1, if_pos h2]
    · rw [if_neg h2]
      by_cases h1 : k = i
      · rw [if_pos h1, if_pos h1]
      · rw [if_neg h1, if_neg h1, if_neg h2]
end Go.Proofs.Ytjdoealcmokakaa

namespace Go.Proofs.Ytjdoealcmokakaa
set_option maxRecDepth 100000
open Go.RowKit
theorem implLess_any (a b : Evt) (w : World) : Calls Try.prog 18 #[a.v, b.v] w fun x w' => x = .returned (.bool (ltE a b)) ∧ Up w w' := by
  have c := fun W => cmpE_any a b W
  have hf : ltE a b = decide (cmpE a b < 0) := rfl
  generalize cmpE a b = n at c hf
  obtain ⟨at_, ato, afr, asq, akd, adt⟩ := a; obtain ⟨bt, bto, bfr, bsq, bkd, bdt⟩ := b; unfold Evt.v at c ⊢; dsimp only at c ⊢
  generalize ltE ⟨at_, ato, afr, asq, akd, adt⟩ ⟨bt, bto, bfr, bsq, bkd, bdt⟩ = r at hf ⊢
  have C := Lib.hid c
  have HF := Lib.hid hf
  clear c hf
  go_enter Try.func18, Try.ntmps18
  go_wp2_with fail
  refine (C.out _).mono ?_; rintro x w1 ⟨rfl, u1⟩; go_wp2; go_ret
  exact ⟨ret_bool HF.out.symm, (((Up.refl _).alloc _).alloc _).trans u1⟩
end Go.Proofs.Ytjdoealcmokakaa

namespace Go.Proofs.Ytjdoealcmokakaa
set_option maxRecDepth 100000
open Go.RowKit
theorem hpLen_any (A : Option Addr) (n c : Nat) (w : World) : Calls Try.prog 121 #[.slice A n c] w fun x w' => x = .returned (.int .i64 (n : Int)) ∧ w' = w := by
  go_enter Try.func121, Try.ntmps121
  go_wp2; go_ret
  exact ⟨rfl, rfl⟩
set_option maxHeartbeats 4000000 in
theorem hpLess_any (g n c i j : Nat) (f : Nat → Evt) (w : World) (hR : Row w g n f) (hi : i < n) (hj : j < n) :
    Calls Try.prog 122 #[.slice (some ⟨g, 0, none⟩) n c, .int .i64 (i : Int), .int .i64 (j : Int)] w fun x w' => x = .returned (.bool (ltE (f i) (f j))) ∧ Up w w' := by
  have EX := Lib.hid (hR.2.1 i hi)
  have EY := Lib.hid (hR.2.1 j hj)
  have GL := Lib.hid hR.1
  clear hR
  have CL := Lib.hid (fun W => implLess_any (f i) (f j) W)
  generalize ltE (f i) (f j) = b at CL ⊢
  generalize f i = x at EX CL
  generalize f j = y at EY CL
  obtain ⟨xt, xto, xfr, xsq, xkd, xdt⟩ := x; obtain ⟨yt, yto, yfr, ysq, ykd, ydt⟩ := y; unfold Evt.v at CL; dsimp only at CL
  have l1 : (i : Int) < n := by omega
  have l2 : (j : Int) < n := by omega
  have l3 : (0 : Int) ≤ i := by omega
  have l4 : (0 : Int) ≤ j := by omega
  go_enter Try.func122, Try.ntmps122
  go_wp2_with fail
  refine region_mixH (fun w1 => Up w w1) [(0, true), (1, true), (2, true), (3, true), (4, true), (5, true), (6, true), (7, true), (8, false), (9, true)] (by kernel_rfl) (by kernel_rfl) (Up.refl _).drew ?_; refine mixH_take rfl (by rfl) ?_; apply Exists.intro; refine ⟨fun w1 hS1 => ?_, ?_⟩
  · clear hS1
    go_simp
    try rfl
  go_simp; refine mixH_take rfl (by rfl) ?_; apply Exists.intro; refine ⟨fun w1 hS1 => ?_, ?_⟩
  · clear hS1
    go_simp
    try rfl
  go_simp; refine mixH_take rfl (by rfl) ?_; apply Exists.intro; refine ⟨fun w1 hS1 => ?_, ?_⟩
  · clear hS1
    go_simp
    try rfl
  go_simp; refine mixH_take rfl (by rfl) ?_; apply Exists.intro; refine ⟨fun w1 hS1 => ?_, ?_⟩
  · obtain ⟨p0, p1, p2, p3, p4, p5⟩ := EX.out.up hS1 GL.out
    obtain ⟨q0, q1, q2, q3, q4, q5⟩ := EY.out.up hS1 GL.out
    have lg := Nat.lt_of_lt_of_le GL.out hS1.size
    dsimp only at p0 p1 p2 p3 p4 p5 q0 q1 q2 q3 q4 q5; clear hS1; go_simp
    try rfl
  go_simp; refine mixH_take rfl (by rfl) ?_; apply Exists.intro; refine ⟨fun w1 hS1 => ?_, ?_⟩
  · clear hS1
    go_simp
    try rfl
  go_simp; refine mixH_take rfl (by rfl) ?_; apply Exists.intro; refine ⟨fun w1 hS1 => ?_, ?_⟩
  · clear hS1
    go_simp
    try rfl
  go_simp; refine mixH_take rfl (by rfl) ?_; apply Exists.intro; refine ⟨fun w1 hS1 => ?_, ?_⟩
  · clear hS1
    go_simp
    try rfl
  go_simp; refine mixH_take rfl (by rfl) ?_; apply Exists.intro; refine ⟨fun w1 hS1 => ?_, ?_⟩
  · obtain ⟨p0, p1, p2, p3, p4, p5⟩ := EX.out.up hS1 GL.out
    obtain ⟨q0, q1, q2, q3, q4, q5⟩ := EY.out.up hS1 GL.out
    have lg := Nat.lt_of_lt_of_le GL.out hS1.size
    dsimp only at p0 p1 p2 p3 p4 p5 q0 q1 q2 q3 q4 q5; clear hS1; go_simp
    try rfl
  go_simp; refine mixH_go rfl (by rfl) (fun K hK => ?_); go_simp; refine (CL.out _).mono ?_; rintro x w2 ⟨rfl, u⟩; refine hK _ _ ((Up.refl _).drew.trans u) ?_; clear hK K; go_simp; refine mixH_take rfl (by rfl) ?_; apply Exists.intro; refine ⟨fun w1 hS1 => ?_, ?_⟩
  · clear hS1
    go_simp
    try rfl
  go_simp; refine mixH_nil ?_; go_wp2; go_ret
  exact ⟨rfl, (Up.refl _).drew.trans u⟩
set_option maxHeartbeats 8000000 in
theorem hpSwap_any (g n c i j : Nat) (f : Nat → Evt) (w : World) (lo : Nat) (hR : Hp w lo g n c f) (hij : i < j) (hj : j < n) :
    Calls Try.prog 123 #[.slice (some ⟨g, 0, none⟩) n c, .int .i64 (i : Int), .int .i64 (j : Int)] w fun x w' => x = .returned (.tuple #[]) ∧ Hp w' lo g n c (swp f i j) ∧ Mv g w w' := by
  have HP := Lib.hid hR
  have e1 := hR.row.2.1 i (by omega)
  have e2 := hR.row.2.1 j hj
  have AA := Lib.hid ((hR.put (k := i) (e := f j) (by omega)).put (k := j) (e := f i) hj).swp
  generalize f i = x at e1 AA
  generalize f j = y at e2 AA
  obtain ⟨xt, xto, xfr, xsq, xkd, xdt⟩ := x; obtain ⟨yt, yto, yfr, ysq, ykd, ydt⟩ := y; unfold EvAt at e1 e2; dsimp only at e1 e2; obtain ⟨p0, p1, p2, p3, p4, p5⟩ := e1; obtain ⟨q0, q1, q2, q3, q4, q5⟩ := e2
  have fz := fun o (ho : o < n * 6) => hR.row.2.2 o ho
  have f0 := fz (i * 6) (by omega)
  have g0 := fz (j * 6) (by omega)
  have f1 := fz (i * 6 + 1) (by omega)
  have g1 := fz (j * 6 + 1) (by omega)
  have f2 := fz (i * 6 + 2) (by omega)
  have g2 := fz (j * 6 + 2) (by omega)
  have f3 := fz (i * 6 + 3) (by omega)
  have g3 := fz (j * 6 + 3) (by omega)
  have f4 := fz (i * 6 + 4) (by omega)
  have g4 := fz (j * 6 + 4) (by omega)
  have f5 := fz (i * 6 + 5) (by omega)
  have g5 := fz (j * 6 + 5) (by omega)
  have gl := hR.row.1
  have l1 : (i : Int) < n := by omega
  have l2 : (j : Int) < n := by omega
  have l3 : (0 : Int) ≤ i := by omega
  have l4 : (0 : Int) ≤ j := by omega
  clear fz hR
  have hne : i ≠ j := by omega
  go_enter Try.func123, Try.ntmps123
  go_wp2_with fail
  go_region
  have A2 := (AA.out.up (Up.refl _).drew)
  unfold putEv at A2
  exact bodyPost_end (v := .tuple #[]) (results_none Try.results123 _ _ _) rfl ⟨rfl, A2, (((((((((((((Mv.refl _ _).setCell _).setCell _).setCell _).setCell _).setCell _).setCell _).setCell _).setCell _).setCell _).setCell _).setCell _).setCell _).drew⟩
end Go.Proofs.Ytjdoealcmokakaa

namespace Go.Proofs.Ytjdoealcmokakaa
set_option maxRecDepth 100000
open Go.RowKit
set_option maxHeartbeats 8000000 in
theorem hpSwap_one (g n c i : Nat) (f : Nat → Evt) (w : World) (lo : Nat) (hR : Hp w lo g n c f) (hj : i < n) :
    Calls Try.prog 123 #[.slice (some ⟨g, 0, none⟩) n c, .int .i64 (i : Int), .int .i64 (i : Int)] w fun x w' => x = .returned (.tuple #[]) ∧ Hp w' lo g n c f ∧ Mv g w w' := by
  have e1 := hR.row.2.1 i (by omega)
  have AA := Lib.hid (((hR.put (k := i) (e := f i) (by omega)).put (k := i) (e := f i) hj).as_ (f' := f) (fun k _ => by by_cases h : k = i <;> simp [h]))
  generalize f i = x at e1 AA
  obtain ⟨xt, xto, xfr, xsq, xkd, xdt⟩ := x; unfold EvAt at e1; dsimp only at e1; obtain ⟨p0, p1, p2, p3, p4, p5⟩ := e1
  have fz := fun o (ho : o < n * 6) => hR.row.2.2 o ho
  have f0 := fz (i * 6) (by omega)
  have f1 := fz (i * 6 + 1) (by omega)
  have f2 := fz (i * 6 + 2) (by omega)
  have f3 := fz (i * 6 + 3) (by omega)
  have f4 := fz (i * 6 + 4) (by omega)
  have f5 := fz (i * 6 + 5) (by omega)
  have gl := hR.row.1
  have l1 : (i : Int) < n := by omega
  have l3 : (0 : Int) ≤ i := by omega
  clear fz hR
  go_enter Try.func123, Try.ntmps123
  go_wp2_with fail
  go_region
  have A2 := (AA.out.up (Up.refl _).drew)
  unfold putEv at A2
  exact bodyPost_end (v := .tuple #[]) (results_none Try.results123 _ _ _) rfl ⟨rfl, A2, (((((((((((((Mv.refl _ _).setCell _).setCell _).setCell _).setCell _).setCell _).setCell _).setCell _).setCell _).setCell _).setCell _).setCell _).setCell _).drew⟩
end Go.Proofs.Ytjdoealcmokakaa

namespace Go.Proofs.Ytjdoealcmokakaa
set_option maxRecDepth 100000
open Go.RowKit
theorem run_wrapNil {P : Program} (ts : Array TypeId) (t : TypeId) (a : Addr) (x y : String) (w : World) : (Builtin.ssaWrapNilChk_ ts t #[.pointer (some a), strVal x, strVal y]).run P w = .ok (.pointer (some a)) w := rfl
theorem run_asAddr {P : Program} (a : Addr) (w : World) : (asAddr (.pointer (some a))).run P w = .ok a w := rfl
theorem run_placeGet {P : Program} (t : TypeId) (v : Value) (w : World) : (Place.get t (.val v)).run P w = .ok v w := rfl
theorem meth_len (N p o : Nat) (A : Option Addr) (n c : Nat) (w : World) (h : w.cell? ⟨p, o, none⟩ = some (.slice A n c)) (_hl : p < w.heap.size) :
    (method (N + 1) 107 (.pointer (some ⟨p, o, none⟩)) "Len").run Try.prog w = .ok (121, .slice A n c) w := by
  have hi : ∃ i, ∀ w, (typeInfo 107).run Try.prog w = .ok i w ∧ ∃ m, i.methods.find? (·.name == "Len") = some m ∧ m.path = #[] ∧ m.func = some (121, false) := ⟨_, fun w => ⟨rfl, _, rfl, rfl, rfl⟩⟩
  obtain ⟨i, hi⟩ := hi; obtain ⟨h1, m, h2, h3, h4⟩ := hi w; rw [method]; simp [h1, h2, h3, h4, follow, receiverAt, run_wrapNil, run_asAddr, run_placeGet]; go_simp
theorem meth_less (N p o : Nat) (A : Option Addr) (n c : Nat) (w : World) (h : w.cell? ⟨p, o, none⟩ = some (.slice A n c)) (_hl : p < w.heap.size) :
    (method (N + 1) 107 (.pointer (some ⟨p, o, none⟩)) "Less").run Try.prog w = .ok (122, .slice A n c) w := by
  have hi : ∃ i, ∀ w, (typeInfo 107).run Try.prog w = .ok i w ∧ ∃ m, i.methods.find? (·.name == "Less") = some m ∧ m.path = #[] ∧ m.func = some (122, false) := ⟨_, fun w => ⟨rfl, _, rfl, rfl, rfl⟩⟩
  obtain ⟨i, hi⟩ := hi; obtain ⟨h1, m, h2, h3, h4⟩ := hi w; rw [method]; simp [h1, h2, h3, h4, follow, receiverAt, run_wrapNil, run_asAddr, run_placeGet]; go_simp
theorem meth_swap (N p o : Nat) (A : Option Addr) (n c : Nat) (w : World) (h : w.cell? ⟨p, o, none⟩ = some (.slice A n c)) (_hl : p < w.heap.size) :
    (method (N + 1) 107 (.pointer (some ⟨p, o, none⟩)) "Swap").run Try.prog w = .ok (123, .slice A n c) w := by
  have hi : ∃ i, ∀ w, (typeInfo 107).run Try.prog w = .ok i w ∧ ∃ m, i.methods.find? (·.name == "Swap") = some m ∧ m.path = #[] ∧ m.func = some (123, false) := ⟨_, fun w => ⟨rfl, _, rfl, rfl, rfl⟩⟩
  obtain ⟨i, hi⟩ := hi; obtain ⟨h1, m, h2, h3, h4⟩ := hi w; rw [method]; simp [h1, h2, h3, h4, follow, receiverAt, run_wrapNil, run_asAddr, run_placeGet]; go_simp
theorem meth_pop (N p o : Nat) (w : World) :
    (method (N + 1) 107 (.pointer (some ⟨p, o, none⟩)) "Pop").run Try.prog w = .ok (124, .pointer (some ⟨p, o, none⟩)) w := by
  have hi : ∃ i, ∀ w, (typeInfo 107).run Try.prog w = .ok i w ∧ ∃ m, i.methods.find? (·.name == "Pop") = some m ∧ m.path = #[] ∧ m.func = some (124, true) := ⟨_, fun w => ⟨rfl, _, rfl, rfl, rfl⟩⟩
  obtain ⟨i, hi⟩ := hi; obtain ⟨h1, m, h2, h3, h4⟩ := hi w; rw [method]; simp [h1, h2, h3, h4, follow, receiverAt, run_placeGet]
theorem meth_push (N p o : Nat) (w : World) :
    (method (N + 1) 107 (.pointer (some ⟨p, o, none⟩)) "Push").run Try.prog w = .ok (125, .pointer (some ⟨p, o, none⟩)) w := by
  have hi : ∃ i, ∀ w, (typeInfo 107).run Try.prog w = .ok i w ∧ ∃ m, i.methods.find? (·.name == "Push") = some m ∧ m.path = #[] ∧ m.func = some (125, true) := ⟨_, fun w => ⟨rfl, _, rfl, rfl, rfl⟩⟩
  obtain ⟨i, hi⟩ := hi; obtain ⟨h1, m, h2, h3, h4⟩ := hi w; rw [method]; simp [h1, h2, h3, h4, follow, receiverAt, run_placeGet]
end Go.Proofs.Ytjdoealcmokakaa

namespace Go.Proofs.Ytjdoealcmokakaa
set_option maxRecDepth 100000
open Go.RowKit
set_option maxHeartbeats 8000000 in
theorem hpUp_any (lo p o g n c j : Nat) (f : Nat → Evt) (w : World) (hR : Hp w lo g n c f) (hp : p ≠ g) (hc : w.cell? ⟨p, o, none⟩ = some (.slice (some ⟨g, 0, none⟩) n c)) (hl : p < w.heap.size) (hj : j < n) (hn : n ≤ 2000000) (hU : UpF f n j) :
    Calls Try.prog 92 #[.iface 107 (.pointer (some ⟨p, o, none⟩)), .int .i64 (j : Int)] w fun x w' => x = .returned (.tuple #[]) ∧ (∃ F, Hp w' lo g n c F ∧ Arr f F 0 n n ∧ HeapF F n) ∧ Mv g w w' := by
  have HR := Lib.hid hR
  have HU := Lib.hid hU
  clear hR hU
  go_enter Try.func92, Try.ntmps92
  go_wp2_with fail
  go_loopw [1] (fun v wr => (∃ (k : Nat) (F : Nat → Evt), v = .int .i64 (k : Int) ∧ k < n ∧ Hid (Hp wr lo g n c F) ∧ Hid (Arr f F 0 n n) ∧ Hid (UpF F n k)) ∧ Mv g w wr) (fun v _ => (intOf v).toNat)
  case atStart => exact ⟨⟨j, f, rfl, hj, HR, Lib.hid (Arr.refl _ _ _ _), HU⟩, Mv.refl _ _⟩
  case round =>
    obtain ⟨⟨k, F, rfl, hk, HF, HA, HK⟩, mv⟩ := hrel
    have MV := Lib.hid mv
    have hcr : wr.cell? ⟨p, o, none⟩ = some (.slice (some ⟨g, 0, none⟩) n c) := (mv.cells _ _ hl hp).trans hc
    have hlr : p < wr.heap.size := Nat.lt_of_lt_of_le hl mv.size
    clear mv
    have ML := fun N => meth_less N p o _ n c wr hcr hlr
    by_cases h0 : k = 0
    · subst h0
      have SX := Lib.hid (HK.out.stop (fun h => absurd h (by omega)))
      go_wp2
      exact bodyPost_end (v := .tuple #[]) (results_none Try.results92 _ _ _) rfl ⟨rfl, ⟨F, HF.out, HA.out, SX.out⟩, MV.out⟩
    · obtain ⟨i, hi, hik⟩ : ∃ i : Nat, i = (k - 1) / 2 ∧ i < k := ⟨(k - 1) / 2, rfl, by omega⟩
      have w1 : IntKind.i64.wrap ((k : Int) - 1) = ((k - 1 : Nat) : Int) := by rw [show ((k - 1 : Nat) : Int) = (k : Int) - 1 by omega]; exact IntWalk.i64_in _ (by omega)
      have d1 : Int.tdiv ((k - 1 : Nat) : Int) 2 = (i : Int) := by rw [Int.tdiv_eq_ediv_of_nonneg (by omega)]; omega
      have w2 : IntKind.i64.wrap (i : Int) = i := IntWalk.i64_in _ (by omega)
      have HI := Lib.hid hi
      have D2 := Lib.hid (show ((k - 1 : Nat) : Int) / 2 = (i : Int) by omega)
      clear hi
      have ne : ((i : Int) == (k : Int)) = false := by simp; omega
      have CL := Lib.hid (fun W (u : Up wr W) => hpLess_any g n c k i F W (HF.out.row.up u) hk (by omega))
      generalize hb : ltE (F k) (F i) = b at CL
      have HB := Lib.hid hb
      clear hb
      go_wp2_with fail
      try rw [D2.out]
      refine (CL.out _ (Up.refl _)).mono ?_; rintro x w3 ⟨rfl, u3⟩
      have HF3 := Lib.hid (HF.out.up u3)
      have MV3 := Lib.hid (MV.out.trans (u3.mv g))
      have hc3 : w3.cell? ⟨p, o, none⟩ = some (.slice (some ⟨g, 0, none⟩) n c) := (u3.cells _ _ hlr).trans hcr
      have hl3 : p < w3.heap.size := Nat.lt_of_lt_of_le hlr u3.size
      clear u3 hcr hlr ML CL
      have MS := fun N => meth_swap N p o _ n c w3 hc3 hl3
      cases b
      · have SX := Lib.hid (HK.out.stop (fun _ => by rw [← HI.out]; exact HB.out))
        go_wp2
        exact bodyPost_end (v := .tuple #[]) (results_none Try.results92 _ _ _) rfl ⟨rfl, ⟨F, HF3.out, HA.out, SX.out⟩, MV3.out⟩
      · have SX := Lib.hid (HK.out.step HI.out (by omega) hk HB.out)
        have AX := Lib.hid (HA.out.trans (swp_arr F (i := i) (j := k) (a := 0) (b := n) (N := n) hik (by omega) (by omega) (by omega)))
        go_wp2_with fail
        refine (hpSwap_any g n c i k F w3 lo HF3.out hik hk).mono ?_; rintro x w4 ⟨rfl, h4, m4⟩
        have H4 := Lib.hid h4
        have M4 := Lib.hid (MV3.out.trans m4)
        clear h4 m4; go_wp2
        go_roundw
        case rel => exact ⟨⟨i, swp F i k, by first | rfl | go_num, by omega, H4, AX, SX⟩, M4.out⟩
        case measure => (simp [intOf]; try omega)
end Go.Proofs.Ytjdoealcmokakaa

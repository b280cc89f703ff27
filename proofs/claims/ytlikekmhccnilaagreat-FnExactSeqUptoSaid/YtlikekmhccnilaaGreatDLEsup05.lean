/-
  Lists of events in a block of the call's own with one event written, in one sentence: the list with that event set, or two changed places; no condition is made.
  What the implementation's EvtLess returns, in one sentence: whether the first field that differs is less; for every two events.
  A region that draws its order and whose effects are forced into one order, in one sentence: one walk in the order of the text serves every order, where each operation yields in every world or is the only one that may come up.
  A region that draws its order and whose effects are forced into one order, in one sentence: as region_mix, and what only reads may come up where a chosen condition on the world holds throughout.
  What the methods Len, Less and Swap of pendingHeap do, in one sentence: the number, the comparison, two events change places; for every list of events in a block of the call's own.
  What Swap of pendingHeap does with one place alone, in one sentence: nothing is changed; for every list of events in a block of the call's own.
  pendingHeap's methods found by its interface, in one sentence: which function, and which value it is called with; for every pointer to a slice.
  What container/heap's up does, in one sentence: a heap but for one event that is too small becomes a heap, none is lost; for every list of events in a block of the call's own.
-/
import Derived.BigRegion
import Derived.ChangeAlike
import Derived.Deep.RegionHeld3
import Derived.OrdersHeld
import Derived.RegionTactic
import Derived.Test.YtlikekmhccnilaaGreatDLEsup01
import Derived.Test.YtlikekmhccnilaaGreatDLEsup04
namespace Go.Proofs.YtlikekmhccnilaaGreat
set_option maxRecDepth 100000
open Go.RowKit
theorem heap_setC (w : World) (b o : Nat) (u : Value) {arr : Array Value} {e : Nat} {fz : Nat × Nat} (ha : w.heap[b]? = some (.cells arr e fz)) :
    (w.setCell ⟨b, o, none⟩ u).heap[b]? = some (.cells (arr.setIfInBounds o u) e fz) := by
  unfold World.setCell; simp [Array.getElem?_modify, ha]
theorem putEv_blk {w : World} {g o t : Nat} {e : Evt} {cur : Array Value} (h : w.heap[g]? = some (.cells cur t (0, 0))) : ∃ cur', (putEv w g o e).heap[g]? = some (.cells cur' t (0, 0)) ∧ cur'.size = cur.size := by
  unfold putEv
  exact ⟨_, heap_setC _ _ _ _ (heap_setC _ _ _ _ (heap_setC _ _ _ _ (heap_setC _ _ _ _ (heap_setC _ _ _ _ (heap_setC _ _ _ _ h))))), by simp⟩
/-- A row out of its cells. -/
theorem own_of_row {w : World} {lo g n c : Nat} {cur : Array Value} {es : List Evt} (hl : es.length = n) (hg : lo ≤ g) (hc : n ≤ c) (hm : c ≤ maxLen) (hs : cur.size = c * 6) (hb : w.heap[g]? = some (.cells cur 130 (0, 0)))
    (hr : ∀ i, i < n → EvAt w g (i * 6) (es.getD i default)) : w.ownsRow lo 130 6 (.slice (some ⟨g, 0, none⟩) n c) n (flat es) := by
  refine ⟨by rw [flat_len, hl], .inr ⟨g, c, cur, rfl, hg, hb, hc, hm, hs, ?_⟩⟩
  refine List.ext_getElem? fun j => ?_
  by_cases hj : j < n * 6
  · have hi : j / 6 < n := by omega
    have hk : j % 6 < 6 := by omega
    have e6 : j = j / 6 * 6 + j % 6 := by omega
    rw [List.getElem?_take_of_lt hj]
    have hcell : w.cell? ⟨g, j, none⟩ = cur[j]? := cell_of_row _ _ j _ _ _ hb
    have hfl : (flat es)[j]? = (es.getD (j / 6) default).c6[j % 6]? := by
      conv => lhs; rw [e6]
      exact flat_get es _ _ (by omega) hk
    rw [hfl, Array.getElem?_toList, ← hcell]
    have ha := hr (j / 6) hi
    generalize es.getD (j / 6) default = e at ha
    obtain ⟨h0, h1, h2, h3, h4, h5⟩ := ha
    have h6 : j % 6 = 0 ∨ j % 6 = 1 ∨ j % 6 = 2 ∨ j % 6 = 3 ∨ j % 6 = 4 ∨ j % 6 = 5 := by omega
    rcases h6 with h | h | h | h | h | h <;> rw [h]
    · rw [show j = j / 6 * 6 by omega]; exact h0
    · rw [show j = j / 6 * 6 + 1 by omega]; exact h1
    · rw [show j = j / 6 * 6 + 2 by omega]; exact h2
    · rw [show j = j / 6 * 6 + 3 by omega]; exact h3
    · rw [show j = j / 6 * 6 + 4 by omega]; exact h4
    · rw [show j = j / 6 * 6 + 5 by omega]; exact h5
  · rw [List.getElem?_eq_none (by simp; omega), List.getElem?_eq_none (by rw [flat_len]; omega)]
/-- A list of events in a block of the call's own, that may be changed. -/
structure Hp (w : World) (lo g n c : Nat) (f : Nat → Evt) : Prop where
  row : Row w g n f
  lo : lo ≤ g
  len : n ≤ c
  max : c ≤ maxLen
  blk : ∃ cur, w.heap[g]? = some (.cells cur 130 (0, 0)) ∧ cur.size = c * 6
theorem Hp.put {w : World} {lo g n c k : Nat} {f : Nat → Evt} {e : Evt} (h : Hp w lo g n c f) (hk : k < n) : Hp (putEv w g (k * 6) e) lo g n c (fun i => if i = k then e else f i) := by
  obtain ⟨cur, hb, hs⟩ := h.blk; obtain ⟨cur', hb', hs'⟩ := putEv_blk (o := k * 6) (e := e) hb
  exact ⟨h.row.put hk, h.lo, h.len, h.max, cur', hb', by rw [hs', hs]⟩
theorem Hp.as_ {w : World} {lo g n c : Nat} {f f' : Nat → Evt} (h : Hp w lo g n c f) (e : ∀ i, i < n → f i = f' i) : Hp w lo g n c f' := ⟨h.row.as_ e, h.lo, h.len, h.max, h.blk⟩
theorem Hp.up {w w' : World} {lo g n c : Nat} {f : Nat → Evt} (h : Hp w lo g n c f) (u : Up w w') : Hp w' lo g n c f :=
  ⟨h.row.up u, h.lo, h.len, h.max, by obtain ⟨cur, hb, hs⟩ := h.blk; exact ⟨cur, (u.below.block g h.row.1).trans hb, hs⟩⟩
theorem Hp.mv {w w' : World} {lo g n c b : Nat} {f : Nat → Evt} (h : Hp w lo g n c f) (m : Mv b w w') (hb : g ≠ b) : Hp w' lo g n c f := by
  obtain ⟨cur, hb', hs⟩ := h.blk; refine ⟨⟨Nat.lt_of_lt_of_le h.row.1 m.size, fun i hi => ?_, fun j hj => ?_⟩, h.lo, h.len, h.max, cur, (m.block g h.row.1 hb).trans hb', hs⟩
  · obtain ⟨h0, h1, h2, h3, h4, h5⟩ := h.row.2.1 i hi
    exact ⟨(m.cells _ _ h.row.1 hb).trans h0, (m.cells _ _ h.row.1 hb).trans h1, (m.cells _ _ h.row.1 hb).trans h2, (m.cells _ _ h.row.1 hb).trans h3, (m.cells _ _ h.row.1 hb).trans h4, (m.cells _ _ h.row.1 hb).trans h5⟩
  · unfold World.frozen?
    rw [m.block g h.row.1 hb]
    exact h.row.2.2 j hj
theorem Hp.less {w : World} {lo g n m c : Nat} {f : Nat → Evt} (h : Hp w lo g n c f) (hm : m ≤ n) : Hp w lo g m c f :=
  ⟨⟨h.row.1, fun i hi => h.row.2.1 i (by omega), fun j hj => h.row.2.2 j (by omega)⟩, h.lo, by have := h.len; omega, h.max, h.blk⟩
theorem Hp.own {w : World} {lo g n c : Nat} {f : Nat → Evt} (h : Hp w lo g n c f) : w.ownsRow lo 130 6 (.slice (some ⟨g, 0, none⟩) n c) n (flat ((List.range n).map f)) := by
  obtain ⟨cur, hb, hs⟩ := h.blk
  refine own_of_row (by simp) h.lo h.len h.max hs hb fun i hi => ?_
  have : ((List.range n).map f).getD i default = f i := by simp [List.getD, hi]
  rw [this]
  exact h.row.2.1 i hi
theorem Hp.of_own {w : World} {lo g n c : Nat} {es : List Evt} (h : w.ownsRow lo 130 6 (.slice (some ⟨g, 0, none⟩) n c) n (flat es)) (hn : 0 < n) : Hp w lo g n c (fun i => es.getD i default) := by
  have hr := Row.of_own h hn
  obtain ⟨_, h2⟩ := h
  rcases h2 with ⟨_, h0⟩ | ⟨g', cap, cur, hv, hg, hb, hc, hm, hs, _⟩
  · omega
  · injection hv with hA _ hcap
    injection hA with hA
    injection hA with hA _ _
    subst hA hcap
    exact ⟨hr, hg, hc, hm, cur, hb, hs⟩
/-- The two events change places. -/
theorem Hp.swp {w' : World} {lo g n c i j : Nat} {f : Nat → Evt} (h : Hp w' lo g n c (fun k => if k = j then f i else if k = i then f j else f k)) : Hp w' lo g n c (Go.Proofs.YtlikekmhccnilaaGreat.swp f i j) :=
  h.as_ fun k _ => by
    unfold Go.Proofs.YtlikekmhccnilaaGreat.swp
    by_cases h2 : k = j
    · rw [if_pos h2]
      by_cases h1 : k = i
      · rw [if_pos h1, ← h1, ← h2]
      · rw [if_neg h1, if_pos h2]
    · rw [if_neg h2]
      by_cases h1 : k = i
      · rw [if_pos h1, if_pos h1]
      · rw [if_neg h1, if_neg h1, if_neg h2]
end Go.Proofs.YtlikekmhccnilaaGreat

namespace Go.Proofs.YtlikekmhccnilaaGreat
set_option maxRecDepth 100000
open Go.RowKit
theorem implLess_any (a b : Evt) (w : World) : Calls Tryz.prog 313 #[a.v, b.v] w fun x w' => x = .returned (.bool (ltE a b)) ∧ Up w w' := by
  have c := fun W => cmpE_any a b W
  have hf : ltE a b = decide (cmpE a b < 0) := rfl
  generalize cmpE a b = n at c hf
  obtain ⟨at_, ato, afr, asq, akd, adt⟩ := a; obtain ⟨bt, bto, bfr, bsq, bkd, bdt⟩ := b; unfold Evt.v at c ⊢; dsimp only at c ⊢
  generalize ltE ⟨at_, ato, afr, asq, akd, adt⟩ ⟨bt, bto, bfr, bsq, bkd, bdt⟩ = r at hf ⊢
  have C := Lib.hid c
  have HF := Lib.hid hf
  clear c hf
  go_enter Tryz.func313, Tryz.ntmps313
  go_wp2_with fail
  refine (C.out _).mono ?_; rintro x w1 ⟨rfl, u1⟩; go_wp2; go_ret
  exact ⟨ret_bool HF.out.symm, (((Up.refl _).alloc _).alloc _).trans u1⟩
end Go.Proofs.YtlikekmhccnilaaGreat

namespace Go.Proofs.YtlikekmhccnilaaGreat
set_option maxRecDepth 100000
open Go.RowKit
def mixB (ops : Array Oper) : List (Nat × Bool) → Array Bool → Bool
  | [], listed => (Region.ready .any ops listed).isEmpty
  | (k, true) :: fs, listed => decide (k < ops.size) && (Region.ready .any ops listed).contains k && Region.free .any ops listed k && mixB ops fs (listed.setIfInBounds k true)
  | (k, false) :: fs, listed => decide (k < ops.size) && decide (Region.ready .any ops listed = [k]) && mixB ops fs (listed.setIfInBounds k true)
def wpMix (P : Program) (ops : Array Oper) (Q : Exit → Act → World → Prop) : List (Nat × Bool) → Act → World → Prop
  | (k, true) :: fs, a, w => ∃ o v, ops[k]? = some o ∧ Yields P ops o v a ∧ wpMix P ops Q fs (a.put o.dst v) w
  | (k, false) :: fs, a, w => ∃ o, ops[k]? = some o ∧ if Region.wanted o (yielded ops a.tmps) = true then o.wp P a w (wpMix P ops Q fs) Q else wpMix P ops Q fs (a.put o.dst undef) w
  | [], a, w => Q .normal a w
theorem wpAny_of_mix {P : Program} {ops : Array Oper} {Q : Exit → Act → World → Prop} (hsel : Region.noSelect ops = true) (hQ : ∀ c (a : Act) d v w, Q (.panic c) (a.put d v) w → Q (.panic c) a w) :
    ∀ (fs : List (Nat × Bool)) (listed : Array Bool) (a : Act) (w : World), mixB ops fs listed = true → wpMix P ops Q fs a w → wpAny P .any ops Q fs.length listed a w
  | [], _, _, _, hB, h => ⟨by simpa [mixB] using hB, h⟩
  | (k, true) :: fs, listed, a, w, hB, h => by
    simp only [mixB, Bool.and_eq_true] at hB; obtain ⟨o, v, h0, hy, hn⟩ := h
    exact wpAny_take h0 hsel hB.1.2 hB.1.1.2 (fun c a w => hQ c a _ _ w) hy (wpAny_of_mix hsel hQ fs _ _ _ hB.2 hn)
  | (k, false) :: fs, listed, a, w, hB, h => by
    simp only [mixB, Bool.and_eq_true, decide_eq_true_eq] at hB; obtain ⟨o, h0, h⟩ := h
    refine wpAny_all hB.1.2 (by simp) fun i hi => ?_
    obtain rfl : i = k := by simpa using hi
    refine wpOp_mono (K := wpMix P ops Q fs) (fun a' w' h' => wpAny_of_mix hsel hQ fs _ _ _ hB.2 h') ?_; unfold wpOp; simp only [h0]
    split
    · rename_i hw
      rw [if_pos hw] at h
      exact .inl h
    · rename_i hw
      rw [if_neg hw] at h
      exact h
section
variable {P : Program} {ops : Array Oper} {Q : Exit → Act → World → Prop} {fs : List (Nat × Bool)} {k : Nat} {o : Oper} {a : Act} {w : World}
theorem mix_take (h0 : ops[k]? = some o) (hw : Region.wanted o (yielded ops a.tmps) = true) (h : ∃ v, (∀ w1, (execOp a.eval o).run P w1 = .ok (.value v) w1) ∧ wpMix P ops Q fs (a.put o.dst v) w) : wpMix P ops Q ((k, true) :: fs) a w := by
  obtain ⟨v, hv, hn⟩ := h
  exact ⟨o, v, h0, .inl ⟨hw, hv⟩, hn⟩
theorem mix_go (h0 : ops[k]? = some o) (hw : Region.wanted o (yielded ops a.tmps) = true) (h : ∀ K : Act → World → Prop, (∀ a w, wpMix P ops Q fs a w → K a w) → o.wp P a w K Q) : wpMix P ops Q ((k, false) :: fs) a w := by
  refine ⟨o, h0, ?_⟩; rw [if_pos hw]
  exact h _ fun _ _ h => h
theorem mix_nil (h : Q .normal a w) : wpMix P ops (NoPanic Q) [] a w := h
end
end Go.Proofs.YtlikekmhccnilaaGreat

namespace Go.Proofs.YtlikekmhccnilaaGreat
set_option maxRecDepth 100000
open Go.RowKit
def wpMixH (P : Program) (ops : Array Oper) (Q : Exit → Act → World → Prop) (S : World → Prop) : List (Nat × Bool) → Act → World → Prop
  | (k, true) :: fs, a, w => ∃ o v, ops[k]? = some o ∧ YieldsIf P ops S o v a ∧ wpMixH P ops Q S fs (a.put o.dst v) w
  | (k, false) :: fs, a, w => ∃ o, ops[k]? = some o ∧ if Region.wanted o (yielded ops a.tmps) = true then o.wp P a w (fun a' w' => S w' ∧ wpMixH P ops Q S fs a' w') Q else wpMixH P ops Q S fs (a.put o.dst undef) w
  | [], a, w => Q .normal a w
theorem wpAnyH_of_mix {P : Program} {ops : Array Oper} {Q : Exit → Act → World → Prop} {S : World → Prop} (hsel : Region.noSelect ops = true) (hQ : ∀ c (a : Act) d v w, Q (.panic c) (a.put d v) w → Q (.panic c) a w) :
    ∀ (fs : List (Nat × Bool)) (listed : Array Bool) (a : Act) (w : World), mixB ops fs listed = true → S w → wpMixH P ops Q S fs a w → wpAnyH P .any ops Q S fs.length listed a w
  | [], _, _, _, hB, _, h => ⟨by simpa [mixB] using hB, h⟩
  | (k, true) :: fs, listed, a, w, hB, hS, h => by
    simp only [mixB, Bool.and_eq_true] at hB; obtain ⟨o, v, h0, hy, hn⟩ := h
    exact wpAnyH_take h0 hsel hB.1.2 hB.1.1.2 (fun c a w => hQ c a _ _ w) hy hS (wpAnyH_of_mix hsel hQ fs _ _ _ hB.2 hS hn)
  | (k, false) :: fs, listed, a, w, hB, hS, h => by
    simp only [mixB, Bool.and_eq_true, decide_eq_true_eq] at hB; obtain ⟨o, h0, h⟩ := h
    refine wpAnyH_all hB.1.2 (by simp) fun i hi => ?_
    obtain rfl : i = k := by simpa using hi
    refine wpOp_mono (K := fun a' w' => S w' ∧ wpMixH P ops Q S fs a' w') (fun a' w' h' => ⟨h'.1, wpAnyH_of_mix hsel hQ fs _ _ _ hB.2 h'.1 h'.2⟩) ?_; unfold wpOp; simp only [h0]
    split
    · rename_i hw
      rw [if_pos hw] at h
      exact .inl h
    · rename_i hw
      rw [if_neg hw] at h
      exact ⟨hS, h⟩
/-- What is left to walk, kept shut. -/
@[irreducible] def mWalk (P : Program) (ops : Array Oper) (Q : Exit → Act → World → Prop) (S : World → Prop) (fs : List (Nat × Bool)) (a : Act) (w : World) : Prop := wpMixH P ops Q S fs a w
theorem region_mixH {P : Program} {id : Nat} {Q : Exit → Act → World → Prop} {a : Act} {w : World} {l : List Oper} (S : World → Prop) (fs : List (Nat × Bool)) (hm : P.follows .mixedOrders = true)
    (hB : (Region.noSelect l.toArray && decide (fs.length = l.length) && mixB l.toArray fs (Array.replicate l.toArray.size false)) = true) (hS : S w.drew)
    (h : mWalk P l.toArray (NoPanic Q) S fs a w.drew) : (Code.region id l.toArray true).wp P Q a w := by
  unfold mWalk at h; simp only [Bool.and_eq_true, decide_eq_true_eq] at hB; refine wp_region_noPanic (wp_region_held (S := S) hm ?_)
  have := wpAnyH_of_mix (P := P) (Q := NoPanic Q) hB.1.1 (fun _ _ _ _ _ h => h) fs _ a w.drew hB.2 hS h
  rw [hB.1.2] at this
  simpa using this
section
variable {P : Program} {ops : Array Oper} {Q : Exit → Act → World → Prop} {S : World → Prop} {fs : List (Nat × Bool)} {k : Nat} {o : Oper} {a : Act} {w : World}
theorem mixH_take (h0 : ops[k]? = some o) (hw : Region.wanted o (yielded ops a.tmps) = true) (h : ∃ v, (∀ w1, S w1 → (execOp a.eval o).run P w1 = .ok (.value v) w1) ∧ mWalk P ops Q S fs (a.put o.dst v) w) : mWalk P ops Q S ((k, true) :: fs) a w := by
  unfold mWalk at h ⊢; obtain ⟨v, hv, hn⟩ := h
  exact ⟨o, v, h0, .inl ⟨hw, hv⟩, hn⟩
theorem mixH_go (h0 : ops[k]? = some o) (hw : Region.wanted o (yielded ops a.tmps) = true) (h : ∀ K : Act → World → Prop, (∀ a w, S w → mWalk P ops Q S fs a w → K a w) → o.wp P a w K Q) : mWalk P ops Q S ((k, false) :: fs) a w := by
  unfold mWalk at h ⊢; refine ⟨o, h0, ?_⟩; rw [if_pos hw]
  exact h _ fun _ _ hs h => ⟨hs, h⟩
theorem mixH_nil (h : Q .normal a w) : mWalk P ops (NoPanic Q) S [] a w := by
  unfold mWalk
  exact h
end
end Go.Proofs.YtlikekmhccnilaaGreat

namespace Go.Proofs.YtlikekmhccnilaaGreat
set_option maxRecDepth 100000
open Go.RowKit
theorem hpLen_any (A : Option Addr) (n c : Nat) (w : World) : Calls Tryz.prog 310 #[.slice A n c] w fun x w' => x = .returned (.int .i64 (n : Int)) ∧ w' = w := by
  go_enter Tryz.func310, Tryz.ntmps310
  go_wp2; go_ret
  exact ⟨rfl, rfl⟩
set_option maxHeartbeats 4000000 in
theorem hpLess_any (g n c i j : Nat) (f : Nat → Evt) (w : World) (hR : Row w g n f) (hi : i < n) (hj : j < n) :
    Calls Tryz.prog 311 #[.slice (some ⟨g, 0, none⟩) n c, .int .i64 (i : Int), .int .i64 (j : Int)] w fun x w' => x = .returned (.bool (ltE (f i) (f j))) ∧ Up w w' := by
  have EX := Lib.hid (hR.2.1 i hi)
  have EY := Lib.hid (hR.2.1 j hj)
  have GL := Lib.hid hR.1
  clear hR
  have CL := Lib.hid (fun W => implLess_any (f i) (f j) W)
  generalize ltE (f i) (f j) = b at CL ⊢
  generalize f i = x at EX CL
  generalize f j = y at EY CL
  obtain ⟨xt, xto, xfr, xsq, xkd, xdt⟩ := x; obtain ⟨yt, yto, yfr, ysq, ykd, ydt⟩ := y; unfold Evt.v at CL; dsimp only at CL
  have l1 : (i : Int) < n := by omega
  have l2 : (j : Int) < n := by omega
  have l3 : (0 : Int) ≤ i := by omega
  have l4 : (0 : Int) ≤ j := by omega
  go_enter Tryz.func311, Tryz.ntmps311
  go_wp2_with fail
  refine region_mixH (fun w1 => Up w w1) [(0, true), (1, true), (2, true), (3, true), (4, true), (5, true), (6, true), (7, true), (8, false), (9, true)] (by kernel_rfl) (by kernel_rfl) (Up.refl _).drew ?_; refine mixH_take rfl (by rfl) ?_; apply Exists.intro; refine ⟨fun w1 hS1 => ?_, ?_⟩
  · clear hS1
    go_simp
    try rfl
  go_simp; refine mixH_take rfl (by rfl) ?_; apply Exists.intro; refine ⟨fun w1 hS1 => ?_, ?_⟩
  · clear hS1
    go_simp
    try rfl
  go_simp; refine mixH_take rfl (by rfl) ?_; apply Exists.intro; refine ⟨fun w1 hS1 => ?_, ?_⟩
  · clear hS1
    go_simp
    try rfl
  go_simp; refine mixH_take rfl (by rfl) ?_; apply Exists.intro; refine ⟨fun w1 hS1 => ?_, ?_⟩
  · obtain ⟨p0, p1, p2, p3, p4, p5⟩ := EX.out.up hS1 GL.out
    obtain ⟨q0, q1, q2, q3, q4, q5⟩ := EY.out.up hS1 GL.out
    have lg := Nat.lt_of_lt_of_le GL.out hS1.size
    dsimp only at p0 p1 p2 p3 p4 p5 q0 q1 q2 q3 q4 q5; clear hS1; go_simp
    try rfl
  go_simp; refine mixH_take rfl (by rfl) ?_; apply Exists.intro; refine ⟨fun w1 hS1 => ?_, ?_⟩
  · clear hS1
    go_simp
    try rfl
  go_simp; refine mixH_take rfl (by rfl) ?_; apply Exists.intro; refine ⟨fun w1 hS1 => ?_, ?_⟩
  · clear hS1
    go_simp
    try rfl
  go_simp; refine mixH_take rfl (by rfl) ?_; apply Exists.intro; refine ⟨fun w1 hS1 => ?_, ?_⟩
  · clear hS1
    go_simp
    try rfl
  go_simp; refine mixH_take rfl (by rfl) ?_; apply Exists.intro; refine ⟨fun w1 hS1 => ?_, ?_⟩
  · obtain ⟨p0, p1, p2, p3, p4, p5⟩ := EX.out.up hS1 GL.out
    obtain ⟨q0, q1, q2, q3, q4, q5⟩ := EY.out.up hS1 GL.out
    have lg := Nat.lt_of_lt_of_le GL.out hS1.size
    dsimp only at p0 p1 p2 p3 p4 p5 q0 q1 q2 q3 q4 q5; clear hS1; go_simp
    try rfl
  go_simp; refine mixH_go rfl (by rfl) (fun K hK => ?_); go_simp; refine (CL.out _).mono ?_; rintro x w2 ⟨rfl, u⟩; refine hK _ _ ((Up.refl _).drew.trans u) ?_; clear hK K; go_simp; refine mixH_take rfl (by rfl) ?_; apply Exists.intro; refine ⟨fun w1 hS1 => ?_, ?_⟩
  · clear hS1
    go_simp
    try rfl
  go_simp; refine mixH_nil ?_; go_wp2; go_ret
  exact ⟨rfl, (Up.refl _).drew.trans u⟩
set_option maxHeartbeats 8000000 in
theorem hpSwap_any (g n c i j : Nat) (f : Nat → Evt) (w : World) (lo : Nat) (hR : Hp w lo g n c f) (hij : i < j) (hj : j < n) :
    Calls Tryz.prog 312 #[.slice (some ⟨g, 0, none⟩) n c, .int .i64 (i : Int), .int .i64 (j : Int)] w fun x w' => x = .returned (.tuple #[]) ∧ Hp w' lo g n c (swp f i j) ∧ Mv g w w' := by
  have HP := Lib.hid hR
  have e1 := hR.row.2.1 i (by omega)
  have e2 := hR.row.2.1 j hj
  have AA := Lib.hid ((hR.put (k := i) (e := f j) (by omega)).put (k := j) (e := f i) hj).swp
  generalize f i = x at e1 AA
  generalize f j = y at e2 AA
  obtain ⟨xt, xto, xfr, xsq, xkd, xdt⟩ := x; obtain ⟨yt, yto, yfr, ysq, ykd, ydt⟩ := y; unfold EvAt at e1 e2; dsimp only at e1 e2; obtain ⟨p0, p1, p2, p3, p4, p5⟩ := e1; obtain ⟨q0, q1, q2, q3, q4, q5⟩ := e2
  have fz := fun o (ho : o < n * 6) => hR.row.2.2 o ho
  have f0 := fz (i * 6) (by omega)
  have g0 := fz (j * 6) (by omega)
  have f1 := fz (i * 6 + 1) (by omega)
  have g1 := fz (j * 6 + 1) (by omega)
  have f2 := fz (i * 6 + 2) (by omega)
  have g2 := fz (j * 6 + 2) (by omega)
  have f3 := fz (i * 6 + 3) (by omega)
  have g3 := fz (j * 6 + 3) (by omega)
  have f4 := fz (i * 6 + 4) (by omega)
  have g4 := fz (j * 6 + 4) (by omega)
  have f5 := fz (i * 6 + 5) (by omega)
  have g5 := fz (j * 6 + 5) (by omega)
  have gl := hR.row.1
  have l1 : (i : Int) < n := by omega
  have l2 : (j : Int) < n := by omega
  have l3 : (0 : Int) ≤ i := by omega
  have l4 : (0 : Int) ≤ j := by omega
  clear fz hR
  have hne : i ≠ j := by omega
  go_enter Tryz.func312, Tryz.ntmps312
  go_wp2_with fail
  go_region
  have A2 := (AA.out.up (Up.refl _).drew)
  unfold putEv at A2
  exact bodyPost_end (v := .tuple #[]) (results_none Tryz.results312 _ _ _) rfl ⟨rfl, A2, (((((((((((((Mv.refl _ _).setCell _).setCell _).setCell _).setCell _).setCell _).setCell _).setCell _).setCell _).setCell _).setCell _).setCell _).setCell _).drew⟩
end Go.Proofs.YtlikekmhccnilaaGreat

namespace Go.Proofs.YtlikekmhccnilaaGreat
set_option maxRecDepth 100000
open Go.RowKit
set_option maxHeartbeats 8000000 in
theorem hpSwap_one (g n c i : Nat) (f : Nat → Evt) (w : World) (lo : Nat) (hR : Hp w lo g n c f) (hj : i < n) :
    Calls Tryz.prog 312 #[.slice (some ⟨g, 0, none⟩) n c, .int .i64 (i : Int), .int .i64 (i : Int)] w fun x w' => x = .returned (.tuple #[]) ∧ Hp w' lo g n c f ∧ Mv g w w' := by
  have e1 := hR.row.2.1 i (by omega)
  have AA := Lib.hid (((hR.put (k := i) (e := f i) (by omega)).put (k := i) (e := f i) hj).as_ (f' := f) (fun k _ => by by_cases h : k = i <;> simp [h]))
  generalize f i = x at e1 AA
  obtain ⟨xt, xto, xfr, xsq, xkd, xdt⟩ := x; unfold EvAt at e1; dsimp only at e1; obtain ⟨p0, p1, p2, p3, p4, p5⟩ := e1
  have fz := fun o (ho : o < n * 6) => hR.row.2.2 o ho
  have f0 := fz (i * 6) (by omega)
  have f1 := fz (i * 6 + 1) (by omega)
  have f2 := fz (i * 6 + 2) (by omega)
  have f3 := fz (i * 6 + 3) (by omega)
  have f4 := fz (i * 6 + 4) (by omega)
  have f5 := fz (i * 6 + 5) (by omega)
  have gl := hR.row.1
  have l1 : (i : Int) < n := by omega
  have l3 : (0 : Int) ≤ i := by omega
  clear fz hR
  go_enter Tryz.func312, Tryz.ntmps312
  go_wp2_with fail
  go_region
  have A2 := (AA.out.up (Up.refl _).drew)
  unfold putEv at A2
  exact bodyPost_end (v := .tuple #[]) (results_none Tryz.results312 _ _ _) rfl ⟨rfl, A2, (((((((((((((Mv.refl _ _).setCell _).setCell _).setCell _).setCell _).setCell _).setCell _).setCell _).setCell _).setCell _).setCell _).setCell _).setCell _).drew⟩
end Go.Proofs.YtlikekmhccnilaaGreat

namespace Go.Proofs.YtlikekmhccnilaaGreat
set_option maxRecDepth 100000
open Go.RowKit
theorem run_wrapNil {P : Program} (ts : Array TypeId) (t : TypeId) (a : Addr) (x y : String) (w : World) : (Builtin.ssaWrapNilChk_ ts t #[.pointer (some a), strVal x, strVal y]).run P w = .ok (.pointer (some a)) w := rfl
theorem run_asAddr {P : Program} (a : Addr) (w : World) : (asAddr (.pointer (some a))).run P w = .ok a w := rfl
theorem run_placeGet {P : Program} (t : TypeId) (v : Value) (w : World) : (Place.get t (.val v)).run P w = .ok v w := rfl
theorem meth_len (N p o : Nat) (A : Option Addr) (n c : Nat) (w : World) (h : w.cell? ⟨p, o, none⟩ = some (.slice A n c)) (_hl : p < w.heap.size) :
    (method (N + 1) 226 (.pointer (some ⟨p, o, none⟩)) "Len").run Tryz.prog w = .ok (310, .slice A n c) w := by
  have hi : ∃ i, ∀ w, (typeInfo 226).run Tryz.prog w = .ok i w ∧ ∃ m, i.methods.find? (·.name == "Len") = some m ∧ m.path = #[] ∧ m.func = some (310, false) := ⟨_, fun w => ⟨rfl, _, rfl, rfl, rfl⟩⟩
  obtain ⟨i, hi⟩ := hi; obtain ⟨h1, m, h2, h3, h4⟩ := hi w; rw [method]; simp [h1, h2, h3, h4, follow, receiverAt, run_wrapNil, run_asAddr, run_placeGet]; go_simp
theorem meth_less (N p o : Nat) (A : Option Addr) (n c : Nat) (w : World) (h : w.cell? ⟨p, o, none⟩ = some (.slice A n c)) (_hl : p < w.heap.size) :
    (method (N + 1) 226 (.pointer (some ⟨p, o, none⟩)) "Less").run Tryz.prog w = .ok (311, .slice A n c) w := by
  have hi : ∃ i, ∀ w, (typeInfo 226).run Tryz.prog w = .ok i w ∧ ∃ m, i.methods.find? (·.name == "Less") = some m ∧ m.path = #[] ∧ m.func = some (311, false) := ⟨_, fun w => ⟨rfl, _, rfl, rfl, rfl⟩⟩
  obtain ⟨i, hi⟩ := hi; obtain ⟨h1, m, h2, h3, h4⟩ := hi w; rw [method]; simp [h1, h2, h3, h4, follow, receiverAt, run_wrapNil, run_asAddr, run_placeGet]; go_simp
theorem meth_swap (N p o : Nat) (A : Option Addr) (n c : Nat) (w : World) (h : w.cell? ⟨p, o, none⟩ = some (.slice A n c)) (_hl : p < w.heap.size) :
    (method (N + 1) 226 (.pointer (some ⟨p, o, none⟩)) "Swap").run Tryz.prog w = .ok (312, .slice A n c) w := by
  have hi : ∃ i, ∀ w, (typeInfo 226).run Tryz.prog w = .ok i w ∧ ∃ m, i.methods.find? (·.name == "Swap") = some m ∧ m.path = #[] ∧ m.func = some (312, false) := ⟨_, fun w => ⟨rfl, _, rfl, rfl, rfl⟩⟩
  obtain ⟨i, hi⟩ := hi; obtain ⟨h1, m, h2, h3, h4⟩ := hi w; rw [method]; simp [h1, h2, h3, h4, follow, receiverAt, run_wrapNil, run_asAddr, run_placeGet]; go_simp
theorem meth_pop (N p o : Nat) (w : World) :
    (method (N + 1) 226 (.pointer (some ⟨p, o, none⟩)) "Pop").run Tryz.prog w = .ok (314, .pointer (some ⟨p, o, none⟩)) w := by
  have hi : ∃ i, ∀ w, (typeInfo 226).run Tryz.prog w = .ok i w ∧ ∃ m, i.methods.find? (·.name == "Pop") = some m ∧ m.path = #[] ∧ m.func = some (314, true) := ⟨_, fun w => ⟨rfl, _, rfl, rfl, rfl⟩⟩
  obtain ⟨i, hi⟩ := hi; obtain ⟨h1, m, h2, h3, h4⟩ := hi w; rw [method]; simp [h1, h2, h3, h4, follow, receiverAt, run_placeGet]
theorem meth_push (N p o : Nat) (w : World) :
    (method (N + 1) 226 (.pointer (some ⟨p, o, none⟩)) "Push").run Tryz.prog w = .ok (315, .pointer (some ⟨p, o, none⟩)) w := by
  have hi : ∃ i, ∀ w, (typeInfo 226).run Tryz.prog w = .ok i w ∧ ∃ m, i.methods.find? (·.name == "Push") = some m ∧ m.path = #[] ∧ m.func = some (315, true) := ⟨_, fun w => ⟨rfl, _, rfl, rfl, rfl⟩⟩
  obtain ⟨i, hi⟩ := hi; obtain ⟨h1, m, h2, h3, h4⟩ := hi w; rw [method]; simp [h1, h2, h3, h4, follow, receiverAt, run_placeGet]
end Go.Proofs.YtlikekmhccnilaaGreat

namespace Go.Proofs.YtlikekmhccnilaaGreat
set_option maxRecDepth 100000
open Go.RowKit
set_option maxHeartbeats 8000000 in
theorem hpUp_any (lo p o g n c j : Nat) (f : Nat → Evt) (w : World) (hR : Hp w lo g n c f) (hp : p ≠ g) (hc : w.cell? ⟨p, o, none⟩ = some (.slice (some ⟨g, 0, none⟩) n c)) (hl : p < w.heap.size) (hj : j < n) (hn : n ≤ 2000000) (hU : UpF f n j) :
    Calls Tryz.prog 227 #[.iface 226 (.pointer (some ⟨p, o, none⟩)), .int .i64 (j : Int)] w fun x w' => x = .returned (.tuple #[]) ∧ (∃ F, Hp w' lo g n c F ∧ Arr f F 0 n n ∧ HeapF F n) ∧ Mv g w w' := by
  have HR := Lib.hid hR
  have HU := Lib.hid hU
  clear hR hU
  go_enter Tryz.func227, Tryz.ntmps227
  go_wp2_with fail
  go_loopw [1] (fun v wr => (∃ (k : Nat) (F : Nat → Evt), v = .int .i64 (k : Int) ∧ k < n ∧ Hid (Hp wr lo g n c F) ∧ Hid (Arr f F 0 n n) ∧ Hid (UpF F n k)) ∧ Mv g w wr) (fun v _ => (intOf v).toNat)
  case atStart => exact ⟨⟨j, f, rfl, hj, HR, Lib.hid (Arr.refl _ _ _ _), HU⟩, Mv.refl _ _⟩
  case round =>
    obtain ⟨⟨k, F, rfl, hk, HF, HA, HK⟩, mv⟩ := hrel
    have MV := Lib.hid mv
    have hcr : wr.cell? ⟨p, o, none⟩ = some (.slice (some ⟨g, 0, none⟩) n c) := (mv.cells _ _ hl hp).trans hc
    have hlr : p < wr.heap.size := Nat.lt_of_lt_of_le hl mv.size
    clear mv
    have ML := fun N => meth_less N p o _ n c wr hcr hlr
    by_cases h0 : k = 0
    · subst h0
      have SX := Lib.hid (HK.out.stop (fun h => absurd h (by omega)))
      go_wp2
      exact bodyPost_end (v := .tuple #[]) (results_none Tryz.results227 _ _ _) rfl ⟨rfl, ⟨F, HF.out, HA.out, SX.out⟩, MV.out⟩
    · obtain ⟨i, hi, hik⟩ : ∃ i : Nat, i = (k - 1) / 2 ∧ i < k := ⟨(k - 1) / 2, rfl, by omega⟩
      have w1 : IntKind.i64.wrap ((k : Int) - 1) = ((k - 1 : Nat) : Int) := by rw [show ((k - 1 : Nat) : Int) = (k : Int) - 1 by omega]; exact IntWalk.i64_in _ (by omega)
      have d1 : Int.tdiv ((k - 1 : Nat) : Int) 2 = (i : Int) := by rw [Int.tdiv_eq_ediv_of_nonneg (by omega)]; omega
      have w2 : IntKind.i64.wrap (i : Int) = i := IntWalk.i64_in _ (by omega)
      have HI := Lib.hid hi
      have D2 := Lib.hid (show ((k - 1 : Nat) : Int) / 2 = (i : Int) by omega)
      clear hi
      have ne : ((i : Int) == (k : Int)) = false := by simp; omega
      have CL := Lib.hid (fun W (u : Up wr W) => hpLess_any g n c k i F W (HF.out.row.up u) hk (by omega))
      generalize hb : ltE (F k) (F i) = b at CL
      have HB := Lib.hid hb
      clear hb
      go_wp2_with fail
      try rw [D2.out]
      refine (CL.out _ (Up.refl _)).mono ?_; rintro x w3 ⟨rfl, u3⟩
      have HF3 := Lib.hid (HF.out.up u3)
      have MV3 := Lib.hid (MV.out.trans (u3.mv g))
      have hc3 : w3.cell? ⟨p, o, none⟩ = some (.slice (some ⟨g, 0, none⟩) n c) := (u3.cells _ _ hlr).trans hcr
      have hl3 : p < w3.heap.size := Nat.lt_of_lt_of_le hlr u3.size
      clear u3 hcr hlr ML CL
      have MS := fun N => meth_swap N p o _ n c w3 hc3 hl3
      cases b
      · have SX := Lib.hid (HK.out.stop (fun _ => by rw [← HI.out]; exact HB.out))
        go_wp2
        exact bodyPost_end (v := .tuple #[]) (results_none Tryz.results227 _ _ _) rfl ⟨rfl, ⟨F, HF3.out, HA.out, SX.out⟩, MV3.out⟩
      · have SX := Lib.hid (HK.out.step HI.out (by omega) hk HB.out)
        have AX := Lib.hid (HA.out.trans (swp_arr F (i := i) (j := k) (a := 0) (b := n) (N := n) hik (by omega) (by omega) (by omega)))
        go_wp2_with fail
        refine (hpSwap_any g n c i k F w3 lo HF3.out hik hk).mono ?_; rintro x w4 ⟨rfl, h4, m4⟩
        have H4 := Lib.hid h4
        have M4 := Lib.hid (MV3.out.trans m4)
        clear h4 m4; go_wp2
        go_roundw
        case rel => exact ⟨⟨i, swp F i k, by first | rfl | go_num, by omega, H4, AX, SX⟩, M4.out⟩
        case measure => (simp [intOf]; try omega)
end Go.Proofs.YtlikekmhccnilaaGreat

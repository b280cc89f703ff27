/-
  What tbRecs says of the same records that lie in memory twice, in one sentence: the same; for every list.
  Rows of events as functions, in one sentence: a block of the call's own whose events are f 0, f 1, ..; and what a rising stretch with one event more becomes.
  Slices of events given back, in one sentence: a slice of these events; a list in a block of the call's own as a row; no condition is made.
  Rows of events as functions, in one sentence: changed within a stretch, none lost; sorted stretches; a swap; no condition is made.
  Sorted permutations of events, in one sentence: there is but one; and a slice of these events in a block of the call's own; no condition is made.
  Heaps of events as rows, in one sentence: the first is least, a sorted row is one, and moving up or down mends what one event disturbs; no condition is made.
  Lists of events in a block of the call's own with one event written, in one sentence: the list with that event set, or two changed places; no condition is made.
  What the implementation's EvtLess returns, in one sentence: whether the first field that differs is less; for every two events.
  What the methods Len, Less and Swap of pendingHeap do, in one sentence: the number, the comparison, two events change places; for every list of events in a block of the call's own.
  What Swap of pendingHeap does with one place alone, in one sentence: nothing is changed; for every list of events in a block of the call's own.
-/
import Derived.BigRegion
import Derived.ChangeAlike
import Derived.RegionTactic
import Derived.Test.YtjdoealcmokakaaDLUpto01
import Derived.Test.YtjdoealcmokakaaDLUpto02
import Derived.Test.YtjdoealcmokakaaDLUpto05
import Derived.Test.YtjdoealcmokakaaDLUpto07
import Derived.Test.YtjdoealcmokakaaDLUpto15
import Derived.Test.YtjdoealcmokakaaDLUpto17
namespace Go.Proofs.Ytjdoealcmokakaa
set_option maxRecDepth 100000
open Go.RowKit
set_option maxHeartbeats 2000000 in
theorem tbRecs_same (A B : Option Addr) (n capa capb : Nat) (xs : List Rec) (w : World) (hn : n ≤ 1000000000) (hE : Recs w A n xs) (hF : Recs w B n xs) :
    Calls Try.prog 10 #[.slice A n capa, .slice B n capb] w fun x w' => x = .returned (.bool true) ∧ Up w w' := by
  have HE := Lib.hid hE
  have HF := Lib.hid hF
  have CL := Lib.hid (fun p W => neq_rec p W)
  have gd := guard_rec
  clear hE hF
  go_enter Try.func10, Try.ntmps10
  go_wp2
  go_loopw [5] (fun i wr => (∃ k : Nat, k ≤ n ∧ i = .int .i64 k) ∧ Up w wr) (fun i _ => n - (intOf i).toNat)
  case atStart => exact ⟨⟨0, by omega, rfl⟩, Up.refl _⟩
  case round =>
    obtain ⟨⟨k, hk, rfl⟩, ur⟩ := hrel
    by_cases hlt : k < n
    · obtain ⟨b, off, hA, hb, hc⟩ := HE.out.2 (by omega)
      obtain ⟨b2, off2, hA2, hb2, hc2⟩ := HF.out.2 (by omega); subst hA hA2
      have a0 := (hc k hlt).up ur hb
      have a1 := (hc2 k hlt).up ur hb2
      have hb' : b < wr.heap.size := by have := ur.size; omega
      have hb2' : b2 < wr.heap.size := by have := ur.size; omega
      clear hc hc2
      have cl := CL.out (xs.getD k default)
      generalize xs.getD k default = p at a0 a1 cl
      unfold RecAt at a0 a1; unfold Rec.v at cl; obtain ⟨p0, p1, p2, p3, p4, p5, p6⟩ := a0; obtain ⟨q0, q1, q2, q3, q4, q5, q6⟩ := a1
      have i4 : (k : Int) < n := by omega
      go_wp2; refine region_up (by kernel_rfl) (by kernel_rfl) ?_; refine up_step rfl ?_; apply Exists.intro; refine ⟨fun w1 hw1 => ?_, ?_⟩
      · go_simp
        try rfl
      go_simp; refine up_step rfl ?_; apply Exists.intro; refine ⟨fun w1 hw1 => ?_, ?_⟩
      · go_simp
        try rfl
      go_simp; refine up_step rfl ?_; apply Exists.intro; refine ⟨fun w1 hw1 => ?_, ?_⟩
      · go_simp
        try rfl
      go_simp; refine up_step rfl ?_; apply Exists.intro; refine ⟨fun w1 hw1 => ?_, ?_⟩
      · obtain ⟨hc, hf, hz⟩ := hw1.facts
        try simp at hz
        go_simp
        try rfl
      go_simp; refine up_step rfl ?_; apply Exists.intro; refine ⟨fun w1 hw1 => ?_, ?_⟩
      · go_simp
        try rfl
      go_simp; refine up_step rfl ?_; apply Exists.intro; refine ⟨fun w1 hw1 => ?_, ?_⟩
      · go_simp
        try rfl
      go_simp; refine up_step rfl ?_; apply Exists.intro; refine ⟨fun w1 hw1 => ?_, ?_⟩
      · go_simp
        try rfl
      go_simp; refine up_step rfl ?_; apply Exists.intro; refine ⟨fun w1 hw1 => ?_, ?_⟩
      · obtain ⟨hc, hf, hz⟩ := hw1.facts
        try simp at hz
        go_simp
        try rfl
      go_simp; refine up_step rfl ?_; apply Exists.intro; refine ⟨fun w1 hw1 => ?_, ?_⟩
      · go_simp
        try rfl
      go_simp; refine wpQuiet_nil ?_; intro wA uA; clear i4 p0 p1 p2 p3 p4 p5 p6 q0 q1 q2 q3 q4 q5 q6 cl; go_wp2
      go_roundw
      case rel => exact ⟨⟨k + 1, by omega, by go_num⟩, ur.trans uA⟩
      case measure => simp [intOf]; omega
    · go_wp2
      go_ret
      exact ⟨rfl, ur⟩
end Go.Proofs.Ytjdoealcmokakaa

namespace Go.Proofs.Ytjdoealcmokakaa
set_option maxRecDepth 100000
open Go.RowKit
def Row (w : World) (g N : Nat) (f : Nat → Evt) : Prop :=
  g < w.heap.size ∧ (∀ i, i < N → EvAt w g (i * 6) (f i)) ∧ ∀ j, j < N * 6 → w.frozen? ⟨g, j, none⟩ = false
theorem Row.up {w w' : World} {g N : Nat} {f : Nat → Evt} (h : Row w g N f) (u : Up w w') : Row w' g N f :=
  ⟨Nat.lt_of_lt_of_le h.1 u.size, fun i hi => (h.2.1 i hi).up u h.1, fun j hj => (u.frozens _ _ h.1).trans (h.2.2 j hj)⟩
theorem Row.as_ {w : World} {g N : Nat} {f f' : Nat → Evt} (h : Row w g N f) (e : ∀ i, i < N → f i = f' i) : Row w g N f' :=
  ⟨h.1, fun i hi => e i hi ▸ h.2.1 i hi, h.2.2⟩
theorem Row.somes {w : World} {g N i : Nat} {f : Nat → Evt} (h : Row w g N f) (hi : i < N) : ∀ k, k < 6 → ∃ v, w.cell? ⟨g, i * 6 + k, none⟩ = some v := fun k hk => by
  obtain ⟨h0, h1, h2, h3, h4, h5⟩ := h.2.1 i hi
  have e : k = 0 ∨ k = 1 ∨ k = 2 ∨ k = 3 ∨ k = 4 ∨ k = 5 := by omega
  rcases e with rfl | rfl | rfl | rfl | rfl | rfl
  · exact ⟨_, h0⟩
  · exact ⟨_, h1⟩
  · exact ⟨_, h2⟩
  · exact ⟨_, h3⟩
  · exact ⟨_, h4⟩
  · exact ⟨_, h5⟩
theorem Row.put {w : World} {g N k : Nat} {f : Nat → Evt} {e : Evt} (h : Row w g N f) (hk : k < N) : Row (putEv w g (k * 6) e) g N (fun i => if i = k then e else f i) := by
  refine ⟨by rw [putEv_size]; exact h.1, fun i hi => ?_, fun j hj => (putEv_frozen _ _ _ _ _).trans (h.2.2 j hj)⟩
  show EvAt _ _ _ (if i = k then e else f i)
  by_cases hik : i = k
  · subst hik
    rw [if_pos rfl]
    exact putEv_at (h.somes hi)
  · rw [if_neg hik]
    exact (h.2.1 i hi).putEv_far (by omega)
end Go.Proofs.Ytjdoealcmokakaa

namespace Go.Proofs.Ytjdoealcmokakaa
set_option maxRecDepth 100000
open Go.RowKit
theorem Row.of_own {w : World} {base g n c : Nat} {es : List Evt} (h : w.ownsRow base 39 6 (.slice (some ⟨g, 0, none⟩) n c) n (flat es)) (hn : 0 < n) : Row w g n (fun i => es.getD i default) := by
  obtain ⟨b, off, hA, hb, hc⟩ := (own_evs h).2 hn
  injection hA with hA
  injection hA with h1 h2 _
  subst h1 h2
  exact ⟨hb, fun i hi => by have := hc i hi; rwa [Nat.zero_add] at this, fun j _ => h.frozenAt j⟩
end Go.Proofs.Ytjdoealcmokakaa

namespace Go.Proofs.Ytjdoealcmokakaa
set_option maxRecDepth 100000
open Go.RowKit
/-- b is not less than a. -/
def leE (a b : Evt) : Prop := ltE b a = false
theorem leE_refl (a : Evt) : leE a a := ltE_irr a
theorem ltE_le {a b : Evt} (h : ltE a b = true) : leE a b := ltE_asym a b h
theorem eqB_eq {a b : Evt} (h : eqB a b = true) : a = b := by
  obtain ⟨a0, a1, a2, a3, a4, a5⟩ := a; obtain ⟨b0, b1, b2, b3, b4, b5⟩ := b; rw [eqB_iff] at h; simp only at h; obtain ⟨rfl, rfl, rfl, rfl, rfl, rfl⟩ := h
  rfl
theorem leE_trans {a b c : Evt} (h1 : leE a b) (h2 : leE b c) : leE a c := by
  unfold leE at *
  cases h : ltE c a with
  | false => rfl
  | true =>
    cases hab : ltE a b with
    | true =>
      have := ltE_trans c a b h hab
      rw [this] at h2
      cases h2
    | false =>
      have e := eqB_eq (ltE_total a b hab h1)
      subst e; rw [h] at h2
      cases h2
theorem leE_antisymm {a b : Evt} (h1 : leE a b) (h2 : leE b a) : a = b := (eqB_eq (ltE_total b a h1 h2)).symm
/-- The stretch from a up to b rises, or stays. -/
def SortF (f : Nat → Evt) (a b : Nat) : Prop := ∀ k, a ≤ k → k + 1 < b → leE (f k) (f (k + 1))
theorem SortF.le {f : Nat → Evt} {a b : Nat} (h : SortF f a b) : ∀ d i, a ≤ i → i + d < b → leE (f i) (f (i + d))
  | 0, i, _, _ => leE_refl _
  | d + 1, i, h1, h2 => leE_trans (SortF.le h d i h1 (by omega)) (h (i + d) (by omega) (by omega))
theorem SortF.le' {f : Nat → Evt} {a b i j : Nat} (h : SortF f a b) (h1 : a ≤ i) (h2 : i ≤ j) (h3 : j < b) : leE (f i) (f j) := by
  have := h.le (j - i) i h1 (by omega)
  rwa [show i + (j - i) = j by omega] at this
theorem SortF.join {f : Nat → Evt} {a m b : Nat} (h1 : SortF f a m) (h2 : SortF f m b) (hx : ∀ i j, a ≤ i → i < m → m ≤ j → j < b → leE (f i) (f j)) : SortF f a b := fun k hk hb => by
  by_cases hm : k + 1 < m
  · exact h1 k hk hm
  · by_cases hm2 : m ≤ k
    · exact h2 k hm2 hb
    · exact hx k (k + 1) hk (by omega) (by omega) hb
/-- Changed in the stretch from a up to b alone, none lost. -/
structure Arr (f f' : Nat → Evt) (a b N : Nat) : Prop where
  perm : ((List.range N).map f).Perm ((List.range N).map f')
  out : ∀ i, i < a ∨ b ≤ i → f' i = f i
  mem : ∀ i, a ≤ i → i < b → ∃ j, a ≤ j ∧ j < b ∧ f' i = f j
theorem Arr.refl (f : Nat → Evt) (a b N : Nat) : Arr f f a b N := ⟨List.Perm.refl _, fun _ _ => rfl, fun i h1 h2 => ⟨i, h1, h2, rfl⟩⟩
theorem Arr.trans {f f' f'' : Nat → Evt} {a b N : Nat} (h : Arr f f' a b N) (k : Arr f' f'' a b N) : Arr f f'' a b N :=
  ⟨h.perm.trans k.perm, fun i hi => (k.out i hi).trans (h.out i hi), fun i h1 h2 => by
    obtain ⟨j, j1, j2, e⟩ := k.mem i h1 h2; obtain ⟨l, l1, l2, e'⟩ := h.mem j j1 j2
    exact ⟨l, l1, l2, e.trans e'⟩⟩
theorem Arr.widen {f f' : Nat → Evt} {a b a' b' N : Nat} (h : Arr f f' a b N) (ha : a' ≤ a) (hb : b ≤ b') : Arr f f' a' b' N :=
  ⟨h.perm, fun i hi => h.out i (by omega), fun i h1 h2 => by
    by_cases hi : a ≤ i ∧ i < b
    · obtain ⟨j, j1, j2, e⟩ := h.mem i hi.1 hi.2
      exact ⟨j, by omega, by omega, e⟩
    · exact ⟨i, h1, h2, h.out i (by omega)⟩⟩
/-- Two change places. -/
def swp (f : Nat → Evt) (i j : Nat) : Nat → Evt := fun k => if k = i then f j else if k = j then f i else f k
theorem swp_perm (f : Nat → Evt) {i j : Nat} (hij : i < j) : ∀ N, j < N → ((List.range N).map f).Perm ((List.range N).map (swp f i j)) := by
  intro N hj
  have cong : ∀ (f' : Nat → Evt) (l : List Nat), (∀ x ∈ l, f x = f' x) → l.map f = l.map f' := fun f' l h => List.map_congr_left h
  have split : List.range N = List.range i ++ ([i] ++ (List.range' (i + 1) (j - (i + 1)) ++ ([j] ++ List.range' (j + 1) (N - (j + 1))))) := by
    rw [List.range_eq_range', List.range_eq_range']; rw [show [i] = List.range' i 1 from rfl, show [j] = List.range' j 1 from rfl]
    have e1 := @List.range'_append_1 j 1 (N - (j + 1))
    have e2 := @List.range'_append_1 (i + 1) (j - (i + 1)) (1 + (N - (j + 1)))
    have e3 := @List.range'_append_1 i 1 ((j - (i + 1)) + (1 + (N - (j + 1))))
    have e4 := @List.range'_append_1 0 i (1 + ((j - (i + 1)) + (1 + (N - (j + 1)))))
    rw [show i + 1 + (j - (i + 1)) = j by omega] at e2; rw [Nat.zero_add] at e4; rw [e1, e2, e3, e4]
    congr 1
    omega
  rw [split]; simp only [List.map_append, List.map_cons, List.map_nil]
  rw [← cong (swp f i j) (List.range i) (fun x hx => by have := List.mem_range.1 hx; unfold swp; rw [if_neg (by omega), if_neg (by omega)]),
    ← cong (swp f i j) (List.range' (i + 1) (j - (i + 1))) (fun x hx => by have := List.mem_range'_1.1 hx; unfold swp; rw [if_neg (by omega), if_neg (by omega)]),
    ← cong (swp f i j) (List.range' (j + 1) (N - (j + 1))) (fun x hx => by have := List.mem_range'_1.1 hx; unfold swp; rw [if_neg (by omega), if_neg (by omega)])]
  rw [show swp f i j i = f j by simp [swp], show swp f i j j = f i by unfold swp; rw [if_neg (by omega), if_pos rfl]]; refine List.Perm.append_left _ ?_
  generalize (List.range' (i + 1) (j - (i + 1))).map f = l
  generalize (List.range' (j + 1) (N - (j + 1))).map f = r
  generalize f i = x
  generalize f j = y
  show (x :: (l ++ y :: r)).Perm (y :: (l ++ x :: r))
  refine ((List.perm_middle (a := y) (l₁ := l) (l₂ := r)).cons x).trans ?_; refine (List.Perm.swap y x _).trans ?_
  exact ((List.perm_middle (a := x) (l₁ := l) (l₂ := r)).symm).cons y
theorem swp_arr (f : Nat → Evt) {i j a b N : Nat} (hij : i < j) (ha : a ≤ i) (hb : j < b) (hN : j < N) : Arr f (swp f i j) a b N :=
  ⟨swp_perm f hij N hN, fun k hk => by unfold swp; rw [if_neg (by omega), if_neg (by omega)], fun k h1 h2 => by
    unfold swp
    by_cases e : k = i
    · exact ⟨j, by omega, by omega, by rw [if_pos e]⟩
    · rw [if_neg e]
      by_cases e2 : k = j
      · exact ⟨i, by omega, by omega, by rw [if_pos e2]⟩
      · exact ⟨k, h1, h2, by rw [if_neg e2]⟩⟩
/-- Sorted but for the pair at j, on the way down. -/
structure NearF (f : Nat → Evt) (a j i : Nat) : Prop where
  pairs : ∀ k, a ≤ k → k + 1 ≤ i → k + 1 ≠ j → leE (f k) (f (k + 1))
  over : a < j → j < i → leE (f (j - 1)) (f (j + 1))
theorem NearF.start {f : Nat → Evt} {a i : Nat} (h : SortF f a i) : NearF f a i i := ⟨fun k h1 h2 h3 => h k h1 (by omega), fun _ h => absurd h (by omega)⟩
theorem NearF.stop {f : Nat → Evt} {a j i : Nat} (h : NearF f a j i) (hs : a < j → leE (f (j - 1)) (f j)) : SortF f a (i + 1) := fun k h1 h2 => by
  by_cases e : k + 1 = j
  · have := hs (by omega)
    rw [show j - 1 = k by omega, ← e] at this
    exact this
  · exact h.pairs k h1 (by omega) e
theorem NearF.step {f : Nat → Evt} {a k i : Nat} (h : NearF f a (k + 1) i) (ha : a ≤ k) (hk : k + 1 ≤ i) (hl : ltE (f (k + 1)) (f k) = true) : NearF (swp f k (k + 1)) a k i := by
  have s0 : swp f k (k + 1) k = f (k + 1) := by simp [swp]
  have s1 : swp f k (k + 1) (k + 1) = f k := by simp [swp]
  have s2 : ∀ l, l ≠ k → l ≠ k + 1 → swp f k (k + 1) l = f l := fun l h1 h2 => by unfold swp; rw [if_neg h1, if_neg h2]
  refine ⟨fun l h1 h2 h3 => ?_, fun h1 _ => ?_⟩
  · by_cases e : l = k
    · subst e
      rw [s0, s1]
      exact ltE_le hl
    · by_cases e2 : l = k + 1
      · subst e2
        rw [s1, s2 (k + 1 + 1) (by omega) (by omega)]
        exact h.over (by omega) (by omega)
      · rw [s2 l e e2, s2 (l + 1) (by omega) (by omega)]
        exact h.pairs l h1 h2 (by omega)
  · rw [s1, s2 (k - 1) (by omega) (by omega)]
    have := h.pairs (k - 1) (by omega) (by omega) (by omega)
    rwa [show k - 1 + 1 = k by omega] at this
end Go.Proofs.Ytjdoealcmokakaa

namespace Go.Proofs.Ytjdoealcmokakaa
set_option maxRecDepth 100000
open Go.RowKit
theorem ins_perm (e : Evt) : ∀ l : List Evt, (ins e l).Perm (e :: l)
  | [] => List.Perm.refl _
  | x :: r => by
    rw [ins]
    split
    · exact List.Perm.refl _
    · exact ((ins_perm e r).cons x).trans (List.Perm.swap e x r)
theorem rise_pairwise : ∀ l : List Evt, riseB l = true → l.Pairwise leE
  | [], _ => List.Pairwise.nil
  | [a], _ => List.pairwise_singleton _ _
  | a :: b :: r, h => by
    rw [riseB, Bool.and_eq_true] at h
    have ih := rise_pairwise (b :: r) h.2
    refine List.Pairwise.cons (fun x hx => ?_) ih
    rcases List.mem_cons.1 hx with rfl | hx
    · exact ltE_le h.1
    · exact leE_trans (ltE_le h.1) ((List.pairwise_cons.1 ih).1 x hx)
theorem ins_pairwise (e : Evt) : ∀ l : List Evt, l.Pairwise leE → (ins e l).Pairwise leE
  | [], _ => List.pairwise_singleton _ _
  | x :: r, h => by
    have h2 := List.pairwise_cons.1 h
    rw [ins]
    split
    · rename_i hl
      refine List.Pairwise.cons (fun y hy => ?_) h
      rcases List.mem_cons.1 hy with rfl | hy
      · exact ltE_le hl
      · exact leE_trans (ltE_le hl) (h2.1 y hy)
    · rename_i hl
      refine List.Pairwise.cons (fun y hy => ?_) (ins_pairwise e r h2.2)
      rcases List.mem_cons.1 ((ins_perm e r).mem_iff.1 hy) with rfl | hy
      · exact Bool.eq_false_iff.2 hl
      · exact h2.1 y hy
theorem sortF_pairwise {F : Nat → Evt} {N : Nat} (h : SortF F 0 N) : ((List.range N).map F).Pairwise leE := by
  rw [List.pairwise_iff_getElem]; intro i j hi hj hij; simp only [List.length_map, List.length_range] at hi hj; simp only [List.getElem_map, List.getElem_range]
  exact h.le' (Nat.zero_le _) (by omega) hj
theorem range_getD (es : List Evt) : (List.range es.length).map (fun i => es.getD i default) = es := by
  apply List.ext_getElem
  · simp
  · intro i h1 h2
    simp [h2]
end Go.Proofs.Ytjdoealcmokakaa

namespace Go.Proofs.Ytjdoealcmokakaa
set_option maxRecDepth 100000
open Go.RowKit
/-- No event is less than the one at half its place. -/
def HeapF (F : Nat → Evt) (n : Nat) : Prop := ∀ i, 0 < i → i < n → leE (F ((i - 1) / 2)) (F i)
theorem HeapF.min {F : Nat → Evt} {n : Nat} (h : HeapF F n) : ∀ d i, i ≤ d → i < n → leE (F 0) (F i)
  | 0, i, hd, _ => by
    obtain rfl : i = 0 := by omega
    exact leE_refl _
  | d + 1, i, hd, hi => by
    by_cases h0 : i = 0
    · subst h0
      exact leE_refl _
    · exact leE_trans (HeapF.min h d ((i - 1) / 2) (by omega) (by omega)) (h i (by omega) hi)
theorem swp_l (f : Nat → Evt) (i j : Nat) : swp f i j i = f j := by simp [swp]
theorem swp_r (f : Nat → Evt) (i j : Nat) : swp f i j j = f i := by
  unfold swp
  split
  · rename_i h; rw [h]
  · rw [if_pos rfl]
theorem swp_o (f : Nat → Evt) {i j k : Nat} (h1 : k ≠ i) (h2 : k ≠ j) : swp f i j k = f k := by
  unfold swp; rw [if_neg h1, if_neg h2]
/-- A heap but for the event at j, which may be too small. -/
structure UpF (F : Nat → Evt) (n j : Nat) : Prop where
  pairs : ∀ i, 0 < i → i < n → i ≠ j → leE (F ((i - 1) / 2)) (F i)
  over : 0 < j → ∀ i, 0 < i → i < n → (i - 1) / 2 = j → leE (F ((j - 1) / 2)) (F i)
theorem UpF.start {F : Nat → Evt} {n : Nat} (h : HeapF F n) : UpF F (n + 1) n := ⟨fun i h0 hi hne => h i h0 (by omega), fun _ i _ hi hp => by omega⟩
theorem UpF.stop {F : Nat → Evt} {n j : Nat} (h : UpF F n j) (hs : 0 < j → leE (F ((j - 1) / 2)) (F j)) : HeapF F n := fun i h0 hi => by
  by_cases e : i = j
  · subst e
    exact hs h0
  · exact h.pairs i h0 hi e
theorem UpF.step {F : Nat → Evt} {n j p : Nat} (h : UpF F n j) (hp : p = (j - 1) / 2) (hj : 0 < j) (hn : j < n) (hl : ltE (F j) (F p) = true) : UpF (swp F p j) n p := by
  have hlt : p < j := by omega
  refine ⟨fun i h0 hi hne => ?_, fun h0 i hi0 hi hpi => ?_⟩
  · by_cases e : i = j
    · subst e
      rw [← hp, swp_l, swp_r]
      exact ltE_le hl
    · rw [swp_o F hne e]
      by_cases e1 : (i - 1) / 2 = j
      · rw [e1, swp_r]
        have := h.over hj i h0 hi e1
        rwa [← hp] at this
      · by_cases e2 : (i - 1) / 2 = p
        · rw [e2, swp_l]
          have := h.pairs i h0 hi e
          rw [e2] at this
          exact leE_trans (ltE_le hl) this
        · rw [swp_o F e2 e1]
          exact h.pairs i h0 hi e
  · have hpp : leE (F ((p - 1) / 2)) (F p) := h.pairs p h0 (by omega) (by omega)
    rw [swp_o F (show (p - 1) / 2 ≠ p by omega) (show (p - 1) / 2 ≠ j by omega)]
    by_cases e : i = j
    · subst e
      rw [swp_r]
      exact hpp
    · rw [swp_o F (show i ≠ p by omega) e]
      have := h.pairs i hi0 hi e
      rw [hpi] at this
      exact leE_trans hpp this
/-- A heap but for the event at i, which may be too great. -/
structure DownF (F : Nat → Evt) (n i : Nat) : Prop where
  pairs : ∀ k, 0 < k → k < n → (k - 1) / 2 ≠ i → leE (F ((k - 1) / 2)) (F k)
  over : 0 < i → ∀ k, 0 < k → k < n → (k - 1) / 2 = i → leE (F ((i - 1) / 2)) (F k)
theorem DownF.start {F : Nat → Evt} {n : Nat} (h : HeapF F (n + 1)) : DownF (swp F 0 n) n 0 :=
  ⟨fun k h0 hk hne => by
    rw [swp_o F hne (show (k - 1) / 2 ≠ n by omega), swp_o F (show k ≠ 0 by omega) (show k ≠ n by omega)]
    exact h k h0 (by omega), fun h => absurd h (by omega)⟩
theorem DownF.stop {F : Nat → Evt} {n i : Nat} (h : DownF F n i) (hs : ∀ k, 0 < k → k < n → (k - 1) / 2 = i → leE (F i) (F k)) : HeapF F n := fun k h0 hk => by
  by_cases e : (k - 1) / 2 = i
  · rw [e]
    exact hs k h0 hk e
  · exact h.pairs k h0 hk e
theorem DownF.step {F : Nat → Evt} {n i j : Nat} (h : DownF F n i) (h0 : 0 < j) (hn : j < n) (hp : (j - 1) / 2 = i) (hl : ltE (F j) (F i) = true) (hm : ∀ k, 0 < k → k < n → (k - 1) / 2 = i → leE (F j) (F k)) : DownF (swp F i j) n j := by
  have hlt : i < j := by omega
  refine ⟨fun k k0 hk hne => ?_, fun _ k k0 hk hpk => ?_⟩
  · by_cases e : (k - 1) / 2 = i
    · rw [e, swp_l]
      by_cases e1 : k = j
      · subst e1
        rw [swp_r]
        exact ltE_le hl
      · rw [swp_o F (show k ≠ i by omega) e1]
        exact hm k k0 hk e
    · rw [swp_o F e hne]
      by_cases e2 : k = i
      · subst e2
        rw [swp_l]
        exact h.over k0 j h0 hn hp
      · have e3 : k ≠ j := fun e3 => e (by rw [e3]; exact hp)
        rw [swp_o F e2 e3]
        exact h.pairs k k0 hk e
  · rw [hp, swp_l, swp_o F (show k ≠ i by omega) (show k ≠ j by omega)]
    have := h.pairs k k0 hk (by omega)
    rwa [hpk] at this
end Go.Proofs.Ytjdoealcmokakaa

namespace Go.Proofs.Ytjdoealcmokakaa
set_option maxRecDepth 100000
open Go.RowKit
theorem heap_setC (w : World) (b o : Nat) (u : Value) {arr : Array Value} {e : Nat} {fz : Nat × Nat} (ha : w.heap[b]? = some (.cells arr e fz)) :
    (w.setCell ⟨b, o, none⟩ u).heap[b]? = some (.cells (arr.setIfInBounds o u) e fz) := by
  unfold World.setCell; simp [Array.getElem?_modify, ha]
theorem putEv_blk {w : World} {g o t : Nat} {e : Evt} {cur : Array Value} (h : w.heap[g]? = some (.cells cur t (0, 0))) : ∃ cur', (putEv w g o e).heap[g]? = some (.cells cur' t (0, 0)) ∧ cur'.size = cur.size := by
  unfold putEv
  exact ⟨_, heap_setC _ _ _ _ (heap_setC _ _ _ _ (heap_setC _ _ _ _ (heap_setC _ _ _ _ (heap_setC _ _ _ _ (heap_setC _ _ _ _ h))))), by simp⟩
/-- A row out of its cells. -/
theorem own_of_row {w : World} {lo g n c : Nat} {cur : Array Value} {es : List Evt} (hl : es.length = n) (hg : lo ≤ g) (hc : n ≤ c) (hm : c ≤ maxLen) (hs : cur.size = c * 6) (hb : w.heap[g]? = some (.cells cur 39 (0, 0)))
    (hr : ∀ i, i < n → EvAt w g (i * 6) (es.getD i default)) : w.ownsRow lo 39 6 (.slice (some ⟨g, 0, none⟩) n c) n (flat es) := by
  refine ⟨by rw [flat_len, hl], .inr ⟨g, c, cur, rfl, hg, hb, hc, hm, hs, ?_⟩⟩
  refine List.ext_getElem? fun j => ?_
  by_cases hj : j < n * 6
  · have hi : j / 6 < n := by omega
    have hk : j % 6 < 6 := by omega
    have e6 : j = j / 6 * 6 + j % 6 := by omega
    rw [List.getElem?_take_of_lt hj]
    have hcell : w.cell? ⟨g, j, none⟩ = cur[j]? := cell_of_row _ _ j _ _ _ hb
    have hfl : (flat es)[j]? = (es.getD (j / 6) default).c6[j % 6]? := by
      conv => lhs; rw [e6]
      exact flat_get es _ _ (by omega) hk
    rw [hfl, Array.getElem?_toList, ← hcell]
    have ha := hr (j / 6) hi
    generalize es.getD (j / 6) default = e at ha
    obtain ⟨h0, h1, h2, h3, h4, h5⟩ := ha
    have h6 : j % 6 = 0 ∨ j % 6 = 1 ∨ j % 6 = 2 ∨ j % 6 = 3 ∨ j % 6 = 4 ∨ j % 6 = 5 := by omega
    rcases h6 with h | h | h | h | h | h <;> rw [h]
    · rw [show j = j / 6 * 6 by omega]; exact h0
    · rw [show j = j / 6 * 6 + 1 by omega]; exact h1
    · rw [show j = j / 6 * 6 + 2 by omega]; exact h2
    · rw [show j = j / 6 * 6 + 3 by omega]; exact h3
    · rw [show j = j / 6 * 6 + 4 by omega]; exact h4
    · rw [show j = j / 6 * 6 + 5 by omega]; exact h5
  · rw [List.getElem?_eq_none (by simp; omega), List.getElem?_eq_none (by rw [flat_len]; omega)]
/-- A list of events in a block of the call's own, that may be changed. -/
structure Hp (w : World) (lo g n c : Nat) (f : Nat → Evt) : Prop where
  row : Row w g n f
  lo : lo ≤ g
  len : n ≤ c
  max : c ≤ maxLen
  blk : ∃ cur, w.heap[g]? = some (.cells cur 39 (0, 0)) ∧ cur.size = c * 6
theorem Hp.put {w : World} {lo g n c k : Nat} {f : Nat → Evt} {e : Evt} (h : Hp w lo g n c f) (hk : k < n) : Hp (putEv w g (k * 6) e) lo g n c (fun i => if i = k then e else f i) := by
  obtain ⟨cur, hb, hs⟩ := h.blk; obtain ⟨cur', hb', hs'⟩ := putEv_blk (o := k * 6) (e := e) hb
  exact ⟨h.row.put hk, h.lo, h.len, h.max, cur', hb', by rw [hs', hs]⟩
theorem Hp.as_ {w : World} {lo g n c : Nat} {f f' : Nat → Evt} (h : Hp w lo g n c f) (e : ∀ i, i < n → f i = f' i) : Hp w lo g n c f' := ⟨h.row.as_ e, h.lo, h.len, h.max, h.blk⟩
theorem Hp.up {w w' : World} {lo g n c : Nat} {f : Nat → Evt} (h : Hp w lo g n c f) (u : Up w w') : Hp w' lo g n c f :=
  ⟨h.row.up u, h.lo, h.len, h.max, by obtain ⟨cur, hb, hs⟩ := h.blk; exact ⟨cur, (u.below.block g h.row.1).trans hb, hs⟩⟩
theorem Hp.mv {w w' : World} {lo g n c b : Nat} {f : Nat → Evt} (h : Hp w lo g n c f) (m : Mv b w w') (hb : g ≠ b) : Hp w' lo g n c f := by
  obtain ⟨cur, hb', hs⟩ := h.blk; refine ⟨⟨Nat.lt_of_lt_of_le h.row.1 m.size, fun i hi => ?_, fun j hj => ?_⟩, h.lo, h.len, h.max, cur, (m.block g h.row.1 hb).trans hb', hs⟩
  · obtain ⟨h0, h1, h2, h3, h4, h5⟩ := h.row.2.1 i hi
    exact ⟨(m.cells _ _ h.row.1 hb).trans h0, (m.cells _ _ h.row.1 hb).trans h1, (m.cells _ _ h.row.1 hb).trans h2, (m.cells _ _ h.row.1 hb).trans h3, (m.cells _ _ h.row.1 hb).trans h4, (m.cells _ _ h.row.1 hb).trans h5⟩
  · unfold World.frozen?
    rw [m.block g h.row.1 hb]
    exact h.row.2.2 j hj
theorem Hp.less {w : World} {lo g n m c : Nat} {f : Nat → Evt} (h : Hp w lo g n c f) (hm : m ≤ n) : Hp w lo g m c f :=
  ⟨⟨h.row.1, fun i hi => h.row.2.1 i (by omega), fun j hj => h.row.2.2 j (by omega)⟩, h.lo, by have := h.len; omega, h.max, h.blk⟩
theorem Hp.own {w : World} {lo g n c : Nat} {f : Nat → Evt} (h : Hp w lo g n c f) : w.ownsRow lo 39 6 (.slice (some ⟨g, 0, none⟩) n c) n (flat ((List.range n).map f)) := by
  obtain ⟨cur, hb, hs⟩ := h.blk
  refine own_of_row (by simp) h.lo h.len h.max hs hb fun i hi => ?_
  have : ((List.range n).map f).getD i default = f i := by simp [List.getD, hi]
  rw [this]
  exact h.row.2.1 i hi
theorem Hp.of_own {w : World} {lo g n c : Nat} {es : List Evt} (h : w.ownsRow lo 39 6 (.slice (some ⟨g, 0, none⟩) n c) n (flat es)) (hn : 0 < n) : Hp w lo g n c (fun i => es.getD i default) := by
  have hr := Row.of_own h hn
  obtain ⟨_, h2⟩ := h
  rcases h2 with ⟨_, h0⟩ | ⟨g', cap, cur, hv, hg, hb, hc, hm, hs, _⟩
  · omega
  · injection hv with hA _ hcap
    injection hA with hA
    injection hA with hA _ _
    subst hA hcap
    exact ⟨hr, hg, hc, hm, cur, hb, hs⟩
/-- The two events change places. -/
theorem Hp.swp {w' : World} {lo g n c i j : Nat} {f : Nat → Evt} (h : Hp w' lo g n c (fun k => if k = j then f i else if k = i then f j else f k)) : Hp w' lo g n c (Go.Proofs.Ytjdoealcmokakaa.swp f i j) :=
  h.as_ fun k _ => by
    unfold Go.Proofs.Ytjdoealcmokakaa.swp
    by_cases h2 : k = j
    · rw [if_pos h2]
      by_cases h1 : k = i
      · rw [if_pos h1, ← h1, ← h2]
      · rw [if_neg h1, if_pos h2]
    · rw [if_neg h2]
      by_cases h1 : k = i
      · rw [if_pos h1, if_pos h1]
      · rw [if_neg h1, if_neg h1, if_neg h2]
end Go.Proofs.Ytjdoealcmokakaa

namespace Go.Proofs.Ytjdoealcmokakaa
set_option maxRecDepth 100000
open Go.RowKit
theorem implLess_any (a b : Evt) (w : World) : Calls Try.prog 18 #[a.v, b.v] w fun x w' => x = .returned (.bool (ltE a b)) ∧ Up w w' := by
  have c := fun W => cmpE_any a b W
  have hf : ltE a b = decide (cmpE a b < 0) := rfl
  generalize cmpE a b = n at c hf
  obtain ⟨at_, ato, afr, asq, akd, adt⟩ := a; obtain ⟨bt, bto, bfr, bsq, bkd, bdt⟩ := b; unfold Evt.v at c ⊢; dsimp only at c ⊢
  generalize ltE ⟨at_, ato, afr, asq, akd, adt⟩ ⟨bt, bto, bfr, bsq, bkd, bdt⟩ = r at hf ⊢
  have C := Lib.hid c
  have HF := Lib.hid hf
  clear c hf
  go_enter Try.func18, Try.ntmps18
  go_wp2_with fail
  refine (C.out _).mono ?_; rintro x w1 ⟨rfl, u1⟩; go_wp2; go_ret
  exact ⟨ret_bool HF.out.symm, (((Up.refl _).alloc _).alloc _).trans u1⟩
end Go.Proofs.Ytjdoealcmokakaa

namespace Go.Proofs.Ytjdoealcmokakaa
set_option maxRecDepth 100000
open Go.RowKit
theorem hpLen_any (A : Option Addr) (n c : Nat) (w : World) : Calls Try.prog 121 #[.slice A n c] w fun x w' => x = .returned (.int .i64 (n : Int)) ∧ w' = w := by
  go_enter Try.func121, Try.ntmps121
  go_wp2; go_ret
  exact ⟨rfl, rfl⟩
set_option maxHeartbeats 4000000 in
theorem hpLess_any (g n c i j : Nat) (f : Nat → Evt) (w : World) (hR : Row w g n f) (hi : i < n) (hj : j < n) :
    Calls Try.prog 122 #[.slice (some ⟨g, 0, none⟩) n c, .int .i64 (i : Int), .int .i64 (j : Int)] w fun x w' => x = .returned (.bool (ltE (f i) (f j))) ∧ Up w w' := by
  have EX := Lib.hid (hR.2.1 i hi)
  have EY := Lib.hid (hR.2.1 j hj)
  have GL := Lib.hid hR.1
  clear hR
  have CL := Lib.hid (fun W => implLess_any (f i) (f j) W)
  generalize ltE (f i) (f j) = b at CL ⊢
  generalize f i = x at EX CL
  generalize f j = y at EY CL
  obtain ⟨xt, xto, xfr, xsq, xkd, xdt⟩ := x; obtain ⟨yt, yto, yfr, ysq, ykd, ydt⟩ := y; unfold Evt.v at CL; dsimp only at CL
  have l1 : (i : Int) < n := by omega
  have l2 : (j : Int) < n := by omega
  have l3 : (0 : Int) ≤ i := by omega
  have l4 : (0 : Int) ≤ j := by omega
  go_enter Try.func122, Try.ntmps122
  go_wp2_with fail
  refine region_mixH (fun w1 => Up w w1) [(0, true), (1, true), (2, true), (3, true), (4, true), (5, true), (6, true), (7, true), (8, false), (9, true)] (by kernel_rfl) (by kernel_rfl) (Up.refl _).drew ?_; refine mixH_take rfl (by rfl) ?_; apply Exists.intro; refine ⟨fun w1 hS1 => ?_, ?_⟩
  · clear hS1
    go_simp
    try rfl
  go_simp; refine mixH_take rfl (by rfl) ?_; apply Exists.intro; refine ⟨fun w1 hS1 => ?_, ?_⟩
  · clear hS1
    go_simp
    try rfl
  go_simp; refine mixH_take rfl (by rfl) ?_; apply Exists.intro; refine ⟨fun w1 hS1 => ?_, ?_⟩
  · clear hS1
    go_simp
    try rfl
  go_simp; refine mixH_take rfl (by rfl) ?_; apply Exists.intro; refine ⟨fun w1 hS1 => ?_, ?_⟩
  · obtain ⟨p0, p1, p2, p3, p4, p5⟩ := EX.out.up hS1 GL.out
    obtain ⟨q0, q1, q2, q3, q4, q5⟩ := EY.out.up hS1 GL.out
    have lg := Nat.lt_of_lt_of_le GL.out hS1.size
    dsimp only at p0 p1 p2 p3 p4 p5 q0 q1 q2 q3 q4 q5; clear hS1; go_simp
    try rfl
  go_simp; refine mixH_take rfl (by rfl) ?_; apply Exists.intro; refine ⟨fun w1 hS1 => ?_, ?_⟩
  · clear hS1
    go_simp
    try rfl
  go_simp; refine mixH_take rfl (by rfl) ?_; apply Exists.intro; refine ⟨fun w1 hS1 => ?_, ?_⟩
  · clear hS1
    go_simp
    try rfl
  go_simp; refine mixH_take rfl (by rfl) ?_; apply Exists.intro; refine ⟨fun w1 hS1 => ?_, ?_⟩
  · clear hS1
    go_simp
    try rfl
  go_simp; refine mixH_take rfl (by rfl) ?_; apply Exists.intro; refine ⟨fun w1 hS1 => ?_, ?_⟩
  · obtain ⟨p0, p1, p2, p3, p4, p5⟩ := EX.out.up hS1 GL.out
    obtain ⟨q0, q1, q2, q3, q4, q5⟩ := EY.out.up hS1 GL.out
    have lg := Nat.lt_of_lt_of_le GL.out hS1.size
    dsimp only at p0 p1 p2 p3 p4 p5 q0 q1 q2 q3 q4 q5; clear hS1; go_simp
    try rfl
  go_simp; refine mixH_go rfl (by rfl) (fun K hK => ?_); go_simp; refine (CL.out _).mono ?_; rintro x w2 ⟨rfl, u⟩; refine hK _ _ ((Up.refl _).drew.trans u) ?_; clear hK K; go_simp; refine mixH_take rfl (by rfl) ?_; apply Exists.intro; refine ⟨fun w1 hS1 => ?_, ?_⟩
  · clear hS1
    go_simp
    try rfl
  go_simp; refine mixH_nil ?_; go_wp2; go_ret
  exact ⟨rfl, (Up.refl _).drew.trans u⟩
set_option maxHeartbeats 8000000 in
theorem hpSwap_any (g n c i j : Nat) (f : Nat → Evt) (w : World) (lo : Nat) (hR : Hp w lo g n c f) (hij : i < j) (hj : j < n) :
    Calls Try.prog 123 #[.slice (some ⟨g, 0, none⟩) n c, .int .i64 (i : Int), .int .i64 (j : Int)] w fun x w' => x = .returned (.tuple #[]) ∧ Hp w' lo g n c (swp f i j) ∧ Mv g w w' := by
  have HP := Lib.hid hR
  have e1 := hR.row.2.1 i (by omega)
  have e2 := hR.row.2.1 j hj
  have AA := Lib.hid ((hR.put (k := i) (e := f j) (by omega)).put (k := j) (e := f i) hj).swp
  generalize f i = x at e1 AA
  generalize f j = y at e2 AA
  obtain ⟨xt, xto, xfr, xsq, xkd, xdt⟩ := x; obtain ⟨yt, yto, yfr, ysq, ykd, ydt⟩ := y; unfold EvAt at e1 e2; dsimp only at e1 e2; obtain ⟨p0, p1, p2, p3, p4, p5⟩ := e1; obtain ⟨q0, q1, q2, q3, q4, q5⟩ := e2
  have fz := fun o (ho : o < n * 6) => hR.row.2.2 o ho
  have f0 := fz (i * 6) (by omega)
  have g0 := fz (j * 6) (by omega)
  have f1 := fz (i * 6 + 1) (by omega)
  have g1 := fz (j * 6 + 1) (by omega)
  have f2 := fz (i * 6 + 2) (by omega)
  have g2 := fz (j * 6 + 2) (by omega)
  have f3 := fz (i * 6 + 3) (by omega)
  have g3 := fz (j * 6 + 3) (by omega)
  have f4 := fz (i * 6 + 4) (by omega)
  have g4 := fz (j * 6 + 4) (by omega)
  have f5 := fz (i * 6 + 5) (by omega)
  have g5 := fz (j * 6 + 5) (by omega)
  have gl := hR.row.1
  have l1 : (i : Int) < n := by omega
  have l2 : (j : Int) < n := by omega
  have l3 : (0 : Int) ≤ i := by omega
  have l4 : (0 : Int) ≤ j := by omega
  clear fz hR
  have hne : i ≠ j := by omega
  go_enter Try.func123, Try.ntmps123
  go_wp2_with fail
  go_region
  have A2 := (AA.out.up (Up.refl _).drew)
  unfold putEv at A2
  exact bodyPost_end (v := .tuple #[]) (results_none Try.results123 _ _ _) rfl ⟨rfl, A2, (((((((((((((Mv.refl _ _).setCell _).setCell _).setCell _).setCell _).setCell _).setCell _).setCell _).setCell _).setCell _).setCell _).setCell _).setCell _).drew⟩
end Go.Proofs.Ytjdoealcmokakaa

namespace Go.Proofs.Ytjdoealcmokakaa
set_option maxRecDepth 100000
open Go.RowKit
set_option maxHeartbeats 8000000 in
theorem hpSwap_one (g n c i : Nat) (f : Nat → Evt) (w : World) (lo : Nat) (hR : Hp w lo g n c f) (hj : i < n) :
    Calls Try.prog 123 #[.slice (some ⟨g, 0, none⟩) n c, .int .i64 (i : Int), .int .i64 (i : Int)] w fun x w' => x = .returned (.tuple #[]) ∧ Hp w' lo g n c f ∧ Mv g w w' := by
  have e1 := hR.row.2.1 i (by omega)
  have AA := Lib.hid (((hR.put (k := i) (e := f i) (by omega)).put (k := i) (e := f i) hj).as_ (f' := f) (fun k _ => by by_cases h : k = i <;> simp [h]))
  generalize f i = x at e1 AA
  obtain ⟨xt, xto, xfr, xsq, xkd, xdt⟩ := x; unfold EvAt at e1; dsimp only at e1; obtain ⟨p0, p1, p2, p3, p4, p5⟩ := e1
  have fz := fun o (ho : o < n * 6) => hR.row.2.2 o ho
  have f0 := fz (i * 6) (by omega)
  have f1 := fz (i * 6 + 1) (by omega)
  have f2 := fz (i * 6 + 2) (by omega)
  have f3 := fz (i * 6 + 3) (by omega)
  have f4 := fz (i * 6 + 4) (by omega)
  have f5 := fz (i * 6 + 5) (by omega)
  have gl := hR.row.1
  have l1 : (i : Int) < n := by omega
  have l3 : (0 : Int) ≤ i := by omega
  clear fz hR
  go_enter Try.func123, Try.ntmps123
  go_wp2_with fail
  go_region
  have A2 := (AA.out.up (Up.refl _).drew)
  unfold putEv at A2
  exact bodyPost_end (v := .tuple #[]) (results_none Try.results123 _ _ _) rfl ⟨rfl, A2, (((((((((((((Mv.refl _ _).setCell _).setCell _).setCell _).setCell _).setCell _).setCell _).setCell _).setCell _).setCell _).setCell _).setCell _).setCell _).drew⟩
end Go.Proofs.Ytjdoealcmokakaa

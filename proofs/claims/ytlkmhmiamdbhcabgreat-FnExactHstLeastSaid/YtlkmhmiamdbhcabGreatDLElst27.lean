/-
  What slices.Grow and slices.Concat return of slices of items, in one sentence: a new slice of all of them, one behind the other; for every row of slices that lies in memory.
  Rows of the call's own are kept, in one sentence: where their block is as it was they are; rows of other elements lie apart; no condition is made.
  What the stack's push does, in one sentence: what was done lies behind the others, in a row of the call's own; for every stack in a block of the call's own.
  What slices.Grow and slices.Concat return of slices of what is kept, in one sentence: a new slice of all of them, one behind the other; for every row of slices that lies in memory.
-/
import Derived.Deep.RegionLaw
import Derived.Lib.AppendZeros
import Derived.Test.YtlkmhmiamdbhcabGreatDLElst03
import Derived.Test.YtlkmhmiamdbhcabGreatDLElst04
import Derived.Test.YtlkmhmiamdbhcabGreatDLElst10
import Derived.Test.YtlkmhmiamdbhcabGreatDLElst24
import Derived.Test.YtlkmhmiamdbhcabGreatDLElst25
import Derived.Test.YtlkmhmiamdbhcabGreatDLElst26
namespace Go.Proofs.YtlkmhmiamdbhcabGreat
set_option maxRecDepth 100000
open Go.RowKit
theorem RecAt.at7 {w : World} {b o k : Nat} {r : Rec} {u : Value} (h : RecAt w b o r) (hk : k < 7) (hu : r.c7[k]? = some u) : w.cell? ⟨b, o + k, none⟩ = some u := by
  obtain ⟨h0, h1, h2, h3, h4, h5, h6⟩ := h
  have e : k = 0 ∨ k = 1 ∨ k = 2 ∨ k = 3 ∨ k = 4 ∨ k = 5 ∨ k = 6 := by omega
  rcases e with rfl | rfl | rfl | rfl | rfl | rfl | rfl
  · exact h0.trans hu
  · exact h1.trans hu
  · exact h2.trans hu
  · exact h3.trans hu
  · exact h4.trans hu
  · exact h5.trans hu
  · exact h6.trans hu
theorem Recs.reads {w : World} {A : Option Addr} {n : Nat} {es : List Rec} (h : Recs w A n es) : Reads w w.heap.size 7 A n (flat7 es) := by
  refine ⟨by rw [flat7_len, h.1], fun hn => ?_⟩; obtain ⟨b, off, hA, hb, hc⟩ := h.2 hn; refine ⟨_, hA, hb, fun j u hu => ?_⟩
  have hj : j < (flat7 es).length := (List.getElem?_eq_some_iff.1 hu).1
  rw [flat7_len, h.1] at hj
  have e : j = j / 7 * 7 + j % 7 := by omega
  have hi : j / 7 < n := by omega
  rw [e, flat7_get es _ _ (by rw [h.1]; exact hi) (by omega)] at hu
  have := (hc _ hi).at7 (by omega) hu
  have ad : (⟨b, off, none⟩ : Addr).add j = ⟨b, off + j / 7 * 7 + j % 7, none⟩ := by
    unfold Addr.add
    split
    · rename_i h0; subst h0; rfl
    · rw [Nat.add_assoc, ← e]
  rw [ad]
  exact this
/-- The new slice that a function hands back. -/
def NewIt (es : List Rec) (w : World) (x : Ending) (w' : World) : Prop :=
  ∃ A c, x = .returned (.slice A es.length c) ∧ es.length ≤ c ∧ c ≤ 9223372036854775807 ∧ Recs w' A es.length es ∧ w'.ownsRow w.heap.size 109 7 (.slice A es.length c) es.length (flat7 es) ∧ Up w w'
theorem NewIt.of_own {w w' : World} {n : Nat} {v : Value} {es : List Rec} (h : w'.ownsRow w.heap.size 109 7 v n (flat7 es)) (u : Up w w') : NewIt es w (.returned v) w' := by
  obtain ⟨rfl, A, c, rfl, hc, hm⟩ := own7_slice h
  exact ⟨A, c, rfl, hc, hm, own7_recs h, h, u⟩
def GrownIt (w : World) (x : Ending) (w' : World) : Prop := ∃ v, x = .returned v ∧ w'.ownsRow w.heap.size 109 7 v 0 (flat7 []) ∧ Up w w'
theorem zerosI_size (z : Array Value) (n : Nat) : (Builtin.zeroCells z n).size = n * z.size := by simp [Builtin.zeroCells]
set_option maxHeartbeats 4000000 in
theorem growI_any (n : Nat) (w : World) (hn : n ≤ 2000000000) : Calls Tryz.prog 124 #[.slice none 0 0, .int .i64 n] w (GrownIt w) := by
  obtain ⟨i0, hi0, hz0, hz1, hz2⟩ := info_parts info109
  have INF := Lib.hid (And.intro hi0 (And.intro hz0 (And.intro hz1 hz2)))
  clear hi0 hz0 hz1 hz2
  by_cases h0 : n = 0
  · subst h0
    go_enter Tryz.func124, Tryz.ntmps124
    go_wp2; go_ret
    exact ⟨_, rfl, ⟨rfl, .inl ⟨rfl, rfl⟩⟩, Up.refl _⟩
  · have p0 : 0 < n := by omega
    have p1 : (0 : Int) < n := by omega
    have p2 : ¬ (n : Int) < 0 := by omega
    have h48 : n * i0.bytes ≤ 281474976710656 := by rw [INF.out.2.2.2]; omega
    have RUN := Lib.hid (fun ty W => Lib.run_append_nil_zeros (P := Tryz.prog) W 43 3 ty 109 i0 _ .i64 .i64 Tryz.underlying43 Tryz.underlying3 INF.out.1 INF.out.2.1 n p0 (by rw [INF.out.2.2.1]; omega) (by omega) h48)
    clear h48
    go_enter Tryz.func124, Tryz.ntmps124
    go_wp2_with (at_builtin; refine Lib.wpList_append_run _ rfl (.tmp 20) (.tmp 21) 43 3 rfl _ _ rfl rfl _ _ (RUN.out _ _) ?_)
    go_ret; refine ⟨_, rfl, ⟨rfl, .inr ⟨w.heap.size, grownCap w n 0 109, _, rfl, Nat.le_refl _, heap_alloc_new w.drew _, Nat.zero_le _, grownCap_le_maxLen _ _ _ _ (by simp only [maxLen]; omega), ?_, rfl⟩⟩, (Up.refl w).drew.alloc _⟩
    have := grownCap_ge w n 0 109
    rw [Array.size_append, zerosI_size, zerosI_size]; simp
    omega
/-- The block b holds one slice for each list. -/
def PartsI (w : World) (b : Nat) (L : List (List Rec)) : Prop :=
  ∀ j, j < L.length → ∃ A c, w.cell? ⟨b, j, none⟩ = some (.slice A (L.getD j []).length c) ∧ Recs w A (L.getD j []).length (L.getD j [])
theorem flatI_step (L : List (List Rec)) (k : Nat) (h : k < L.length) : (L.take (k + 1)).flatten = (L.take k).flatten ++ L.getD k [] := by
  rw [List.take_succ_eq_append_getElem h, List.flatten_append]; simp [h]
theorem flatI_le (L : List (List Rec)) (k : Nat) : (L.take k).flatten.length ≤ L.flatten.length := by
  have : L.flatten = (L.take k).flatten ++ (L.drop k).flatten := by rw [← List.flatten_append, List.take_append_drop]
  rw [this, List.length_append]
  omega
theorem flatI_end (L : List (List Rec)) (k : Nat) (h : L.length ≤ k) : (L.take k).flatten = L.flatten := by rw [List.take_of_length_le h]
set_option maxHeartbeats 4000000 in
theorem concatI_any (b cap : Nat) (L : List (List Rec)) (w : World) (hL : L.length ≤ 1000000) (hb : b < w.heap.size) (hP : PartsI w b L) (hT : L.flatten.length ≤ 1000000000) :
    Calls Tryz.prog 96 #[.slice (some ⟨b, 0, none⟩) L.length cap] w (NewIt L.flatten w) := by
  obtain ⟨i0, hi0, hz0, hz1, hz2⟩ := info_parts info109
  have INF := Lib.hid (And.intro hi0 (And.intro hz0 (And.intro hz1 hz2)))
  have SIX := Lib.hid (show 0 < 7 by omega)
  have HP := Lib.hid hP
  have FS := Lib.hid (flatI_step L)
  have FL := Lib.hid (flatI_le L)
  have FE := Lib.hid (flatI_end L)
  have HT := Lib.hid hT
  clear hi0 hz0 hz1 hz2 hP hT
  go_enter Tryz.func96, Tryz.ntmps96
  go_wp2
  go_loopw [3, 11] (fun s i wr => (∃ k : Nat, k ≤ L.length ∧ i = .int .i64 k ∧ s = .int .i64 ((L.take k).flatten.length : Nat)) ∧ Up w wr) (fun _ i _ => L.length - (intOf i).toNat)
  case atStart => exact ⟨⟨0, by omega, rfl, rfl⟩, Up.refl _⟩
  case round =>
    obtain ⟨⟨k, hk, rfl, rfl⟩, ur⟩ := hrel
    by_cases hlt : k < L.length
    · obtain ⟨A, c, hcell, _⟩ := HP.out k hlt
      have cell' := (ur.cells b k hb).trans hcell
      clear hcell
      have st := congrArg List.length (FS.out k hlt)
      rw [List.length_append] at st
      have le := FL.out (k + 1)
      have ht := HT.out
      generalize (L.getD k []).length = m at st cell'
      generalize hs2 : (L.take (k + 1)).flatten.length = s2 at st le
      have HS2 := Lib.hid hs2
      clear hs2
      generalize (L.take k).flatten.length = s at st
      have ST := Lib.hid st
      have sm : s + m ≤ 1000000000 := by omega
      clear st le ht
      have i3 : (k : Int) < L.length := by omega
      have i4 : IntKind.i64.wrap ((s : Int) + m) = (s : Int) + m := IntWalk.i64_in _ (by omega)
      have i5 : ¬ (s : Int) + m < 0 := by omega
      have hb' : b < wr.heap.size := by have := ur.size; omega
      go_wp2
      go_roundw
      case rel => exact ⟨⟨k + 1, by omega, by go_num, by rw [HS2.out, ST.out]; simp⟩, ur⟩
      case measure => simp [intOf]; omega
    · have i3 : ¬ (k : Int) < L.length := by omega
      rw [FE.out k (by omega)]
      have ht := HT.out
      generalize hN : L.flatten.length = N at ht
      have HN := Lib.hid hN
      clear hN
      go_wp2_with fail
      refine (growI_any N _ (by omega)).mono ?_; rintro x w1 ⟨v1, rfl, o1, u1⟩
      have O1 := Lib.hid (own_mono o1 ur.size)
      have U1 := Lib.hid (ur.trans u1)
      clear o1 u1 ur i3 hk ht
      go_wp2_with fail
      go_loopw [6, 27] (fun v i wr => (∃ k : Nat, k ≤ L.length ∧ i = .int .i64 k ∧ wr.ownsRow w.heap.size 109 7 v (L.take k).flatten.length (flat7 (L.take k).flatten)) ∧ Up w wr) (fun _ i _ => L.length - (intOf i).toNat)
      case atStart => exact ⟨⟨0, by omega, rfl, O1.out⟩, U1.out⟩
      case round =>
        obtain ⟨⟨k, hk, rfl, ho⟩, ur⟩ := hrel
        have HO := Lib.hid ho
        clear ho U1
        by_cases hlt : k < L.length
        · obtain ⟨A, c, hcell, hev⟩ := HP.out k hlt
          have cell' := (ur.cells b k hb).trans hcell
          have RD := Lib.hid (hev.up ur).reads
          clear hcell hev
          have fk := FS.out k hlt
          have st := congrArg List.length (FS.out k hlt)
          rw [List.length_append] at st
          generalize L.getD k [] = es at cell' RD fk st
          have FK := Lib.hid fk
          clear fk
          have ht := HT.out
          have le := FL.out (k + 1)
          have HMX := Lib.hid (show (L.take k).flatten.length + es.length ≤ maxLen by simp only [maxLen]; omega)
          have HBY := Lib.hid (show ((L.take k).flatten.length + es.length) * 56 ≤ 140737488355328 by omega)
          have HBS := Lib.hid ur.size
          have ST := Lib.hid st
          clear st ht le
          have i3 : (k : Int) < L.length := by omega
          have hb' : b < wr.heap.size := by have := HBS.out; omega
          go_wp2_with (at_builtin; refine wpList_append_any _ rfl (.tmp 31) (.tmp 32) 43 rfl w.heap.size 109 i0 _ 7 56 Tryz.underlying43 INF.out.1 INF.out.2.1 INF.out.2.2.1 INF.out.2.2.2 rfl SIX.out _ _ _ rfl HO.out _ _ _ _ (flat7 es) rfl RD.out (flat7_one _) HMX.out HBY.out HBS.out ?_; intro v2 w2 ho2 hg2 _)
          have HO2 := Lib.hid ho2
          have HG2 := Lib.hid hg2
          clear ho2 hg2
          go_roundw
          case rel => exact ⟨⟨k + 1, by omega, by go_num, by rw [FK.out, flat7_app, List.length_append]; exact HO2.out⟩, ur.grown HG2.out (fun j hj => (HO.out.lt j hj).1)⟩
          case measure => simp [intOf]; omega
        · have i3 : ¬ (k : Int) < L.length := by omega
          have HO2 := Lib.hid (show wr.ownsRow w.heap.size 109 7 _ L.flatten.length (flat7 L.flatten) from FE.out k (by omega) ▸ HO.out)
          go_wp2; go_ret
          exact NewIt.of_own HO2.out ur
theorem concatI2 (A1 : Option Addr) (n1 c1 : Nat) (es1 : List Rec) (A2 : Option Addr) (n2 c2 : Nat) (es2 : List Rec) (W : World) (h1 : Recs W A1 n1 es1) (h2 : Recs W A2 n2 es2) (hT : n1 + n2 ≤ 1000000000) :
    Calls Tryz.prog 96 #[.slice (some ⟨W.heap.size, 0, none⟩) 2 2] (W.alloc (.cells #[.slice A1 n1 c1, .slice A2 n2 c2] 43)) (NewIt (es1 ++ es2) (W.alloc (.cells #[.slice A1 n1 c1, .slice A2 n2 c2] 43))) := by
  obtain rfl := h1.1; obtain rfl := h2.1
  have hh := heap_alloc_new W (.cells #[.slice A1 es1.length c1, .slice A2 es2.length c2] 43)
  have := concatI_any W.heap.size 2 [es1, es2] (W.alloc (.cells #[.slice A1 es1.length c1, .slice A2 es2.length c2] 43)) (by simp) (by simp) (fun j hj => by
    have h : j = 0 ∨ j = 1 := by simp at hj; omega
    rcases h with rfl | rfl
    · exact ⟨A1, c1, by rw [cell_of_row _ _ 0 _ _ _ hh]; rfl, h1.up ((Up.refl W).alloc _)⟩
    · exact ⟨A2, c2, by rw [cell_of_row _ _ 1 _ _ _ hh]; rfl, h2.up ((Up.refl W).alloc _)⟩) (by simpa using hT)
  simpa using this
end Go.Proofs.YtlkmhmiamdbhcabGreat

namespace Go.Proofs.YtlkmhmiamdbhcabGreat
set_option maxRecDepth 100000
open Go.RowKit
theorem own_keep {w w' : World} {b e size n : Nat} {v : Value} {xs : List Value} (h : w.ownsRow b e size v n xs) (k : ∀ g, v.ownBlock = some g → g < w.heap.size → w'.heap[g]? = w.heap[g]?) : w'.ownsRow b e size v n xs := by
  refine ⟨h.1, ?_⟩
  rcases h.2 with h0 | ⟨g, cap, cur, rfl, hg, hb, hr⟩
  · exact .inl h0
  · exact .inr ⟨g, cap, cur, rfl, hg, (k g rfl (Array.getElem?_eq_some_iff.1 hb).1).trans hb, hr⟩
/-- Rows of other elements lie apart. -/
theorem own_apart {w : World} {b b' e e' size size' n n' : Nat} {v v' : Value} {xs xs' : List Value} (h : w.ownsRow b e size v n xs) (h' : w.ownsRow b' e' size' v' n' xs') (he : e ≠ e') : ∀ g, v.ownBlock = some g → v'.ownBlock = some g → False := fun g h1 h2 => by
  rcases h.2 with ⟨rfl, _⟩ | ⟨g1, cap, cur, rfl, _, hb, _⟩
  · cases h1
  rcases h'.2 with ⟨rfl, _⟩ | ⟨g2, cap', cur', rfl, _, hb', _⟩
  · cases h2
  injection h1 with h1
  injection h2 with h2
  have h1 : g1 = g := h1
  have h2 : g2 = g := h2
  subst h1; subst h2; rw [hb] at hb'
  injection hb' with hb'
  injection hb' with _ hb' _
  exact he hb'
/-- A row and a block of another kind lie apart. -/
theorem own_off {w : World} {b e size n p : Nat} {v : Value} {xs : List Value} {cur : Array Value} {e' : Nat} {fz : Nat × Nat} (h : w.ownsRow b e size v n xs) (hp : w.heap[p]? = some (.cells cur e' fz)) (he : e ≠ e') : ∀ g, v.ownBlock = some g → g ≠ p := fun g h1 h2 => by
  subst h2
  rcases h.2 with ⟨rfl, _⟩ | ⟨g1, cap, cur', rfl, _, hb, _⟩
  · cases h1
  injection h1 with h1
  have h1 : g1 = g := h1
  subst h1; rw [hb] at hp
  injection hp with hp
  injection hp with _ hp _
  exact he hp
end Go.Proofs.YtlkmhmiamdbhcabGreat

namespace Go.Proofs.YtlkmhmiamdbhcabGreat
set_option maxRecDepth 100000
open Go.RowKit
/-- The twelve cells as a list. -/
def Don.c12 (d : Don) (s : Value) : List Value := [.int .i64 d.it.ev.t, .int .i64 d.it.ev.to, .int .i64 d.it.ev.fr, .int .i64 d.it.ev.sq, .int .i64 d.it.ev.kd, .int .i64 d.it.ev.dt, .int .i64 d.it.s, .int .i64 d.bf.s, .int .i64 d.bf.sq, .int .i64 d.bf.ct, .int .i64 d.s, s]
def flat12 : List (Don × Value) → List Value
  | [] => []
  | e :: r => e.1.c12 e.2 ++ flat12 r
theorem flat12_app : ∀ es fs : List (Don × Value), flat12 (es ++ fs) = flat12 es ++ flat12 fs
  | [], _ => rfl
  | e :: r, fs => by rw [List.cons_append, flat12, flat12_app r fs, flat12, List.append_assoc]
theorem c12_one (d : Don) (A : Option Addr) (n c : Nat) : ∀ u ∈ d.c12 (.slice A n c), u.oneCell' = true := by
  intro u hu; simp only [Don.c12, List.mem_cons, List.not_mem_nil, or_false] at hu
  rcases hu with rfl | rfl | rfl | rfl | rfl | rfl | rfl | rfl | rfl | rfl | rfl | rfl <;> rfl
/-- Of the blocks that were there, p and x alone may have changed. -/
structure Fr2 (p : Nat) (x : Option Nat) (w w' : World) : Prop where
  os : w'.os = w.os
  tape : w'.tape = w.tape
  output : w'.output = w.output
  size : w.heap.size ≤ w'.heap.size
  block : ∀ k, k < w.heap.size → k ≠ p → some k ≠ x → w'.heap[k]? = w.heap[k]?
theorem Fr2.up {p : Nat} {x : Option Nat} {a w w' : World} (h : Fr2 p x w w') (u : Up a w) (hp : a.heap.size ≤ p) (hx : ∀ g, x = some g → a.heap.size ≤ g) : Up a w' :=
  ⟨h.os.trans u.below.os, h.tape.trans u.below.tape, h.output.trans u.below.output, Nat.le_trans u.size h.size, fun k hk => (h.block k (Nat.lt_of_lt_of_le hk u.size) (by omega) (fun e => by have := hx k e.symm; omega)).trans (u.below.block k hk)⟩
theorem Fr2.own {p : Nat} {x : Option Nat} {w w' : World} (h : Fr2 p x w w') {b e size n : Nat} {v : Value} {xs : List Value} (ho : w.ownsRow b e size v n xs) (hp : ∀ g, v.ownBlock = some g → g ≠ p) (hx : ∀ g, v.ownBlock = some g → some g ≠ x) : w'.ownsRow b e size v n xs :=
  own_keep ho fun g hg hl => h.block g hl (hp g hg) (hx g hg)
/-- What a push gives. -/
def PushD (lo p o n : Nat) (v : Value) (arr : Array Value) (T : Nat) (xs news : List Value) (w w' : World) : Prop :=
  ∃ v', w'.ownsRow lo 117 12 v' (n + 1) (xs ++ news) ∧ Blk w' p T (arr.setIfInBounds o v') ∧ (v'.ownBlock = v.ownBlock ∨ ∃ g, v'.ownBlock = some g ∧ w.heap.size ≤ g) ∧ Fr2 p v.ownBlock w w'
theorem pushD_fin {lo p o n T : Nat} {v v6 : Value} {arr : Array Value} {xs news : List Value} {w X w6 : World} (u0 : Up w X) (hB : Blk w p T arr) (hpv : v.ownBlock ≠ some p)
    (ho6 : w6.ownsRow lo 117 12 v6 (n + 1) (xs ++ news)) (hg6 : X.grownBy w6 v.ownBlock) (hv6 : v6.ownBlock = v.ownBlock ∨ v6.ownBlock = some X.heap.size) :
    PushD lo p o n v arr T xs news w (w6.setCell ⟨p, o, none⟩ v6) := by
  have hl := hB.lt
  have hs := u0.size
  have hB6 : Blk w6 p T arr := (hg6.block p (by omega) (fun e => hpv e.symm)).trans (hB.up u0)
  refine ⟨v6, own_keep ho6 (fun g hg hlt => Below.heap_setCell w6 ⟨p, o, none⟩ v6 g (fun e => ?_)), hB6.set o v6, ?_, ?_⟩
  · rcases hv6 with h | h
    · rw [h] at hg
      subst e
      exact hpv hg
    · rw [h] at hg
      injection hg with hg
      have e : g = p := e
      omega
  · rcases hv6 with h | h
    · exact .inl h
    · exact .inr ⟨_, h, hs⟩
  · refine ⟨hg6.os.trans u0.below.os, hg6.tape.trans u0.below.tape, hg6.output.trans u0.below.output, Nat.le_trans hs (by simpa using hg6.size), fun k hk h1 h2 => ?_⟩
    exact (Below.heap_setCell w6 ⟨p, o, none⟩ v6 k h1).trans ((hg6.block k (by omega) h2).trans (u0.below.block k hk))
theorem reads12_new (w : World) (d : Don) (A : Option Addr) (m c : Nat) (t : TypeId) : Reads (w.alloc (.cells #[.int .i64 d.it.ev.t, .int .i64 d.it.ev.to, .int .i64 d.it.ev.fr, .int .i64 d.it.ev.sq, .int .i64 d.it.ev.kd, .int .i64 d.it.ev.dt, .int .i64 d.it.s, .int .i64 d.bf.s, .int .i64 d.bf.sq, .int .i64 d.bf.ct, .int .i64 d.s, .slice A m c] t)) (w.alloc (.cells #[.int .i64 d.it.ev.t, .int .i64 d.it.ev.to, .int .i64 d.it.ev.fr, .int .i64 d.it.ev.sq, .int .i64 d.it.ev.kd, .int .i64 d.it.ev.dt, .int .i64 d.it.s, .int .i64 d.bf.s, .int .i64 d.bf.sq, .int .i64 d.bf.ct, .int .i64 d.s, .slice A m c] t)).heap.size 12 (some ⟨w.heap.size, 0, none⟩) 1 (d.c12 (.slice A m c)) := by
  refine ⟨rfl, fun _ => ⟨_, rfl, by simp, fun j u hu => ?_⟩⟩
  have hh := heap_alloc_new w (.cells #[.int .i64 d.it.ev.t, .int .i64 d.it.ev.to, .int .i64 d.it.ev.fr, .int .i64 d.it.ev.sq, .int .i64 d.it.ev.kd, .int .i64 d.it.ev.dt, .int .i64 d.it.s, .int .i64 d.bf.s, .int .i64 d.bf.sq, .int .i64 d.bf.ct, .int .i64 d.s, .slice A m c] t)
  have ad : (⟨w.heap.size, 0, none⟩ : Addr).add j = ⟨w.heap.size, j, none⟩ := by
    unfold Addr.add
    split <;> simp_all
  rw [ad, cell_of_row _ _ j _ _ _ hh, ← hu]; simp [Don.c12]
set_option maxHeartbeats 8000000 in
theorem pushD_any (lo p o n T : Nat) (v : Value) (arr : Array Value) (xs : List Value) (d : Don) (A : Option Addr) (m c : Nat) (w : World) (ho : w.ownsRow lo 117 12 v n xs) (hpv : v.ownBlock ≠ some p) (hB : Blk w p T arr) (ha : arr[o]? = some v) (hlo : lo ≤ w.heap.size) (hn : n ≤ 2000000) :
    Calls Tryz.prog 103 #[.pointer (some ⟨p, o, none⟩), d.v (.slice A m c)] w fun x w' => x = .returned (.tuple #[]) ∧ PushD lo p o n v arr T xs (d.c12 (.slice A m c)) w w' := by
  obtain ⟨i0, hi0, hz0, hz1, hz2⟩ := info_parts info117
  have INF := Lib.hid (And.intro hi0 (And.intro hz0 (And.intro hz1 hz2)))
  have TWL := Lib.hid (show 0 < 12 by omega)
  clear hi0 hz0 hz1 hz2
  have c12e := Lib.hid (c12_one d A m c)
  have RDX := fun W => reads12_new W d A m c 117
  have FIN := fun (v6 : Value) (X w6 : World) (u0 : Up w X) => pushD_fin (o := o) (v6 := v6) (news := d.c12 (.slice A m c)) (xs := xs) (n := n) (lo := lo) (w6 := w6) u0 hB hpv
  have hl := hB.lt
  have hc := hB.cell ha
  have hf := hB.frozen o
  generalize d.c12 (.slice A m c) = news at c12e RDX FIN ⊢
  obtain ⟨⟨⟨a0, a1, a2, a3, a4, a5⟩, a6⟩, ⟨a7, a8, a9⟩, a10, sent⟩ := d; unfold Don.v; dsimp only at RDX ⊢
  have FIN := Lib.hid FIN
  have RDX := Lib.hid RDX
  have HMX := Lib.hid (show n + 1 ≤ maxLen by simp only [maxLen]; omega)
  have HBY := Lib.hid (show (n + 1) * 112 ≤ 140737488355328 by omega)
  have HBS := Lib.hid (show lo ≤ ((w.alloc (.cells #[.int .i64 a0, .int .i64 a1, .int .i64 a2, .int .i64 a3, .int .i64 a4, .int .i64 a5, .int .i64 a6, .int .i64 a7, .int .i64 a8, .int .i64 a9, .int .i64 a10, .slice A m c] 117)).alloc (.cells #[.int .i64 a0, .int .i64 a1, .int .i64 a2, .int .i64 a3, .int .i64 a4, .int .i64 a5, .int .i64 a6, .int .i64 a7, .int .i64 a8, .int .i64 a9, .int .i64 a10, .slice A m c] 117)).heap.size by simp; omega)
  have UX := Lib.hid ((((Up.refl w).alloc (.cells #[.int .i64 a0, .int .i64 a1, .int .i64 a2, .int .i64 a3, .int .i64 a4, .int .i64 a5, .int .i64 a6, .int .i64 a7, .int .i64 a8, .int .i64 a9, .int .i64 a10, .slice A m c] 117)).alloc (.cells #[.int .i64 a0, .int .i64 a1, .int .i64 a2, .int .i64 a3, .int .i64 a4, .int .i64 a5, .int .i64 a6, .int .i64 a7, .int .i64 a8, .int .i64 a9, .int .i64 a10, .slice A m c] 117)).drew)
  have OWX := Lib.hid (own_up ho UX.out)
  have HF := Lib.hid hf
  have HPV := Lib.hid hpv
  have HB := Lib.hid hB
  clear ho hf hpv hB ha
  go_enter Tryz.func103, Tryz.ntmps103
  go_wp2_with fail
  go_region_law (refine wp_append_any _ (.tmp 8) (.tmp 10) 42 rfl lo 117 i0 _ 12 112 Tryz.underlying42 INF.out.1 INF.out.2.1 INF.out.2.2.1 INF.out.2.2.2 rfl TWL.out v n xs (by go_simp) OWX.out _ (some ⟨w.heap.size + 1, 0, none⟩) 1 1 news (by go_simp) (by have := RDX.out (w.alloc (.cells #[.int .i64 a0, .int .i64 a1, .int .i64 a2, .int .i64 a3, .int .i64 a4, .int .i64 a5, .int .i64 a6, .int .i64 a7, .int .i64 a8, .int .i64 a9, .int .i64 a10, .slice A m c] 117)); simp only [World.size_alloc] at this; exact this) c12e.out HMX.out HBY.out HBS.out ?_; intro v6 w6 ho6 hg6 hv6; obtain ⟨g6, c6, rfl, hgb6, hlt6⟩ := ho6.form (by omega); have fin6 := FIN.out _ _ w6 UX.out ho6 hg6 hv6; have hc6 : w6.cell? ⟨p, o, none⟩ = some v := (World.cell?_of_block (hg6.block p (Nat.lt_of_lt_of_le hl UX.out.size) (fun e => HPV.out e.symm))).trans ((UX.out.cells p o hl).trans hc); have hl6 : p < w6.heap.size := Nat.lt_of_lt_of_le (Nat.lt_of_lt_of_le hl UX.out.size) hg6.size; have hf6 : w6.frozen? ⟨p, o, none⟩ = false := (((HB.out.up UX.out) : Blk _ p T arr) |> fun (k : Blk _ p T arr) => (show Blk w6 p T arr from (hg6.block p k.lt (fun e => HPV.out e.symm)).trans k)).frozen o)
  all_goals exact bodyPost_end (v := .tuple #[]) (results_none Tryz.results103 _ _ _) rfl ⟨rfl, fin6⟩
end Go.Proofs.YtlkmhmiamdbhcabGreat

namespace Go.Proofs.YtlkmhmiamdbhcabGreat
set_option maxRecDepth 100000
open Go.RowKit
def Kep.c13 (r : Kep) : List Value := [.int .i64 r.by_.t, .int .i64 r.by_.to, .int .i64 r.by_.fr, .int .i64 r.by_.sq, .int .i64 r.by_.kd, .int .i64 r.by_.dt, .int .i64 r.sent.ev.t, .int .i64 r.sent.ev.to, .int .i64 r.sent.ev.fr, .int .i64 r.sent.ev.sq, .int .i64 r.sent.ev.kd, .int .i64 r.sent.ev.dt, .int .i64 r.sent.s]
def flat13 : List Kep → List Value
  | [] => []
  | e :: r => e.c13 ++ flat13 r
theorem flat13_len : ∀ es : List Kep, (flat13 es).length = es.length * 13
  | [] => rfl
  | e :: r => by
    rw [flat13, List.length_append, flat13_len r]; simp [Kep.c13]
    omega
theorem flat13_app : ∀ es fs : List Kep, flat13 (es ++ fs) = flat13 es ++ flat13 fs
  | [], _ => rfl
  | e :: r, fs => by rw [List.cons_append, flat13, flat13_app r fs, flat13, List.append_assoc]
theorem flat13_get : ∀ (es : List Kep) (i k : Nat), i < es.length → k < 13 → (flat13 es)[i * 13 + k]? = (es.getD i default).c13[k]?
  | [], i, _, hi, _ => absurd hi (by simp)
  | e :: r, 0, k, _, hk => by
    rw [flat13, Nat.zero_mul, Nat.zero_add, List.getElem?_append_left (by simpa [Kep.c13] using hk)]
    rfl
  | e :: r, i + 1, k, hi, hk => by
    have hl : e.c13.length = 13 := rfl
    rw [flat13, List.getElem?_append_right (by omega), hl, show (i + 1) * 13 + k - 13 = i * 13 + k by omega, flat13_get r i k (by simpa using hi) hk]
    rfl
theorem flat13_one (es : List Kep) : ∀ u ∈ flat13 es, u.oneCell' = true := by
  induction es with
  | nil => intro u hu; cases hu
  | cons e r ih =>
    intro u hu; rw [flat13, List.mem_append] at hu
    rcases hu with hu | hu
    · simp only [Kep.c13, List.mem_cons, List.not_mem_nil, or_false] at hu
      rcases hu with rfl | rfl | rfl | rfl | rfl | rfl | rfl | rfl | rfl | rfl | rfl | rfl | rfl <;> rfl
    · exact ih u hu
theorem own13_keps {w : World} {base e n c : Nat} {A : Option Addr} {es : List Kep} (h : w.ownsRow base e 13 (.slice A n c) n (flat13 es)) : Keps w A n es := by
  have hl : es.length = n := by have := h.1; rw [flat13_len] at this; omega
  refine ⟨hl, fun hn => ?_⟩; obtain ⟨g, cap, hv, _, hlt⟩ := h.form hn
  injection hv with hA _ hcap
  subst hA hcap; refine ⟨g, 0, rfl, hlt, fun i hi => ?_⟩
  have f : ∀ k, k < 13 → w.cell? ⟨g, 0 + i * 13 + k, none⟩ = (es.getD i default).c13[k]? := fun k hk => by
    rw [Nat.zero_add, h.cellAt (i * 13 + k) (by omega), flat13_get es i k (by omega) hk]
  exact ⟨f 0 (by omega), f 1 (by omega), f 2 (by omega), f 3 (by omega), f 4 (by omega), f 5 (by omega), f 6 (by omega), f 7 (by omega), f 8 (by omega), f 9 (by omega), f 10 (by omega), f 11 (by omega), f 12 (by omega)⟩
theorem own13_slice {w : World} {base e n : Nat} {v : Value} {es : List Kep} (h : w.ownsRow base e 13 v n (flat13 es)) : n = es.length ∧ ∃ A c, v = .slice A n c ∧ n ≤ c ∧ c ≤ 9223372036854775807 := by
  have hl : es.length = n := by have := h.1; rw [flat13_len] at this; omega
  refine ⟨hl.symm, ?_⟩
  rcases h.2 with ⟨rfl, rfl⟩ | ⟨g, cap, cur, rfl, _, _, hnc, hm, _⟩
  · exact ⟨none, 0, rfl, Nat.le_refl _, by omega⟩
  · exact ⟨_, cap, rfl, hnc, by unfold maxLen at hm; omega⟩
theorem KepAt.at13 {w : World} {b o k : Nat} {r : Kep} {u : Value} (h : KepAt w b o r) (hk : k < 13) (hu : r.c13[k]? = some u) : w.cell? ⟨b, o + k, none⟩ = some u := by
  obtain ⟨h0, h1, h2, h3, h4, h5, h6, h7, h8, h9, h10, h11, h12⟩ := h
  have e : k = 0 ∨ k = 1 ∨ k = 2 ∨ k = 3 ∨ k = 4 ∨ k = 5 ∨ k = 6 ∨ k = 7 ∨ k = 8 ∨ k = 9 ∨ k = 10 ∨ k = 11 ∨ k = 12 := by omega
  rcases e with rfl | rfl | rfl | rfl | rfl | rfl | rfl | rfl | rfl | rfl | rfl | rfl | rfl
  · exact h0.trans hu
  · exact h1.trans hu
  · exact h2.trans hu
  · exact h3.trans hu
  · exact h4.trans hu
  · exact h5.trans hu
  · exact h6.trans hu
  · exact h7.trans hu
  · exact h8.trans hu
  · exact h9.trans hu
  · exact h10.trans hu
  · exact h11.trans hu
  · exact h12.trans hu
theorem Keps.reads {w : World} {A : Option Addr} {n : Nat} {es : List Kep} (h : Keps w A n es) : Reads w w.heap.size 13 A n (flat13 es) := by
  refine ⟨by rw [flat13_len, h.1], fun hn => ?_⟩; obtain ⟨b, off, hA, hb, hc⟩ := h.2 hn; refine ⟨_, hA, hb, fun j u hu => ?_⟩
  have hj : j < (flat13 es).length := (List.getElem?_eq_some_iff.1 hu).1
  rw [flat13_len, h.1] at hj
  have e : j = j / 13 * 13 + j % 13 := by omega
  have hi : j / 13 < n := by omega
  rw [e, flat13_get es _ _ (by rw [h.1]; exact hi) (by omega)] at hu
  have := (hc _ hi).at13 (by omega) hu
  have ad : (⟨b, off, none⟩ : Addr).add j = ⟨b, off + j / 13 * 13 + j % 13, none⟩ := by
    unfold Addr.add
    split
    · rename_i h0; subst h0; rfl
    · rw [Nat.add_assoc, ← e]
  rw [ad]
  exact this
/-- The new slice that a function hands back. -/
def NewKp (es : List Kep) (w : World) (x : Ending) (w' : World) : Prop :=
  ∃ A c, x = .returned (.slice A es.length c) ∧ es.length ≤ c ∧ c ≤ 9223372036854775807 ∧ Keps w' A es.length es ∧ w'.ownsRow w.heap.size 111 13 (.slice A es.length c) es.length (flat13 es) ∧ Up w w'
theorem NewKp.of_own {w w' : World} {n : Nat} {v : Value} {es : List Kep} (h : w'.ownsRow w.heap.size 111 13 v n (flat13 es)) (u : Up w w') : NewKp es w (.returned v) w' := by
  obtain ⟨rfl, A, c, rfl, hc, hm⟩ := own13_slice h
  exact ⟨A, c, rfl, hc, hm, own13_keps h, h, u⟩
def GrownKp (w : World) (x : Ending) (w' : World) : Prop := ∃ v, x = .returned v ∧ w'.ownsRow w.heap.size 111 13 v 0 (flat13 []) ∧ Up w w'
set_option maxHeartbeats 4000000 in
theorem growK_any (n : Nat) (w : World) (hn : n ≤ 2000000000) : Calls Tryz.prog 128 #[.slice none 0 0, .int .i64 n] w (GrownKp w) := by
  obtain ⟨i0, hi0, hz0, hz1, hz2⟩ := info_parts info111
  have INF := Lib.hid (And.intro hi0 (And.intro hz0 (And.intro hz1 hz2)))
  clear hi0 hz0 hz1 hz2
  by_cases h0 : n = 0
  · subst h0
    go_enter Tryz.func128, Tryz.ntmps128
    go_wp2; go_ret
    exact ⟨_, rfl, ⟨rfl, .inl ⟨rfl, rfl⟩⟩, Up.refl _⟩
  · have p0 : 0 < n := by omega
    have p1 : (0 : Int) < n := by omega
    have p2 : ¬ (n : Int) < 0 := by omega
    have h48 : n * i0.bytes ≤ 281474976710656 := by rw [INF.out.2.2.2]; omega
    have RUN := Lib.hid (fun ty W => Lib.run_append_nil_zeros (P := Tryz.prog) W 44 3 ty 111 i0 _ .i64 .i64 Tryz.underlying44 Tryz.underlying3 INF.out.1 INF.out.2.1 n p0 (by rw [INF.out.2.2.1]; omega) (by omega) h48)
    clear h48
    go_enter Tryz.func128, Tryz.ntmps128
    go_wp2_with (at_builtin; refine Lib.wpList_append_run _ rfl (.tmp 20) (.tmp 21) 44 3 rfl _ _ rfl rfl _ _ (RUN.out _ _) ?_)
    go_ret; refine ⟨_, rfl, ⟨rfl, .inr ⟨w.heap.size, grownCap w n 0 111, _, rfl, Nat.le_refl _, heap_alloc_new w.drew _, Nat.zero_le _, grownCap_le_maxLen _ _ _ _ (by simp only [maxLen]; omega), ?_, rfl⟩⟩, (Up.refl w).drew.alloc _⟩
    have := grownCap_ge w n 0 111
    rw [Array.size_append, zerosI_size, zerosI_size]; simp
    omega
/-- The block b holds one slice for each list. -/
def PartsK (w : World) (b : Nat) (L : List (List Kep)) : Prop :=
  ∀ j, j < L.length → ∃ A c, w.cell? ⟨b, j, none⟩ = some (.slice A (L.getD j []).length c) ∧ Keps w A (L.getD j []).length (L.getD j [])
theorem flatK_step (L : List (List Kep)) (k : Nat) (h : k < L.length) : (L.take (k + 1)).flatten = (L.take k).flatten ++ L.getD k [] := by
  rw [List.take_succ_eq_append_getElem h, List.flatten_append]; simp [h]
theorem flatK_le (L : List (List Kep)) (k : Nat) : (L.take k).flatten.length ≤ L.flatten.length := by
  have : L.flatten = (L.take k).flatten ++ (L.drop k).flatten := by rw [← List.flatten_append, List.take_append_drop]
  rw [this, List.length_append]
  omega
theorem flatK_end (L : List (List Kep)) (k : Nat) (h : L.length ≤ k) : (L.take k).flatten = L.flatten := by rw [List.take_of_length_le h]
set_option maxHeartbeats 4000000 in
theorem concatK_any (b cap : Nat) (L : List (List Kep)) (w : World) (hL : L.length ≤ 1000000) (hb : b < w.heap.size) (hP : PartsK w b L) (hT : L.flatten.length ≤ 1000000000) :
    Calls Tryz.prog 102 #[.slice (some ⟨b, 0, none⟩) L.length cap] w (NewKp L.flatten w) := by
  obtain ⟨i0, hi0, hz0, hz1, hz2⟩ := info_parts info111
  have INF := Lib.hid (And.intro hi0 (And.intro hz0 (And.intro hz1 hz2)))
  have SIX := Lib.hid (show 0 < 13 by omega)
  have HP := Lib.hid hP
  have FS := Lib.hid (flatK_step L)
  have FL := Lib.hid (flatK_le L)
  have FE := Lib.hid (flatK_end L)
  have HT := Lib.hid hT
  clear hi0 hz0 hz1 hz2 hP hT
  go_enter Tryz.func102, Tryz.ntmps102
  go_wp2
  go_loopw [3, 11] (fun s i wr => (∃ k : Nat, k ≤ L.length ∧ i = .int .i64 k ∧ s = .int .i64 ((L.take k).flatten.length : Nat)) ∧ Up w wr) (fun _ i _ => L.length - (intOf i).toNat)
  case atStart => exact ⟨⟨0, by omega, rfl, rfl⟩, Up.refl _⟩
  case round =>
    obtain ⟨⟨k, hk, rfl, rfl⟩, ur⟩ := hrel
    by_cases hlt : k < L.length
    · obtain ⟨A, c, hcell, _⟩ := HP.out k hlt
      have cell' := (ur.cells b k hb).trans hcell
      clear hcell
      have st := congrArg List.length (FS.out k hlt)
      rw [List.length_append] at st
      have le := FL.out (k + 1)
      have ht := HT.out
      generalize (L.getD k []).length = m at st cell'
      generalize hs2 : (L.take (k + 1)).flatten.length = s2 at st le
      have HS2 := Lib.hid hs2
      clear hs2
      generalize (L.take k).flatten.length = s at st
      have ST := Lib.hid st
      have sm : s + m ≤ 1000000000 := by omega
      clear st le ht
      have i3 : (k : Int) < L.length := by omega
      have i4 : IntKind.i64.wrap ((s : Int) + m) = (s : Int) + m := IntWalk.i64_in _ (by omega)
      have i5 : ¬ (s : Int) + m < 0 := by omega
      have hb' : b < wr.heap.size := by have := ur.size; omega
      go_wp2
      go_roundw
      case rel => exact ⟨⟨k + 1, by omega, by go_num, by rw [HS2.out, ST.out]; simp⟩, ur⟩
      case measure => simp [intOf]; omega
    · have i3 : ¬ (k : Int) < L.length := by omega
      rw [FE.out k (by omega)]
      have ht := HT.out
      generalize hN : L.flatten.length = N at ht
      have HN := Lib.hid hN
      clear hN
      go_wp2_with fail
      refine (growK_any N _ (by omega)).mono ?_; rintro x w1 ⟨v1, rfl, o1, u1⟩
      have O1 := Lib.hid (own_mono o1 ur.size)
      have U1 := Lib.hid (ur.trans u1)
      clear o1 u1 ur i3 hk ht
      go_wp2_with fail
      go_loopw [6, 27] (fun v i wr => (∃ k : Nat, k ≤ L.length ∧ i = .int .i64 k ∧ wr.ownsRow w.heap.size 111 13 v (L.take k).flatten.length (flat13 (L.take k).flatten)) ∧ Up w wr) (fun _ i _ => L.length - (intOf i).toNat)
      case atStart => exact ⟨⟨0, by omega, rfl, O1.out⟩, U1.out⟩
      case round =>
        obtain ⟨⟨k, hk, rfl, ho⟩, ur⟩ := hrel
        have HO := Lib.hid ho
        clear ho U1
        by_cases hlt : k < L.length
        · obtain ⟨A, c, hcell, hev⟩ := HP.out k hlt
          have cell' := (ur.cells b k hb).trans hcell
          have RD := Lib.hid (hev.up ur).reads
          clear hcell hev
          have fk := FS.out k hlt
          have st := congrArg List.length (FS.out k hlt)
          rw [List.length_append] at st
          generalize L.getD k [] = es at cell' RD fk st
          have FK := Lib.hid fk
          clear fk
          have ht := HT.out
          have le := FL.out (k + 1)
          have HMX := Lib.hid (show (L.take k).flatten.length + es.length ≤ maxLen by simp only [maxLen]; omega)
          have HBY := Lib.hid (show ((L.take k).flatten.length + es.length) * 104 ≤ 140737488355328 by omega)
          have HBS := Lib.hid ur.size
          have ST := Lib.hid st
          clear st ht le
          have i3 : (k : Int) < L.length := by omega
          have hb' : b < wr.heap.size := by have := HBS.out; omega
          go_wp2_with (at_builtin; refine wpList_append_any _ rfl (.tmp 31) (.tmp 32) 44 rfl w.heap.size 111 i0 _ 13 104 Tryz.underlying44 INF.out.1 INF.out.2.1 INF.out.2.2.1 INF.out.2.2.2 rfl SIX.out _ _ _ rfl HO.out _ _ _ _ (flat13 es) rfl RD.out (flat13_one _) HMX.out HBY.out HBS.out ?_; intro v2 w2 ho2 hg2 _)
          have HO2 := Lib.hid ho2
          have HG2 := Lib.hid hg2
          clear ho2 hg2
          go_roundw
          case rel => exact ⟨⟨k + 1, by omega, by go_num, by rw [FK.out, flat13_app, List.length_append]; exact HO2.out⟩, ur.grown HG2.out (fun j hj => (HO.out.lt j hj).1)⟩
          case measure => simp [intOf]; omega
        · have i3 : ¬ (k : Int) < L.length := by omega
          have HO2 := Lib.hid (show wr.ownsRow w.heap.size 111 13 _ L.flatten.length (flat13 L.flatten) from FE.out k (by omega) ▸ HO.out)
          go_wp2; go_ret
          exact NewKp.of_own HO2.out ur
end Go.Proofs.YtlkmhmiamdbhcabGreat

/-
  What slices.Grow and slices.Concat return of slices of records, in one sentence: a new slice of all of them, one behind the other; for every row of slices that lies in memory.
  What the builtin copy gives for rows of numbers, in one sentence: the cells of the one become those of the other, all else stays; for all rows in memory.
  The conservative simulation at work in memory, in one sentence: rows of its hosts, whose slices lie in rows of their own, and its block, kept by what makes new blocks, by a copy into the block and by an append; no condition is made.
  One slice handed to slices.Concat, in one sentence: a new slice of the same, wherever the row of one slice lies; and the block of a simulation at work when it is made.
-/
import Derived.Laws.IdiomCopy
import Derived.Lib.AppendZeros
import Derived.Test.YtklldniapombiaaDLCbn01
import Derived.Test.YtklldniapombiaaDLCbn03
import Derived.Test.YtklldniapombiaaDLCbn05
import Derived.Test.YtklldniapombiaaDLCbn13
import Derived.Test.YtklldniapombiaaDLCbn14
import Derived.Test.YtklldniapombiaaDLCbn17
import Derived.Test.YtklldniapombiaaDLCbn18
import Derived.Test.YtklldniapombiaaDLCbn22
namespace Go.Proofs.Ytklldniapombiaa
set_option maxRecDepth 100000
open Go.RowKit
theorem RecAt.at7 {w : World} {b o k : Nat} {r : Rec} {u : Value} (h : RecAt w b o r) (hk : k < 7) (hu : r.c7[k]? = some u) : w.cell? ⟨b, o + k, none⟩ = some u := by
  obtain ⟨h0, h1, h2, h3, h4, h5, h6⟩ := h
  have e : k = 0 ∨ k = 1 ∨ k = 2 ∨ k = 3 ∨ k = 4 ∨ k = 5 ∨ k = 6 := by omega
  rcases e with rfl | rfl | rfl | rfl | rfl | rfl | rfl
  · exact h0.trans hu
  · exact h1.trans hu
  · exact h2.trans hu
  · exact h3.trans hu
  · exact h4.trans hu
  · exact h5.trans hu
  · exact h6.trans hu
theorem Recs.reads {w : World} {A : Option Addr} {n : Nat} {es : List Rec} (h : Recs w A n es) : Reads w w.heap.size 7 A n (flat7 es) := by
  refine ⟨by rw [flat7_len, h.1], fun hn => ?_⟩; obtain ⟨b, off, hA, hb, hc⟩ := h.2 hn; refine ⟨_, hA, hb, fun j u hu => ?_⟩
  have hj : j < (flat7 es).length := (List.getElem?_eq_some_iff.1 hu).1
  rw [flat7_len, h.1] at hj
  have e : j = j / 7 * 7 + j % 7 := by omega
  have hi : j / 7 < n := by omega
  rw [e, flat7_get es _ _ (by rw [h.1]; exact hi) (by omega)] at hu
  have := (hc _ hi).at7 (by omega) hu
  have ad : (⟨b, off, none⟩ : Addr).add j = ⟨b, off + j / 7 * 7 + j % 7, none⟩ := by
    unfold Addr.add
    split
    · rename_i h0; subst h0; rfl
    · rw [Nat.add_assoc, ← e]
  rw [ad]
  exact this
/-- The new slice that a function hands back. -/
def NewRc (es : List Rec) (w : World) (x : Ending) (w' : World) : Prop :=
  ∃ A c, x = .returned (.slice A es.length c) ∧ es.length ≤ c ∧ c ≤ 9223372036854775807 ∧ Recs w' A es.length es ∧ w'.ownsRow w.heap.size 180 7 (.slice A es.length c) es.length (flat7 es) ∧ Up w w'
theorem NewRc.of_own {w w' : World} {n : Nat} {v : Value} {es : List Rec} (h : w'.ownsRow w.heap.size 180 7 v n (flat7 es)) (u : Up w w') : NewRc es w (.returned v) w' := by
  obtain ⟨rfl, A, c, rfl, hc, hm⟩ := own7_slice h
  exact ⟨A, c, rfl, hc, hm, own7_recs h, h, u⟩
def GrownRc (w : World) (x : Ending) (w' : World) : Prop := ∃ v, x = .returned v ∧ w'.ownsRow w.heap.size 180 7 v 0 (flat7 []) ∧ Up w w'
theorem zerosR_size (z : Array Value) (n : Nat) : (Builtin.zeroCells z n).size = n * z.size := by simp [Builtin.zeroCells]
set_option maxHeartbeats 4000000 in
theorem growR_any (n : Nat) (w : World) (hn : n ≤ 2000000000) : Calls Try.prog 176 #[.slice none 0 0, .int .i64 n] w (GrownRc w) := by
  obtain ⟨i0, hi0, hz0, hz1, hz2⟩ := info_parts info180
  have INF := Lib.hid (And.intro hi0 (And.intro hz0 (And.intro hz1 hz2)))
  clear hi0 hz0 hz1 hz2
  by_cases h0 : n = 0
  · subst h0
    go_enter Try.func176, Try.ntmps176
    go_wp2; go_ret
    exact ⟨_, rfl, ⟨rfl, .inl ⟨rfl, rfl⟩⟩, Up.refl _⟩
  · have p0 : 0 < n := by omega
    have p1 : (0 : Int) < n := by omega
    have p2 : ¬ (n : Int) < 0 := by omega
    have h48 : n * i0.bytes ≤ 281474976710656 := by rw [INF.out.2.2.2]; omega
    have RUN := Lib.hid (fun ty W => Lib.run_append_nil_zeros (P := Try.prog) W 60 3 ty 180 i0 _ .i64 .i64 Try.underlying60 Try.underlying3 INF.out.1 INF.out.2.1 n p0 (by rw [INF.out.2.2.1]; omega) (by omega) h48)
    clear h48
    go_enter Try.func176, Try.ntmps176
    go_wp2_with (at_builtin; refine Lib.wpList_append_run _ rfl (.tmp 20) (.tmp 21) 60 3 rfl _ _ rfl rfl _ _ (RUN.out _ _) ?_)
    go_ret; refine ⟨_, rfl, ⟨rfl, .inr ⟨w.heap.size, grownCap w n 0 180, _, rfl, Nat.le_refl _, heap_alloc_new w.drew _, Nat.zero_le _, grownCap_le_maxLen _ _ _ _ (by simp only [maxLen]; omega), ?_, rfl⟩⟩, (Up.refl w).drew.alloc _⟩
    have := grownCap_ge w n 0 180
    rw [Array.size_append, zerosR_size, zerosR_size]; simp
    omega
/-- The block b holds one slice for each list. -/
def PartsR (w : World) (b : Nat) (L : List (List Rec)) : Prop :=
  ∀ j, j < L.length → ∃ A c, w.cell? ⟨b, j, none⟩ = some (.slice A (L.getD j []).length c) ∧ Recs w A (L.getD j []).length (L.getD j [])
theorem flatR_step (L : List (List Rec)) (k : Nat) (h : k < L.length) : (L.take (k + 1)).flatten = (L.take k).flatten ++ L.getD k [] := by
  rw [List.take_succ_eq_append_getElem h, List.flatten_append]; simp [h]
theorem flatR_le (L : List (List Rec)) (k : Nat) : (L.take k).flatten.length ≤ L.flatten.length := by
  have : L.flatten = (L.take k).flatten ++ (L.drop k).flatten := by rw [← List.flatten_append, List.take_append_drop]
  rw [this, List.length_append]
  omega
theorem flatR_end (L : List (List Rec)) (k : Nat) (h : L.length ≤ k) : (L.take k).flatten = L.flatten := by rw [List.take_of_length_le h]
set_option maxHeartbeats 4000000 in
theorem concatR_any (b cap : Nat) (L : List (List Rec)) (w : World) (hL : L.length ≤ 1000000) (hb : b < w.heap.size) (hP : PartsR w b L) (hT : L.flatten.length ≤ 1000000000) :
    Calls Try.prog 147 #[.slice (some ⟨b, 0, none⟩) L.length cap] w (NewRc L.flatten w) := by
  obtain ⟨i0, hi0, hz0, hz1, hz2⟩ := info_parts info180
  have INF := Lib.hid (And.intro hi0 (And.intro hz0 (And.intro hz1 hz2)))
  have SIX := Lib.hid (show 0 < 7 by omega)
  have HP := Lib.hid hP
  have FS := Lib.hid (flatR_step L)
  have FL := Lib.hid (flatR_le L)
  have FE := Lib.hid (flatR_end L)
  have HT := Lib.hid hT
  clear hi0 hz0 hz1 hz2 hP hT
  go_enter Try.func147, Try.ntmps147
  go_wp2
  go_loopw [3, 11] (fun s i wr => (∃ k : Nat, k ≤ L.length ∧ i = .int .i64 k ∧ s = .int .i64 ((L.take k).flatten.length : Nat)) ∧ Up w wr) (fun _ i _ => L.length - (intOf i).toNat)
  case atStart => exact ⟨⟨0, by omega, rfl, rfl⟩, Up.refl _⟩
  case round =>
    obtain ⟨⟨k, hk, rfl, rfl⟩, ur⟩ := hrel
    by_cases hlt : k < L.length
    · obtain ⟨A, c, hcell, _⟩ := HP.out k hlt
      have cell' := (ur.cells b k hb).trans hcell
      clear hcell
      have st := congrArg List.length (FS.out k hlt)
      rw [List.length_append] at st
      have le := FL.out (k + 1)
      have ht := HT.out
      generalize (L.getD k []).length = m at st cell'
      generalize hs2 : (L.take (k + 1)).flatten.length = s2 at st le
      have HS2 := Lib.hid hs2
      clear hs2
      generalize (L.take k).flatten.length = s at st
      have ST := Lib.hid st
      have sm : s + m ≤ 1000000000 := by omega
      clear st le ht
      have i3 : (k : Int) < L.length := by omega
      have i4 : IntKind.i64.wrap ((s : Int) + m) = (s : Int) + m := IntWalk.i64_in _ (by omega)
      have i5 : ¬ (s : Int) + m < 0 := by omega
      have hb' : b < wr.heap.size := by have := ur.size; omega
      go_wp2
      go_roundw
      case rel => exact ⟨⟨k + 1, by omega, by go_num, by rw [HS2.out, ST.out]; simp⟩, ur⟩
      case measure => simp [intOf]; omega
    · have i3 : ¬ (k : Int) < L.length := by omega
      rw [FE.out k (by omega)]
      have ht := HT.out
      generalize hN : L.flatten.length = N at ht
      have HN := Lib.hid hN
      clear hN
      go_wp2_with fail
      refine (growR_any N _ (by omega)).mono ?_; rintro x w1 ⟨v1, rfl, o1, u1⟩
      have O1 := Lib.hid (own_mono o1 ur.size)
      have U1 := Lib.hid (ur.trans u1)
      clear o1 u1 ur i3 hk ht
      go_wp2_with fail
      go_loopw [6, 27] (fun v i wr => (∃ k : Nat, k ≤ L.length ∧ i = .int .i64 k ∧ wr.ownsRow w.heap.size 180 7 v (L.take k).flatten.length (flat7 (L.take k).flatten)) ∧ Up w wr) (fun _ i _ => L.length - (intOf i).toNat)
      case atStart => exact ⟨⟨0, by omega, rfl, O1.out⟩, U1.out⟩
      case round =>
        obtain ⟨⟨k, hk, rfl, ho⟩, ur⟩ := hrel
        have HO := Lib.hid ho
        clear ho U1
        by_cases hlt : k < L.length
        · obtain ⟨A, c, hcell, hev⟩ := HP.out k hlt
          have cell' := (ur.cells b k hb).trans hcell
          have RD := Lib.hid (hev.up ur).reads
          clear hcell hev
          have fk := FS.out k hlt
          have st := congrArg List.length (FS.out k hlt)
          rw [List.length_append] at st
          generalize L.getD k [] = es at cell' RD fk st
          have FK := Lib.hid fk
          clear fk
          have ht := HT.out
          have le := FL.out (k + 1)
          have HMX := Lib.hid (show (L.take k).flatten.length + es.length ≤ maxLen by simp only [maxLen]; omega)
          have HBY := Lib.hid (show ((L.take k).flatten.length + es.length) * 56 ≤ 140737488355328 by omega)
          have HBS := Lib.hid ur.size
          have ST := Lib.hid st
          clear st ht le
          have i3 : (k : Int) < L.length := by omega
          have hb' : b < wr.heap.size := by have := HBS.out; omega
          go_wp2_with (at_builtin; refine wpList_append_any _ rfl (.tmp 31) (.tmp 32) 60 rfl w.heap.size 180 i0 _ 7 56 Try.underlying60 INF.out.1 INF.out.2.1 INF.out.2.2.1 INF.out.2.2.2 rfl SIX.out _ _ _ rfl HO.out _ _ _ _ (flat7 es) rfl RD.out (flat7_one _) HMX.out HBY.out HBS.out ?_; intro v2 w2 ho2 hg2 _)
          have HO2 := Lib.hid ho2
          have HG2 := Lib.hid hg2
          clear ho2 hg2
          go_roundw
          case rel => exact ⟨⟨k + 1, by omega, by go_num, by rw [FK.out, flat7_app, List.length_append]; exact HO2.out⟩, ur.grown HG2.out (fun j hj => (HO.out.lt j hj).1)⟩
          case measure => simp [intOf]; omega
        · have i3 : ¬ (k : Int) < L.length := by omega
          have HO2 := Lib.hid (show wr.ownsRow w.heap.size 180 7 _ L.flatten.length (flat7 L.flatten) from FE.out k (by omega) ▸ HO.out)
          go_wp2; go_ret
          exact NewRc.of_own HO2.out ur
end Go.Proofs.Ytklldniapombiaa

namespace Go.Proofs.Ytklldniapombiaa
set_option maxRecDepth 100000
open Go.RowKit
theorem Up.setCells {a : World} {b : Nat} (hb : a.heap.size ≤ b) : ∀ (vs : List Value) (o : Nat) {w : World}, Up a w → Up a (w.setCells b o vs)
  | [], _, _, h => h
  | v :: vs, o, _, h => Up.setCells hb vs (o + 1) (h.setCell (p := ⟨b, o, none⟩) hb v)
theorem size_setCells (b : Nat) : ∀ (vs : List Value) (o : Nat) (w : World), (w.setCells b o vs).heap.size = w.heap.size
  | [], _, _ => rfl
  | v :: vs, o, w => (size_setCells b vs (o + 1) (w.setCell ⟨b, o, none⟩ v)).trans (by simp)
theorem block_setCells (b g : Nat) (hg : g ≠ b) : ∀ (vs : List Value) (o : Nat) (w : World), (w.setCells b o vs).heap[g]? = w.heap[g]?
  | [], _, _ => rfl
  | v :: vs, o, w => (block_setCells b g hg vs (o + 1) (w.setCell ⟨b, o, none⟩ v)).trans (Below.heap_setCell w ⟨b, o, none⟩ v g hg)
theorem kind_setCells (b t : Nat) : ∀ (vs : List Value) (o : Nat) (w : World) (arr : Array Value), Blk w b t arr → ∃ arr', Blk (w.setCells b o vs) b t arr'
  | [], _, _, arr, h => ⟨arr, h⟩
  | v :: vs, o, w, _, h => kind_setCells b t vs (o + 1) (w.setCell ⟨b, o, none⟩ v) _ (h.set o v)
theorem frozen_setCells (b : Nat) (a : Addr) : ∀ (vs : List Value) (o : Nat) (w : World), (w.setCells b o vs).frozen? a = w.frozen? a
  | [], _, _ => rfl
  | v :: vs, o, w => (frozen_setCells b a vs (o + 1) (w.setCell ⟨b, o, none⟩ v)).trans (by simp [go_sem])
/-- Numbers copied into a block's cells from o on. -/
structure Cpd (w w' : World) (b o n : Nat) (zs : List Int) : Prop where
  size : w'.heap.size = w.heap.size
  frozen : ∀ a, w'.frozen? a = w.frozen? a
  at_ : ∀ i, i < n → w'.cell? ⟨b, o + i, none⟩ = some (.int .i64 (zs.getD i 0))
  other : ∀ b' j, b' ≠ b ∨ j < o ∨ o + n ≤ j → w'.cell? ⟨b', j, none⟩ = w.cell? ⟨b', j, none⟩
  block : ∀ g, g ≠ b → w'.heap[g]? = w.heap[g]?
  kind : ∀ (t : Nat) (arr : Array Value), Blk w b t arr → ∃ arr', Blk w' b t arr'
  up : ∀ a, Up a w → a.heap.size ≤ b → Up a w'
theorem copy_nums {w : World} {b o N n c : Nat} {A : Option Addr} {zs : List Int} (hN : Nms w A n zs) (hn : n ≤ N) (hI : ∀ j, j < N → IntC w b (o + j)) :
    ∃ w', (Builtin.copy_ #[84, 84] 3 #[.slice (some ⟨b, o, none⟩) N N, .slice A n c]).run Try.prog w = .ok (.int .i64 n) w' ∧ Cpd w w' b o n zs := by
  have hs : (Try.prog.info? 3).map (·.size) = some 1 := by kernel_rfl
  by_cases h0 : n = 0
  · subst h0
    exact ⟨w, run_copy_none w 84 84 3 3 _ _ _ _ _ _ Try.underlying84 hs (by simp), rfl, fun _ => rfl, fun i hi => absurd hi (by omega), fun _ _ _ => rfl, fun _ _ => rfl, fun _ arr h => ⟨arr, h⟩, fun _ h _ => h⟩
  · obtain ⟨b2, off, rfl, hb2, hc⟩ := hN.2 (by omega)
    have hl : (zs.map (Value.int .i64 ·)).length = n := by rw [List.length_map, hN.1]
    have ad : ∀ j, (⟨b2, off, none⟩ : Addr).add j = ⟨b2, off + j, none⟩ := fun j => by
      unfold Addr.add
      split
      · rename_i e; subst e; rfl
      · rfl
    have hr := run_copy_cells (P := Try.prog) w 84 84 3 3 b o N N ⟨b2, off, none⟩ n c (zs.map (Value.int .i64 ·)) Try.underlying84 hs (by rw [hl]; exact (Nat.min_eq_left hn).symm)
      (fun j v hj => by
        rw [List.getElem?_map] at hj; obtain ⟨z, hz, rfl⟩ := Option.map_eq_some_iff.1 hj
        have hjn : j < n := by
          have := (List.getElem?_eq_some_iff.1 hz).1
          rw [hN.1] at this
          exact this
        rw [ad, hc j hjn]
        simp [List.getD, hz])
      (fun j hj => by
        rw [hl] at hj; obtain ⟨⟨z, hz⟩, _⟩ := hI j (by omega)
        rw [hz]; rfl)
      (fun j hj => by
        rw [hl] at hj
        exact (hI j (by omega)).2)
      (fun v hv => by
        obtain ⟨z, _, rfl⟩ := List.mem_map.1 hv
        rfl)
    rw [hl] at hr
    have hin := World.cell?_setCells_in b (zs.map (Value.int .i64 ·)) o w (fun j hj => by
      rw [hl] at hj; obtain ⟨⟨z, hz⟩, _⟩ := hI j (by omega)
      rw [hz]; rfl)
    have hout := World.cell?_setCells_out b (zs.map (Value.int .i64 ·)) o w
    refine ⟨_, hr, size_setCells _ _ _ _, fun a => frozen_setCells _ _ _ _ _, fun i hi => ?_, fun b' j h => hout ⟨b', j, none⟩ (fun e _ => by
      rw [hl]; dsimp only at e ⊢
      rcases h with h | h
      · exact absurd e h
      · exact h), fun g hg => block_setCells _ g hg _ _ _, fun t arr h => kind_setCells _ t _ _ _ arr h, fun a h hb => Up.setCells hb _ _ h⟩
    have hz : i < zs.length := by rw [hN.1]; exact hi
    rw [hin i (by rw [hl]; exact hi)]; simp [List.getD, List.getElem?_eq_getElem hz]
end Go.Proofs.Ytklldniapombiaa

namespace Go.Proofs.Ytklldniapombiaa
set_option maxRecDepth 100000
open Go.RowKit
/-- A host at work in memory. -/
structure Cd where
  z0 : Int
  z1 : Int
  z2 : Int
  A : Option Addr
  n : Nat
  c : Nat
  B : Option Addr
  k : Nat
  d : Nat
instance : Inhabited Cd := ⟨⟨0, 0, 0, none, 0, 0, none, 0, 0⟩⟩
def Cd.c5 (h : Cd) : List Value := [.int .i64 h.z0, .int .i64 h.z1, .int .i64 h.z2, .slice h.A h.n h.c, .slice h.B h.k h.d]
def flatC : List Cd → List Value
  | [] => []
  | e :: r => e.c5 ++ flatC r
theorem flatC_app : ∀ es fs : List Cd, flatC (es ++ fs) = flatC es ++ flatC fs
  | [], _ => rfl
  | e :: r, fs => by rw [List.cons_append, flatC, flatC_app r fs, flatC, List.append_assoc]
theorem flatC_one (es : List Cd) : ∀ u ∈ flatC es, u.oneCell' = true := by
  induction es with
  | nil => intro u hu; cases hu
  | cons e r ih =>
    intro u hu; rw [flatC, List.mem_append] at hu
    rcases hu with hu | hu
    · simp only [Cd.c5, List.mem_cons, List.not_mem_nil, or_false] at hu
      rcases hu with rfl | rfl | rfl | rfl | rfl <;> rfl
    · exact ih u hu
theorem readsC_blk {w : World} {g t : Nat} {h : Cd} (k : w.heap[g]? = some (.cells h.c5.toArray t (0, 0))) (B : Nat) (hB : g < B) : Reads w B 5 (some ⟨g, 0, none⟩) 1 (flatC [h]) := by
  refine ⟨rfl, fun _ => ⟨_, rfl, hB, fun j u hu => ?_⟩⟩
  have ad : (⟨g, 0, none⟩ : Addr).add j = ⟨g, j, none⟩ := by
    unfold Addr.add
    split <;> simp_all
  rw [ad, cell_of_row _ _ j _ _ _ k, ← hu]; simp [flatC, Cd.c5]
/-- A host's slices lie in rows of their own. -/
def CdW (w : World) (lo : Nat) (rs : List Rec) (es : List Evt) (h : Cd) : Prop :=
  w.ownsRow lo 74 6 (.slice h.A h.n h.c) h.n (flat es) ∧ w.ownsRow lo 180 7 (.slice h.B h.k h.d) h.k (flat7 rs)
theorem CdW.up {w w' : World} {lo : Nat} {rs : List Rec} {es : List Evt} {h : Cd} (k : CdW w lo rs es h) (u : Up w w') : CdW w' lo rs es h := ⟨own_up k.1 u, own_up k.2 u⟩
theorem CdW.mono {w : World} {lo lo' : Nat} {rs : List Rec} {es : List Evt} {h : Cd} (k : CdW w lo rs es h) (u : lo' ≤ lo) : CdW w lo' rs es h := ⟨own_mono k.1 u, own_mono k.2 u⟩
/-- .. kept where blocks of their kinds are. -/
theorem CdW.keep {w w' : World} {lo : Nat} {rs : List Rec} {es : List Evt} {h : Cd} (k : CdW w lo rs es h) (hk : ∀ g : Nat, (∃ arr : Array Value, w.heap[g]? = some (.cells arr 74 (0, 0))) ∨ (∃ arr : Array Value, w.heap[g]? = some (.cells arr 180 (0, 0))) → w'.heap[g]? = w.heap[g]?) : CdW w' lo rs es h := by
  refine ⟨own_keep k.1 fun g hg _ => hk g (.inl ?_), own_keep k.2 fun g hg _ => hk g (.inr ?_)⟩
  · rcases k.1.2 with ⟨h0, _⟩ | ⟨g', cap, cur, h0, _, hb, _⟩
    · rw [h0] at hg; cases hg
    · rw [h0] at hg
      injection hg with hg
      have hg : g' = g := hg
      subst hg
      exact ⟨cur, hb⟩
  · rcases k.2.2 with ⟨h0, _⟩ | ⟨g', cap, cur, h0, _, hb, _⟩
    · rw [h0] at hg; cases hg
    · rw [h0] at hg
      injection hg with hg
      have hg : g' = g := hg
      subst hg
      exact ⟨cur, hb⟩
/-- q hosts are laid. -/
structure CsW (w : World) (lo : Nat) (ls : List (List Rec)) (hs : List Ch) (q : Nat) (v : Value) (hl : List Cd) : Prop where
  len : hl.length = q
  row : w.ownsRow lo 208 5 v q (flatC hl)
  at_ : ∀ i, i < q → CdW w lo (ls.getD i []) (hs.getD i default).wait (hl.getD i default)
  now : ∀ i, i < q → (hl.getD i default).z0 = (hs.getD i default).now.s ∧ (hl.getD i default).z1 = (hs.getD i default).now.sq ∧ (hl.getD i default).z2 = (hs.getD i default).now.ct
  ape : ∀ i j, i < j → j < q → Ap (hl.getD i default).A (hl.getD i default).n (hl.getD j default).A (hl.getD j default).n
  api : ∀ i j, i < j → j < q → Ap (hl.getD i default).B (hl.getD i default).k (hl.getD j default).B (hl.getD j default).k
section
variable {w w' : World} {lo q : Nat} {ls : List (List Rec)} {hs : List Ch} {v : Value} {hl : List Cd}
theorem CsW.start (w : World) (lo : Nat) (ls : List (List Rec)) (hs : List Ch) : CsW w lo ls hs 0 (.slice none 0 0) [] :=
  ⟨rfl, World.ownsRow_nil _ _ _ _, fun _ h => absurd h (by omega), fun _ h => absurd h (by omega), fun _ _ _ h => absurd h (by omega), fun _ _ _ h => absurd h (by omega)⟩
theorem CsW.up (h : CsW w lo ls hs q v hl) (u : Up w w') : CsW w' lo ls hs q v hl := ⟨h.len, own_up h.row u, fun i hi => (h.at_ i hi).up u, h.now, h.ape, h.api⟩
/-- A cell of a block of another kind is written. -/
theorem CsW.far {p o t : Nat} {u : Value} {cur : Array Value} (h : CsW w lo ls hs q v hl) (hp : w.heap[p]? = some (.cells cur t (0, 0))) (h1 : 208 ≠ t) (h2 : 74 ≠ t) (h3 : 180 ≠ t) : CsW (w.setCell ⟨p, o, none⟩ u) lo ls hs q v hl := by
  have key : ∀ g, g ≠ p → (w.setCell ⟨p, o, none⟩ u).heap[g]? = w.heap[g]? := fun g hg => Below.heap_setCell w ⟨p, o, none⟩ u g hg
  refine ⟨h.len, own_keep h.row fun g hg _ => key g (own_off h.row hp h1 g hg), fun i hi => (h.at_ i hi).keep fun g hg => key g fun e => ?_, h.now, h.ape, h.api⟩; subst e
  rcases hg with ⟨arr, hg⟩ | ⟨arr, hg⟩
  · rw [hp] at hg
    injection hg with hg
    injection hg with _ hg _
    exact h2 hg.symm
  · rw [hp] at hg
    injection hg with hg
    injection hg with _ hg _
    exact h3 hg.symm
/-- One more is appended. -/
theorem CsW.push {w0 : World} {v' : Value} {x : Cd} (h : CsW w0 lo ls hs q v hl) (u : Up w0 w) (hn : CdW w w0.heap.size (ls.getD q []) (hs.getD q default).wait x) (hz : x.z0 = (hs.getD q default).now.s ∧ x.z1 = (hs.getD q default).now.sq ∧ x.z2 = (hs.getD q default).now.ct) (hlo : lo ≤ w0.heap.size) (ho : w'.ownsRow lo 208 5 v' (q + 1) (flatC hl ++ flatC [x])) (hg : w.grownBy w' v.ownBlock) :
    CsW w' lo ls hs (q + 1) v' (hl ++ [x]) := by
  have hr := own_up h.row u
  have keep : ∀ {es' : List Evt} {rs' : List Rec} {y : Cd} {lo' : Nat}, CdW w lo' rs' es' y → CdW w' lo' rs' es' y := fun {es' rs' y lo'} k => k.keep fun g hgk => by
    have hlt : g < w.heap.size := by rcases hgk with ⟨arr, e⟩ | ⟨arr, e⟩ <;> exact (Array.getElem?_eq_some_iff.1 e).1
    refine hg.block g hlt fun e => ?_
    rcases hr.2 with ⟨h0, _⟩ | ⟨g', cap, cur, h0, _, hb, _⟩
    · rw [h0] at e; cases e
    · rw [h0] at e
      injection e with e
      have e : g = g' := e
      subst e
      rcases hgk with ⟨arr, e⟩ | ⟨arr, e⟩
      · rw [hb] at e
        injection e with e
        injection e with _ e _
        exact absurd e (by decide)
      · rw [hb] at e
        injection e with e
        injection e with _ e _
        exact absurd e (by decide)
  have gold : ∀ i, i < q → (hl ++ [x]).getD i default = hl.getD i default := fun i hi => by
    have := h.len
    simp only [List.getD, List.getElem?_append_left (show i < hl.length by omega)]
  have gnew : (hl ++ [x]).getD q default = x := by
    have := h.len
    simp only [List.getD, List.getElem?_append_right (show hl.length ≤ q by omega), this, Nat.sub_self]
    rfl
  refine ⟨by simp [h.len], by rw [flatC_app]; exact ho, fun i hi => ?_, fun i hi => ?_, fun i j hij hj => ?_, fun i j hij hj => ?_⟩
  · by_cases e : i = q
    · subst e
      rw [gnew]
      exact (keep hn).mono hlo
    · rw [gold i (by omega)]
      exact keep ((h.at_ i (by omega)).up u)
  · by_cases e : i = q
    · subst e
      rw [gnew]
      exact hz
    · rw [gold i (by omega)]
      exact h.now i (by omega)
  · by_cases e : j = q
    · subst e
      rw [gnew, gold i hij]
      exact Ap.far (h.at_ i hij).1 hn.1
    · rw [gold i (by omega), gold j (by omega)]
      exact h.ape i j hij (by omega)
  · by_cases e : j = q
    · subst e
      rw [gnew, gold i hij]
      exact Ap.far (h.at_ i hij).2 hn.2
    · rw [gold i (by omega), gold j (by omega)]
      exact h.api i j hij (by omega)
end
/-- .. kept where one block of another kind changes. -/
theorem CsW.but {w w' : World} {lo q p t : Nat} {ls : List (List Rec)} {hs : List Ch} {v : Value} {hl : List Cd} {cur : Array Value} (h : CsW w lo ls hs q v hl) (hp : w.heap[p]? = some (.cells cur t (0, 0))) (h1 : 208 ≠ t) (h2 : 74 ≠ t) (h3 : 180 ≠ t) (key : ∀ g : Nat, g ≠ p → w'.heap[g]? = w.heap[g]?) : CsW w' lo ls hs q v hl := by
  refine ⟨h.len, own_keep h.row fun g hg _ => key g (own_off h.row hp h1 g hg), fun i hi => (h.at_ i hi).keep fun g hg => key g fun e => ?_, h.now, h.ape, h.api⟩; subst e
  rcases hg with ⟨arr, hg⟩ | ⟨arr, hg⟩
  · rw [hp] at hg
    injection hg with hg
    injection hg with _ hg _
    exact h2 hg.symm
  · rw [hp] at hg
    injection hg with hg
    injection hg with _ hg _
    exact h3 hg.symm
/-- The block of the simulation at work: the machine, its hosts, its bounds' first q rows. -/
structure CauB (w : World) (bX mb many : Nat) (til : Int) (hs : List Ch) (q : Nat) (v : Value) : Prop where
  blk : ∃ arr, Blk w bX 214 arr
  c0 : w.cell? ⟨bX, 0, none⟩ = some (.map (some mb))
  c1 : w.cell? ⟨bX, 1, none⟩ = some (.int .i64 many)
  c2 : w.cell? ⟨bX, 2, none⟩ = some (.int .i64 til)
  c3 : w.cell? ⟨bX, 3, none⟩ = some v
  ints : ∀ j, 4 ≤ j → j < 20 → IntC w bX j
  rows : ∀ r, r < q → Nms w (some ⟨bX, 4 + r * 4, none⟩) many (hs.getD r default).ins
theorem cell_sameB {w w' : World} {b o : Nat} (h : w'.heap[b]? = w.heap[b]?) : w'.cell? ⟨b, o, none⟩ = w.cell? ⟨b, o, none⟩ := by
  unfold World.cell?; dsimp only; rw [h]
theorem frozen_sameB {w w' : World} {b o : Nat} (h : w'.heap[b]? = w.heap[b]?) : w'.frozen? ⟨b, o, none⟩ = w.frozen? ⟨b, o, none⟩ := by
  unfold World.frozen?; dsimp only; rw [h]
section
variable {w w' : World} {bX mb many q : Nat} {til : Int} {hs : List Ch} {v : Value}
theorem CauB.lt (h : CauB w bX mb many til hs q v) : bX < w.heap.size := by
  obtain ⟨arr, h⟩ := h.blk
  exact h.lt
theorem CauB.same (h : CauB w bX mb many til hs q v) (k : w'.heap[bX]? = w.heap[bX]?) : CauB w' bX mb many til hs q v := by
  have hlt' : bX < w'.heap.size := by
    obtain ⟨arr, hb⟩ := h.blk
    exact (Array.getElem?_eq_some_iff.1 (k.trans hb)).1
  refine ⟨?_, (cell_sameB k).trans h.c0, (cell_sameB k).trans h.c1, (cell_sameB k).trans h.c2, (cell_sameB k).trans h.c3, fun j h4 h20 => ?_, fun r hr => ?_⟩
  · obtain ⟨arr, hb⟩ := h.blk
    exact ⟨arr, k.trans hb⟩
  · obtain ⟨⟨z, hz⟩, hf⟩ := h.ints j h4 h20
    exact ⟨⟨z, (cell_sameB k).trans hz⟩, (frozen_sameB k).trans hf⟩
  · obtain ⟨h1, h2⟩ := h.rows r hr
    refine ⟨h1, fun h0 => ?_⟩; obtain ⟨b, off, hA, _, hc⟩ := h2 h0
    injection hA with hA
    injection hA with e1 e2 _
    subst e1 e2
    exact ⟨_, _, rfl, hlt', fun i hi => (cell_sameB k).trans (hc i hi)⟩
theorem CauB.up (h : CauB w bX mb many til hs q v) (u : Up w w') : CauB w' bX mb many til hs q v := h.same (u.below.block bX h.lt)
/-- The hosts' cell is written. -/
theorem CauB.set3 (h : CauB w bX mb many til hs q v) (x : Value) : CauB (w.setCell ⟨bX, 3, none⟩ x) bX mb many til hs q x := by
  have hlt := h.lt
  have oth : ∀ j, j ≠ 3 → (w.setCell ⟨bX, 3, none⟩ x).cell? ⟨bX, j, none⟩ = w.cell? ⟨bX, j, none⟩ := fun j hj => World.cell?_setCell_other w _ _ x (fun e => by injection e with _ e _; omega)
  refine ⟨?_, (oth 0 (by omega)).trans h.c0, (oth 1 (by omega)).trans h.c1, (oth 2 (by omega)).trans h.c2, World.cell?_setCell_same' _ _ _ (by rw [h.c3]; rfl), fun j h4 h20 => ?_, fun r hr => ?_⟩
  · obtain ⟨arr, hb⟩ := h.blk
    exact ⟨_, hb.set 3 x⟩
  · obtain ⟨⟨z, hz⟩, hf⟩ := h.ints j h4 h20
    exact ⟨⟨z, (oth j (by omega)).trans hz⟩, by rw [World.frozen?_setCell]; exact hf⟩
  · obtain ⟨h1, h2⟩ := h.rows r hr
    refine ⟨h1, fun h0 => ?_⟩; obtain ⟨b, off, hA, hb, hc⟩ := h2 h0
    injection hA with hA
    injection hA with e1 e2 _
    subst e1 e2
    exact ⟨_, _, rfl, by simpa using hb, fun i hi => (oth _ (by omega)).trans (hc i hi)⟩
/-- A host's bounds are copied into its row. -/
theorem CauB.cpd {zs : List Int} (h : CauB w bX mb many til hs q v) (k : Cpd w w' bX (4 + q * 4) many zs) (hz : zs = (hs.getD q default).ins) (hl : zs.length = many) (h4 : many ≤ 4) (hq : q < 4) : CauB w' bX mb many til hs (q + 1) v := by
  have hlt := h.lt
  have oth : ∀ j, j < 4 + q * 4 ∨ 4 + q * 4 + many ≤ j → w'.cell? ⟨bX, j, none⟩ = w.cell? ⟨bX, j, none⟩ := fun j hj => k.other bX j (.inr hj)
  refine ⟨?_, (oth 0 (by omega)).trans h.c0, (oth 1 (by omega)).trans h.c1, (oth 2 (by omega)).trans h.c2, (oth 3 (by omega)).trans h.c3, fun j h4 h20 => ?_, fun r hr => ?_⟩
  · obtain ⟨arr, hb⟩ := h.blk
    exact k.kind _ _ hb
  · obtain ⟨⟨z, hz⟩, hf⟩ := h.ints j h4 h20
    refine ⟨?_, (k.frozen _).trans hf⟩
    by_cases e : j < 4 + q * 4 ∨ 4 + q * 4 + many ≤ j
    · exact ⟨z, (oth j e).trans hz⟩
    · have := k.at_ (j - (4 + q * 4)) (by omega)
      rw [show 4 + q * 4 + (j - (4 + q * 4)) = j by omega] at this
      exact ⟨_, this⟩
  · by_cases e : r = q
    · subst e
      refine ⟨by rw [← hz]; exact hl, fun h0 => ⟨_, _, rfl, by rw [k.size]; exact hlt, fun i hi => ?_⟩⟩; rw [← hz]
      exact k.at_ i hi
    · obtain ⟨h1, h2⟩ := h.rows r (by omega)
      refine ⟨h1, fun h0 => ?_⟩; obtain ⟨b, off, hA, hb, hc⟩ := h2 h0
      injection hA with hA
      injection hA with e1 e2 _
      subst e1 e2
      exact ⟨_, _, rfl, by rw [k.size]; exact hb, fun i hi => (oth _ (.inl (by omega))).trans (hc i hi)⟩
end
end Go.Proofs.Ytklldniapombiaa

namespace Go.Proofs.Ytklldniapombiaa
set_option maxRecDepth 100000
open Go.RowKit
theorem concatE_one (b : Nat) (A : Option Addr) (n c : Nat) (es : List Evt) (w : World) (hb : Blk w b 34 #[.slice A n c]) (h : Evs w A n es) (hn : n ≤ 1048576) :
    Calls Try.prog 130 #[.slice (some ⟨b, 0, none⟩) 1 1] w (NewSl es w) := by
  obtain rfl := h.1
  have := concat_any b 1 [es] w (by simp) hb.lt (fun j hj => by
    obtain rfl : j = 0 := by simpa using hj
    exact ⟨A, c, hb.cell (j := 0) rfl, h⟩) (by simpa using Nat.le_trans hn (by omega))
  simpa using this
theorem concatQ_one (b : Nat) (A : Option Addr) (n c : Nat) (es : List Rec) (w : World) (hb : Blk w b 60 #[.slice A n c]) (h : Recs w A n es) (hn : n ≤ 1048576) :
    Calls Try.prog 147 #[.slice (some ⟨b, 0, none⟩) 1 1] w (NewRc es w) := by
  obtain rfl := h.1
  have := concatR_any b 1 [es] w (by simp) hb.lt (fun j hj => by
    obtain rfl : j = 0 := by simpa using hj
    exact ⟨A, c, hb.cell (j := 0) rfl, h⟩) (by simpa using Nat.le_trans hn (by omega))
  simpa using this
theorem Blk.neq {w : World} {b b' e e' : Nat} {arr arr' : Array Value} (h : Blk w b e arr) (k : Blk w b' e' arr') (he : e ≠ e') : b ≠ b' := fun x => by
  subst x; unfold Blk at h k; rw [h] at k
  injection k with k
  injection k with _ k _
  exact he k
theorem CauB.start {w : World} {bX mb N : Nat} {til : Int} {hs : List Ch} (h : Blk w bX 214 #[.map (some mb), .int .i64 N, .int .i64 til, .slice none 0 0, .int .i64 0, .int .i64 0, .int .i64 0, .int .i64 0, .int .i64 0, .int .i64 0, .int .i64 0, .int .i64 0, .int .i64 0, .int .i64 0, .int .i64 0, .int .i64 0, .int .i64 0, .int .i64 0, .int .i64 0, .int .i64 0]) : CauB w bX mb N til hs 0 (.slice none 0 0) := by
  refine ⟨⟨_, h⟩, h.cell (j := 0) rfl, h.cell (j := 1) rfl, h.cell (j := 2) rfl, h.cell (j := 3) rfl, fun j h4 h20 => ?_, fun r hr => absurd hr (by omega)⟩
  have e : j = 4 ∨ j = 5 ∨ j = 6 ∨ j = 7 ∨ j = 8 ∨ j = 9 ∨ j = 10 ∨ j = 11 ∨ j = 12 ∨ j = 13 ∨ j = 14 ∨ j = 15 ∨ j = 16 ∨ j = 17 ∨ j = 18 ∨ j = 19 := by omega
  rcases e with rfl | rfl | rfl | rfl | rfl | rfl | rfl | rfl | rfl | rfl | rfl | rfl | rfl | rfl | rfl | rfl <;> exact ⟨⟨0, h.cell rfl⟩, h.frozen _⟩
end Go.Proofs.Ytklldniapombiaa

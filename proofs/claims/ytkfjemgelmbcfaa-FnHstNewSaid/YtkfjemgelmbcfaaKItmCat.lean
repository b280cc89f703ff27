/-
  What slices.Grow and slices.Concat return of slices of items, in one sentence: a new slice of all of them, one behind the other; for every row of slices that lies in memory.
-/
import Derived.Test.YtkfjemgelmbcfaaKHsDef
import Derived.Test.YtkfjemgelmbcfaaKA
import Derived.Lib.AppendZeros
namespace Go.Proofs.Ytkfjemgelmbcfaa
set_option maxRecDepth 100000
open Go.RowKit

theorem RecAt.at7 {w : World} {b o k : Nat} {r : Rec} {u : Value} (h : RecAt w b o r) (hk : k < 7) (hu : r.c7[k]? = some u) : w.cell? ⟨b, o + k, none⟩ = some u := by
  obtain ⟨h0, h1, h2, h3, h4, h5, h6⟩ := h
  have e : k = 0 ∨ k = 1 ∨ k = 2 ∨ k = 3 ∨ k = 4 ∨ k = 5 ∨ k = 6 := by omega
  rcases e with rfl | rfl | rfl | rfl | rfl | rfl | rfl
  · exact h0.trans hu
  · exact h1.trans hu
  · exact h2.trans hu
  · exact h3.trans hu
  · exact h4.trans hu
  · exact h5.trans hu
  · exact h6.trans hu
theorem Recs.reads {w : World} {A : Option Addr} {n : Nat} {es : List Rec} (h : Recs w A n es) : Reads w w.heap.size 7 A n (flat7 es) := by
  refine ⟨by rw [flat7_len, h.1], fun hn => ?_⟩
  obtain ⟨b, off, hA, hb, hc⟩ := h.2 hn
  refine ⟨_, hA, hb, fun j u hu => ?_⟩
  have hj : j < (flat7 es).length := (List.getElem?_eq_some_iff.1 hu).1
  rw [flat7_len, h.1] at hj
  have e : j = j / 7 * 7 + j % 7 := by omega
  have hi : j / 7 < n := by omega
  rw [e, flat7_get es _ _ (by rw [h.1]; exact hi) (by omega)] at hu
  have := (hc _ hi).at7 (by omega) hu
  have ad : (⟨b, off, none⟩ : Addr).add j = ⟨b, off + j / 7 * 7 + j % 7, none⟩ := by
    unfold Addr.add
    split
    · rename_i h0; subst h0; rfl
    · rw [Nat.add_assoc, ← e]
  rw [ad]
  exact this
/-- The new slice that a function hands back. -/
def NewIt (es : List Rec) (w : World) (x : Ending) (w' : World) : Prop :=
  ∃ A c, x = .returned (.slice A es.length c) ∧ es.length ≤ c ∧ c ≤ 9223372036854775807 ∧ Recs w' A es.length es ∧ w'.ownsRow w.heap.size 94 7 (.slice A es.length c) es.length (flat7 es) ∧ Up w w'
theorem NewIt.of_own {w w' : World} {n : Nat} {v : Value} {es : List Rec} (h : w'.ownsRow w.heap.size 94 7 v n (flat7 es)) (u : Up w w') : NewIt es w (.returned v) w' := by
  obtain ⟨rfl, A, c, rfl, hc, hm⟩ := own7_slice h
  exact ⟨A, c, rfl, hc, hm, own7_recs h, h, u⟩

def GrownIt (w : World) (x : Ending) (w' : World) : Prop := ∃ v, x = .returned v ∧ w'.ownsRow w.heap.size 94 7 v 0 (flat7 []) ∧ Up w w'

theorem zerosI_size (z : Array Value) (n : Nat) : (Builtin.zeroCells z n).size = n * z.size := by simp [Builtin.zeroCells]

set_option maxHeartbeats 4000000 in
theorem growI_any (n : Nat) (w : World) (hn : n ≤ 2000000000) : Calls Try.prog 161 #[.slice none 0 0, .int .i64 n] w (GrownIt w) := by
  obtain ⟨i0, hi0, hz0, hz1, hz2⟩ := info_parts info94
  have INF := Lib.hid (And.intro hi0 (And.intro hz0 (And.intro hz1 hz2)))
  clear hi0 hz0 hz1 hz2
  by_cases h0 : n = 0
  · subst h0
    go_enter Try.func161, Try.ntmps161
    go_wp2
    go_ret
    exact ⟨_, rfl, ⟨rfl, .inl ⟨rfl, rfl⟩⟩, Up.refl _⟩
  · have p0 : 0 < n := by omega
    have p1 : (0 : Int) < n := by omega
    have p2 : ¬ (n : Int) < 0 := by omega
    have h48 : n * i0.bytes ≤ 281474976710656 := by rw [INF.out.2.2.2]; omega
    have RUN := Lib.hid (fun ty W => Lib.run_append_nil_zeros (P := Try.prog) W 87 3 ty 94 i0 _ .i64 .i64 Try.underlying87 Try.underlying3 INF.out.1 INF.out.2.1 n p0 (by rw [INF.out.2.2.1]; omega) (by omega) h48)
    clear h48
    go_enter Try.func161, Try.ntmps161
    go_wp2_with (at_builtin; refine Lib.wpList_append_run _ rfl (.tmp 20) (.tmp 21) 87 3 rfl _ _ rfl rfl _ _ (RUN.out _ _) ?_)
    go_ret
    refine ⟨_, rfl, ⟨rfl, .inr ⟨w.heap.size, grownCap w n 0 94, _, rfl, Nat.le_refl _, heap_alloc_new w.drew _, Nat.zero_le _, grownCap_le_maxLen _ _ _ _ (by simp only [maxLen]; omega), ?_, rfl⟩⟩, (Up.refl w).drew.alloc _⟩
    have := grownCap_ge w n 0 94
    rw [Array.size_append, zerosI_size, zerosI_size]
    simp
    omega

/-- The block b holds one slice for each list. -/
def PartsI (w : World) (b : Nat) (L : List (List Rec)) : Prop :=
  ∀ j, j < L.length → ∃ A c, w.cell? ⟨b, j, none⟩ = some (.slice A (L.getD j []).length c) ∧ Recs w A (L.getD j []).length (L.getD j [])

theorem flatI_step (L : List (List Rec)) (k : Nat) (h : k < L.length) : (L.take (k + 1)).flatten = (L.take k).flatten ++ L.getD k [] := by
  rw [List.take_succ_eq_append_getElem h, List.flatten_append]
  simp [h]
theorem flatI_le (L : List (List Rec)) (k : Nat) : (L.take k).flatten.length ≤ L.flatten.length := by
  have : L.flatten = (L.take k).flatten ++ (L.drop k).flatten := by rw [← List.flatten_append, List.take_append_drop]
  rw [this, List.length_append]
  omega
theorem flatI_end (L : List (List Rec)) (k : Nat) (h : L.length ≤ k) : (L.take k).flatten = L.flatten := by rw [List.take_of_length_le h]

set_option maxHeartbeats 4000000 in
theorem concatI_any (b cap : Nat) (L : List (List Rec)) (w : World) (hL : L.length ≤ 1000000) (hb : b < w.heap.size) (hP : PartsI w b L) (hT : L.flatten.length ≤ 1000000000) :
    Calls Try.prog 138 #[.slice (some ⟨b, 0, none⟩) L.length cap] w (NewIt L.flatten w) := by
  obtain ⟨i0, hi0, hz0, hz1, hz2⟩ := info_parts info94
  have INF := Lib.hid (And.intro hi0 (And.intro hz0 (And.intro hz1 hz2)))
  have SIX := Lib.hid (show 0 < 7 by omega)
  have HP := Lib.hid hP
  have FS := Lib.hid (flatI_step L)
  have FL := Lib.hid (flatI_le L)
  have FE := Lib.hid (flatI_end L)
  have HT := Lib.hid hT
  clear hi0 hz0 hz1 hz2 hP hT
  go_enter Try.func138, Try.ntmps138
  go_wp2
  go_loopw [3, 11] (fun s i wr => (∃ k : Nat, k ≤ L.length ∧ i = .int .i64 k ∧ s = .int .i64 ((L.take k).flatten.length : Nat)) ∧ Up w wr) (fun _ i _ => L.length - (intOf i).toNat)
  case atStart => exact ⟨⟨0, by omega, rfl, rfl⟩, Up.refl _⟩
  case round =>
    obtain ⟨⟨k, hk, rfl, rfl⟩, ur⟩ := hrel
    by_cases hlt : k < L.length
    · obtain ⟨A, c, hcell, _⟩ := HP.out k hlt
      have cell' := (ur.cells b k hb).trans hcell
      clear hcell
      have st := congrArg List.length (FS.out k hlt)
      rw [List.length_append] at st
      have le := FL.out (k + 1)
      have ht := HT.out
      generalize (L.getD k []).length = m at st cell'
      generalize hs2 : (L.take (k + 1)).flatten.length = s2 at st le
      have HS2 := Lib.hid hs2
      clear hs2
      generalize (L.take k).flatten.length = s at st
      have ST := Lib.hid st
      have sm : s + m ≤ 1000000000 := by omega
      clear st le ht
      have i3 : (k : Int) < L.length := by omega
      have i4 : IntKind.i64.wrap ((s : Int) + m) = (s : Int) + m := IntWalk.i64_in _ (by omega)
      have i5 : ¬ (s : Int) + m < 0 := by omega
      have hb' : b < wr.heap.size := by have := ur.size; omega
      go_wp2
      go_roundw
      case rel => exact ⟨⟨k + 1, by omega, by go_num, by rw [HS2.out, ST.out]; simp⟩, ur⟩
      case measure => simp [intOf]; omega
    · have i3 : ¬ (k : Int) < L.length := by omega
      rw [FE.out k (by omega)]
      have ht := HT.out
      generalize hN : L.flatten.length = N at ht
      have HN := Lib.hid hN
      clear hN
      go_wp2_with fail
      refine (growI_any N _ (by omega)).mono ?_
      rintro x w1 ⟨v1, rfl, o1, u1⟩
      have O1 := Lib.hid (own_mono o1 ur.size)
      have U1 := Lib.hid (ur.trans u1)
      clear o1 u1 ur i3 hk ht
      go_wp2_with fail
      go_loopw [6, 27] (fun v i wr => (∃ k : Nat, k ≤ L.length ∧ i = .int .i64 k ∧ wr.ownsRow w.heap.size 94 7 v (L.take k).flatten.length (flat7 (L.take k).flatten)) ∧ Up w wr) (fun _ i _ => L.length - (intOf i).toNat)
      case atStart => exact ⟨⟨0, by omega, rfl, O1.out⟩, U1.out⟩
      case round =>
        obtain ⟨⟨k, hk, rfl, ho⟩, ur⟩ := hrel
        have HO := Lib.hid ho
        clear ho U1
        by_cases hlt : k < L.length
        · obtain ⟨A, c, hcell, hev⟩ := HP.out k hlt
          have cell' := (ur.cells b k hb).trans hcell
          have RD := Lib.hid (hev.up ur).reads
          clear hcell hev
          have fk := FS.out k hlt
          have st := congrArg List.length (FS.out k hlt)
          rw [List.length_append] at st
          generalize L.getD k [] = es at cell' RD fk st
          have FK := Lib.hid fk
          clear fk
          have ht := HT.out
          have le := FL.out (k + 1)
          have HMX := Lib.hid (show (L.take k).flatten.length + es.length ≤ maxLen by simp only [maxLen]; omega)
          have HBY := Lib.hid (show ((L.take k).flatten.length + es.length) * 56 ≤ 140737488355328 by omega)
          have HBS := Lib.hid ur.size
          have ST := Lib.hid st
          clear st ht le
          have i3 : (k : Int) < L.length := by omega
          have hb' : b < wr.heap.size := by have := HBS.out; omega
          go_wp2_with (at_builtin; refine wpList_append_any _ rfl (.tmp 31) (.tmp 32) 87 rfl w.heap.size 94 i0 _ 7 56 Try.underlying87 INF.out.1 INF.out.2.1 INF.out.2.2.1 INF.out.2.2.2 rfl SIX.out _ _ _ rfl HO.out _ _ _ _ (flat7 es) rfl RD.out (flat7_one _) HMX.out HBY.out HBS.out ?_; intro v2 w2 ho2 hg2 _)
          have HO2 := Lib.hid ho2
          have HG2 := Lib.hid hg2
          clear ho2 hg2
          go_roundw
          case rel => exact ⟨⟨k + 1, by omega, by go_num, by rw [FK.out, flat7_app, List.length_append]; exact HO2.out⟩, ur.grown HG2.out (fun j hj => (HO.out.lt j hj).1)⟩
          case measure => simp [intOf]; omega
        · have i3 : ¬ (k : Int) < L.length := by omega
          have HO2 := Lib.hid (show wr.ownsRow w.heap.size 94 7 _ L.flatten.length (flat7 L.flatten) from FE.out k (by omega) ▸ HO.out)
          go_wp2
          go_ret
          exact NewIt.of_own HO2.out ur

theorem concatI1 (A1 : Option Addr) (n1 c1 : Nat) (es1 : List Rec) (W : World) (h1 : Recs W A1 n1 es1) (hT : n1 ≤ 1000000000) :
    Calls Try.prog 138 #[.slice (some ⟨W.heap.size, 0, none⟩) 1 1] (W.alloc (.cells #[.slice A1 n1 c1] 87)) (NewIt es1 (W.alloc (.cells #[.slice A1 n1 c1] 87))) := by
  obtain rfl := h1.1
  have hh := heap_alloc_new W (.cells #[.slice A1 es1.length c1] 87)
  have := concatI_any W.heap.size 1 [es1] (W.alloc (.cells #[.slice A1 es1.length c1] 87)) (by simp) (by simp) (fun j hj => by
    obtain rfl : j = 0 := by simpa using hj
    exact ⟨A1, c1, by rw [cell_of_row _ _ 0 _ _ _ hh]; rfl, h1.up ((Up.refl W).alloc _)⟩) (by simpa using hT)
  simpa using this
theorem concatI2 (A1 : Option Addr) (n1 c1 : Nat) (es1 : List Rec) (A2 : Option Addr) (n2 c2 : Nat) (es2 : List Rec) (W : World) (h1 : Recs W A1 n1 es1) (h2 : Recs W A2 n2 es2) (hT : n1 + n2 ≤ 1000000000) :
    Calls Try.prog 138 #[.slice (some ⟨W.heap.size, 0, none⟩) 2 2] (W.alloc (.cells #[.slice A1 n1 c1, .slice A2 n2 c2] 87)) (NewIt (es1 ++ es2) (W.alloc (.cells #[.slice A1 n1 c1, .slice A2 n2 c2] 87))) := by
  obtain rfl := h1.1
  obtain rfl := h2.1
  have hh := heap_alloc_new W (.cells #[.slice A1 es1.length c1, .slice A2 es2.length c2] 87)
  have := concatI_any W.heap.size 2 [es1, es2] (W.alloc (.cells #[.slice A1 es1.length c1, .slice A2 es2.length c2] 87)) (by simp) (by simp) (fun j hj => by
    have h : j = 0 ∨ j = 1 := by simp at hj; omega
    rcases h with rfl | rfl
    · exact ⟨A1, c1, by rw [cell_of_row _ _ 0 _ _ _ hh]; rfl, h1.up ((Up.refl W).alloc _)⟩
    · exact ⟨A2, c2, by rw [cell_of_row _ _ 1 _ _ _ hh]; rfl, h2.up ((Up.refl W).alloc _)⟩) (by simpa using hT)
  simpa using this

end Go.Proofs.Ytkfjemgelmbcfaa

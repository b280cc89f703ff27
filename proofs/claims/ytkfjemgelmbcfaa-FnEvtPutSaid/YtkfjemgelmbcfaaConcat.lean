/-
  What slices.Concat returns of slices of events, in one sentence: a new slice of all of them, one behind the other; for every row of slices that lies in memory.
-/
import Derived.Test.YtkfjemgelmbcfaaGrow
import Derived.Test.YtkfjemgelmbcfaaIns
namespace Go.Proofs.Ytkfjemgelmbcfaa
set_option maxRecDepth 100000
open Go.RowKit

/-- The block b holds one slice for each list. -/
def Parts (w : World) (b : Nat) (L : List (List Evt)) : Prop :=
  ∀ j, j < L.length → ∃ A c, w.cell? ⟨b, j, none⟩ = some (.slice A (L.getD j []).length c) ∧ Evs w A (L.getD j []).length (L.getD j [])

theorem flat_step (L : List (List Evt)) (k : Nat) (h : k < L.length) : (L.take (k + 1)).flatten = (L.take k).flatten ++ L.getD k [] := by
  rw [List.take_succ_eq_append_getElem h, List.flatten_append]
  simp [h]
theorem flat_le (L : List (List Evt)) (k : Nat) : (L.take k).flatten.length ≤ L.flatten.length := by
  have : L.flatten = (L.take k).flatten ++ (L.drop k).flatten := by rw [← List.flatten_append, List.take_append_drop]
  rw [this, List.length_append]
  omega
theorem flat_end (L : List (List Evt)) (k : Nat) (h : L.length ≤ k) : (L.take k).flatten = L.flatten := by rw [List.take_of_length_le h]

set_option maxHeartbeats 4000000 in
theorem concat_any (b cap : Nat) (L : List (List Evt)) (w : World) (hL : L.length ≤ 1000000) (hb : b < w.heap.size) (hP : Parts w b L) (hT : L.flatten.length ≤ 1000000000) :
    Calls Try.prog 82 #[.slice (some ⟨b, 0, none⟩) L.length cap] w (NewSl L.flatten w) := by
  obtain ⟨i0, hi0, hz0, hz1, hz2⟩ := info_parts info50
  have INF := Lib.hid (And.intro hi0 (And.intro hz0 (And.intro hz1 hz2)))
  have SIX := Lib.hid (show 0 < 6 by omega)
  have HP := Lib.hid hP
  have FS := Lib.hid (flat_step L)
  have FL := Lib.hid (flat_le L)
  have FE := Lib.hid (flat_end L)
  have HT := Lib.hid hT
  clear hi0 hz0 hz1 hz2 hP hT
  go_enter Try.func82, Try.ntmps82
  go_wp2
  go_loopw [3, 11] (fun s i wr => (∃ k : Nat, k ≤ L.length ∧ i = .int .i64 k ∧ s = .int .i64 ((L.take k).flatten.length : Nat)) ∧ Up w wr) (fun _ i _ => L.length - (intOf i).toNat)
  case atStart => exact ⟨⟨0, by omega, rfl, rfl⟩, Up.refl _⟩
  case round =>
    obtain ⟨⟨k, hk, rfl, rfl⟩, ur⟩ := hrel
    by_cases hlt : k < L.length
    · obtain ⟨A, c, hcell, _⟩ := HP.out k hlt
      have cell' := (ur.cells b k hb).trans hcell
      clear hcell
      have st := congrArg List.length (FS.out k hlt)
      rw [List.length_append] at st
      have le := FL.out (k + 1)
      have ht := HT.out
      generalize (L.getD k []).length = m at st cell'
      generalize hs2 : (L.take (k + 1)).flatten.length = s2 at st le
      have HS2 := Lib.hid hs2
      clear hs2
      generalize (L.take k).flatten.length = s at st
      have ST := Lib.hid st
      have sm : s + m ≤ 1000000000 := by omega
      clear st le ht
      have i3 : (k : Int) < L.length := by omega
      have i4 : IntKind.i64.wrap ((s : Int) + m) = (s : Int) + m := IntWalk.i64_in _ (by omega)
      have i5 : ¬ (s : Int) + m < 0 := by omega
      have hb' : b < wr.heap.size := by have := ur.size; omega
      go_wp2
      go_roundw
      case rel => exact ⟨⟨k + 1, by omega, by go_num, by rw [HS2.out, ST.out]; simp⟩, ur⟩
      case measure => simp [intOf]; omega
    · have i3 : ¬ (k : Int) < L.length := by omega
      rw [FE.out k (by omega)]
      have ht := HT.out
      generalize hN : L.flatten.length = N at ht
      have HN := Lib.hid hN
      clear hN
      go_wp2_with fail
      refine (grow_any N _ (by omega)).mono ?_
      rintro x w1 ⟨v1, rfl, o1, u1⟩
      have O1 := Lib.hid (own_mono o1 ur.size)
      have U1 := Lib.hid (ur.trans u1)
      clear o1 u1 ur i3 hk ht
      go_wp2_with fail
      go_loopw [6, 27] (fun v i wr => (∃ k : Nat, k ≤ L.length ∧ i = .int .i64 k ∧ wr.ownsRow w.heap.size 50 6 v (L.take k).flatten.length (flat (L.take k).flatten)) ∧ Up w wr) (fun _ i _ => L.length - (intOf i).toNat)
      case atStart => exact ⟨⟨0, by omega, rfl, O1.out⟩, U1.out⟩
      case round =>
        obtain ⟨⟨k, hk, rfl, ho⟩, ur⟩ := hrel
        have HO := Lib.hid ho
        clear ho U1
        by_cases hlt : k < L.length
        · obtain ⟨A, c, hcell, hev⟩ := HP.out k hlt
          have cell' := (ur.cells b k hb).trans hcell
          have RD := Lib.hid (hev.up ur).reads
          clear hcell hev
          have fk := FS.out k hlt
          have st := congrArg List.length (FS.out k hlt)
          rw [List.length_append] at st
          generalize L.getD k [] = es at cell' RD fk st
          have FK := Lib.hid fk
          clear fk
          have ht := HT.out
          have le := FL.out (k + 1)
          have HMX := Lib.hid (show (L.take k).flatten.length + es.length ≤ maxLen by simp only [maxLen]; omega)
          have HBY := Lib.hid (show ((L.take k).flatten.length + es.length) * 48 ≤ 140737488355328 by omega)
          have HBS := Lib.hid ur.size
          have ST := Lib.hid st
          clear st ht le
          have i3 : (k : Int) < L.length := by omega
          have hb' : b < wr.heap.size := by have := HBS.out; omega
          go_wp2_with (at_builtin; refine wpList_append_any _ rfl (.tmp 31) (.tmp 32) 24 rfl w.heap.size 50 i0 _ 6 48 Try.underlying24 INF.out.1 INF.out.2.1 INF.out.2.2.1 INF.out.2.2.2 rfl SIX.out _ _ _ rfl HO.out _ _ _ _ (flat es) rfl RD.out (flat_one _) HMX.out HBY.out HBS.out ?_; intro v2 w2 ho2 hg2 _)
          have HO2 := Lib.hid ho2
          have HG2 := Lib.hid hg2
          clear ho2 hg2
          go_roundw
          case rel => exact ⟨⟨k + 1, by omega, by go_num, by rw [FK.out, flat_app, List.length_append]; exact HO2.out⟩, ur.grown HG2.out (fun j hj => (HO.out.lt j hj).1)⟩
          case measure => simp [intOf]; omega
        · have i3 : ¬ (k : Int) < L.length := by omega
          have HO2 := Lib.hid (show wr.ownsRow w.heap.size 50 6 _ L.flatten.length (flat L.flatten) from FE.out k (by omega) ▸ HO.out)
          go_wp2
          go_ret
          exact NewSl.of_own HO2.out ur

end Go.Proofs.Ytkfjemgelmbcfaa

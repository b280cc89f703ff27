/-
  What tbEvts returns, in one sentence: whether two lists of events are the same; for every two lists that lie in memory.
  What slices.Index returns of events, in one sentence: the first place of an event in a list, or -1; for every list that lies in memory.
  What slices.Grow returns of nothing, in one sentence: an empty slice of events with room; for every number that lies in memory.
  What slices.Concat returns of slices of events, in one sentence: a new slice of all of them, one behind the other; for every row of slices that lies in memory.
  What Concat of one and of two slices of events gives, in one sentence: their elements in a new slice; for slices that lie in memory.
  What impl.EvtTake returns, in one sentence: a new slice of the list without the first place of the event, and whether there is one; for every list that lies in memory.
-/
import Derived.Test.YtkfjemgelmbcfaaKA
import Derived.Test.YtkfjemgelmbcfaaKE
import Derived.Test.YtkfjemgelmbcfaaKC
import Derived.Lib.AppendZeros
namespace Go.Proofs.Ytkfjemgelmbcfaa
set_option maxRecDepth 100000
open Go.RowKit

set_option maxHeartbeats 1000000 in
theorem tbEvts_any (A B : Option Addr) (n m capa capb : Nat) (es fs : List Evt) (w : World) (hn : n ≤ 1000000000) (hE : Evs w A n es) (hF : Evs w B m fs) :
    Calls Try.prog 30 #[.slice A n capa, .slice B m capb] w fun x w' => x = .returned (.bool (decide (es = fs))) ∧ Up w w' := by
  by_cases hnm : n = m
  · subst hnm
    have H0 := Lib.hid (show decide (es.drop 0 = fs.drop 0) = decide (es = fs) from rfl)
    have ST := Lib.hid (eqL_drop es fs (by rw [hE.1, hF.1]))
    have HE := Lib.hid hE
    have HF := Lib.hid hF
    have LE := Lib.hid hE.1
    have LF := Lib.hid hF.1
    have CL := Lib.hid (fun p q W => neq_evt p q W)
    have gd := guard_evt
    generalize hr : decide (es = fs) = res at H0 ⊢
    clear hE hF hr
    go_enter Try.func30, Try.ntmps30
    go_wp2
    go_loopw [5] (fun i wr => (∃ k : Nat, k ≤ n ∧ i = .int .i64 k ∧ decide (es.drop k = fs.drop k) = res) ∧ Up w wr) (fun i _ => n - (intOf i).toNat)
    case atStart => exact ⟨⟨0, by omega, rfl, H0.out⟩, Up.refl _⟩
    case round =>
      obtain ⟨⟨k, hk, rfl, hr⟩, ur⟩ := hrel
      have HR := Lib.hid hr
      clear hr
      by_cases hlt : k < n
      · obtain ⟨b, off, hA, hb, hc⟩ := HE.out.2 (by omega)
        obtain ⟨b2, off2, hA2, hb2, hc2⟩ := HF.out.2 (by omega)
        subst hA hA2
        have a0 := (hc k hlt).up ur hb
        have a1 := (hc2 k hlt).up ur hb2
        have hb' : b < wr.heap.size := by have := ur.size; omega
        have hb2' : b2 < wr.heap.size := by have := ur.size; omega
        clear hc hc2
        have S := ST.out k (by rw [LE.out]; exact hlt)
        have cl := CL.out (es.getD k default) (fs.getD k default)
        generalize es.getD k default = p at a0 S cl
        generalize fs.getD k default = q at a1 S cl
        have S' := Lib.hid S
        clear S
        generalize eqB p q = r at S' cl
        obtain ⟨pt, pto, pfr, psq, pkd, pdt⟩ := p
        obtain ⟨qt, qto, qfr, qsq, qkd, qdt⟩ := q
        unfold EvAt at a0 a1
        unfold Evt.v at cl
        dsimp only at a0 a1 cl
        obtain ⟨p0, p1, p2, p3, p4, p5⟩ := a0
        obtain ⟨q0, q1, q2, q3, q4, q5⟩ := a1
        have i4 : (k : Int) < n := by omega
        go_wp2
        refine region_up (by kernel_rfl) (by kernel_rfl) ?_
        refine up_step rfl ?_
        apply Exists.intro
        refine ⟨fun w1 hw1 => ?_, ?_⟩
        · go_simp
          try rfl
        go_simp
        refine up_step rfl ?_
        apply Exists.intro
        refine ⟨fun w1 hw1 => ?_, ?_⟩
        · go_simp
          try rfl
        go_simp
        refine up_step rfl ?_
        apply Exists.intro
        refine ⟨fun w1 hw1 => ?_, ?_⟩
        · go_simp
          try rfl
        go_simp
        refine up_step rfl ?_
        apply Exists.intro
        refine ⟨fun w1 hw1 => ?_, ?_⟩
        · obtain ⟨hc, hf, hz⟩ := hw1.facts
          try simp at hz
          go_simp
          try rfl
        go_simp
        refine up_step rfl ?_
        apply Exists.intro
        refine ⟨fun w1 hw1 => ?_, ?_⟩
        · go_simp
          try rfl
        go_simp
        refine up_step rfl ?_
        apply Exists.intro
        refine ⟨fun w1 hw1 => ?_, ?_⟩
        · go_simp
          try rfl
        go_simp
        refine up_step rfl ?_
        apply Exists.intro
        refine ⟨fun w1 hw1 => ?_, ?_⟩
        · go_simp
          try rfl
        go_simp
        refine up_step rfl ?_
        apply Exists.intro
        refine ⟨fun w1 hw1 => ?_, ?_⟩
        · obtain ⟨hc, hf, hz⟩ := hw1.facts
          try simp at hz
          go_simp
          try rfl
        go_simp
        refine up_step rfl ?_
        apply Exists.intro
        refine ⟨fun w1 hw1 => ?_, ?_⟩
        · go_simp
          try rfl
        go_simp
        refine wpQuiet_nil ?_
        intro wA uA
        clear i4 p0 p1 p2 p3 p4 p5 q0 q1 q2 q3 q4 q5 cl
        cases r
        · go_wp2
          go_ret
          exact ⟨ret_bool (by rw [← HR.out, S'.out]; rfl), ur.trans uA⟩
        · go_wp2
          go_roundw
          case rel => exact ⟨⟨k + 1, by omega, by go_num, by rw [← HR.out, S'.out]; rfl⟩, ur.trans uA⟩
          case measure => simp [intOf]; omega
      · have e : decide (es.drop k = fs.drop k) = true := by rw [List.drop_eq_nil_of_le (by rw [LE.out]; omega), List.drop_eq_nil_of_le (by rw [LF.out]; omega)]; rfl
        have E := Lib.hid e
        clear e
        go_wp2
        go_ret
        exact ⟨ret_bool (by rw [← HR.out, E.out]), ur⟩
  · have hf := Lib.hid (show decide (es = fs) = false from decide_eq_false fun h => hnm (by rw [← hE.1, ← hF.1, h]))
    generalize decide (es = fs) = r at hf ⊢
    have hne : ((n : Int) != (m : Int)) = true := by rw [bne_iff_ne]; omega
    have HN := Lib.hid hnm
    clear hE hF hnm
    go_enter Try.func30, Try.ntmps30
    go_wp2
    go_ret
    exact ⟨ret_bool hf.out.symm, Up.refl _⟩

end Go.Proofs.Ytkfjemgelmbcfaa

namespace Go.Proofs.Ytkfjemgelmbcfaa
set_option maxRecDepth 100000
open Go.RowKit

set_option maxHeartbeats 4000000 in
theorem index_any (A : Option Addr) (n cap : Nat) (es : List Evt) (e : Evt) (w : World) (hn : n ≤ 1000000000) (hE : Evs w A n es) :
    Calls Try.prog 81 #[.slice A n cap, e.v] w (AtPost e es w) := by
  have HE := Lib.hid hE
  have LE := Lib.hid hE.1
  have CL := Lib.hid (fun x W => eqB_comm e x ▸ eql_evt e x W)
  have gd := guard_evt
  clear hE
  generalize hee : e = e' at CL ⊢
  have HEE := Lib.hid hee
  clear hee
  obtain ⟨et, eto, efr, esq, ekd, edt⟩ := e'
  unfold Evt.v at CL ⊢
  dsimp only at CL ⊢
  go_enter Try.func81, Try.ntmps81
  go_wp2
  go_loopw [8] (fun i wr => AtRel e es n i ∧ Up w wr ∧ Box wr w.heap.size ⟨et, eto, efr, esq, ekd, edt⟩) (fun i _ => n - (intOf i).toNat)
  case atStart => exact ⟨⟨0, by omega, rfl, fun j hj => absurd hj (by omega)⟩, (Up.refl w).alloc _, Box.new w ⟨et, eto, efr, esq, ekd, edt⟩ _⟩
  case round =>
    obtain ⟨⟨k, hk, rfl, hr⟩, ur, bx⟩ := hrel
    have HR := Lib.hid hr
    have BX := Lib.hid bx
    have hsx := bx.lt
    clear hr bx
    by_cases hlt : k < n
    · obtain ⟨bb, off, hA, hbb, hc⟩ := HE.out.2 (by omega)
      subst hA
      have a0 := (hc k hlt).up ur hbb
      have hbb' : bb < wr.heap.size := by have := ur.size; omega
      clear hc
      have cl := CL.out (es.getD k default)
      generalize hxx : es.getD k default = x at a0 cl
      have HX := Lib.hid hxx
      clear hxx
      generalize hq : eqB x ⟨et, eto, efr, esq, ekd, edt⟩ = q at cl
      have HQ := Lib.hid hq
      clear hq
      obtain ⟨xt, xto, xfr, xsq, xkd, xdt⟩ := x
      unfold EvAt at a0
      dsimp only at a0 cl
      have i4 : (k : Int) < n := by omega
      obtain ⟨⟨e0, e1, e2, e3, e4, e5⟩, -⟩ := BX.out.mk6
      obtain ⟨p0, p1, p2, p3, p4, p5⟩ := a0
      go_wp2
      refine region_up (by kernel_rfl) (by kernel_rfl) ?_
      refine up_step rfl ?_
      apply Exists.intro
      refine ⟨fun w1 hw1 => ?_, ?_⟩
      · obtain ⟨hc, hf, hz⟩ := hw1.facts
        try simp at hz
        go_simp
        try rfl
      go_simp
      refine up_step rfl ?_
      apply Exists.intro
      refine ⟨fun w1 hw1 => ?_, ?_⟩
      · go_simp
        try rfl
      go_simp
      refine up_step rfl ?_
      apply Exists.intro
      refine ⟨fun w1 hw1 => ?_, ?_⟩
      · go_simp
        try rfl
      go_simp
      refine up_step rfl ?_
      apply Exists.intro
      refine ⟨fun w1 hw1 => ?_, ?_⟩
      · go_simp
        try rfl
      go_simp
      refine up_step rfl ?_
      apply Exists.intro
      refine ⟨fun w1 hw1 => ?_, ?_⟩
      · obtain ⟨hc, hf, hz⟩ := hw1.facts
        try simp at hz
        go_simp
        try rfl
      go_simp
      refine up_step rfl ?_
      apply Exists.intro
      refine ⟨fun w1 hw1 => ?_, ?_⟩
      · go_simp
        try rfl
      go_simp
      refine wpQuiet_nil ?_
      intro wA uA
      clear i4 cl p0 p1 p2 p3 p4 p5 e0 e1 e2 e3 e4 e5
      cases q
      · go_wp2
        go_roundw
        case rel => exact ⟨⟨k + 1, by omega, by go_num, fun j hj => (by
            rcases Nat.lt_or_ge j k with h | h
            · exact HR.out j h
            · obtain rfl : j = k := by omega
              rw [HX.out, HEE.out]
              exact HQ.out)⟩, ur.trans uA, BX.out.up uA⟩
        case measure => simp [intOf]; omega
      · go_wp2
        go_ret
        have hat : IsAt e es (k : Int) := .inl ⟨k, rfl, by rw [LE.out]; exact hlt, by rw [HX.out, HEE.out]; exact HQ.out, HR.out⟩
        rw [HEE.out] at hat
        exact ⟨_, rfl, hat, ur.trans uA⟩
    · go_wp2
      go_ret
      have hat : IsAt e es (-1) := .inr ⟨rfl, fun j hj => HR.out j (by have := LE.out; omega)⟩
      rw [HEE.out] at hat
      exact ⟨_, rfl, hat, ur⟩

end Go.Proofs.Ytkfjemgelmbcfaa

namespace Go.Proofs.Ytkfjemgelmbcfaa
set_option maxRecDepth 100000
open Go.RowKit

def GrownSl (w : World) (x : Ending) (w' : World) : Prop := ∃ v, x = .returned v ∧ w'.ownsRow w.heap.size 50 6 v 0 (flat []) ∧ Up w w'

theorem zeros_size (z : Array Value) (n : Nat) : (Builtin.zeroCells z n).size = n * z.size := by simp [Builtin.zeroCells]

set_option maxHeartbeats 4000000 in
theorem grow_any (n : Nat) (w : World) (hn : n ≤ 2000000000) : Calls Try.prog 125 #[.slice none 0 0, .int .i64 n] w (GrownSl w) := by
  obtain ⟨i0, hi0, hz0, hz1, hz2⟩ := info_parts info50
  have INF := Lib.hid (And.intro hi0 (And.intro hz0 (And.intro hz1 hz2)))
  clear hi0 hz0 hz1 hz2
  by_cases h0 : n = 0
  · subst h0
    go_enter Try.func125, Try.ntmps125
    go_wp2
    go_ret
    exact ⟨_, rfl, ⟨rfl, .inl ⟨rfl, rfl⟩⟩, Up.refl _⟩
  · have p0 : 0 < n := by omega
    have p1 : (0 : Int) < n := by omega
    have p2 : ¬ (n : Int) < 0 := by omega
    have h48 : n * i0.bytes ≤ 281474976710656 := by rw [INF.out.2.2.2]; omega
    have RUN := Lib.hid (fun ty W => Lib.run_append_nil_zeros (P := Try.prog) W 24 3 ty 50 i0 _ .i64 .i64 Try.underlying24 Try.underlying3 INF.out.1 INF.out.2.1 n p0 (by rw [INF.out.2.2.1]; omega) (by omega) h48)
    clear h48
    go_enter Try.func125, Try.ntmps125
    go_wp2_with (at_builtin; refine Lib.wpList_append_run _ rfl (.tmp 20) (.tmp 21) 24 3 rfl _ _ rfl rfl _ _ (RUN.out _ _) ?_)
    go_ret
    refine ⟨_, rfl, ⟨rfl, .inr ⟨w.heap.size, grownCap w n 0 50, _, rfl, Nat.le_refl _, heap_alloc_new w.drew _, Nat.zero_le _, grownCap_le_maxLen _ _ _ _ (by simp only [maxLen]; omega), ?_, rfl⟩⟩, (Up.refl w).drew.alloc _⟩
    have := grownCap_ge w n 0 50
    rw [Array.size_append, zeros_size, zeros_size]
    simp
    omega

end Go.Proofs.Ytkfjemgelmbcfaa

namespace Go.Proofs.Ytkfjemgelmbcfaa
set_option maxRecDepth 100000
open Go.RowKit

/-- The block b holds one slice for each list. -/
def Parts (w : World) (b : Nat) (L : List (List Evt)) : Prop :=
  ∀ j, j < L.length → ∃ A c, w.cell? ⟨b, j, none⟩ = some (.slice A (L.getD j []).length c) ∧ Evs w A (L.getD j []).length (L.getD j [])

theorem flat_step (L : List (List Evt)) (k : Nat) (h : k < L.length) : (L.take (k + 1)).flatten = (L.take k).flatten ++ L.getD k [] := by
  rw [List.take_succ_eq_append_getElem h, List.flatten_append]
  simp [h]
theorem flat_le (L : List (List Evt)) (k : Nat) : (L.take k).flatten.length ≤ L.flatten.length := by
  have : L.flatten = (L.take k).flatten ++ (L.drop k).flatten := by rw [← List.flatten_append, List.take_append_drop]
  rw [this, List.length_append]
  omega
theorem flat_end (L : List (List Evt)) (k : Nat) (h : L.length ≤ k) : (L.take k).flatten = L.flatten := by rw [List.take_of_length_le h]

set_option maxHeartbeats 4000000 in
theorem concat_any (b cap : Nat) (L : List (List Evt)) (w : World) (hL : L.length ≤ 1000000) (hb : b < w.heap.size) (hP : Parts w b L) (hT : L.flatten.length ≤ 1000000000) :
    Calls Try.prog 82 #[.slice (some ⟨b, 0, none⟩) L.length cap] w (NewSl L.flatten w) := by
  obtain ⟨i0, hi0, hz0, hz1, hz2⟩ := info_parts info50
  have INF := Lib.hid (And.intro hi0 (And.intro hz0 (And.intro hz1 hz2)))
  have SIX := Lib.hid (show 0 < 6 by omega)
  have HP := Lib.hid hP
  have FS := Lib.hid (flat_step L)
  have FL := Lib.hid (flat_le L)
  have FE := Lib.hid (flat_end L)
  have HT := Lib.hid hT
  clear hi0 hz0 hz1 hz2 hP hT
  go_enter Try.func82, Try.ntmps82
  go_wp2
  go_loopw [3, 11] (fun s i wr => (∃ k : Nat, k ≤ L.length ∧ i = .int .i64 k ∧ s = .int .i64 ((L.take k).flatten.length : Nat)) ∧ Up w wr) (fun _ i _ => L.length - (intOf i).toNat)
  case atStart => exact ⟨⟨0, by omega, rfl, rfl⟩, Up.refl _⟩
  case round =>
    obtain ⟨⟨k, hk, rfl, rfl⟩, ur⟩ := hrel
    by_cases hlt : k < L.length
    · obtain ⟨A, c, hcell, _⟩ := HP.out k hlt
      have cell' := (ur.cells b k hb).trans hcell
      clear hcell
      have st := congrArg List.length (FS.out k hlt)
      rw [List.length_append] at st
      have le := FL.out (k + 1)
      have ht := HT.out
      generalize (L.getD k []).length = m at st cell'
      generalize hs2 : (L.take (k + 1)).flatten.length = s2 at st le
      have HS2 := Lib.hid hs2
      clear hs2
      generalize (L.take k).flatten.length = s at st
      have ST := Lib.hid st
      have sm : s + m ≤ 1000000000 := by omega
      clear st le ht
      have i3 : (k : Int) < L.length := by omega
      have i4 : IntKind.i64.wrap ((s : Int) + m) = (s : Int) + m := IntWalk.i64_in _ (by omega)
      have i5 : ¬ (s : Int) + m < 0 := by omega
      have hb' : b < wr.heap.size := by have := ur.size; omega
      go_wp2
      go_roundw
      case rel => exact ⟨⟨k + 1, by omega, by go_num, by rw [HS2.out, ST.out]; simp⟩, ur⟩
      case measure => simp [intOf]; omega
    · have i3 : ¬ (k : Int) < L.length := by omega
      rw [FE.out k (by omega)]
      have ht := HT.out
      generalize hN : L.flatten.length = N at ht
      have HN := Lib.hid hN
      clear hN
      go_wp2_with fail
      refine (grow_any N _ (by omega)).mono ?_
      rintro x w1 ⟨v1, rfl, o1, u1⟩
      have O1 := Lib.hid (own_mono o1 ur.size)
      have U1 := Lib.hid (ur.trans u1)
      clear o1 u1 ur i3 hk ht
      go_wp2_with fail
      go_loopw [6, 27] (fun v i wr => (∃ k : Nat, k ≤ L.length ∧ i = .int .i64 k ∧ wr.ownsRow w.heap.size 50 6 v (L.take k).flatten.length (flat (L.take k).flatten)) ∧ Up w wr) (fun _ i _ => L.length - (intOf i).toNat)
      case atStart => exact ⟨⟨0, by omega, rfl, O1.out⟩, U1.out⟩
      case round =>
        obtain ⟨⟨k, hk, rfl, ho⟩, ur⟩ := hrel
        have HO := Lib.hid ho
        clear ho U1
        by_cases hlt : k < L.length
        · obtain ⟨A, c, hcell, hev⟩ := HP.out k hlt
          have cell' := (ur.cells b k hb).trans hcell
          have RD := Lib.hid (hev.up ur).reads
          clear hcell hev
          have fk := FS.out k hlt
          have st := congrArg List.length (FS.out k hlt)
          rw [List.length_append] at st
          generalize L.getD k [] = es at cell' RD fk st
          have FK := Lib.hid fk
          clear fk
          have ht := HT.out
          have le := FL.out (k + 1)
          have HMX := Lib.hid (show (L.take k).flatten.length + es.length ≤ maxLen by simp only [maxLen]; omega)
          have HBY := Lib.hid (show ((L.take k).flatten.length + es.length) * 48 ≤ 140737488355328 by omega)
          have HBS := Lib.hid ur.size
          have ST := Lib.hid st
          clear st ht le
          have i3 : (k : Int) < L.length := by omega
          have hb' : b < wr.heap.size := by have := HBS.out; omega
          go_wp2_with (at_builtin; refine wpList_append_any _ rfl (.tmp 31) (.tmp 32) 24 rfl w.heap.size 50 i0 _ 6 48 Try.underlying24 INF.out.1 INF.out.2.1 INF.out.2.2.1 INF.out.2.2.2 rfl SIX.out _ _ _ rfl HO.out _ _ _ _ (flat es) rfl RD.out (flat_one _) HMX.out HBY.out HBS.out ?_; intro v2 w2 ho2 hg2 _)
          have HO2 := Lib.hid ho2
          have HG2 := Lib.hid hg2
          clear ho2 hg2
          go_roundw
          case rel => exact ⟨⟨k + 1, by omega, by go_num, by rw [FK.out, flat_app, List.length_append]; exact HO2.out⟩, ur.grown HG2.out (fun j hj => (HO.out.lt j hj).1)⟩
          case measure => simp [intOf]; omega
        · have i3 : ¬ (k : Int) < L.length := by omega
          have HO2 := Lib.hid (show wr.ownsRow w.heap.size 50 6 _ L.flatten.length (flat L.flatten) from FE.out k (by omega) ▸ HO.out)
          go_wp2
          go_ret
          exact NewSl.of_own HO2.out ur

end Go.Proofs.Ytkfjemgelmbcfaa

namespace Go.Proofs.Ytkfjemgelmbcfaa
set_option maxRecDepth 100000
open Go.RowKit

theorem concat1 (A1 : Option Addr) (n1 c1 : Nat) (es1 : List Evt) (W : World) (h1 : Evs W A1 n1 es1) (hT : n1 ≤ 1000000000) :
    Calls Try.prog 82 #[.slice (some ⟨W.heap.size, 0, none⟩) 1 1] (W.alloc (.cells #[.slice A1 n1 c1] 24)) (NewSl es1 (W.alloc (.cells #[.slice A1 n1 c1] 24))) := by
  obtain rfl := h1.1
  have hh := heap_alloc_new W (.cells #[.slice A1 es1.length c1] 24)
  have := concat_any W.heap.size 1 [es1] (W.alloc (.cells #[.slice A1 es1.length c1] 24)) (by simp) (by simp) (fun j hj => by
    obtain rfl : j = 0 := by simpa using hj
    exact ⟨A1, c1, by rw [cell_of_row _ _ 0 _ _ _ hh]; rfl, h1.up ((Up.refl W).alloc _)⟩) (by simpa using hT)
  simpa using this
theorem concat2 (A1 : Option Addr) (n1 c1 : Nat) (es1 : List Evt) (A2 : Option Addr) (n2 c2 : Nat) (es2 : List Evt) (W : World) (h1 : Evs W A1 n1 es1) (h2 : Evs W A2 n2 es2) (hT : n1 + n2 ≤ 1000000000) :
    Calls Try.prog 82 #[.slice (some ⟨W.heap.size, 0, none⟩) 2 2] (W.alloc (.cells #[.slice A1 n1 c1, .slice A2 n2 c2] 24)) (NewSl (es1 ++ es2) (W.alloc (.cells #[.slice A1 n1 c1, .slice A2 n2 c2] 24))) := by
  obtain rfl := h1.1
  obtain rfl := h2.1
  have hh := heap_alloc_new W (.cells #[.slice A1 es1.length c1, .slice A2 es2.length c2] 24)
  have := concat_any W.heap.size 2 [es1, es2] (W.alloc (.cells #[.slice A1 es1.length c1, .slice A2 es2.length c2] 24)) (by simp) (by simp) (fun j hj => by
    have h : j = 0 ∨ j = 1 := by simp at hj; omega
    rcases h with rfl | rfl
    · exact ⟨A1, c1, by rw [cell_of_row _ _ 0 _ _ _ hh]; rfl, h1.up ((Up.refl W).alloc _)⟩
    · exact ⟨A2, c2, by rw [cell_of_row _ _ 1 _ _ _ hh]; rfl, h2.up ((Up.refl W).alloc _)⟩) (by simpa using hT)
  simpa using this

end Go.Proofs.Ytkfjemgelmbcfaa

namespace Go.Proofs.Ytkfjemgelmbcfaa
set_option maxRecDepth 100000
open Go.RowKit


/-- What is left of a list without the place r; all of it, if r is less than 0. -/
def outE (es : List Evt) (r : Int) : List Evt := if r < 0 then es else es.take r.toNat ++ es.drop (r.toNat + 1)
theorem outE_no (es : List Evt) : outE es (-1) = es := rfl
theorem outE_at (es : List Evt) (k : Nat) : outE es (k : Int) = es.take k ++ es.drop (k + 1) := by
  unfold outE
  rw [if_neg (by omega), Int.toNat_natCast]
theorem outE_le (es : List Evt) (r : Int) : (outE es r).length ≤ es.length := by
  unfold outE
  split
  · exact Nat.le_refl _
  · rw [List.length_append, List.length_take, List.length_drop]
    omega

/-- What the two EvtTake give. -/
def TakePost (e : Evt) (es : List Evt) (w : World) (x : Ending) (w' : World) : Prop :=
  ∃ r A c, IsAt e es r ∧ x = .returned (.tuple #[.slice A (outE es r).length c, .bool (decide (0 ≤ r))]) ∧ (outE es r).length ≤ c ∧ c ≤ 9223372036854775807 ∧
    w'.ownsRow w.heap.size 50 6 (.slice A (outE es r).length c) (outE es r).length (flat (outE es r)) ∧ Up w w'
theorem TakePost.mk {e : Evt} {es fs : List Evt} {r : Int} {b : Bool} {A : Option Addr} {c base : Nat} {w w' : World} (hat : IsAt e es r) (hf : outE es r = fs) (hb : decide (0 ≤ r) = b) (hc : fs.length ≤ c) (hm : c ≤ 9223372036854775807)
    (ho : w'.ownsRow base 50 6 (.slice A fs.length c) fs.length (flat fs)) (hbs : w.heap.size ≤ base) (u : Up w w') : TakePost e es w (.returned (.tuple #[.slice A fs.length c, .bool b])) w' := by
  subst hf hb
  exact ⟨r, A, c, hat, rfl, hc, hm, own_mono ho hbs, u⟩

set_option maxRecDepth 100000 in
set_option maxHeartbeats 4000000 in
theorem implTake_any (A : Option Addr) (n cap : Nat) (es : List Evt) (e : Evt) (w : World) (hn : n ≤ 1000000000) (hc : n ≤ cap) (hmax : cap ≤ 9223372036854775807) (hE : Evs w A n es) :
    Calls Try.prog 32 #[.slice A n cap, e.v] w (TakePost e es w) := by
  have HE := Lib.hid hE
  have LE := Lib.hid hE.1
  have CI := Lib.hid (fun W h => index_any A n cap es e W hn h)
  clear hE
  generalize hee : e = e' at CI ⊢
  have HEE := Lib.hid hee
  clear hee
  obtain ⟨et, eto, efr, esq, ekd, edt⟩ := e'
  unfold Evt.v at CI ⊢
  dsimp only at CI ⊢
  go_enter Try.func32, Try.ntmps32
  go_wp2_with fail
  refine (CI.out _ (HE.out.up ((Up.refl w).alloc _))).mono ?_
  rintro x w1 ⟨r, rfl, hat, u1⟩
  have HAT := Lib.hid hat
  have U1 := Lib.hid (((Up.refl w).alloc (.cells #[.int .i64 et, .int .i64 eto, .int .i64 efr, .int .i64 esq, .int .i64 ekd, .int .i64 edt] 50)).trans u1)
  have hs1 := U1.out.size
  have EV := Lib.hid (HE.out.up U1.out)
  clear u1 CI HE
  rcases hat with ⟨k, rfl, hk, -⟩ | ⟨rfl, -⟩
  · rw [LE.out] at hk
    have i0 : (0 : Int) ≤ k := by omega
    have i1 : ¬ (k : Int) < 0 := by omega
    have i2 : (k : Int) ≤ cap := by omega
    have i4 : (k : Int) ≤ n := by omega
    have i5 : (0 : Int) ≤ (k : Int) + 1 := by omega
    have i6 : (k : Int) + 1 ≤ cap := by omega
    have i3 : (k : Int) + 1 ≤ n := by omega
    have i7 : ((k : Int) + 1).toNat = k + 1 := by omega
    have i8 : (n : Int) ≤ cap := by omega
    have i9 : IntKind.i64.wrap ((k : Int) + 1) = (k : Int) + 1 := IntWalk.i64_in _ (by omega)
    have E1 := Lib.hid ((EV.out.front (k := k) (by omega)).up (Up.refl w1).drew)
    have E2 := Lib.hid ((EV.out.rest (k := k + 1) (cap := cap) (by omega) (by omega)).up (Up.refl w1).drew)
    have HF := Lib.hid (outE_at es k)
    go_wp2_with fail
    refine region_mix [(0, true), (1, true), (2, true), (3, true), (4, true), (5, true), (6, true), (7, false), (8, false), (9, true), (10, true)] (by kernel_rfl) (by kernel_rfl) ?_
    refine mix_take rfl (by rfl) ?_
    apply Exists.intro
    refine ⟨fun w1 => ?_, ?_⟩
    · go_simp
      try rfl
    go_simp
    refine mix_take rfl (by rfl) ?_
    apply Exists.intro
    refine ⟨fun w1 => ?_, ?_⟩
    · go_simp
      try rfl
    go_simp
    refine mix_take rfl (by rfl) ?_
    apply Exists.intro
    refine ⟨fun w1 => ?_, ?_⟩
    · go_simp
      try rfl
    go_simp
    refine mix_take rfl (by rfl) ?_
    apply Exists.intro
    refine ⟨fun w1 => ?_, ?_⟩
    · go_simp
      try rfl
    go_simp
    refine mix_take rfl (by rfl) ?_
    apply Exists.intro
    refine ⟨fun w1 => ?_, ?_⟩
    · go_simp
      try rfl
    go_simp
    refine mix_take rfl (by rfl) ?_
    apply Exists.intro
    refine ⟨fun w1 => ?_, ?_⟩
    · go_simp
      try rfl
    go_simp
    refine mix_take rfl (by rfl) ?_
    apply Exists.intro
    refine ⟨fun w1 => ?_, ?_⟩
    · go_simp
      try rfl
    go_simp
    refine mix_go rfl (by rfl) (fun K hK => ?_)
    go_simp
    refine hK _ _ ?_
    clear hK K
    go_simp
    refine mix_go rfl (by rfl) (fun K hK => ?_)
    go_simp
    refine (concat2 _ _ _ _ _ _ _ _ _ E1.out E2.out (by omega)).mono ?_
    rintro x w2 ⟨A2, c2, rfl, hc2, hm2, e2, o2, u2⟩
    refine hK _ _ ?_
    clear hK K
    have O2 := Lib.hid o2
    have U2 := Lib.hid u2
    clear e2 o2 u2
    generalize List.take k es ++ List.drop (k + 1) es = fs at HF hc2 O2 ⊢
    go_simp
    refine mix_take rfl (by rfl) ?_
    apply Exists.intro
    refine ⟨fun w1 => ?_, ?_⟩
    · go_simp
      try rfl
    go_simp
    refine mix_take rfl (by rfl) ?_
    apply Exists.intro
    refine ⟨fun w1 => ?_, ?_⟩
    · go_simp
      try rfl
    go_simp
    refine mix_nil ?_
    go_wp2
    all_goals refine bodyPost_ret (v := .tuple #[.slice A2 fs.length c2, .bool true]) (by simp [results, Try.results32, go_sem]) rfl ?_
    all_goals exact TakePost.mk HAT.out HF.out (by simp) hc2 hm2 O2.out (by simp; omega) ((U1.out.drew.alloc _).trans U2.out)
  · go_wp2_with fail
    refine (concat1 _ _ _ _ _ EV.out (by omega)).mono ?_
    rintro x w2 ⟨A2, c2, rfl, hc2, hm2, e2, o2, u2⟩
    have O2 := Lib.hid o2
    have U2 := Lib.hid u2
    clear e2 o2 u2
    go_wp2
    refine bodyPost_ret (v := .tuple #[.slice A2 es.length c2, .bool false]) (by simp [results, Try.results32, go_sem]) rfl ?_
    exact TakePost.mk HAT.out (outE_no _) rfl hc2 hm2 O2.out (by simp; omega) ((U1.out.alloc _).trans U2.out)

end Go.Proofs.Ytkfjemgelmbcfaa

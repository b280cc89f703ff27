/-
  What impl.WinLook gives, in one sentence: the least delay of all sends, but at most the end and one, and -1 for a model that is none; for every model that lies in memory.
  The order of events, in one sentence: it is irreflexive, total, asymmetric and transitive, and an earlier time is less; and what == and != of two events give; for all events.
  The least delay, in one sentence: it is at most every delay of a send to the component, it is one of them or the bound, and what a component sends comes later by a delay; no condition.
  What slices.Grow returns of nothing, in one sentence: an empty slice of events with room; for every number that lies in memory.
  What slices.Concat returns of slices of events, in one sentence: a new slice of all of them, one behind the other; for every row of slices that lies in memory.
  What Concat of one and of two slices of events gives, in one sentence: their elements in a new slice; for slices that lie in memory.
-/
import Derived.Laws.StructEq
import Derived.Lib.AppendZeros
import Derived.Test.YtklldniapombiaaDLEwev01
import Derived.Test.YtklldniapombiaaDLEwev03
import Derived.Test.YtklldniapombiaaDLEwev04
import Derived.Test.YtklldniapombiaaDLEwev08
import Derived.Test.YtklldniapombiaaDLEwev12
namespace Go.Proofs.Ytklldniapombiaa
set_option maxRecDepth 100000
open Go.RowKit
set_option maxHeartbeats 4000000 in
theorem leastLook_any (mb : Nat) (m : Mdl) (w : World) (hM : Mach w mb m) (hm : mdlB m = true) :
    Calls Try.prog 67 #[.agg #[.map (some mb), .int .i64 m.rules.length, .int .i64 m.til]] w fun x w' => x = .returned (.int .i64 (winL m)) ∧ Up w w' := by
  have few := mdlB_few hm
  have HM := Lib.hid hM
  have TL := mdlB_til hm
  have CN := Lib.hid (fun W => neverL_any (some mb) m.rules.length m.til W TL)
  have CK := Lib.hid (fun W (u : Up w W) (fr to : Nat) (h1 : fr < m.rules.length) => show Calls Try.prog 74 #[.agg #[.map (some mb), .int .i64 m.rules.length, .int .i64 m.til], .int .i64 fr, .int .i64 to] W (fun x w' => x = .returned (.int .i64 (lkM m fr to)) ∧ Up W w') from look_any mb m.rules.length m fr to W (HM.out.up u) hm (by omega) (by omega))
  unfold winL
  generalize lkM m = g at CK ⊢
  clear HM hM hm
  generalize m.rules.length = N at *
  generalize m.til = til at *
  obtain ⟨R, hR⟩ : ∃ R, R = wiV g N N 0 (til + 1) := ⟨_, rfl⟩; rw [← hR]
  have TG := Lib.hid (show wiV g N (N - 0) 0 (til + 1) = R from hR.symm)
  clear hR
  have X2 := Lib.hid (Box3.new w (.map (some mb)) (.int .i64 N) (.int .i64 til) 109)
  have U0 := Lib.hid ((Up.refl w).alloc (.cells #[.map (some mb), .int .i64 N, .int .i64 til] 109))
  go_enter Try.func67, Try.ntmps67
  go_wp2_with fail
  refine (CN.out _).mono ?_; rintro x w1 ⟨rfl, u1⟩
  have U1 := Lib.hid (U0.out.trans u1)
  have X2 := Lib.hid (X2.out.up u1)
  clear u1 U0 CN; obtain ⟨q0, q1, q2⟩ := And.intro X2.out.c0 (And.intro X2.out.c1 X2.out.c2)
  have lt2_ := X2.out.lt
  go_wp2; clear q0 q1 q2 lt2_
  go_loopw [3, 10] (fun l i wr => (∃ (q : Nat) (z : Int), q ≤ N ∧ i = .int .i64 q ∧ l = .int .i64 z ∧ Hid (wiV g N (N - q) q z = R)) ∧ Up w1 wr) (fun _ i _ => N - (intOf i).toNat)
  case atStart => exact ⟨⟨0, til + 1, by omega, rfl, rfl, TG⟩, Up.refl _⟩
  case round =>
    obtain ⟨⟨q, z, hq, rfl, rfl, HT⟩, ur⟩ := hrel; obtain ⟨wo, hwo⟩ : ∃ W, W = wr := ⟨_, rfl⟩; subst hwo
    have UR := Lib.hid ur
    have X3 := Lib.hid (X2.out.up ur)
    clear ur
    by_cases hlt : q < N
    · have i4 : (q : Int) < N := by omega
      have ST := Lib.hid (show wiV g N (N - (q + 1)) (q + 1) (wjV g q N 0 z) = R by rw [← HT.out, wiV_at hlt])
      obtain ⟨S, hS⟩ : ∃ S, S = wjV g q N 0 z := ⟨_, rfl⟩; rw [← hS] at ST
      have H0 := Lib.hid (show wjV g q (N - 0) 0 z = S from hS.symm)
      clear hS; obtain ⟨q0, q1, q2⟩ := And.intro X3.out.c0 (And.intro X3.out.c1 X3.out.c2)
      have lt2_ := X3.out.lt
      clear HT; go_wp2; clear q0 q1 q2 lt2_
      go_loopw [3, 15] (fun l i wj => (∃ (p : Nat) (y : Int), p ≤ N ∧ i = .int .i64 p ∧ l = .int .i64 y ∧ Hid (wjV g q (N - p) p y = S)) ∧ Up wo wj) (fun _ i _ => N - (intOf i).toNat)
      case atStart => exact ⟨⟨0, z, by omega, rfl, rfl, H0⟩, Up.refl _⟩
      case round =>
        obtain ⟨⟨p, y, hp, rfl, rfl, HY⟩, uj⟩ := hrel
        have UJ := Lib.hid uj
        have x4 := X3.out.up uj
        clear uj
        by_cases hlp : p < N
        · have i5 : (p : Int) < N := by omega
          have C := Lib.hid (fun W (u : Up w W) => CK.out W u q p hlt)
          have HZ := Lib.hid (show wjV g q (N - (p + 1)) (p + 1) (min y (g q p)) = S by rw [← HY.out, wjV_at hlp])
          generalize g q p = e at C HZ
          obtain ⟨q0, q1, q2⟩ := And.intro x4.c0 (And.intro x4.c1 x4.c2)
          have lt2_ := x4.lt
          clear HY CK
          go_wp2_with fail
          refine (C.out _ ((U1.out.trans UR.out).trans UJ.out)).mono ?_; rintro x w5 ⟨rfl, u5⟩
          have UX := Lib.hid (UJ.out.trans u5)
          clear q0 q1 q2 lt2_ x4 u5 C
          by_cases hmin : y ≤ e
          · rw [show min y e = y by omega] at HZ
            go_wp2
            go_roundw
            case rel => exact ⟨⟨p + 1, y, by omega, by go_num, rfl, HZ⟩, UX.out⟩
            case measure => simp [intOf]; omega
          · rw [show min y e = e by omega] at HZ
            go_wp2
            go_roundw
            case rel => exact ⟨⟨p + 1, e, by omega, by go_num, by first | rfl | rw [if_pos (by omega)], HZ⟩, UX.out⟩
            case measure => simp [intOf]; omega
        · have EN := HY.out
          rw [wjV_end (by omega)] at EN; subst EN
          have i5 : ¬ (p : Int) < N := by omega
          clear x4; go_wp2
          go_roundw
          case rel => exact ⟨⟨q + 1, y, by omega, by go_num, rfl, ST⟩, UR.out.trans UJ.out⟩
          case measure => simp [intOf]; omega
    · have EN := HT.out
      rw [wiV_end (by omega)] at EN; subst EN
      have i4 : ¬ (q : Int) < N := by omega
      go_wp2; go_ret
      exact ⟨rfl, U1.out.trans UR.out⟩
end Go.Proofs.Ytklldniapombiaa

namespace Go.Proofs.Ytklldniapombiaa
set_option maxRecDepth 100000
open Go.RowKit
theorem orL_lt (x : Int) (r : List Int) : orL (x :: r) < 0 ↔ x < 0 ∨ (x = 0 ∧ orL r < 0) := by
  rw [orL]
  split <;> omega
theorem ltE_iff (a b : Evt) : ltE a b = true ↔ a.t < b.t ∨ (a.t = b.t ∧ (a.to < b.to ∨ (a.to = b.to ∧ (a.fr < b.fr ∨ (a.fr = b.fr ∧ (a.sq < b.sq ∨ (a.sq = b.sq ∧ (a.kd < b.kd ∨ (a.kd = b.kd ∧ a.dt < b.dt))))))))) := by
  unfold ltE cmpE; rw [decide_eq_true_iff, orL_lt, orL_lt, orL_lt, orL_lt, orL_lt, orL_lt]; simp only [cmpI_lt, cmpI_eq, orL]
  omega
theorem ltE_no (a b : Evt) : ltE a b = false ↔ ¬ (a.t < b.t ∨ (a.t = b.t ∧ (a.to < b.to ∨ (a.to = b.to ∧ (a.fr < b.fr ∨ (a.fr = b.fr ∧ (a.sq < b.sq ∨ (a.sq = b.sq ∧ (a.kd < b.kd ∨ (a.kd = b.kd ∧ a.dt < b.dt)))))))))) := by
  rw [← ltE_iff]; simp
theorem ltE_trans (a b c : Evt) (h1 : ltE a b = true) (h2 : ltE b c = true) : ltE a c = true := by
  rw [ltE_iff] at *
  omega
theorem ltE_asym (a b : Evt) (h1 : ltE a b = true) : ltE b a = false := by
  rw [ltE_no]; rw [ltE_iff] at h1
  omega
theorem ltE_time (a b : Evt) (h1 : ltE a b = false) : b.t ≤ a.t := by
  rw [ltE_no] at h1
  omega
end Go.Proofs.Ytklldniapombiaa

namespace Go.Proofs.Ytklldniapombiaa
set_option maxRecDepth 100000
open Go.RowKit
theorem lkS_low {many : Int} (to : Int) : ∀ (es : List Evt) (l : Int), (∀ x ∈ es, sndB x many = true) → 1 ≤ l → 1 ≤ lkS to l es
  | [], l, _, h => by rw [lkS]; exact h
  | s :: ss, l, hs, h => by
    rw [lkS]
    have hb := hs s List.mem_cons_self
    unfold sndB at hb; simp only [Bool.and_eq_true, inB_iff] at hb; refine lkS_low to ss _ (fun x hx => hs x (List.mem_cons_of_mem _ hx)) ?_
    split <;> omega
theorem lkR_low {many : Int} (to : Int) : ∀ (bf : Int) (rs : List Rule) (l : Int), rulesB many bf rs = true → 1 ≤ l → 1 ≤ lkR to l rs
  | _, [], l, _, h => by rw [lkR]; exact h
  | bf, r :: rs, l, hr, h => by
    rw [lkR]; rw [rulesB, Bool.and_eq_true, Bool.and_eq_true] at hr
    have k2 := hr.1.2
    simp only [ruleB, Bool.and_eq_true, List.all_eq_true] at k2
    exact lkR_low to r.kd rs _ hr.2 (lkS_low (many := many) to r.sends l k2.1.1.1.1.1 h)
end Go.Proofs.Ytklldniapombiaa

namespace Go.Proofs.Ytklldniapombiaa
set_option maxRecDepth 100000
open Go.RowKit
def GrownSl (w : World) (x : Ending) (w' : World) : Prop := ∃ v, x = .returned v ∧ w'.ownsRow w.heap.size 74 6 v 0 (flat []) ∧ Up w w'
theorem zeros_size (z : Array Value) (n : Nat) : (Builtin.zeroCells z n).size = n * z.size := by simp [Builtin.zeroCells]
set_option maxHeartbeats 4000000 in
theorem grow_any (n : Nat) (w : World) (hn : n ≤ 2000000000) : Calls Try.prog 167 #[.slice none 0 0, .int .i64 n] w (GrownSl w) := by
  obtain ⟨i0, hi0, hz0, hz1, hz2⟩ := info_parts info74
  have INF := Lib.hid (And.intro hi0 (And.intro hz0 (And.intro hz1 hz2)))
  clear hi0 hz0 hz1 hz2
  by_cases h0 : n = 0
  · subst h0
    go_enter Try.func167, Try.ntmps167
    go_wp2; go_ret
    exact ⟨_, rfl, ⟨rfl, .inl ⟨rfl, rfl⟩⟩, Up.refl _⟩
  · have p0 : 0 < n := by omega
    have p1 : (0 : Int) < n := by omega
    have p2 : ¬ (n : Int) < 0 := by omega
    have h48 : n * i0.bytes ≤ 281474976710656 := by rw [INF.out.2.2.2]; omega
    have RUN := Lib.hid (fun ty W => Lib.run_append_nil_zeros (P := Try.prog) W 34 3 ty 74 i0 _ .i64 .i64 Try.underlying34 Try.underlying3 INF.out.1 INF.out.2.1 n p0 (by rw [INF.out.2.2.1]; omega) (by omega) h48)
    clear h48
    go_enter Try.func167, Try.ntmps167
    go_wp2_with (at_builtin; refine Lib.wpList_append_run _ rfl (.tmp 20) (.tmp 21) 34 3 rfl _ _ rfl rfl _ _ (RUN.out _ _) ?_)
    go_ret; refine ⟨_, rfl, ⟨rfl, .inr ⟨w.heap.size, grownCap w n 0 74, _, rfl, Nat.le_refl _, heap_alloc_new w.drew _, Nat.zero_le _, grownCap_le_maxLen _ _ _ _ (by simp only [maxLen]; omega), ?_, rfl⟩⟩, (Up.refl w).drew.alloc _⟩
    have := grownCap_ge w n 0 74
    rw [Array.size_append, zeros_size, zeros_size]; simp
    omega
end Go.Proofs.Ytklldniapombiaa

namespace Go.Proofs.Ytklldniapombiaa
set_option maxRecDepth 100000
open Go.RowKit
/-- The block b holds one slice for each list. -/
def Parts (w : World) (b : Nat) (L : List (List Evt)) : Prop :=
  ∀ j, j < L.length → ∃ A c, w.cell? ⟨b, j, none⟩ = some (.slice A (L.getD j []).length c) ∧ Evs w A (L.getD j []).length (L.getD j [])
theorem flat_step (L : List (List Evt)) (k : Nat) (h : k < L.length) : (L.take (k + 1)).flatten = (L.take k).flatten ++ L.getD k [] := by
  rw [List.take_succ_eq_append_getElem h, List.flatten_append]; simp [h]
theorem flat_le (L : List (List Evt)) (k : Nat) : (L.take k).flatten.length ≤ L.flatten.length := by
  have : L.flatten = (L.take k).flatten ++ (L.drop k).flatten := by rw [← List.flatten_append, List.take_append_drop]
  rw [this, List.length_append]
  omega
theorem flat_end (L : List (List Evt)) (k : Nat) (h : L.length ≤ k) : (L.take k).flatten = L.flatten := by rw [List.take_of_length_le h]
set_option maxHeartbeats 4000000 in
theorem concat_any (b cap : Nat) (L : List (List Evt)) (w : World) (hL : L.length ≤ 1000000) (hb : b < w.heap.size) (hP : Parts w b L) (hT : L.flatten.length ≤ 1000000000) :
    Calls Try.prog 130 #[.slice (some ⟨b, 0, none⟩) L.length cap] w (NewSl L.flatten w) := by
  obtain ⟨i0, hi0, hz0, hz1, hz2⟩ := info_parts info74
  have INF := Lib.hid (And.intro hi0 (And.intro hz0 (And.intro hz1 hz2)))
  have SIX := Lib.hid (show 0 < 6 by omega)
  have HP := Lib.hid hP
  have FS := Lib.hid (flat_step L)
  have FL := Lib.hid (flat_le L)
  have FE := Lib.hid (flat_end L)
  have HT := Lib.hid hT
  clear hi0 hz0 hz1 hz2 hP hT
  go_enter Try.func130, Try.ntmps130
  go_wp2
  go_loopw [3, 11] (fun s i wr => (∃ k : Nat, k ≤ L.length ∧ i = .int .i64 k ∧ s = .int .i64 ((L.take k).flatten.length : Nat)) ∧ Up w wr) (fun _ i _ => L.length - (intOf i).toNat)
  case atStart => exact ⟨⟨0, by omega, rfl, rfl⟩, Up.refl _⟩
  case round =>
    obtain ⟨⟨k, hk, rfl, rfl⟩, ur⟩ := hrel
    by_cases hlt : k < L.length
    · obtain ⟨A, c, hcell, _⟩ := HP.out k hlt
      have cell' := (ur.cells b k hb).trans hcell
      clear hcell
      have st := congrArg List.length (FS.out k hlt)
      rw [List.length_append] at st
      have le := FL.out (k + 1)
      have ht := HT.out
      generalize (L.getD k []).length = m at st cell'
      generalize hs2 : (L.take (k + 1)).flatten.length = s2 at st le
      have HS2 := Lib.hid hs2
      clear hs2
      generalize (L.take k).flatten.length = s at st
      have ST := Lib.hid st
      have sm : s + m ≤ 1000000000 := by omega
      clear st le ht
      have i3 : (k : Int) < L.length := by omega
      have i4 : IntKind.i64.wrap ((s : Int) + m) = (s : Int) + m := IntWalk.i64_in _ (by omega)
      have i5 : ¬ (s : Int) + m < 0 := by omega
      have hb' : b < wr.heap.size := by have := ur.size; omega
      go_wp2
      go_roundw
      case rel => exact ⟨⟨k + 1, by omega, by go_num, by rw [HS2.out, ST.out]; simp⟩, ur⟩
      case measure => simp [intOf]; omega
    · have i3 : ¬ (k : Int) < L.length := by omega
      rw [FE.out k (by omega)]
      have ht := HT.out
      generalize hN : L.flatten.length = N at ht
      have HN := Lib.hid hN
      clear hN
      go_wp2_with fail
      refine (grow_any N _ (by omega)).mono ?_; rintro x w1 ⟨v1, rfl, o1, u1⟩
      have O1 := Lib.hid (own_mono o1 ur.size)
      have U1 := Lib.hid (ur.trans u1)
      clear o1 u1 ur i3 hk ht
      go_wp2_with fail
      go_loopw [6, 27] (fun v i wr => (∃ k : Nat, k ≤ L.length ∧ i = .int .i64 k ∧ wr.ownsRow w.heap.size 74 6 v (L.take k).flatten.length (flat (L.take k).flatten)) ∧ Up w wr) (fun _ i _ => L.length - (intOf i).toNat)
      case atStart => exact ⟨⟨0, by omega, rfl, O1.out⟩, U1.out⟩
      case round =>
        obtain ⟨⟨k, hk, rfl, ho⟩, ur⟩ := hrel
        have HO := Lib.hid ho
        clear ho U1
        by_cases hlt : k < L.length
        · obtain ⟨A, c, hcell, hev⟩ := HP.out k hlt
          have cell' := (ur.cells b k hb).trans hcell
          have RD := Lib.hid (hev.up ur).reads
          clear hcell hev
          have fk := FS.out k hlt
          have st := congrArg List.length (FS.out k hlt)
          rw [List.length_append] at st
          generalize L.getD k [] = es at cell' RD fk st
          have FK := Lib.hid fk
          clear fk
          have ht := HT.out
          have le := FL.out (k + 1)
          have HMX := Lib.hid (show (L.take k).flatten.length + es.length ≤ maxLen by simp only [maxLen]; omega)
          have HBY := Lib.hid (show ((L.take k).flatten.length + es.length) * 48 ≤ 140737488355328 by omega)
          have HBS := Lib.hid ur.size
          have ST := Lib.hid st
          clear st ht le
          have i3 : (k : Int) < L.length := by omega
          have hb' : b < wr.heap.size := by have := HBS.out; omega
          go_wp2_with (at_builtin; refine wpList_append_any _ rfl (.tmp 31) (.tmp 32) 34 rfl w.heap.size 74 i0 _ 6 48 Try.underlying34 INF.out.1 INF.out.2.1 INF.out.2.2.1 INF.out.2.2.2 rfl SIX.out _ _ _ rfl HO.out _ _ _ _ (flat es) rfl RD.out (flat_one _) HMX.out HBY.out HBS.out ?_; intro v2 w2 ho2 hg2 _)
          have HO2 := Lib.hid ho2
          have HG2 := Lib.hid hg2
          clear ho2 hg2
          go_roundw
          case rel => exact ⟨⟨k + 1, by omega, by go_num, by rw [FK.out, flat_app, List.length_append]; exact HO2.out⟩, ur.grown HG2.out (fun j hj => (HO.out.lt j hj).1)⟩
          case measure => simp [intOf]; omega
        · have i3 : ¬ (k : Int) < L.length := by omega
          have HO2 := Lib.hid (show wr.ownsRow w.heap.size 74 6 _ L.flatten.length (flat L.flatten) from FE.out k (by omega) ▸ HO.out)
          go_wp2; go_ret
          exact NewSl.of_own HO2.out ur
end Go.Proofs.Ytklldniapombiaa

namespace Go.Proofs.Ytklldniapombiaa
set_option maxRecDepth 100000
open Go.RowKit
theorem concat2 (A1 : Option Addr) (n1 c1 : Nat) (es1 : List Evt) (A2 : Option Addr) (n2 c2 : Nat) (es2 : List Evt) (W : World) (h1 : Evs W A1 n1 es1) (h2 : Evs W A2 n2 es2) (hT : n1 + n2 ≤ 1000000000) :
    Calls Try.prog 130 #[.slice (some ⟨W.heap.size, 0, none⟩) 2 2] (W.alloc (.cells #[.slice A1 n1 c1, .slice A2 n2 c2] 34)) (NewSl (es1 ++ es2) (W.alloc (.cells #[.slice A1 n1 c1, .slice A2 n2 c2] 34))) := by
  obtain rfl := h1.1; obtain rfl := h2.1
  have hh := heap_alloc_new W (.cells #[.slice A1 es1.length c1, .slice A2 es2.length c2] 34)
  have := concat_any W.heap.size 2 [es1, es2] (W.alloc (.cells #[.slice A1 es1.length c1, .slice A2 es2.length c2] 34)) (by simp) (by simp) (fun j hj => by
    have h : j = 0 ∨ j = 1 := by simp at hj; omega
    rcases h with rfl | rfl
    · exact ⟨A1, c1, by rw [cell_of_row _ _ 0 _ _ _ hh]; rfl, h1.up ((Up.refl W).alloc _)⟩
    · exact ⟨A2, c2, by rw [cell_of_row _ _ 1 _ _ _ hh]; rfl, h2.up ((Up.refl W).alloc _)⟩) (by simpa using hT)
  simpa using this
end Go.Proofs.Ytklldniapombiaa

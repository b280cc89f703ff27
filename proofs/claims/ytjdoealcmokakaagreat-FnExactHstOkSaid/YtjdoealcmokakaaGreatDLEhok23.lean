/-
  Records in a row of the call's own, in one sentence: their cells one behind the other, and what is read off again; for every list.
  Hosts that have done nothing, in one sentence: which items wait, how the host lies in memory, and the append of an item as a step; for every model.
  What slices.Grow and slices.Concat return of slices of items, in one sentence: a new slice of all of them, one behind the other; for every row of slices that lies in memory.
  What newMachine returns, in one sentence: false for a model that is none; else a new map with the model's rules, their number and its end; for every model that lies in memory.
  Which hosts that have done nothing are valid, in one sentence: those whose items are in order and for the component; for every machine and every such host that lies in memory.
-/
import Derived.Lib.AppendZeros
import Derived.Test.YtjdoealcmokakaaGreatDLEhok02
import Derived.Test.YtjdoealcmokakaaGreatDLEhok03
import Derived.Test.YtjdoealcmokakaaGreatDLEhok04
import Derived.Test.YtjdoealcmokakaaGreatDLEhok07
import Derived.Test.YtjdoealcmokakaaGreatDLEhok08
import Derived.Test.YtjdoealcmokakaaGreatDLEhok10
import Derived.Test.YtjdoealcmokakaaGreatDLEhok11
import Derived.Test.YtjdoealcmokakaaGreatDLEhok13
import Derived.Test.YtjdoealcmokakaaGreatDLEhok17
import Derived.Test.YtjdoealcmokakaaGreatDLEhok21
import Derived.Test.YtjdoealcmokakaaGreatDLEhok22
namespace Go.Proofs.YtjdoealcmokakaaGreat
set_option maxRecDepth 100000
open Go.RowKit
def Rec.c7 (r : Rec) : List Value := [.int .i64 r.ev.t, .int .i64 r.ev.to, .int .i64 r.ev.fr, .int .i64 r.ev.sq, .int .i64 r.ev.kd, .int .i64 r.ev.dt, .int .i64 r.s]
def flat7 : List Rec → List Value
  | [] => []
  | e :: r => e.c7 ++ flat7 r
theorem flat7_len : ∀ es : List Rec, (flat7 es).length = es.length * 7
  | [] => rfl
  | e :: r => by
    rw [flat7, List.length_append, flat7_len r]; simp [Rec.c7]
    omega
theorem flat7_app : ∀ es fs : List Rec, flat7 (es ++ fs) = flat7 es ++ flat7 fs
  | [], _ => rfl
  | e :: r, fs => by rw [List.cons_append, flat7, flat7_app r fs, flat7, List.append_assoc]
theorem flat7_get : ∀ (es : List Rec) (i k : Nat), i < es.length → k < 7 → (flat7 es)[i * 7 + k]? = (es.getD i default).c7[k]?
  | [], i, _, hi, _ => absurd hi (by simp)
  | e :: r, 0, k, _, hk => by
    rw [flat7, Nat.zero_mul, Nat.zero_add, List.getElem?_append_left (by simpa [Rec.c7] using hk)]
    rfl
  | e :: r, i + 1, k, hi, hk => by
    have hl : e.c7.length = 7 := rfl
    rw [flat7, List.getElem?_append_right (by omega), hl, show (i + 1) * 7 + k - 7 = i * 7 + k by omega, flat7_get r i k (by simpa using hi) hk]
    rfl
theorem flat7_one (es : List Rec) : ∀ u ∈ flat7 es, u.oneCell' = true := by
  induction es with
  | nil => intro u hu; cases hu
  | cons e r ih =>
    intro u hu; rw [flat7, List.mem_append] at hu
    rcases hu with hu | hu
    · simp only [Rec.c7, List.mem_cons, List.not_mem_nil, or_false] at hu
      rcases hu with rfl | rfl | rfl | rfl | rfl | rfl | rfl <;> rfl
    · exact ih u hu
theorem own7_recs {w : World} {base e n c : Nat} {A : Option Addr} {es : List Rec} (h : w.ownsRow base e 7 (.slice A n c) n (flat7 es)) : Recs w A n es := by
  have hl : es.length = n := by have := h.1; rw [flat7_len] at this; omega
  refine ⟨hl, fun hn => ?_⟩; obtain ⟨g, cap, hv, _, hlt⟩ := h.form hn
  injection hv with hA _ hcap
  subst hA hcap; refine ⟨g, 0, rfl, hlt, fun i hi => ?_⟩
  have f : ∀ k, k < 7 → w.cell? ⟨g, 0 + i * 7 + k, none⟩ = (es.getD i default).c7[k]? := fun k hk => by
    rw [Nat.zero_add, h.cellAt (i * 7 + k) (by omega), flat7_get es i k (by omega) hk]
  exact ⟨f 0 (by omega), f 1 (by omega), f 2 (by omega), f 3 (by omega), f 4 (by omega), f 5 (by omega), f 6 (by omega)⟩
theorem own7_slice {w : World} {base e n : Nat} {v : Value} {es : List Rec} (h : w.ownsRow base e 7 v n (flat7 es)) : n = es.length ∧ ∃ A c, v = .slice A n c ∧ n ≤ c ∧ c ≤ 9223372036854775807 := by
  have hl : es.length = n := by have := h.1; rw [flat7_len] at this; omega
  refine ⟨hl.symm, ?_⟩
  rcases h.2 with ⟨rfl, rfl⟩ | ⟨g, cap, cur, rfl, _, _, hnc, hm, _⟩
  · exact ⟨none, 0, rfl, Nat.le_refl _, by omega⟩
  · exact ⟨_, cap, rfl, hnc, by unfold maxLen at hm; omega⟩
end Go.Proofs.YtjdoealcmokakaaGreat

namespace Go.Proofs.YtjdoealcmokakaaGreat
set_option maxRecDepth 100000
open Go.RowKit
theorem info72 : (Tryz.prog.info? 72).map (fun i => (i.zero, i.size, i.bytes)) = some (some (.agg #[.int .i64 0, .int .i64 0, .int .i64 0, .int .i64 0, .int .i64 0, .int .i64 0, .int .i64 0]), 7, 56) := by kernel_rfl
section
variable {B0 : Nat} {a w w' : World}
end
end Go.Proofs.YtjdoealcmokakaaGreat

namespace Go.Proofs.YtjdoealcmokakaaGreat
set_option maxRecDepth 100000
open Go.RowKit
theorem RecAt.at7 {w : World} {b o k : Nat} {r : Rec} {u : Value} (h : RecAt w b o r) (hk : k < 7) (hu : r.c7[k]? = some u) : w.cell? ⟨b, o + k, none⟩ = some u := by
  obtain ⟨h0, h1, h2, h3, h4, h5, h6⟩ := h
  have e : k = 0 ∨ k = 1 ∨ k = 2 ∨ k = 3 ∨ k = 4 ∨ k = 5 ∨ k = 6 := by omega
  rcases e with rfl | rfl | rfl | rfl | rfl | rfl | rfl
  · exact h0.trans hu
  · exact h1.trans hu
  · exact h2.trans hu
  · exact h3.trans hu
  · exact h4.trans hu
  · exact h5.trans hu
  · exact h6.trans hu
theorem Recs.reads {w : World} {A : Option Addr} {n : Nat} {es : List Rec} (h : Recs w A n es) : Reads w w.heap.size 7 A n (flat7 es) := by
  refine ⟨by rw [flat7_len, h.1], fun hn => ?_⟩; obtain ⟨b, off, hA, hb, hc⟩ := h.2 hn; refine ⟨_, hA, hb, fun j u hu => ?_⟩
  have hj : j < (flat7 es).length := (List.getElem?_eq_some_iff.1 hu).1
  rw [flat7_len, h.1] at hj
  have e : j = j / 7 * 7 + j % 7 := by omega
  have hi : j / 7 < n := by omega
  rw [e, flat7_get es _ _ (by rw [h.1]; exact hi) (by omega)] at hu
  have := (hc _ hi).at7 (by omega) hu
  have ad : (⟨b, off, none⟩ : Addr).add j = ⟨b, off + j / 7 * 7 + j % 7, none⟩ := by
    unfold Addr.add
    split
    · rename_i h0; subst h0; rfl
    · rw [Nat.add_assoc, ← e]
  rw [ad]
  exact this
/-- The new slice that a function hands back. -/
def NewIt (es : List Rec) (w : World) (x : Ending) (w' : World) : Prop :=
  ∃ A c, x = .returned (.slice A es.length c) ∧ es.length ≤ c ∧ c ≤ 9223372036854775807 ∧ Recs w' A es.length es ∧ w'.ownsRow w.heap.size 72 7 (.slice A es.length c) es.length (flat7 es) ∧ Up w w'
theorem NewIt.of_own {w w' : World} {n : Nat} {v : Value} {es : List Rec} (h : w'.ownsRow w.heap.size 72 7 v n (flat7 es)) (u : Up w w') : NewIt es w (.returned v) w' := by
  obtain ⟨rfl, A, c, rfl, hc, hm⟩ := own7_slice h
  exact ⟨A, c, rfl, hc, hm, own7_recs h, h, u⟩
def GrownIt (w : World) (x : Ending) (w' : World) : Prop := ∃ v, x = .returned v ∧ w'.ownsRow w.heap.size 72 7 v 0 (flat7 []) ∧ Up w w'
theorem zerosI_size (z : Array Value) (n : Nat) : (Builtin.zeroCells z n).size = n * z.size := by simp [Builtin.zeroCells]
set_option maxHeartbeats 4000000 in
theorem growI_any (n : Nat) (w : World) (hn : n ≤ 2000000000) : Calls Tryz.prog 113 #[.slice none 0 0, .int .i64 n] w (GrownIt w) := by
  obtain ⟨i0, hi0, hz0, hz1, hz2⟩ := info_parts info72
  have INF := Lib.hid (And.intro hi0 (And.intro hz0 (And.intro hz1 hz2)))
  clear hi0 hz0 hz1 hz2
  by_cases h0 : n = 0
  · subst h0
    go_enter Tryz.func113, Tryz.ntmps113
    go_wp2; go_ret
    exact ⟨_, rfl, ⟨rfl, .inl ⟨rfl, rfl⟩⟩, Up.refl _⟩
  · have p0 : 0 < n := by omega
    have p1 : (0 : Int) < n := by omega
    have p2 : ¬ (n : Int) < 0 := by omega
    have h48 : n * i0.bytes ≤ 281474976710656 := by rw [INF.out.2.2.2]; omega
    have RUN := Lib.hid (fun ty W => Lib.run_append_nil_zeros (P := Tryz.prog) W 43 3 ty 72 i0 _ .i64 .i64 Tryz.underlying43 Tryz.underlying3 INF.out.1 INF.out.2.1 n p0 (by rw [INF.out.2.2.1]; omega) (by omega) h48)
    clear h48
    go_enter Tryz.func113, Tryz.ntmps113
    go_wp2_with (at_builtin; refine Lib.wpList_append_run _ rfl (.tmp 20) (.tmp 21) 43 3 rfl _ _ rfl rfl _ _ (RUN.out _ _) ?_)
    go_ret; refine ⟨_, rfl, ⟨rfl, .inr ⟨w.heap.size, grownCap w n 0 72, _, rfl, Nat.le_refl _, heap_alloc_new w.drew _, Nat.zero_le _, grownCap_le_maxLen _ _ _ _ (by simp only [maxLen]; omega), ?_, rfl⟩⟩, (Up.refl w).drew.alloc _⟩
    have := grownCap_ge w n 0 72
    rw [Array.size_append, zerosI_size, zerosI_size]; simp
    omega
/-- The block b holds one slice for each list. -/
def PartsI (w : World) (b : Nat) (L : List (List Rec)) : Prop :=
  ∀ j, j < L.length → ∃ A c, w.cell? ⟨b, j, none⟩ = some (.slice A (L.getD j []).length c) ∧ Recs w A (L.getD j []).length (L.getD j [])
theorem flatI_step (L : List (List Rec)) (k : Nat) (h : k < L.length) : (L.take (k + 1)).flatten = (L.take k).flatten ++ L.getD k [] := by
  rw [List.take_succ_eq_append_getElem h, List.flatten_append]; simp [h]
theorem flatI_le (L : List (List Rec)) (k : Nat) : (L.take k).flatten.length ≤ L.flatten.length := by
  have : L.flatten = (L.take k).flatten ++ (L.drop k).flatten := by rw [← List.flatten_append, List.take_append_drop]
  rw [this, List.length_append]
  omega
theorem flatI_end (L : List (List Rec)) (k : Nat) (h : L.length ≤ k) : (L.take k).flatten = L.flatten := by rw [List.take_of_length_le h]
set_option maxHeartbeats 4000000 in
theorem concatI_any (b cap : Nat) (L : List (List Rec)) (w : World) (hL : L.length ≤ 1000000) (hb : b < w.heap.size) (hP : PartsI w b L) (hT : L.flatten.length ≤ 1000000000) :
    Calls Tryz.prog 82 #[.slice (some ⟨b, 0, none⟩) L.length cap] w (NewIt L.flatten w) := by
  obtain ⟨i0, hi0, hz0, hz1, hz2⟩ := info_parts info72
  have INF := Lib.hid (And.intro hi0 (And.intro hz0 (And.intro hz1 hz2)))
  have SIX := Lib.hid (show 0 < 7 by omega)
  have HP := Lib.hid hP
  have FS := Lib.hid (flatI_step L)
  have FL := Lib.hid (flatI_le L)
  have FE := Lib.hid (flatI_end L)
  have HT := Lib.hid hT
  clear hi0 hz0 hz1 hz2 hP hT
  go_enter Tryz.func82, Tryz.ntmps82
  go_wp2
  go_loopw [3, 11] (fun s i wr => (∃ k : Nat, k ≤ L.length ∧ i = .int .i64 k ∧ s = .int .i64 ((L.take k).flatten.length : Nat)) ∧ Up w wr) (fun _ i _ => L.length - (intOf i).toNat)
  case atStart => exact ⟨⟨0, by omega, rfl, rfl⟩, Up.refl _⟩
  case round =>
    obtain ⟨⟨k, hk, rfl, rfl⟩, ur⟩ := hrel
    by_cases hlt : k < L.length
    · obtain ⟨A, c, hcell, _⟩ := HP.out k hlt
      have cell' := (ur.cells b k hb).trans hcell
      clear hcell
      have st := congrArg List.length (FS.out k hlt)
      rw [List.length_append] at st
      have le := FL.out (k + 1)
      have ht := HT.out
      generalize (L.getD k []).length = m at st cell'
      generalize hs2 : (L.take (k + 1)).flatten.length = s2 at st le
      have HS2 := Lib.hid hs2
      clear hs2
      generalize (L.take k).flatten.length = s at st
      have ST := Lib.hid st
      have sm : s + m ≤ 1000000000 := by omega
      clear st le ht
      have i3 : (k : Int) < L.length := by omega
      have i4 : IntKind.i64.wrap ((s : Int) + m) = (s : Int) + m := IntWalk.i64_in _ (by omega)
      have i5 : ¬ (s : Int) + m < 0 := by omega
      have hb' : b < wr.heap.size := by have := ur.size; omega
      go_wp2
      go_roundw
      case rel => exact ⟨⟨k + 1, by omega, by go_num, by rw [HS2.out, ST.out]; simp⟩, ur⟩
      case measure => simp [intOf]; omega
    · have i3 : ¬ (k : Int) < L.length := by omega
      rw [FE.out k (by omega)]
      have ht := HT.out
      generalize hN : L.flatten.length = N at ht
      have HN := Lib.hid hN
      clear hN
      go_wp2_with fail
      refine (growI_any N _ (by omega)).mono ?_; rintro x w1 ⟨v1, rfl, o1, u1⟩
      have O1 := Lib.hid (own_mono o1 ur.size)
      have U1 := Lib.hid (ur.trans u1)
      clear o1 u1 ur i3 hk ht
      go_wp2_with fail
      go_loopw [6, 27] (fun v i wr => (∃ k : Nat, k ≤ L.length ∧ i = .int .i64 k ∧ wr.ownsRow w.heap.size 72 7 v (L.take k).flatten.length (flat7 (L.take k).flatten)) ∧ Up w wr) (fun _ i _ => L.length - (intOf i).toNat)
      case atStart => exact ⟨⟨0, by omega, rfl, O1.out⟩, U1.out⟩
      case round =>
        obtain ⟨⟨k, hk, rfl, ho⟩, ur⟩ := hrel
        have HO := Lib.hid ho
        clear ho U1
        by_cases hlt : k < L.length
        · obtain ⟨A, c, hcell, hev⟩ := HP.out k hlt
          have cell' := (ur.cells b k hb).trans hcell
          have RD := Lib.hid (hev.up ur).reads
          clear hcell hev
          have fk := FS.out k hlt
          have st := congrArg List.length (FS.out k hlt)
          rw [List.length_append] at st
          generalize L.getD k [] = es at cell' RD fk st
          have FK := Lib.hid fk
          clear fk
          have ht := HT.out
          have le := FL.out (k + 1)
          have HMX := Lib.hid (show (L.take k).flatten.length + es.length ≤ maxLen by simp only [maxLen]; omega)
          have HBY := Lib.hid (show ((L.take k).flatten.length + es.length) * 56 ≤ 140737488355328 by omega)
          have HBS := Lib.hid ur.size
          have ST := Lib.hid st
          clear st ht le
          have i3 : (k : Int) < L.length := by omega
          have hb' : b < wr.heap.size := by have := HBS.out; omega
          go_wp2_with (at_builtin; refine wpList_append_any _ rfl (.tmp 31) (.tmp 32) 43 rfl w.heap.size 72 i0 _ 7 56 Tryz.underlying43 INF.out.1 INF.out.2.1 INF.out.2.2.1 INF.out.2.2.2 rfl SIX.out _ _ _ rfl HO.out _ _ _ _ (flat7 es) rfl RD.out (flat7_one _) HMX.out HBY.out HBS.out ?_; intro v2 w2 ho2 hg2 _)
          have HO2 := Lib.hid ho2
          have HG2 := Lib.hid hg2
          clear ho2 hg2
          go_roundw
          case rel => exact ⟨⟨k + 1, by omega, by go_num, by rw [FK.out, flat7_app, List.length_append]; exact HO2.out⟩, ur.grown HG2.out (fun j hj => (HO.out.lt j hj).1)⟩
          case measure => simp [intOf]; omega
        · have i3 : ¬ (k : Int) < L.length := by omega
          have HO2 := Lib.hid (show wr.ownsRow w.heap.size 72 7 _ L.flatten.length (flat7 L.flatten) from FE.out k (by omega) ▸ HO.out)
          go_wp2; go_ret
          exact NewIt.of_own HO2.out ur
theorem concatI2 (A1 : Option Addr) (n1 c1 : Nat) (es1 : List Rec) (A2 : Option Addr) (n2 c2 : Nat) (es2 : List Rec) (W : World) (h1 : Recs W A1 n1 es1) (h2 : Recs W A2 n2 es2) (hT : n1 + n2 ≤ 1000000000) :
    Calls Tryz.prog 82 #[.slice (some ⟨W.heap.size, 0, none⟩) 2 2] (W.alloc (.cells #[.slice A1 n1 c1, .slice A2 n2 c2] 43)) (NewIt (es1 ++ es2) (W.alloc (.cells #[.slice A1 n1 c1, .slice A2 n2 c2] 43))) := by
  obtain rfl := h1.1; obtain rfl := h2.1
  have hh := heap_alloc_new W (.cells #[.slice A1 es1.length c1, .slice A2 es2.length c2] 43)
  have := concatI_any W.heap.size 2 [es1, es2] (W.alloc (.cells #[.slice A1 es1.length c1, .slice A2 es2.length c2] 43)) (by simp) (by simp) (fun j hj => by
    have h : j = 0 ∨ j = 1 := by simp at hj; omega
    rcases h with rfl | rfl
    · exact ⟨A1, c1, by rw [cell_of_row _ _ 0 _ _ _ hh]; rfl, h1.up ((Up.refl W).alloc _)⟩
    · exact ⟨A2, c2, by rw [cell_of_row _ _ 1 _ _ _ hh]; rfl, h2.up ((Up.refl W).alloc _)⟩) (by simpa using hT)
  simpa using this
end Go.Proofs.YtjdoealcmokakaaGreat

namespace Go.Proofs.YtjdoealcmokakaaGreat
set_option maxRecDepth 100000
open Go.RowKit
def MachPost (m : Mdl) (w : World) (x : Ending) (w' : World) : Prop :=
  Up w w' ∧ ((mdlB m = false ∧ x = .returned (.tuple #[.agg #[.map none, .int .i64 0, .int .i64 0], .bool false])) ∨
    (mdlB m = true ∧ ∃ b, x = .returned (.tuple #[.agg #[.map (some b), .int .i64 m.rules.length, .int .i64 m.til], .bool true]) ∧ w.heap.size ≤ b ∧ Mach w' b m))
set_option maxHeartbeats 8000000 in
theorem newMachine_any (A : Option Addr) (n c : Nat) (B : Option Addr) (k d : Nat) (m : Mdl) (w : World) (hM : MdlV w A n B k m) :
    Calls Tryz.prog 41 #[.agg #[.slice A n c, .slice B k d, .int .i64 m.til]] w (MachPost m w) := by
  have HM := Lib.hid hM
  have HR := Lib.hid hM.rules
  have LR := Lib.hid hM.rules.1
  have U0 := Lib.hid (((Up.refl w).alloc (.cells #[.slice A n c, .slice B k d, .int .i64 m.til] 39)).alloc (.cells #[.map none, .int .i64 0, .int .i64 0] 84))
  have X1 := Lib.hid ((Box3.new w (.slice A n c) (.slice B k d) (.int .i64 m.til) 39).up ((Up.refl _).alloc (.cells #[.map none, .int .i64 0, .int .i64 0] 84)))
  have X2 := Lib.hid (Box3.new (w.alloc (.cells #[.slice A n c, .slice B k d, .int .i64 m.til] 39)) (.map none) (.int .i64 0) (.int .i64 0) 84)
  have F2 := Lib.hid (fun j => free_new (w.alloc (.cells #[.slice A n c, .slice B k d, .int .i64 m.til] 39)) #[.map none, .int .i64 0, .int .i64 0] 84 j)
  simp only [World.size_alloc] at X2 F2
  have CI := Lib.hid (fun W (u : Up w W) => implMdl_any A n c B k d m W (hM.up u))
  generalize hmb : mdlB m = g at CI
  have HB := Lib.hid hmb
  clear hM hmb
  go_enter Tryz.func41, Tryz.ntmps41
  go_wp2_with fail
  refine (CI.out _ U0.out).mono ?_; rintro x w1 ⟨rfl, u1⟩
  have U1 := Lib.hid (U0.out.trans u1)
  have X1 := Lib.hid (X1.out.up u1)
  have x2 := X2.out.up u1
  have f2 : ∀ j, w1.frozen? ⟨w.heap.size + 1, j, none⟩ = false := fun j => (u1.frozens _ _ (by simp)).trans (F2.out j)
  have X2 := Lib.hid x2
  have F2 := Lib.hid f2
  clear u1 x2 f2
  cases g
  · have K := set3_at (w := w1) (b := w.heap.size + 1) (x := .map none) (y := .int .i64 0) (z := .int .i64 0) (fun j hj => by
      have h3 : j = 0 ∨ j = 1 ∨ j = 2 := by omega
      rcases h3 with rfl | rfl | rfl
      · exact ⟨_, X2.out.c0⟩
      · exact ⟨_, X2.out.c1⟩
      · exact ⟨_, X2.out.c2⟩)
    have UE := Lib.hid (((U1.out.setCell (p := ⟨w.heap.size + 1, 0, none⟩) (by dsimp only; omega) (.map none)).setCell (p := ⟨w.heap.size + 1, 1, none⟩) (by dsimp only; omega) (.int .i64 0)).setCell (p := ⟨w.heap.size + 1, 2, none⟩) (by dsimp only; omega) (.int .i64 0))
    obtain ⟨k0, k1, k2⟩ := K; obtain ⟨q0, q1, q2⟩ := And.intro X2.out.c0 (And.intro X2.out.c1 X2.out.c2)
    have qf := F2.out
    go_wp2
    exact bodyPost_ret (v := .tuple #[.agg #[.map none, .int .i64 0, .int .i64 0], .bool false]) (by simp [results, Tryz.results41, go_sem, k0, k1, k2]) rfl ⟨UE.out, .inl ⟨HB.out, rfl⟩⟩
  · obtain ⟨q0, q1, q2⟩ := And.intro X1.out.c0 (And.intro X1.out.c1 X1.out.c2)
    have hsz1 : w.heap.size + 1 < w1.heap.size := X2.out.lt
    have FEW := Lib.hid (mdlB_few HB.out)
    have hn4 : n ≤ 4 := by have := FEW.out; have := LR.out; omega
    have H0 := RMap.made w1
    have F0 := Lib.hid (Filled.start w m.rules)
    have hmm := run_makeMap (P := Tryz.prog) 82 w1
    have u2 : Up w1 (w1.alloc (.map #[] 0)) := (Up.refl _).alloc _
    generalize w1.alloc (.map #[] 0) = w2 at H0 hmm u2
    generalize hmb : w1.heap.size = mb at H0 hmm
    have HMB := Lib.hid hmb
    have H0 := Lib.hid H0
    have x1 := X1.out.up u2
    obtain ⟨p0, p1, p2⟩ := And.intro x1.c0 (And.intro x1.c1 x1.c2)
    have U2 := Lib.hid u2
    clear hmb x1 u2 q0 q1 q2; go_wp2; clear hmm p0 p1 p2
    go_loopw [17] (fun i wr => (∃ (q N : Nat) (f : Int → Int → Option Value), q ≤ n ∧ i = .int .i64 q ∧ N ≤ 3 * q ∧ Hid (RMap wr mb N f) ∧ Hid (Filled w m.rules q 0 f)) ∧ Up w1 wr) (fun i _ => n - (intOf i).toNat)
    case atStart => exact ⟨⟨0, 0, _, by omega, rfl, by omega, H0, F0⟩, U2.out⟩
    case round =>
      obtain ⟨⟨q, N, f, hq, rfl, hN, HMAP, HF⟩, ur⟩ := hrel; obtain ⟨wo, hwo⟩ : ∃ W, W = wr := ⟨_, rfl⟩; subst hwo
      have UR := Lib.hid ur
      by_cases hlt : q < n
      · obtain ⟨b, off, hA, hb, hc⟩ := HR.out.2.2 (by omega)
        subst hA; obtain ⟨A', n', c', hcell, hrs⟩ := hc q hlt
        have cell := ((U1.out.trans ur).cells _ _ hb).trans hcell
        have HS := Lib.hid hrs
        have hb' : b < wo.heap.size := by have := (U1.out.trans ur).size; omega
        have RB := Lib.hid (mdlB_row HB.out q (by rw [LR.out]; exact hlt))
        have hn'3 : n' ≤ 3 := by
          have h := rulesB_len RB.out (by omega) (by omega)
          have := hrs.1
          omega
        clear hc hcell hrs ur
        have i4 : (q : Int) < n := by omega
        have i5 : IntKind.i64.wrap ((q : Int) + 1) = (q : Int) + 1 := IntWalk.i64_in _ (by omega)
        have RN : (m.rules.getD q []).length = n' := HS.out.1
        have RNH := Lib.hid RN
        clear RN
        go_wp2_with fail
        go_loopw [24] (fun j wj => (∃ (p N : Nat) (f : Int → Int → Option Value), p ≤ n' ∧ j = .int .i64 p ∧ N ≤ 3 * q + p ∧ Hid (RMap wj mb N f) ∧ Hid (Filled w m.rules q p f)) ∧ Up w1 wj) (fun j _ => n' - (intOf j).toNat)
        case atStart => exact ⟨⟨0, N, f, by omega, rfl, by omega, HMAP, HF⟩, UR.out⟩
        case round =>
          obtain ⟨⟨p, N2, f2, hp, rfl, hN2, HMAP2, HF2⟩, uj⟩ := hrel
          have UJ := Lib.hid uj
          by_cases hlp : p < n'
          · obtain ⟨b2, off2, hA2, hb2, hc2⟩ := HS.out.2.2 (by omega)
            subst hA2
            have at2 := (hc2 p hlp).up (U1.out.trans uj) hb2
            have hb2' : b2 < wr.heap.size := by have := (U1.out.trans uj).size; omega
            have at0 := hc2 p hlp
            clear hc2
            have ST := Lib.hid (fun r (hr : (m.rules.getD q []).getD p default = r) A n c hn he => HF2.out.step (r := r) (A := A) (n := n) (c := c) (by rw [RNH.out]; exact hlp) hr hn he)
            have RB2 := rulesB_mem RB.out p (by rw [RNH.out]; exact hlp)
            generalize hgr : (m.rules.getD q []).getD p default = r at at2 at0 RB2 ST
            obtain ⟨A3, n3, c3, ⟨r0, r1, r2, r3, r4⟩, hn3, he3⟩ := at0; obtain ⟨A4, n4, c4, ⟨s0, s1, s2, s3, s4⟩, hn4', he4⟩ := at2
            have e4 := ((U1.out.trans uj).cells _ _ hb2).trans r4
            rw [s4] at e4
            injection e4 with e4
            injection e4 with e41 e42 e43
            subst e41 e42 e43
            have HF3 := Lib.hid (ST.out r rfl A4 n4 c4 hn3 he3)
            have hkd : 0 ≤ r.kd ∧ r.kd ≤ 2 := by
              simp only [ruleB, Bool.and_eq_true, inB_iff] at RB2
              exact RB2.1.1.1.2
            obtain ⟨kd, ra, rb, rc, es⟩ := r; dsimp only at s0 s1 s2 s3 s4 hkd; unfold Rule.v at HF3; dsimp only at HF3
            have HM3 := Lib.hid (HMAP2.out.up ((Up.refl wr).alloc (.cells #[.int .i64 kd, .int .i64 ra, .int .i64 rb, .int .i64 rc, .slice A4 n4 c4] 138)))
            have UJ2 := Lib.hid (uj.alloc (.cells #[.int .i64 kd, .int .i64 ra, .int .i64 rb, .int .i64 rc, .slice A4 n4 c4] 138))
            clear uj r0 r1 r2 r3 r4 he3 he4 RB2 ST hgr
            have hmb1 : w1.heap.size ≤ mb := by have := HMB.out; omega
            have i6 : (p : Int) < n' := by omega
            have i7 : IntKind.i64.wrap ((p : Int) + 1) = (p : Int) + 1 := IntWalk.i64_in _ (by omega)
            go_wp2_with (at_mapUpdate; refine wpList_store_R rfl _ rfl _ _ _ rfl mb N2 f2 rfl HM3.out (by simp only [maxLen]; omega) q kd rfl (by unfold I64; omega) (by unfold I64; omega) _ rfl ?_; intro w5 h5 m5; have H5 := Lib.hid h5; have U5 := Lib.hid (m5.up UJ2.out hmb1); clear h5 m5)
            go_roundw
            case rel => exact ⟨⟨p + 1, N2 + 1, _, by omega, by first | rfl | go_num, by omega, H5, HF3⟩, U5.out⟩
            case measure => (simp [intOf]; try omega)
          · have HR2 := Lib.hid (HF2.out.row (by rw [RNH.out]; omega))
            have i6 : ¬ (p : Int) < n' := by omega
            clear uj; go_wp2
            go_roundw
            case rel => exact ⟨⟨q + 1, N2, f2, by omega, by first | rfl | go_num, by omega, HMAP2, HR2⟩, UJ.out⟩
            case measure => (simp [intOf]; try omega)
      · have hqn : q = n := by omega
        have DN := Lib.hid ((show Filled w m.rules m.rules.length 0 f by rw [LR.out, ← hqn]; exact HF.out).done HB.out)
        have i4 : ¬ (q : Int) < n := by omega
        clear ur hqn
        have x1 := X1.out.up UR.out
        obtain ⟨q0, q1, q2⟩ := And.intro x1.c0 (And.intro x1.c1 x1.c2)
        have x2 := X2.out.up UR.out
        obtain ⟨p0, p1, p2⟩ := And.intro x2.c0 (And.intro x2.c1 x2.c2)
        have qf : ∀ j, wo.frozen? ⟨w.heap.size + 1, j, none⟩ = false := fun j => (UR.out.frozens _ _ hsz1).trans (F2.out j)
        have K := set3_at (w := wo) (b := w.heap.size + 1) (x := .map (some mb)) (y := .int .i64 n) (z := .int .i64 m.til) (fun j hj => by
          have h3 : j = 0 ∨ j = 1 ∨ j = 2 := by omega
          rcases h3 with rfl | rfl | rfl
          · exact ⟨_, x2.c0⟩
          · exact ⟨_, x2.c1⟩
          · exact ⟨_, x2.c2⟩)
        obtain ⟨k0, k1, k2⟩ := K
        have UE := Lib.hid ((((U1.out.trans UR.out).setCell (p := ⟨w.heap.size + 1, 0, none⟩) (by dsimp only; omega) (.map (some mb))).setCell (p := ⟨w.heap.size + 1, 1, none⟩) (by dsimp only; omega) (.int .i64 n)).setCell (p := ⟨w.heap.size + 1, 2, none⟩) (by dsimp only; omega) (.int .i64 m.til))
        have hmbw : w.heap.size + 1 < mb := by have := HMB.out; omega
        have ME := Lib.hid (show Mach _ mb m from ⟨N, f, ((HMAP.out.setFar (p := ⟨w.heap.size + 1, 0, none⟩) (by dsimp only; omega) (.map (some mb))).setFar (p := ⟨w.heap.size + 1, 1, none⟩) (by dsimp only; omega) (.int .i64 n)).setFar (p := ⟨w.heap.size + 1, 2, none⟩) (by dsimp only; omega) (.int .i64 m.til), fun c k => (DN.out c k).up UE.out⟩)
        clear x1 x2; go_wp2
        exact bodyPost_ret (v := .tuple #[.agg #[.map (some mb), .int .i64 n, .int .i64 m.til], .bool true]) (by simp [results, Tryz.results41, go_sem, k0, k1, k2]) rfl ⟨UE.out, .inr ⟨HB.out, mb, by rw [LR.out], by omega, ME.out⟩⟩
end Go.Proofs.YtjdoealcmokakaaGreat

namespace Go.Proofs.YtjdoealcmokakaaGreat
set_option maxRecDepth 100000
open Go.RowKit
set_option maxHeartbeats 4000000 in
theorem itemsFor_any (mp : Option Nat) (many til comp : Int) (A : Option Addr) (n c : Nat) (xs : List Rec) (w : World) (hn : n ≤ 4194304) (hE : Recs w A n xs) :
    Calls Tryz.prog 81 #[.agg #[.map mp, .int .i64 many, .int .i64 til], .int .i64 comp, .slice A n c] w fun z w' => z = .returned (.bool (riseT xs && xs.all (itemForB many til comp))) ∧ Up w w' := by
  have HE := Lib.hid hE
  have CA := Lib.hid (fun W (u : Up w W) => ascI_any A n c xs W (by omega) (hE.up u))
  have CE := Lib.hid (fun bM bC W (u : Up w W) hM hC => everyI_any A n c xs mp many til comp bM bC W hn (hE.up u) hM hC)
  generalize riseT xs = b1 at CA ⊢
  generalize xs.all (itemForB many til comp) = b2 at CE ⊢
  have X0 := Lib.hid ((Blk.new w #[.map mp, .int .i64 many, .int .i64 til] 84).alloc (.cells #[.int .i64 comp] 3))
  have X1 := Lib.hid (Blk.new (w.alloc (.cells #[.map mp, .int .i64 many, .int .i64 til] 84)) #[.int .i64 comp] 3)
  simp only [World.size_alloc] at X1
  have U := Lib.hid (((Up.refl w).alloc (.cells #[.map mp, .int .i64 many, .int .i64 til] 84)).alloc (.cells #[.int .i64 comp] 3))
  clear hE
  go_enter Tryz.func81, Tryz.ntmps81
  go_wp2_with fail
  refine (CA.out _ U.out).mono ?_; rintro v w1 ⟨rfl, u1⟩
  have X0 := Lib.hid (X0.out.up u1)
  have X1 := Lib.hid (X1.out.up u1)
  have U := Lib.hid (U.out.trans u1)
  clear u1
  cases b1
  · go_wp2
    go_ret
    exact ⟨rfl, U.out⟩
  · go_wp2_with fail
    refine (CE.out _ _ _ U.out X0.out X1.out).mono ?_; rintro v w2 ⟨rfl, u2⟩
    have U := Lib.hid (U.out.trans u2)
    clear u2; go_wp2; go_ret
    exact ⟨ret_bool (by simp), U.out⟩
end Go.Proofs.YtjdoealcmokakaaGreat

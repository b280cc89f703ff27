/-
  Heaps whose blocks are typed, in one sentence: of each block from a S on whose element type a table lists, every cell holds what the table says, and what each step keeps of it; no condition is made.
  Hosts that have done nothing, in one sentence: which items wait, how the host lies in memory, and the append of an item as a step; for every model.
  What slices.Grow and slices.Concat return of slices of component states, in one sentence: a new slice of all of them, one behind the other; for every row of slices that lies in memory.
  What markSeqState, heldSeqState and eqSeqState return, in one sentence: the marks are laid one behind the other in three blocks, are held, and when two are the same; for simulators of the call's own.
  What szSeqState and toSeqState return, in one sentence: -1 or what is left, and a copy in new memory; for every simulator that lies in memory.
-/
import Derived.ArgAppend
import Derived.Lib.AppendZeros
import Derived.Test.YtlikekmhccnilaaGreatDLEsal01
import Derived.Test.YtlikekmhccnilaaGreatDLEsal02
import Derived.Test.YtlikekmhccnilaaGreatDLEsal03
import Derived.Test.YtlikekmhccnilaaGreatDLEsal11
import Derived.Test.YtlikekmhccnilaaGreatDLEsal16
import Derived.Test.YtlikekmhccnilaaGreatDLEsal17
import Derived.Test.YtlikekmhccnilaaGreatDLEsal20
import Derived.Test.YtlikekmhccnilaaGreatDLEsal21
namespace Go.Proofs.YtlikekmhccnilaaGreat
set_option maxRecDepth 100000
open Go.RowKit
/-- What a cell may hold: a number; a slice of at most mx elements of type e, of so many cells each. -/
inductive CK where
  | num
  | sl (e size mx : Nat)
abbrev Tbl := Nat → List CK
section
variable {T : Tbl} {S : Nat → Prop} {g : Nat} {w w' w'' : World}
end
end Go.Proofs.YtlikekmhccnilaaGreat

namespace Go.Proofs.YtlikekmhccnilaaGreat
set_option maxRecDepth 100000
open Go.RowKit
/-- The items of the first k events that are for one component. -/
def wtk (es : List Evt) (comp : Int) (k : Nat) : List Rec := ((es.take k).filter (fun e => decide (e.to = comp))).map (fun e => (⟨e, 0⟩ : Rec))
/-- What waits in a host that has done nothing. -/
def hs0 (m : Mdl) (comp : Int) : List Rec := if mdlB m = true then wtk m.starts comp m.starts.length else []
section
variable {B0 : Nat} {a w w' : World}
end
end Go.Proofs.YtlikekmhccnilaaGreat

namespace Go.Proofs.YtlikekmhccnilaaGreat
set_option maxRecDepth 100000
open Go.RowKit
/-- The new slice that a function hands back. -/
def NewCs (es : List Cst) (w : World) (x : Ending) (w' : World) : Prop :=
  ∃ A c, x = .returned (.slice A es.length c) ∧ es.length ≤ c ∧ c ≤ 9223372036854775807 ∧ Csts w' A es.length es ∧ w'.ownsRow w.heap.size 64 3 (.slice A es.length c) es.length (flat3 es) ∧ Up w w'
theorem NewCs.of_own {w w' : World} {n : Nat} {v : Value} {es : List Cst} (h : w'.ownsRow w.heap.size 64 3 v n (flat3 es)) (u : Up w w') : NewCs es w (.returned v) w' := by
  obtain ⟨rfl, A, c, rfl, hc, hm⟩ := own3_slice h
  exact ⟨A, c, rfl, hc, hm, own3_csts h, h, u⟩
def GrownCs (w : World) (x : Ending) (w' : World) : Prop := ∃ v, x = .returned v ∧ w'.ownsRow w.heap.size 64 3 v 0 (flat3 []) ∧ Up w w'
theorem zerosC_size (z : Array Value) (n : Nat) : (Builtin.zeroCells z n).size = n * z.size := by simp [Builtin.zeroCells]
set_option maxHeartbeats 4000000 in
theorem growC_any (n : Nat) (w : World) (hn : n ≤ 2000000000) : Calls Tryz.prog 222 #[.slice none 0 0, .int .i64 n] w (GrownCs w) := by
  obtain ⟨i0, hi0, hz0, hz1, hz2⟩ := info_parts info64
  have INF := Lib.hid (And.intro hi0 (And.intro hz0 (And.intro hz1 hz2)))
  clear hi0 hz0 hz1 hz2
  by_cases h0 : n = 0
  · subst h0
    go_enter Tryz.func222, Tryz.ntmps222
    go_wp2; go_ret
    exact ⟨_, rfl, ⟨rfl, .inl ⟨rfl, rfl⟩⟩, Up.refl _⟩
  · have p0 : 0 < n := by omega
    have p1 : (0 : Int) < n := by omega
    have p2 : ¬ (n : Int) < 0 := by omega
    have h48 : n * i0.bytes ≤ 281474976710656 := by rw [INF.out.2.2.2]; omega
    have RUN := Lib.hid (fun ty W => Lib.run_append_nil_zeros (P := Tryz.prog) W 32 3 ty 64 i0 _ .i64 .i64 Tryz.underlying32 Tryz.underlying3 INF.out.1 INF.out.2.1 n p0 (by rw [INF.out.2.2.1]; omega) (by omega) h48)
    clear h48
    go_enter Tryz.func222, Tryz.ntmps222
    go_wp2_with (at_builtin; refine Lib.wpList_append_run _ rfl (.tmp 20) (.tmp 21) 32 3 rfl _ _ rfl rfl _ _ (RUN.out _ _) ?_)
    go_ret; refine ⟨_, rfl, ⟨rfl, .inr ⟨w.heap.size, grownCap w n 0 64, _, rfl, Nat.le_refl _, heap_alloc_new w.drew _, Nat.zero_le _, grownCap_le_maxLen _ _ _ _ (by simp only [maxLen]; omega), ?_, rfl⟩⟩, (Up.refl w).drew.alloc _⟩
    have := grownCap_ge w n 0 64
    rw [Array.size_append, zerosC_size, zerosC_size]; simp
    omega
/-- The block b holds one slice for each list. -/
def PartsC (w : World) (b : Nat) (L : List (List Cst)) : Prop :=
  ∀ j, j < L.length → ∃ A c, w.cell? ⟨b, j, none⟩ = some (.slice A (L.getD j []).length c) ∧ Csts w A (L.getD j []).length (L.getD j [])
theorem flatC_step (L : List (List Cst)) (k : Nat) (h : k < L.length) : (L.take (k + 1)).flatten = (L.take k).flatten ++ L.getD k [] := by
  rw [List.take_succ_eq_append_getElem h, List.flatten_append]; simp [h]
theorem flatC_le (L : List (List Cst)) (k : Nat) : (L.take k).flatten.length ≤ L.flatten.length := by
  have : L.flatten = (L.take k).flatten ++ (L.drop k).flatten := by rw [← List.flatten_append, List.take_append_drop]
  rw [this, List.length_append]
  omega
theorem flatC_end (L : List (List Cst)) (k : Nat) (h : L.length ≤ k) : (L.take k).flatten = L.flatten := by rw [List.take_of_length_le h]
set_option maxHeartbeats 4000000 in
theorem concatC_any (b cap : Nat) (L : List (List Cst)) (w : World) (hL : L.length ≤ 1000000) (hb : b < w.heap.size) (hP : PartsC w b L) (hT : L.flatten.length ≤ 1000000000) :
    Calls Tryz.prog 163 #[.slice (some ⟨b, 0, none⟩) L.length cap] w (NewCs L.flatten w) := by
  obtain ⟨i0, hi0, hz0, hz1, hz2⟩ := info_parts info64
  have INF := Lib.hid (And.intro hi0 (And.intro hz0 (And.intro hz1 hz2)))
  have SIX := Lib.hid (show 0 < 3 by omega)
  have HP := Lib.hid hP
  have FS := Lib.hid (flatC_step L)
  have FL := Lib.hid (flatC_le L)
  have FE := Lib.hid (flatC_end L)
  have HT := Lib.hid hT
  clear hi0 hz0 hz1 hz2 hP hT
  go_enter Tryz.func163, Tryz.ntmps163
  go_wp2
  go_loopw [3, 11] (fun s i wr => (∃ k : Nat, k ≤ L.length ∧ i = .int .i64 k ∧ s = .int .i64 ((L.take k).flatten.length : Nat)) ∧ Up w wr) (fun _ i _ => L.length - (intOf i).toNat)
  case atStart => exact ⟨⟨0, by omega, rfl, rfl⟩, Up.refl _⟩
  case round =>
    obtain ⟨⟨k, hk, rfl, rfl⟩, ur⟩ := hrel
    by_cases hlt : k < L.length
    · obtain ⟨A, c, hcell, _⟩ := HP.out k hlt
      have cell' := (ur.cells b k hb).trans hcell
      clear hcell
      have st := congrArg List.length (FS.out k hlt)
      rw [List.length_append] at st
      have le := FL.out (k + 1)
      have ht := HT.out
      generalize (L.getD k []).length = m at st cell'
      generalize hs2 : (L.take (k + 1)).flatten.length = s2 at st le
      have HS2 := Lib.hid hs2
      clear hs2
      generalize (L.take k).flatten.length = s at st
      have ST := Lib.hid st
      have sm : s + m ≤ 1000000000 := by omega
      clear st le ht
      have i3 : (k : Int) < L.length := by omega
      have i4 : IntKind.i64.wrap ((s : Int) + m) = (s : Int) + m := IntWalk.i64_in _ (by omega)
      have i5 : ¬ (s : Int) + m < 0 := by omega
      have hb' : b < wr.heap.size := by have := ur.size; omega
      go_wp2
      go_roundw
      case rel => exact ⟨⟨k + 1, by omega, by go_num, by rw [HS2.out, ST.out]; simp⟩, ur⟩
      case measure => simp [intOf]; omega
    · have i3 : ¬ (k : Int) < L.length := by omega
      rw [FE.out k (by omega)]
      have ht := HT.out
      generalize hN : L.flatten.length = N at ht
      have HN := Lib.hid hN
      clear hN
      go_wp2_with fail
      refine (growC_any N _ (by omega)).mono ?_; rintro x w1 ⟨v1, rfl, o1, u1⟩
      have O1 := Lib.hid (own_mono o1 ur.size)
      have U1 := Lib.hid (ur.trans u1)
      clear o1 u1 ur i3 hk ht
      go_wp2_with fail
      go_loopw [6, 27] (fun v i wr => (∃ k : Nat, k ≤ L.length ∧ i = .int .i64 k ∧ wr.ownsRow w.heap.size 64 3 v (L.take k).flatten.length (flat3 (L.take k).flatten)) ∧ Up w wr) (fun _ i _ => L.length - (intOf i).toNat)
      case atStart => exact ⟨⟨0, by omega, rfl, O1.out⟩, U1.out⟩
      case round =>
        obtain ⟨⟨k, hk, rfl, ho⟩, ur⟩ := hrel
        have HO := Lib.hid ho
        clear ho U1
        by_cases hlt : k < L.length
        · obtain ⟨A, c, hcell, hev⟩ := HP.out k hlt
          have cell' := (ur.cells b k hb).trans hcell
          have RD := Lib.hid (hev.up ur).reads
          clear hcell hev
          have fk := FS.out k hlt
          have st := congrArg List.length (FS.out k hlt)
          rw [List.length_append] at st
          generalize L.getD k [] = es at cell' RD fk st
          have FK := Lib.hid fk
          clear fk
          have ht := HT.out
          have le := FL.out (k + 1)
          have HMX := Lib.hid (show (L.take k).flatten.length + es.length ≤ maxLen by simp only [maxLen]; omega)
          have HBY := Lib.hid (show ((L.take k).flatten.length + es.length) * 24 ≤ 140737488355328 by omega)
          have HBS := Lib.hid ur.size
          have ST := Lib.hid st
          clear st ht le
          have i3 : (k : Int) < L.length := by omega
          have hb' : b < wr.heap.size := by have := HBS.out; omega
          go_wp2_with (at_builtin; refine wpList_append_any _ rfl (.tmp 31) (.tmp 32) 32 rfl w.heap.size 64 i0 _ 3 24 Tryz.underlying32 INF.out.1 INF.out.2.1 INF.out.2.2.1 INF.out.2.2.2 rfl SIX.out _ _ _ rfl HO.out _ _ _ _ (flat3 es) rfl RD.out (flat3_one _) HMX.out HBY.out HBS.out ?_; intro v2 w2 ho2 hg2 _)
          have HO2 := Lib.hid ho2
          have HG2 := Lib.hid hg2
          clear ho2 hg2
          go_roundw
          case rel => exact ⟨⟨k + 1, by omega, by go_num, by rw [FK.out, flat3_app, List.length_append]; exact HO2.out⟩, ur.grown HG2.out (fun j hj => (HO.out.lt j hj).1)⟩
          case measure => simp [intOf]; omega
        · have i3 : ¬ (k : Int) < L.length := by omega
          have HO2 := Lib.hid (show wr.ownsRow w.heap.size 64 3 _ L.flatten.length (flat3 L.flatten) from FE.out k (by omega) ▸ HO.out)
          go_wp2; go_ret
          exact NewCs.of_own HO2.out ur
end Go.Proofs.YtlikekmhccnilaaGreat

namespace Go.Proofs.YtlikekmhccnilaaGreat
set_option maxRecDepth 100000
open Go.RowKit
/-- The same, in a block of any type. -/
def Mkc (w : World) (lo : Nat) (A : Option Addr) (n s : Nat) : Prop := 0 < n → ∃ g, A = some ⟨g, 0, none⟩ ∧ lo ≤ g ∧ IntsOwn w g (n * s)
theorem Mkc.up {w w' : World} {lo : Nat} {A : Option Addr} {n s : Nat} (h : Mkc w lo A n s) (u : Up w w') : Mkc w' lo A n s := fun hn => by
  obtain ⟨g, hA, hl, ho⟩ := h hn
  exact ⟨g, hA, hl, ho.up u⟩
theorem Mkc.ne {w : World} {lo : Nat} {A : Option Addr} {n s b : Nat} (h : Mkc w lo A n s) (hb : w.heap.size ≤ b) (hn : 0 < n) (g : Nat) (hA : A = some ⟨g, 0, none⟩) : g ≠ b := by
  obtain ⟨g', h1, _, h3⟩ := h hn; rw [h1] at hA
  injection hA with hA
  injection hA with hA _ _
  have := h3.1
  omega
/-- Its block alone was written, if it has any. -/
def Wr (lo : Nat) (A : Option Addr) (n : Nat) (w w' : World) : Prop := (n = 0 ∧ Up w w') ∨ (0 < n ∧ ∃ g, A = some ⟨g, 0, none⟩ ∧ lo ≤ g ∧ Mv g w w')
/-- Two slices lie in two blocks. -/
def Ap (A : Option Addr) (n : Nat) (A' : Option Addr) (n' : Nat) : Prop := 0 < n → 0 < n' → ∀ b o b' o', A = some ⟨b, o, none⟩ → A' = some ⟨b', o', none⟩ → b ≠ b'
theorem Ap.symm {A A' : Option Addr} {n n' : Nat} (h : Ap A n A' n') : Ap A' n' A n := fun h1 h2 b o b' o' e1 e2 e => h h2 h1 b' o' b o e2 e1 e.symm
theorem Wr.up {lo : Nat} {A : Option Addr} {n : Nat} {a w w' : World} (h : Wr lo A n w w') (k : Up a w) (hl : a.heap.size ≤ lo) : Up a w' := by
  rcases h with ⟨_, u⟩ | ⟨_, g, _, hg, m⟩
  · exact k.trans u
  · exact m.up k (by omega)
theorem Wr.size {lo : Nat} {A : Option Addr} {n : Nat} {w w' : World} (h : Wr lo A n w w') : w.heap.size ≤ w'.heap.size := by
  rcases h with ⟨_, u⟩ | ⟨_, g, _, _, m⟩
  · exact u.size
  · exact m.size
theorem Mkc.wr {w w' : World} {lo lo' : Nat} {A A' : Option Addr} {n n' s : Nat} (h : Mkc w lo A n s) (hw : Wr lo' A' n' w w') (ha : Ap A n A' n') : Mkc w' lo A n s := by
  rcases hw with ⟨_, u⟩ | ⟨hn', g', hA', _, m⟩
  · exact h.up u
  · intro hn
    obtain ⟨g, hA, hl, ho⟩ := h hn
    have hne := ha hn hn' g 0 g' 0 hA hA'
    exact ⟨g, hA, hl, ho.mv m hne⟩
theorem Held.wr {w w' : World} {lo' : Nat} {A A' : Option Addr} {n n' s : Nat} {k0 : Int} (h : Held w A n s k0) (hw : Wr lo' A' n' w w') (ha : Ap A n A' n') : Held w' A n s k0 := by
  rcases hw with ⟨_, u⟩ | ⟨hn', g', hA', _, m⟩
  · exact h.up u
  · intro hn
    exact (h.mv m (fun b off hA => ha hn hn' b off g' 0 hA hA')) hn
theorem markC_k (lo : Nat) (A : Option Addr) (n c : Nat) (k0 : Int) (w : World) (hn : n ≤ 1048576) (h0 : 0 ≤ k0) (h1 : k0 ≤ 1000000000000) (h : Mkc w lo A n 3) :
    Calls Tryz.prog 70 #[.slice A n c, .int .i64 k0] w fun x w' => x = .returned (.int .i64 (k0 + 3 * (n : Int))) ∧ Held w' A n 3 k0 ∧ Wr lo A n w w' := by
  rcases Nat.eq_zero_or_pos n with hz | hz
  · subst hz
    refine (markC_no A c k0 w).mono ?_; rintro x w' ⟨rfl, u⟩
    exact ⟨by simp, Held.none_ _ _ _ _, .inl ⟨rfl, u⟩⟩
  · obtain ⟨g, rfl, hg, ho⟩ := h hz
    refine (markC_any g n c k0 w hn h0 h1 ho).mono ?_; rintro x w' ⟨rfl, hh, m⟩
    exact ⟨rfl, hh, .inr ⟨hz, g, rfl, hg, m⟩⟩
theorem markE_k (lo : Nat) (A : Option Addr) (n c : Nat) (k0 : Int) (w : World) (hn : n ≤ 1048576) (h0 : 0 ≤ k0) (h1 : k0 ≤ 1000000000000) (h : Mkc w lo A n 6) :
    Calls Tryz.prog 69 #[.slice A n c, .int .i64 k0] w fun x w' => x = .returned (.int .i64 (k0 + 6 * (n : Int))) ∧ Held w' A n 6 k0 ∧ Wr lo A n w w' := by
  rcases Nat.eq_zero_or_pos n with hz | hz
  · subst hz
    refine (markE_no A c k0 w).mono ?_; rintro x w' ⟨rfl, u⟩
    exact ⟨by simp, Held.none_ _ _ _ _, .inl ⟨rfl, u⟩⟩
  · obtain ⟨g, rfl, hg, ho⟩ := h hz
    refine (markE_any g n c k0 w hn h0 h1 ho).mono ?_; rintro x w' ⟨rfl, hh, m⟩
    exact ⟨rfl, hh, .inr ⟨hz, g, rfl, hg, m⟩⟩
theorem markR_k (lo : Nat) (A : Option Addr) (n c : Nat) (k0 : Int) (w : World) (hn : n ≤ 1048576) (h0 : 0 ≤ k0) (h1 : k0 ≤ 1000000000000) (h : Mkc w lo A n 7) :
    Calls Tryz.prog 27 #[.slice A n c, .int .i64 k0] w fun x w' => x = .returned (.int .i64 (k0 + 7 * (n : Int))) ∧ Held w' A n 7 k0 ∧ Wr lo A n w w' := by
  rcases Nat.eq_zero_or_pos n with hz | hz
  · subst hz
    refine (markR_no A c k0 w).mono ?_; rintro x w' ⟨rfl, u⟩
    exact ⟨by simp, Held.none_ _ _ _ _, .inl ⟨rfl, u⟩⟩
  · obtain ⟨g, rfl, hg, ho⟩ := h hz
    refine (markR_any g n c k0 w hn h0 h1 ho).mono ?_; rintro x w' ⟨rfl, hh, m⟩
    exact ⟨rfl, hh, .inr ⟨hz, g, rfl, hg, m⟩⟩
theorem Box3.wr {w w' : World} {lo b : Nat} {A : Option Addr} {n : Nat} {x y z : Value} (h : Box3 w b x y z) (hw : Wr lo A n w w') (hne : 0 < n → ∀ g, A = some ⟨g, 0, none⟩ → g ≠ b) : Box3 w' b x y z := by
  rcases hw with ⟨_, u⟩ | ⟨hn, g, hA, _, m⟩
  · exact h.up u
  · have := hne hn g hA
    exact h.keep m.size (fun o => m.cells b o h.lt (by omega))
def HeldSq (w : World) (Ac : Option Addr) (nc : Nat) (Aw : Option Addr) (nw : Nat) (Al : Option Addr) (nl : Nat) : Prop :=
  Held w Ac nc 3 1 ∧ Held w Aw nw 6 (1 + 3 * (nc : Int)) ∧ Held w Al nl 7 (1 + 3 * (nc : Int) + 6 * (nw : Int))
theorem HeldSq.up {w w' : World} {Ac Aw Al : Option Addr} {nc nw nl : Nat} (h : HeldSq w Ac nc Aw nw Al nl) (u : Up w w') : HeldSq w' Ac nc Aw nw Al nl := ⟨h.1.up u, h.2.1.up u, h.2.2.up u⟩
set_option maxHeartbeats 4000000 in
theorem markSq_ap (lo : Nat) (Ac : Option Addr) (nc cc : Nat) (Aw : Option Addr) (nw cw : Nat) (Al : Option Addr) (nl cl : Nat) (w : World) (h1 : nc ≤ 1048576) (h2 : nw ≤ 1048576) (h3 : nl ≤ 1048576)
    (m1 : Mkc w lo Ac nc 3) (m2 : Mkc w lo Aw nw 6) (m3 : Mkc w lo Al nl 7) (p12 : Ap Ac nc Aw nw) (p13 : Ap Ac nc Al nl) (p23 : Ap Aw nw Al nl) :
    Calls Tryz.prog 20 #[.agg #[.slice Ac nc cc, .slice Aw nw cw, .slice Al nl cl], .int .i64 1] w fun x w' => x = .returned (.int .i64 (1 + 3 * (nc : Int) + 6 * (nw : Int) + 7 * (nl : Int))) ∧ HeldSq w' Ac nc Aw nw Al nl ∧ (∀ a, Up a w → a.heap.size ≤ lo → lo ≤ w.heap.size → Up a w') ∧ (∀ b x y z, Box3 w b x y z → (0 < nc → ∀ g, Ac = some ⟨g, 0, none⟩ → g ≠ b) → (0 < nw → ∀ g, Aw = some ⟨g, 0, none⟩ → g ≠ b) → (0 < nl → ∀ g, Al = some ⟨g, 0, none⟩ → g ≠ b) → Box3 w' b x y z) ∧ w.heap.size ≤ w'.heap.size := by
  have a12 := Lib.hid p12
  have a13 := Lib.hid p13
  have a21 := Lib.hid p12.symm
  have a23 := Lib.hid p23
  have a31 := Lib.hid p13.symm
  have a32 := Lib.hid p23.symm
  clear p12 p13 p23
  have ua := Lib.hid ((Up.refl w).alloc (.cells #[.slice Ac nc cc, .slice Aw nw cw, .slice Al nl cl] 36))
  have M1 := Lib.hid (m1.up ua.out)
  have M2 := Lib.hid (m2.up ua.out)
  have M3 := Lib.hid (m3.up ua.out)
  have BX := Lib.hid (Box3.new w (.slice Ac nc cc) (.slice Aw nw cw) (.slice Al nl cl) 36)
  have N2 := Lib.hid (fun b (hb : w.heap.size ≤ b) (h : 0 < nw) => (show ∀ g, Aw = some ⟨g, 0, none⟩ → g ≠ b from fun g hA e => by obtain ⟨g', h1, _, h3⟩ := m2 h; rw [h1] at hA; injection hA with hA; injection hA with hA _ _; have := h3.1; omega))
  have N1 := Lib.hid (fun b (hb : w.heap.size ≤ b) (h : 0 < nc) => (show ∀ g, Ac = some ⟨g, 0, none⟩ → g ≠ b from fun g hA e => by obtain ⟨g', h1, _, h3⟩ := m1 h; rw [h1] at hA; injection hA with hA; injection hA with hA _ _; have := h3.1; omega))
  clear m1 m2 m3
  go_enter Tryz.func20, Tryz.ntmps20
  go_wp2_with fail
  generalize hb : w.heap.size = bx at *
  generalize w.alloc (.cells #[.slice Ac nc cc, .slice Aw nw cw, .slice Al nl cl] 36) = W at *
  refine (markC_k lo Ac nc cc 1 W h1 (by omega) (by omega) M1.out).mono ?_; rintro x w1 ⟨rfl, hh1, wr1⟩
  have H1 := Lib.hid hh1
  have R1 := Lib.hid wr1
  have M2 := Lib.hid (M2.out.wr wr1 a21.out)
  have M3 := Lib.hid (M3.out.wr wr1 a31.out)
  have BX := Lib.hid (BX.out.wr wr1 (fun h => N1.out bx (by omega) h))
  obtain ⟨q0, q1, q2⟩ := And.intro BX.out.c0 (And.intro BX.out.c1 BX.out.c2); clear hh1 wr1
  have K1 : 0 ≤ 1 + 3 * (nc : Int) ∧ 1 + 3 * (nc : Int) ≤ 10000000 := by omega
  go_wp2_with fail
  refine (markE_k lo Aw nw cw (1 + 3 * (nc : Int)) w1 h2 (by omega) (by omega) M2.out).mono ?_; rintro x w2 ⟨rfl, hh1, wr1⟩
  have H2 := Lib.hid hh1
  have R2 := Lib.hid wr1
  have H1 := Lib.hid (H1.out.wr wr1 a12.out)
  have M3 := Lib.hid (M3.out.wr wr1 a32.out)
  have BX := Lib.hid (BX.out.wr wr1 (fun h => N2.out bx (by omega) h))
  clear q0 q1 q2; obtain ⟨q0, q1, q2⟩ := And.intro BX.out.c0 (And.intro BX.out.c1 BX.out.c2); clear hh1 wr1
  have K2 : 0 ≤ 1 + 3 * (nc : Int) + 6 * (nw : Int) ∧ 1 + 3 * (nc : Int) + 6 * (nw : Int) ≤ 100000000 := by omega
  go_wp2_with fail
  refine (markR_k lo Al nl cl (1 + 3 * (nc : Int) + 6 * (nw : Int)) w2 h3 (by omega) (by omega) M3.out).mono ?_; rintro x w3 ⟨rfl, hh1, wr1⟩
  have HE := Lib.hid (show HeldSq w3 Ac nc Aw nw Al nl from ⟨H1.out.wr wr1 a13.out, H2.out.wr wr1 a23.out, hh1⟩)
  have UE := Lib.hid (fun a (ha : Up a w) (hl : a.heap.size ≤ lo) => (show Up a w3 from wr1.up (R2.out.up (R1.out.up (ha.trans ua.out) hl) hl) hl))
  have BE := Lib.hid (fun b x y z (h : Box3 w b x y z) n1 n2 n3 => (((h.up ua.out).wr R1.out n1).wr R2.out n2).wr wr1 n3)
  have SE := Lib.hid (show w.heap.size ≤ w3.heap.size from Nat.le_trans ua.out.size (Nat.le_trans R1.out.size (Nat.le_trans R2.out.size wr1.size)))
  clear hh1 wr1 q0 q1 q2; go_wp2; go_ret
  exact ⟨rfl, HE.out, fun a ha hl _ => UE.out a ha hl, BE.out, SE.out⟩
set_option maxHeartbeats 4000000 in
theorem heldSq_any (Ac : Option Addr) (nc cc : Nat) (Aw : Option Addr) (nw cw : Nat) (Al : Option Addr) (nl cl : Nat) (w : World) (h1 : nc ≤ 1048576) (h2 : nw ≤ 1048576) (h3 : nl ≤ 1048576) (h : HeldSq w Ac nc Aw nw Al nl) :
    Calls Tryz.prog 21 #[.agg #[.slice Ac nc cc, .slice Aw nw cw, .slice Al nl cl], .int .i64 1] w fun x w' => x = .returned (.int .i64 (1 + 3 * (nc : Int) + 6 * (nw : Int) + 7 * (nl : Int))) ∧ Up w w' := by
  have H := Lib.hid h
  have ua := Lib.hid ((Up.refl w).alloc (.cells #[.slice Ac nc cc, .slice Aw nw cw, .slice Al nl cl] 36))
  have BX := Lib.hid (Box3.new w (.slice Ac nc cc) (.slice Aw nw cw) (.slice Al nl cl) 36)
  clear h
  go_enter Tryz.func21, Tryz.ntmps21
  go_wp2_with fail
  generalize w.alloc (.cells #[.slice Ac nc cc, .slice Aw nw cw, .slice Al nl cl] 36) = W at *
  refine (heldC_any Ac nc cc 1 W h1 (by omega) (by omega) (H.out.1.up ua.out)).mono ?_; rintro x w1 ⟨rfl, u1⟩
  have U1 := Lib.hid (ua.out.trans u1)
  have BX := Lib.hid (BX.out.up u1)
  obtain ⟨q0, q1, q2⟩ := And.intro BX.out.c0 (And.intro BX.out.c1 BX.out.c2)
  have K1 : 0 ≤ 1 + 3 * (nc : Int) ∧ 1 + 3 * (nc : Int) ≤ 10000000 := by omega
  have K1' : ¬ 1 + 3 * (nc : Int) < 0 := by omega
  clear u1
  go_wp2_with fail
  refine (heldE_any Aw nw cw (1 + 3 * (nc : Int)) w1 h2 (by omega) (by omega) (H.out.2.1.up U1.out)).mono ?_; rintro x w2 ⟨rfl, u1⟩
  have U2 := Lib.hid (U1.out.trans u1)
  have BX := Lib.hid (BX.out.up u1)
  clear q0 q1 q2; obtain ⟨q0, q1, q2⟩ := And.intro BX.out.c0 (And.intro BX.out.c1 BX.out.c2)
  have K2 : 0 ≤ 1 + 3 * (nc : Int) + 6 * (nw : Int) ∧ 1 + 3 * (nc : Int) + 6 * (nw : Int) ≤ 100000000 := by omega
  have K2' : ¬ 1 + 3 * (nc : Int) + 6 * (nw : Int) < 0 := by omega
  clear u1
  go_wp2_with fail
  refine (heldR_any Al nl cl (1 + 3 * (nc : Int) + 6 * (nw : Int)) w2 h3 (by omega) (by omega) (H.out.2.2.up U2.out)).mono ?_; rintro x w3 ⟨rfl, u1⟩
  have U3 := Lib.hid (U2.out.trans u1)
  have K3' : ¬ 1 + 3 * (nc : Int) + 6 * (nw : Int) + 7 * (nl : Int) < 0 := by omega
  clear u1 q0 q1 q2; go_wp2; go_ret
  exact ⟨rfl, U3.out⟩
/-- A simulator's value, over these slices. -/
structure SqV (w : World) (Ac : Option Addr) (nc : Nat) (Aw : Option Addr) (nw : Nat) (Al : Option Addr) (nl : Nat) (s : Sq) : Prop where
  comps : Csts w Ac nc s.comps
  wait : Evs w Aw nw s.wait
  log : Recs w Al nl s.log
theorem SqV.up {w w' : World} {Ac Aw Al : Option Addr} {nc nw nl : Nat} {s : Sq} (h : SqV w Ac nc Aw nw Al nl s) (u : Up w w') : SqV w' Ac nc Aw nw Al nl s := ⟨h.comps.up u, h.wait.up u, h.log.up u⟩
set_option maxHeartbeats 4000000 in
theorem eqSq_any (Ac : Option Addr) (nc cc : Nat) (Aw : Option Addr) (nw cw : Nat) (Al : Option Addr) (nl cl : Nat) (s : Sq) (Bc : Option Addr) (mc dc : Nat) (Bw : Option Addr) (mw dw : Nat) (Bl : Option Addr) (ml dl : Nat) (s' : Sq) (w : World)
    (h1 : nc ≤ 1000000000) (h2 : nw ≤ 1000000000) (h3 : nl ≤ 1000000000) (h : SqV w Ac nc Aw nw Al nl s) (h' : SqV w Bc mc Bw mw Bl ml s') :
    Calls Tryz.prog 17 #[.agg #[.slice Ac nc cc, .slice Aw nw cw, .slice Al nl cl], .agg #[.slice Bc mc dc, .slice Bw mw dw, .slice Bl ml dl]] w fun x w' => x = .returned (.bool (decide (s = s'))) ∧ Up w w' := by
  have hf := Lib.hid (show decide (s = s') = (decide (s.comps = s'.comps) && (decide (s.wait = s'.wait) && decide (s.log = s'.log))) by
    obtain ⟨a, b, c⟩ := s; obtain ⟨a', b', c'⟩ := s'; rw [Bool.eq_iff_iff]
    simp)
  have H := Lib.hid h
  have H' := Lib.hid h'
  have X0 := Lib.hid ((Box3.new w (.slice Ac nc cc) (.slice Aw nw cw) (.slice Al nl cl) 36).up ((Up.refl _).alloc (.cells #[.slice Bc mc dc, .slice Bw mw dw, .slice Bl ml dl] 36)))
  have X1 := Lib.hid (Box3.new (w.alloc (.cells #[.slice Ac nc cc, .slice Aw nw cw, .slice Al nl cl] 36)) (.slice Bc mc dc) (.slice Bw mw dw) (.slice Bl ml dl) 36)
  simp only [World.size_alloc] at X1
  have ua := Lib.hid (((Up.refl w).alloc (.cells #[.slice Ac nc cc, .slice Aw nw cw, .slice Al nl cl] 36)).alloc (.cells #[.slice Bc mc dc, .slice Bw mw dw, .slice Bl ml dl] 36))
  have C1 := Lib.hid (fun W (u : Up w W) => eqC_any Ac Bc nc mc cc dc s.comps s'.comps W h1 (h.comps.up u) (h'.comps.up u))
  have C2 := Lib.hid (fun W (u : Up w W) => eqS_any Aw Bw nw mw cw dw s.wait s'.wait W h2 (h.wait.up u) (h'.wait.up u))
  have C3 := Lib.hid (fun W (u : Up w W) => eqR_any Al Bl nl ml cl dl s.log s'.log W h3 (h.log.up u) (h'.log.up u))
  generalize decide (s = s') = r at hf ⊢
  generalize decide (s.comps = s'.comps) = r1 at hf C1
  generalize decide (s.wait = s'.wait) = r2 at hf C2
  generalize decide (s.log = s'.log) = r3 at hf C3
  clear h h'
  go_enter Tryz.func17, Tryz.ntmps17
  go_wp2_with fail
  generalize (w.alloc (.cells #[.slice Ac nc cc, .slice Aw nw cw, .slice Al nl cl] 36)).alloc (.cells #[.slice Bc mc dc, .slice Bw mw dw, .slice Bl ml dl] 36) = W at *
  refine (C1.out _ ua.out).mono ?_; rintro x w1 ⟨rfl, u1⟩
  have ua := Lib.hid (ua.out.trans u1)
  have X0 := Lib.hid (X0.out.up u1)
  have X1 := Lib.hid (X1.out.up u1)
  clear u1
  cases r1
  · have HR := Lib.hid (show r = false by rw [hf.out]; rfl)
    clear hf; go_wp2; go_ret
    exact ⟨ret_bool HR.out.symm, ua.out⟩
  · obtain ⟨q0, q1, q2⟩ := And.intro X0.out.c0 (And.intro X0.out.c1 X0.out.c2)
    obtain ⟨p0, p1, p2⟩ := And.intro X1.out.c0 (And.intro X1.out.c1 X1.out.c2)
    go_wp2_with fail
    refine (C2.out _ ua.out).mono ?_; rintro x w2 ⟨rfl, u1⟩
    have ua := Lib.hid (ua.out.trans u1)
    have X0 := Lib.hid (X0.out.up u1)
    have X1 := Lib.hid (X1.out.up u1)
    clear u1 q0 q1 q2 p0 p1 p2
    cases r2
    · have HR := Lib.hid (show r = false by rw [hf.out]; rfl)
      clear hf; go_wp2; go_ret
      exact ⟨ret_bool HR.out.symm, ua.out⟩
    · obtain ⟨q0, q1, q2⟩ := And.intro X0.out.c0 (And.intro X0.out.c1 X0.out.c2)
      obtain ⟨p0, p1, p2⟩ := And.intro X1.out.c0 (And.intro X1.out.c1 X1.out.c2)
      go_wp2_with fail
      refine (C3.out _ ua.out).mono ?_; rintro x w3 ⟨rfl, u1⟩
      have ua := Lib.hid (ua.out.trans u1)
      have HR := Lib.hid (show r = r3 by rw [hf.out]; rfl)
      clear u1 q0 q1 q2 p0 p1 p2 hf
      cases r3
      · go_wp2
        go_ret
        exact ⟨ret_bool HR.out.symm, ua.out⟩
      · go_wp2
        go_ret
        exact ⟨ret_bool HR.out.symm, ua.out⟩
end Go.Proofs.YtlikekmhccnilaaGreat

namespace Go.Proofs.YtlikekmhccnilaaGreat
set_option maxRecDepth 100000
open Go.RowKit
theorem info132 : (Tryz.prog.info? 132).map (fun i => (i.zero, i.size, i.bytes)) = some (some (.agg #[.int .i64 0, .int .i64 0, .int .i64 0, .int .i64 0, .int .i64 0, .int .i64 0, .int .i64 0]), 7, 56) := by kernel_rfl
end Go.Proofs.YtlikekmhccnilaaGreat

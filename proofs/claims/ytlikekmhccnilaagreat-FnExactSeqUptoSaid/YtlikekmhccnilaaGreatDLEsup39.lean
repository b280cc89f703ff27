/-
  What sort.Search finds in a log, in one sentence: an index ahead of which a record is earlier than the time, and at which none is; for every log that lies in memory.
  What markSeqState does behind another mark, in one sentence: the marks are laid one behind the other in its three blocks, and no other block changes; for simulators of the call's own.
  What impl.SeqUpto returns, in one sentence: the records ahead of the time; for every model that lies in memory.
  What spec.SeqUpto returns, in one sentence: the records ahead of the time; for every model that lies in memory.
  What FnExactSeqUpto returns, in one sentence: true, with new blocks alone; for every model that lies in memory and every time.
-/
import Derived.Deep.RegionHeld3
import Derived.Test.YtlikekmhccnilaaGreatDLEsup03
import Derived.Test.YtlikekmhccnilaaGreatDLEsup05
import Derived.Test.YtlikekmhccnilaaGreatDLEsup10
import Derived.Test.YtlikekmhccnilaaGreatDLEsup16
import Derived.Test.YtlikekmhccnilaaGreatDLEsup34
import Derived.Test.YtlikekmhccnilaaGreatDLEsup36
import Derived.Test.YtlikekmhccnilaaGreatDLEsup38
namespace Go.Proofs.YtlikekmhccnilaaGreat
set_option maxRecDepth 100000
open Go.RowKit
theorem upto1_any (Al : Option Addr) (nl cl : Nat) (ls : List Rec) (t : Int) (i b5 b3 : Nat) (w : World) (hL : Recs w Al nl ls) (l5 : b5 < w.heap.size) (h5 : w.cell? ⟨b5, 0, none⟩ = some (.slice Al nl cl)) (l3 : b3 < w.heap.size) (h3 : w.cell? ⟨b3, 0, none⟩ = some (.int .i64 t)) (hi : i < nl) :
    Calls Tryz.prog 78 #[.int .i64 (i : Int), .pointer (some ⟨b5, 0, none⟩), .pointer (some ⟨b3, 0, none⟩)] w fun x w' => x = .returned (.bool (decide (t ≤ (ls.getD i default).ev.t))) ∧ Up w w' := by
  obtain ⟨b, off, rfl, hb, hc⟩ := hL.2 (by omega)
  have CI := Lib.hid (hc i hi).1
  have H5 := Lib.hid h5
  have H3 := Lib.hid h3
  have LT := Lib.hid (And.intro l5 (And.intro l3 hb))
  generalize (ls.getD i default).ev.t = q at CI ⊢
  have j1 : (i : Int) < (nl : Int) := by omega
  have j2 : (0 : Int) ≤ (i : Int) := by omega
  clear hL hc h5 h3 l5 l3 hb
  go_enter Tryz.func78, Tryz.ntmps78
  go_wp2_with fail
  refine region_mixH (fun W' => Up w W') [(0, true), (1, true), (2, true), (3, true), (4, true), (5, true), (6, true), (7, true), (8, false)] (by kernel_rfl) (by kernel_rfl) ((Up.refl _).drew) ?_
  iterate 8
    refine mixH_take rfl (by rfl) ?_; apply Exists.intro; refine ⟨fun w1 hS1 => ?_, ?_⟩
    · have c5 := (hS1.cells _ _ LT.out.1).trans H5.out
      have c3 := (hS1.cells _ _ LT.out.2.1).trans H3.out
      have ci := (hS1.cells _ _ LT.out.2.2).trans CI.out
      clear hS1; go_simp
      try rfl
    go_simp
  refine mixH_go rfl (by rfl) (fun K hK => ?_); go_simp; refine hK _ _ ((Up.refl w).drew) ?_; clear hK K; refine mixH_nil ?_; go_wp2; go_ret
  exact ⟨by first | rfl | simp, (Up.refl w).drew⟩
/-- What is found. -/
def FoundT (ls : List Rec) (nl : Nat) (t : Int) (w : World) (x : Ending) (w' : World) : Prop :=
  ∃ j : Nat, x = .returned (.int .i64 (j : Int)) ∧ j ≤ nl ∧ (0 < j → (ls.getD (j - 1) default).ev.t < t) ∧ (j < nl → t ≤ (ls.getD j default).ev.t) ∧ Up w w'
set_option maxHeartbeats 4000000 in
theorem search_any (Al : Option Addr) (nl cl : Nat) (ls : List Rec) (t : Int) (b5 b3 : Nat) (w : World) (hn : nl ≤ 1048576) (hL : Recs w Al nl ls) (l5 : b5 < w.heap.size) (h5 : w.cell? ⟨b5, 0, none⟩ = some (.slice Al nl cl)) (l3 : b3 < w.heap.size) (h3 : w.cell? ⟨b3, 0, none⟩ = some (.int .i64 t)) :
    Calls Tryz.prog 77 #[.int .i64 (nl : Int), .func (.func 78) #[] #[.pointer (some ⟨b5, 0, none⟩), .pointer (some ⟨b3, 0, none⟩)]] w (FoundT ls nl t w) := by
  have CL := Lib.hid (fun (i : Nat) W (u : Up w W) (hi : i < nl) => upto1_any Al nl cl ls t i b5 b3 W (by
      obtain ⟨h1, h2⟩ := hL
      exact ⟨h1, fun h0 => by
        obtain ⟨b, off, e1, e2, e3⟩ := h2 h0
        exact ⟨b, off, e1, Nat.lt_of_lt_of_le e2 u.size, fun k hk => (e3 k hk).keep fun j => u.cells _ _ e2⟩⟩) (Nat.lt_of_lt_of_le l5 u.size) ((u.cells _ _ l5).trans h5) (Nat.lt_of_lt_of_le l3 u.size) ((u.cells _ _ l3).trans h3) hi)
  have HN := Lib.hid hn
  clear hL l5 h5 l3 h3 hn; unfold FoundT
  go_enter Tryz.func77, Tryz.ntmps77
  go_wp2
  go_loopw [5, 6] (fun vi vj wr => ∃ i j : Nat, vi = .int .i64 (i : Int) ∧ vj = .int .i64 (j : Int) ∧ i ≤ j ∧ j ≤ nl ∧ (0 < i → (ls.getD (i - 1) default).ev.t < t) ∧ (j < nl → t ≤ (ls.getD j default).ev.t) ∧ Up w wr) (fun vi vj _ => (intOf vj).toNat - (intOf vi).toNat)
  case atStart => exact ⟨0, nl, by first | rfl | simp, rfl, Nat.zero_le _, Nat.le_refl _, fun h => absurd h (by omega), fun h => absurd h (by omega), Up.refl _⟩
  case round =>
    obtain ⟨i, j, rfl, rfl, hij, hjn, hlo, hhi, hu⟩ := hrel
    have HLO := Lib.hid hlo
    have HHI := Lib.hid hhi
    have HU := Lib.hid hu
    have HIJ := Lib.hid (And.intro hij hjn)
    clear hlo hhi hu hij hjn
    by_cases hlt : i < j
    · obtain ⟨h, hh⟩ : ∃ h : Nat, h = (i + j) / 2 := ⟨_, rfl⟩
      have hb : i ≤ h ∧ h < j := by omega
      have k1 : (i : Int) < (j : Int) := by omega
      have CH := Lib.hid (CL.out h wr HU.out (by have := HIJ.out; omega))
      have HB := Lib.hid hb
      clear hb
      have e1 : wrap64 ((i : Int) + (j : Int)) = (i : Int) + (j : Int) := by have := HIJ.out; have := HN.out; unfold wrap64; omega
      have e2 : IntKind.u64.wrap ((i : Int) + (j : Int)) = (i : Int) + (j : Int) := IntWalk.u64_in _ (by have := HIJ.out; have := HN.out; omega)
      have e4 : ((i : Int) + (j : Int)) / 2 = (h : Int) := by omega
      have e3 : wrap64 (h : Int) = (h : Int) := by have := HIJ.out; have := HN.out; have := HB.out; unfold wrap64; omega
      have W1 := Lib.hid (show wrap64 ((h : Int) + 1) = (h : Int) + 1 by have := HIJ.out; have := HN.out; have := HB.out; unfold wrap64; omega)
      have E1 := Lib.hid e1
      have E2 := Lib.hid e2
      have E3 := Lib.hid e3
      have E4 := Lib.hid e4
      clear e1 e2 e3 e4
      have i6 : IntKind.i64.wrap ((h : Int) + 1) = (h : Int) + 1 := IntWalk.i64_in _ (by have := HIJ.out; have := HN.out; have := HB.out; omega)
      go_wp2_with fail
      rw [E1.out, E2.out, E4.out, E3.out]; refine CH.out.mono ?_; rintro x w' ⟨rfl, u⟩
      have HU' := Lib.hid (HU.out.trans u)
      clear u
      by_cases hP : t ≤ (ls.getD h default).ev.t
      · have HP := Lib.hid hP
        rw [decide_eq_true hP]; clear hP; go_wp2
        go_roundw
        case rel => exact ⟨i, h, rfl, by first | rfl | rw [E4.out], HB.out.1, by have := HB.out; have := HIJ.out; omega, HLO.out, fun _ => HP.out, HU'.out⟩
        case measure =>
          have := HB.out
          try rw [E4.out]
          simp [intOf]
          omega
      · have HP := Lib.hid hP
        rw [decide_eq_false hP]; clear hP; go_wp2
        go_roundw
        case rel => exact ⟨h + 1, j, by first | rfl | (rw [E4.out, W1.out]; rfl), rfl, by have := HB.out; omega, HIJ.out.2, fun _ => by rw [Nat.add_sub_cancel]; have := HP.out; omega, HHI.out, HU'.out⟩
        case measure =>
          have := HB.out
          try rw [E4.out]
          try rw [W1.out]
          simp [intOf]
          omega
    · have k1 : ¬ ((i : Int) < (j : Int)) := by omega
      obtain rfl : i = j := by have := HIJ.out; omega
      go_wp2; go_ret
      exact ⟨i, rfl, HIJ.out.2, HLO.out, HHI.out, HU.out⟩
end Go.Proofs.YtlikekmhccnilaaGreat

namespace Go.Proofs.YtlikekmhccnilaaGreat
set_option maxRecDepth 100000
open Go.RowKit
theorem Mkc.mono {w : World} {lo lo' : Nat} {A : Option Addr} {n s : Nat} (h : Mkc w lo A n s) (hl : lo' ≤ lo) : Mkc w lo' A n s := fun hn => by
  obtain ⟨g, hA, h1, ho⟩ := h hn
  exact ⟨g, hA, Nat.le_trans hl h1, ho⟩
theorem SqW.mono {w : World} {lo lo' : Nat} {Ac Aw Al : Option Addr} {nc nw nl : Nat} {s : Sq} (h : SqW w lo Ac nc Aw nw Al nl s) (hl : lo' ≤ lo) : SqW w lo' Ac nc Aw nw Al nl s := ⟨h.v, h.m1.mono hl, h.m2.mono hl, h.m3.mono hl, h.p12, h.p13, h.p23⟩
end Go.Proofs.YtlikekmhccnilaaGreat

namespace Go.Proofs.YtlikekmhccnilaaGreat
set_option maxRecDepth 100000
open Go.RowKit
/-- A list of records in a row of the call's own. -/
def UpP (lo : Nat) (L : List Rec) (x : Ending) (w' : World) : Prop :=
  ∃ A c, x = .returned (.slice A L.length c) ∧ Recs w' A L.length L ∧ Mkc w' lo A L.length 7
theorem Recs.take {w : World} {A : Option Addr} {n : Nat} {ls : List Rec} (h : Recs w A n ls) (j : Nat) (hj : j ≤ n) : Recs w A j (ls.take j) :=
  ⟨by rw [List.length_take, h.1]; omega, fun hn => by
    obtain ⟨b, off, hA, hb, hc⟩ := h.2 (by omega); refine ⟨b, off, hA, hb, fun i hi => ?_⟩
    have e : (ls.take j).getD i default = ls.getD i default := by rw [List.getD, List.getD, List.getElem?_take_of_lt hi]
    rw [e]
    exact hc i (by omega)⟩
theorem Mkc.take {w : World} {lo : Nat} {A : Option Addr} {n s : Nat} (h : Mkc w lo A n s) (j : Nat) (hj : j ≤ n) : Mkc w lo A j s := fun hn => by
  obtain ⟨g, hA, hl, ho⟩ := h (by omega)
  exact ⟨g, hA, hl, ho.1, fun k hk => ho.2 k (Nat.lt_of_lt_of_le hk (Nat.mul_le_mul_right s hj))⟩
set_option maxHeartbeats 4000000 in
theorem implSeqUpto_any (A : Option Addr) (n c : Nat) (B : Option Addr) (k d : Nat) (m : Mdl) (t : Int) (w : World) (hM : MdlV w A n B k m) :
    Calls Tryz.prog 25 #[.agg #[.slice A n c, .slice B k d, .int .i64 m.til], .int .i64 t] w fun x w' => UpP w.heap.size (uptoR m t) x w' ∧ Up w w' := by
  have CA := Lib.hid (fun W (u : Up w W) => implSeqAll_any A n c B k d m W (hM.up u))
  have TM := Lib.hid (allR_time m)
  have SM := Lib.hid (allR_small m)
  have RU := Lib.hid (show uptoR m t = (allR m).log.filter (fun r => decide (r.ev.t < t)) from rfl)
  unfold AllP at CA
  generalize allR m = Z at CA TM SM RU
  have U0 := Lib.hid (((Up.refl w).alloc (.cells #[.slice A n c, .slice B k d, .int .i64 m.til] 41)).alloc (.cells #[.int .i64 t] 3))
  have c3 : ((w.alloc (.cells #[.slice A n c, .slice B k d, .int .i64 m.til] 41)).alloc (.cells #[.int .i64 t] 3)).cell? ⟨w.heap.size + 1, 0, none⟩ = some (.int .i64 t) := by
    have hh := heap_alloc_new (w.alloc (.cells #[.slice A n c, .slice B k d, .int .i64 m.til] 41)) (.cells #[.int .i64 t] 3)
    simp only [World.size_alloc] at hh; rw [cell_of_row _ _ 0 _ _ _ hh]
    rfl
  have C3 := Lib.hid (And.intro (show w.heap.size + 1 < ((w.alloc (.cells #[.slice A n c, .slice B k d, .int .i64 m.til] 41)).alloc (.cells #[.int .i64 t] 3)).heap.size by simp) c3)
  clear hM c3
  go_enter Tryz.func25, Tryz.ntmps25
  go_wp2_with fail
  generalize (w.alloc (.cells #[.slice A n c, .slice B k d, .int .i64 m.til] 41)).alloc (.cells #[.int .i64 t] 3) = W at *
  generalize hb3 : w.heap.size + 1 = b3 at *
  clear hb3; refine (CA.out _ U0.out).mono ?_; rintro x w1 ⟨⟨Ac, cc, Aw, cw, Al, cl, rfl, sq, hcl, hcm⟩, u1⟩
  have ua := (Up.refl w1).alloc (.cells #[.slice Al Z.log.length cl] 34)
  have U1 := Lib.hid (U0.out.trans (u1.trans ua))
  have SQ := Lib.hid ((sq.up ua).mono U0.out.size)
  have C3 := Lib.hid (And.intro (Nat.lt_of_lt_of_le C3.out.1 (u1.trans ua).size) (((u1.trans ua).cells _ _ C3.out.1).trans C3.out.2))
  have c5 : (w1.alloc (.cells #[.slice Al Z.log.length cl] 34)).cell? ⟨w1.heap.size, 0, none⟩ = some (.slice Al Z.log.length cl) := by rw [cell_of_row _ _ 0 _ _ _ (heap_alloc_new w1 _)]; rfl
  have C5 := Lib.hid (And.intro (show w1.heap.size < (w1.alloc (.cells #[.slice Al Z.log.length cl] 34)).heap.size by simp) (show (w1.alloc (.cells #[.slice Al Z.log.length cl] 34)).cell? ⟨w1.heap.size, 0, none⟩ = some (.slice Al Z.log.length cl) from c5))
  have CAPS := Lib.hid (And.intro hcl hcm)
  have FL := fun W : World => (show (Instr.field 36 (.agg #[.slice Ac Z.comps.length cc, .slice Aw Z.wait.length cw, .slice Al Z.log.length cl]) 2).run Tryz.prog W = .ok (.slice Al Z.log.length cl) W from rfl)
  clear sq u1 ua c5 hcl hcm
  go_wp2_with fail
  clear FL
  generalize w1.alloc (.cells #[.slice Al Z.log.length cl] 34) = W1 at *
  generalize hb5 : w1.heap.size = b5 at *
  clear hb5; refine (search_any Al Z.log.length cl Z.log t b5 b3 W1 (by have := SM.out; omega) SQ.out.v.log C5.out.1 C5.out.2 C3.out.1 C3.out.2).mono ?_; rintro x w2 ⟨j, rfl, hj, hlo, hhi, u2⟩
  have RES := Lib.hid (show uptoR m t = Z.log.take j by rw [RU.out]; exact (upto_take t Z.log j TM.out hj hlo hhi).symm)
  have LEN := Lib.hid (show (Z.log.take j).length = j by rw [List.length_take]; omega)
  have RC := Lib.hid (And.intro ((SQ.out.up u2).v.log.take j hj) ((SQ.out.up u2).m3.take j hj))
  have U2 := Lib.hid (U1.out.trans u2)
  have c5 := (u2.cells _ _ C5.out.1).trans C5.out.2
  have l5 := Nat.lt_of_lt_of_le C5.out.1 u2.size
  have k1 : (0 : Int) ≤ (j : Int) := by omega
  have k2 : j ≤ cl := by have := CAPS.out; omega
  have k3 : (j : Int) ≤ (cl : Int) := by omega
  clear hj hlo hhi u2
  go_wp2_with fail
  go_ret; refine ⟨?_, U2.out⟩; rw [RES.out]; unfold UpP; rw [LEN.out]
  exact ⟨Al, cl, rfl, RC.out.1, RC.out.2⟩
end Go.Proofs.YtlikekmhccnilaaGreat

namespace Go.Proofs.YtlikekmhccnilaaGreat
set_option maxRecDepth 100000
open Go.RowKit
/-- Of the first i records those that are ahead. -/
def ahead (t : Int) (ls : List Rec) (i : Nat) : List Rec := (ls.take i).filter (fun r => decide (r.ev.t < t))
theorem ahead_yes {t : Int} {ls : List Rec} {i : Nat} (h : i < ls.length) (ht : (ls.getD i default).ev.t < t) : ahead t ls (i + 1) = ahead t ls i ++ [ls.getD i default] := by
  unfold ahead
  have e : ls.take (i + 1) = ls.take i ++ [ls.getD i default] := by
    rw [List.take_add_one]; simp [List.getD, h]
  rw [e, List.filter_append]
  congr 1
  rw [List.filter_cons, if_pos (by simpa using ht), List.filter_nil]
theorem ahead_no {t : Int} {ls : List Rec} {i : Nat} (h : i < ls.length) (ht : ¬ (ls.getD i default).ev.t < t) : ahead t ls (i + 1) = ahead t ls i := by
  unfold ahead
  have e : ls.take (i + 1) = ls.take i ++ [ls.getD i default] := by
    rw [List.take_add_one]; simp [List.getD, h]
  rw [e, List.filter_append, List.filter_cons, if_neg (by simpa using ht), List.filter_nil, List.append_nil]
theorem ahead_len (t : Int) (ls : List Rec) (i : Nat) : (ahead t ls i).length ≤ ls.length := Nat.le_trans (List.length_filter_le _ _) (by rw [List.length_take]; omega)
theorem Recs.keepB {w w' : World} {A : Option Addr} {n : Nat} {ls : List Rec} (h : Recs w A n ls) (hs : w.heap.size ≤ w'.heap.size) (k : ∀ b o, A = some ⟨b, o, none⟩ → b < w.heap.size → w'.heap[b]? = w.heap[b]?) : Recs w' A n ls :=
  ⟨h.1, fun hn => by
    obtain ⟨b, off, hA, hb, hc⟩ := h.2 hn
    exact ⟨b, off, hA, Nat.lt_of_lt_of_le hb hs, fun i hi => (hc i hi).keep fun j => World.cell?_of_block (a := ⟨b, j, none⟩) (k b off hA hb)⟩⟩
/-- On the way through the log. -/
def UpL (lo : Nat) (t : Int) (Al : Option Addr) (nl : Nat) (ls : List Rec) (w0 : World) (vo vi : Value) (wr : World) : Prop :=
  ∃ i : Nat, vi = .int .i64 (i : Int) ∧ i ≤ nl ∧ wr.ownsRow lo 132 7 vo (ahead t ls i).length (flat7 (ahead t ls i)) ∧ (0 < nl → Recs wr Al nl ls) ∧ (0 < nl → ∀ x b o, vo.ownBlock = some x → Al = some ⟨b, o, none⟩ → x ≠ b) ∧ Up w0 wr
set_option maxHeartbeats 8000000 in
theorem specSeqUpto_any (A : Option Addr) (n c : Nat) (B : Option Addr) (k d : Nat) (m : Mdl) (t : Int) (w : World) (hM : MdlV w A n B k m) :
    Calls Tryz.prog 24 #[.agg #[.slice A n c, .slice B k d, .int .i64 m.til], .int .i64 t] w fun x w' => UpP w.heap.size (uptoR m t) x w' ∧ Up w w' := by
  obtain ⟨i0, hi0, hz0, hz1, hz2⟩ := info_parts info132
  have INF := Lib.hid (And.intro hi0 (And.intro hz0 (And.intro hz1 hz2)))
  have SEV := Lib.hid (show 0 < 7 by omega)
  clear hi0 hz0 hz1 hz2
  have CA := Lib.hid (fun W (u : Up w W) => specSeqAll_any A n c B k d m W (hM.up u))
  have SM := Lib.hid (allR_small m)
  have RU := Lib.hid (show uptoR m t = ahead t (allR m).log (allR m).log.length by unfold uptoR ahead; rw [List.take_length])
  unfold AllP at CA
  generalize allR m = Z at CA SM RU
  have U0 := Lib.hid (((Up.refl w).alloc (.cells #[.slice A n c, .slice B k d, .int .i64 m.til] 41)).alloc (.cells #[] 132))
  have B1 := Lib.hid ((Box3.new w (.slice A n c) (.slice B k d) (.int .i64 m.til) 41).up ((Up.refl _).alloc (.cells #[] 132)))
  have LT := Lib.hid (IsLitG.new (lo := w.heap.size) (w.alloc (.cells #[.slice A n c, .slice B k d, .int .i64 m.til] 41)) 132 7 (by simp))
  clear hM
  go_enter Tryz.func24, Tryz.ntmps24
  obtain ⟨g0, hg0, hrow⟩ := LT.out
  have HG0 := Lib.hid hg0
  have HROW := Lib.hid hrow
  clear hg0 hrow
  go_wp2_with fail
  generalize hW : (w.alloc (.cells #[.slice A n c, .slice B k d, .int .i64 m.til] 41)).alloc (.cells #[] 132) = W at *
  have HGE := Lib.hid (show w.heap.size + 1 = g0 by have h := HG0.out; injection h with h _ _; injection h with h; injection h with h _ _; simpa using h)
  have HGL := Lib.hid (show w.heap.size + 1 < W.heap.size by rw [← hW]; simp)
  clear hW HG0 LT; refine (CA.out _ U0.out).mono ?_; rintro x w1 ⟨⟨Ac, cc, Aw, cw, Al, cl, rfl, sq, hcl, hcm⟩, u1⟩
  have FL := fun W : World => (show (Instr.field 36 (.agg #[.slice Ac Z.comps.length cc, .slice Aw Z.wait.length cw, .slice Al Z.log.length cl]) 2).run Tryz.prog W = .ok (.slice Al Z.log.length cl) W from rfl)
  have U1 := Lib.hid (U0.out.trans u1)
  have RC := Lib.hid sq.v.log
  have MK := Lib.hid sq.m3
  have ST := Lib.hid (show UpL w.heap.size t Al Z.log.length Z.log w (.slice (some ⟨w.heap.size + 1, 0, none⟩) 0 0) (.int .i64 0) w1 from
    ⟨0, rfl, Nat.zero_le _, by have h := own_up HROW.out u1; rw [← HGE.out] at h; exact h, fun _ => sq.v.log, fun hn x b o hx hb => by
      obtain ⟨g, hA, hl, ho⟩ := sq.m3 hn; rw [hA] at hb
      injection hb with hb
      injection hb with hb _ _
      injection hx with hx
      have hx : w.heap.size + 1 = x := hx
      have := HGL.out
      omega, U1.out⟩)
  clear sq u1 hcl hcm RC MK CA U0 B1 HROW
  go_wp2_with fail
  clear FL
  go_loopw [5, 7] (fun vo vi wr => UpL w.heap.size t Al Z.log.length Z.log w vo vi wr) (fun vo vi _ => Z.log.length - (intOf vi).toNat)
  case atStart => exact ST.out
  case round =>
    obtain ⟨i, rfl, hi, hrow, hrec, hap, hu⟩ := hrel
    have HI := Lib.hid hi
    have HROW := Lib.hid hrow
    have HREC := Lib.hid hrec
    have HAP := Lib.hid hap
    have HU := Lib.hid hu
    clear hi hrow hrec hap hu
    by_cases hil : i < Z.log.length
    · obtain ⟨b, off, hA, hb, hc⟩ := (HREC.out (by omega)).2 (by omega)
      have HA := Lib.hid hA
      have HB := Lib.hid hb
      have hev := hc i hil
      generalize hei : Z.log.getD i default = q at hev
      have HEI := Lib.hid hei
      obtain ⟨⟨z0, z1, z2, z3, z4, z5⟩, z6⟩ := q; obtain ⟨a0, a1, a2, a3, a4, a5, a6⟩ := hev; dsimp only at a0 a1 a2 a3 a4 a5 a6
      have j1 : (i : Int) < (Z.log.length : Int) := by omega
      have j2 : (0 : Int) ≤ (i : Int) := by omega
      have j3 : IntKind.i64.wrap ((i : Int) + 1) = (i : Int) + 1 := IntWalk.i64_in _ (by have := SM.out; omega)
      clear hc hei hb; subst hA
      by_cases ht : z0 < t
      · have HT := Lib.hid ht
        have UA := Lib.hid ((Up.refl wr).alloc (.cells #[.int .i64 z0, .int .i64 z1, .int .i64 z2, .int .i64 z3, .int .i64 z4, .int .i64 z5, .int .i64 z6] 132))
        have RDX := Lib.hid (rec1_new wr z0 z1 z2 z3 z4 z5 z6 132)
        have HR2 := Lib.hid (own_up HROW.out UA.out)
        have LN := Lib.hid (ahead_len t Z.log i)
        have HBS := Lib.hid (show w.heap.size ≤ (wr.alloc (.cells #[.int .i64 z0, .int .i64 z1, .int .i64 z2, .int .i64 z3, .int .i64 z4, .int .i64 z5, .int .i64 z6] 132)).heap.size from (HU.out.trans UA.out).size)
        have J3 := Lib.hid j3
        clear j3
        go_wp2_with (at_builtin; refine wpList_append_any (P := Tryz.prog) _ rfl (.tmp 26) (.tmp 31) 34 rfl w.heap.size 132 i0 _ 7 56 Tryz.underlying34 INF.out.1 INF.out.2.1 INF.out.2.2.1 INF.out.2.2.2 rfl SEV.out _ (ahead t Z.log i).length (flat7 (ahead t Z.log i)) rfl HR2.out _ (some ⟨wr.heap.size, 0, none⟩) 1 1 (flat7 [⟨⟨z0, z1, z2, z3, z4, z5⟩, z6⟩]) rfl RDX.out (flat7_one _) (by have := LN.out; have := SM.out; simp only [maxLen]; omega) (by have := LN.out; have := SM.out; omega) HBS.out ?_; intro v6 w6 ho6 hg6 hv6; clear a0 a1 a2 a3 a4 a5 a6; have j3 := J3.out)
        have U2 := Lib.hid (HU.out.trans UA.out)
        refine ⟨⟨i + 1, by first | rfl | go_num, by omega, ?_, fun hn => ((HREC.out hn).up UA.out).keepB hg6.size (fun b' o' hA' hl => hg6.block b' hl (fun e => HAP.out hn b' b' o' e.symm hA' rfl)), fun hn x b' o' hx hA' => ?_, ?_⟩, by simp [intOf]; omega⟩
        · rw [ahead_yes hil (by rw [HEI.out]; exact HT.out), HEI.out, List.length_append, flat7_app]
          exact ho6
        · rcases hv6 with h6 | h6
          · exact HAP.out hn x b' o' (h6 ▸ hx) hA'
          · rw [h6] at hx
            injection hx with hx
            injection hA' with hA'
            injection hA' with hA' _ _
            have h1 := HB.out
            have h2 := UA.out.size
            omega
        · exact ⟨hg6.os.trans U2.out.below.os, hg6.tape.trans U2.out.below.tape, hg6.output.trans U2.out.below.output, Nat.le_trans U2.out.size hg6.size, fun k hk => (hg6.block k (Nat.lt_of_lt_of_le hk U2.out.size) (fun e => by have := own_ge HR2.out k e.symm; omega)).trans (U2.out.below.block k hk)⟩
      · have HT := Lib.hid ht
        go_wp2
        go_roundw
        case rel => exact ⟨i + 1, by first | rfl | go_num, by omega, by rw [ahead_no hil (by rw [HEI.out]; exact HT.out)]; exact HROW.out, HREC.out, HAP.out, HU.out⟩
        case measure => (simp [intOf]; try omega)
    · have j1 : ¬ ((i : Int) < (Z.log.length : Int)) := by omega
      have hie : i = Z.log.length := by have := HI.out; omega
      subst hie; obtain ⟨-, Ao, co, rfl, -, -⟩ := own7_slice HROW.out; go_wp2; go_ret; refine ⟨?_, HU.out⟩; rw [RU.out]
      exact ⟨Ao, co, rfl, own7_recs HROW.out, Mkc.row HROW.out (flat7_int _)⟩
end Go.Proofs.YtlikekmhccnilaaGreat

namespace Go.Proofs.YtlikekmhccnilaaGreat
set_option maxRecDepth 100000
open Go.RowKit
/-- A list of records in a row of the call's own. -/
structure RcW (w : World) (lo : Nat) (A : Option Addr) (n : Nat) (L : List Rec) : Prop where
  v : Recs w A n L
  m : Mkc w lo A n 7
theorem RcW.up {w w' : World} {lo : Nat} {A : Option Addr} {n : Nat} {L : List Rec} (h : RcW w lo A n L) (u : Up w w') : RcW w' lo A n L := ⟨h.v.up u, h.m.up u⟩
theorem RcW.ints {lo hi : Nat} {w w' : World} {l : Nat} {A : Option Addr} {n : Nat} {L : List Rec} (h : RcW w l A n L) (m : Ints lo hi w w') (hb : hi ≤ l) : RcW w' l A n L := by
  refine ⟨⟨h.v.1, fun hn => ?_⟩, h.m.ints m hb⟩; obtain ⟨b, off, hA, hlt, hc⟩ := h.v.2 hn; obtain ⟨g, hA', hl, _⟩ := h.m hn
  have : b = g := by rw [hA] at hA'; injection hA' with e; injection e
  subst this
  exact ⟨b, off, hA, Nat.lt_of_lt_of_le hlt m.size, fun i hi => (hc i hi).keep fun j => m.cells b j hlt (.inr (by omega))⟩
theorem uptoR_small (m : Mdl) (t : Int) : (uptoR m t).length ≤ 54 := Nat.le_trans (List.length_filter_le _ _) (allR_small m).2.2
set_option maxHeartbeats 8000000 in
theorem walkEsup (v : Value) (m : Mdl) (t : Int) {w : World} (h : ∃ A n c B k d, v = .agg #[.slice A n c, .slice B k d, .int .i64 m.til] ∧ MdlV w A n B k m) :
    Calls Tryz.prog 5 #[v, .int .i64 t] w fun x w' => x = .returned (.bool true) ∧ Up w w' := by
  obtain ⟨A, n, c, B, k, d, rfl, hM⟩ := h
  have HM := Lib.hid hM
  have hk := hM.big
  have BX := Lib.hid (Box3.new w (.slice A n c) (.slice B k d) (.int .i64 m.til) 25)
  have CS := Lib.hid (fun W (u : Up w W) => szMdl_any A n c B k d m W (hM.up u))
  have CT := Lib.hid (fun W (u : Up w W) hS => toMdl_any A n c B k d m W (hM.up u) hS)
  have cp := fun A n c B k d W (h : MdlV W A n B k m) => specSeqUpto_any A n c B k d m t W h
  have ci := fun A n c B k d W (h : MdlV W A n B k m) => implSeqUpto_any A n c B k d m t W h
  have CE := Lib.hid (fun A n c B k d A' n' c' B' k' d' W (h1 : MdlV W A n B k m) (h2 : MdlV W A' n' B' k' m) (hS : FitM m) => eqMdl_any A n c B k d m A' n' c' B' k' d' m W h1 h2 hS)
  rw [decide_eq_true (rfl : m = m)] at CE
  have hf := uptoR_small m t
  unfold UpP at cp ci
  generalize uptoR m t = L at cp ci hf
  generalize L.length = nl at cp ci hf
  have CP := Lib.hid cp
  have CI := Lib.hid ci
  have CQ := Lib.hid (fun A c B d W (h1 : Recs W A nl L) (h2 : Recs W B nl L) => eqR_any A B nl nl c d L L W (by omega) h1 h2)
  rw [decide_eq_true (rfl : L = L)] at CQ; clear hM cp ci; unfold NewMdl at CT
  generalize htil : m.til = til at *
  go_enter Tryz.func5, Tryz.ntmps5
  go_wp2_with fail
  refine (CS.out _ ((Up.refl _).alloc _)).mono ?_; rintro x w1 ⟨z, rfl, hz, u1⟩
  have U1 := Lib.hid (((Up.refl w).alloc _).trans u1)
  have B1 := Lib.hid (BX.out.up u1)
  clear u1
  rcases hz with rfl | ⟨z0, z1, hS⟩
  · go_wp2
    go_ret
    exact ⟨rfl, U1.out⟩
  · have SH := Lib.hid hS
    have j0 : ¬ z < 0 := by omega
    have hn6 : n ≤ 1048576 := hS.few
    have hk6 : k ≤ 1048576 := by have := hS.fit.2; have := HM.out.starts.1; omega
    clear hS; obtain ⟨q0, q1, q2⟩ := And.intro B1.out.c0 (And.intro B1.out.c1 B1.out.c2)
    go_wp2_with fail
    generalize hb3 : w.heap.size = b3 at *
    refine (CT.out _ U1.out SH.out).mono ?_; rintro x w2 ⟨g1, g2, rfl, hg1, hg2, o1, o2, u2⟩
    have V2 := Lib.hid (NewMdl.v o1 o2 hk)
    have U2 := Lib.hid (U1.out.trans u2)
    have B2 := Lib.hid (B1.out.up u2)
    clear o1 o2 hg1 hg2 u2 q0 q1 q2
    go_wp2_with fail
    refine (CP.out _ _ _ _ _ _ _ V2.out).mono ?_; rintro x W3 ⟨⟨Ao, co, rfl, rec, -⟩, u3⟩
    have SV := Lib.hid rec
    have U3 := Lib.hid (U2.out.trans u3)
    have B3 := Lib.hid (B2.out.up u3)
    clear rec u3 V2; obtain ⟨q0, q1, q2⟩ := And.intro B3.out.c0 (And.intro B3.out.c1 B3.out.c2)
    go_wp2_with fail
    refine (CT.out _ U3.out SH.out).mono ?_; rintro x w4 ⟨g1, g2, rfl, hg1, hg2, o1, o2, u4⟩
    have SZ1 := Lib.hid (o1.sh (lo := W3.heap.size) (hi := w4.heap.size) SH.out.shorts hg1 (Nat.le_refl _))
    have SZ2 := Lib.hid (o2.sh (lo := W3.heap.size) (hi := w4.heap.size) hg2 (Nat.le_refl _))
    have ua := (Up.refl w4).alloc (.cells #[.slice (some ⟨g1, 0, none⟩) n n, .slice (some ⟨g2, 0, none⟩) k k, .int .i64 til] 41)
    have X4 := Lib.hid (Box3.new w4 (.slice (some ⟨g1, 0, none⟩) n n) (.slice (some ⟨g2, 0, none⟩) k k) (.int .i64 til) 41)
    have VX := Lib.hid ((NewMdl.v o1 o2 hk).up ua)
    have SZ1 := Lib.hid (SZ1.out.ints ua.ints)
    have SZ2 := Lib.hid (SZ2.out.ints ua.ints)
    have U34 := Lib.hid (u4.trans ua)
    have hHI : W3.heap.size ≤ w4.heap.size := u4.size
    clear o1 o2 u4 ua q0 q1 q2 hg1 hg2
    go_wp2_with fail
    have HV0 := Lib.hid (show w4.heap.size + 1 = (w4.alloc (.cells #[.slice (some ⟨g1, 0, none⟩) n n, .slice (some ⟨g2, 0, none⟩) k k, .int .i64 til] 41)).heap.size by simp)
    generalize hb10 : w4.heap.size = b10 at *
    generalize w4.alloc (.cells #[.slice (some ⟨g1, 0, none⟩) n n, .slice (some ⟨g2, 0, none⟩) k k, .int .i64 til] 41) = V0 at *
    have hV0 : b10 + 1 = V0.heap.size := HV0.out
    clear hb10; refine (CI.out _ _ _ _ _ _ _ VX.out).mono ?_; rintro x w5 ⟨⟨Bo, do_, rfl, rec, mk⟩, u6⟩
    have GO := Lib.hid (show RcW w5 V0.heap.size Bo nl L from ⟨rec, mk⟩)
    have U34 := Lib.hid (U34.out.trans u6)
    have X4 := Lib.hid (X4.out.up u6)
    have VX := Lib.hid (VX.out.up u6)
    have SZ1 := Lib.hid (SZ1.out.ints u6.ints)
    have SZ2 := Lib.hid (SZ2.out.ints u6.ints)
    have hW6 : V0.heap.size ≤ w5.heap.size := u6.size
    clear rec mk u6
    go_wp2_with fail
    refine (CQ.out _ _ _ _ _ GO.out.v (SV.out.up U34.out)).mono ?_; rintro x w7 ⟨rfl, u7⟩
    have U34 := Lib.hid (U34.out.trans u7)
    have X4 := Lib.hid (X4.out.up u7)
    have GO := Lib.hid (GO.out.up u7)
    have VX := Lib.hid (VX.out.up u7)
    have SZ1 := Lib.hid (SZ1.out.ints u7.ints)
    have SZ2 := Lib.hid (SZ2.out.ints u7.ints)
    have hW7 : V0.heap.size ≤ w7.heap.size := by have := u7.size; omega
    have B7 := Lib.hid (B3.out.up U34.out)
    have U7 := Lib.hid (U3.out.trans U34.out)
    clear u7
    go_wp2_with fail
    have HB := And.intro B7.out.lt (And.intro X4.out.lt (And.intro B7.out.c0 (And.intro B7.out.c1 (And.intro B7.out.c2 (And.intro X4.out.c0 (And.intro X4.out.c1 X4.out.c2))))))
    have HH := Lib.hid HB
    obtain ⟨l0, l1, q0, q1, q2, r0, r1, r2⟩ := HB
    go_region_held3 (fun w' => b3 < w'.heap.size ∧ b10 < w'.heap.size ∧ w'.cell? ⟨b3, 0, none⟩ = some (.slice A n c) ∧ w'.cell? ⟨b3, 1, none⟩ = some (.slice B k d) ∧ w'.cell? ⟨b3, 2, none⟩ = some (.int .i64 til) ∧ w'.cell? ⟨b10, 0, none⟩ = some (.slice (some ⟨g1, 0, none⟩) n n) ∧ w'.cell? ⟨b10, 1, none⟩ = some (.slice (some ⟨g2, 0, none⟩) k k) ∧ w'.cell? ⟨b10, 2, none⟩ = some (.int .i64 til))
      (first | (exact HH.out) | (exact two_up uF (by assumption)) | (exact two_up uE (by assumption)))
      (first
        | (go_at_call 14; refine (CT.out _ (U7.out.trans (Up.refl _).drew) SH.out).mono ?_; rintro x wE ⟨g5, g6, rfl, hg5, hg6, o5, o6, uE⟩; have VE := Lib.hid (NewMdl.v o5 o6 hk); clear o5 o6)
        | (go_at_call 18; refine (CE.out _ n n _ k k _ n n _ k k _ (VX.out.up ((Up.refl _).drew.trans uE)) VE.out SH.out.fit).mono ?_; rintro x wF ⟨rfl, uF⟩))
    have u8 := ((Up.refl w7).drew.trans uE).trans uF
    have U34 := Lib.hid (U34.out.trans u8)
    have X4 := Lib.hid (X4.out.up u8)
    have GO := Lib.hid (GO.out.up u8)
    have SZ1 := Lib.hid (SZ1.out.ints u8.ints)
    have SZ2 := Lib.hid (SZ2.out.ints u8.ints)
    have hW8 : V0.heap.size ≤ wF.heap.size := by have := u8.size; omega
    clear u8 uE uF l0 l1 q0 q1 q2 r0 r1 r2 VE VX HH B7 U7; obtain ⟨q0, q1, q2⟩ := And.intro X4.out.c0 (And.intro X4.out.c1 X4.out.c2)
    go_wp2_with fail
    refine (markMdl_any W3.heap.size b10 g1 g2 n n k k til _ hn6 hk6 SZ1.out SZ2.out (by omega)).mono ?_; rintro x w8 ⟨mz, rfl, hmz0, hmz1, m8⟩
    have GO := Lib.hid (GO.out.ints m8 (by omega))
    have U34 := Lib.hid (m8.up U34.out (Nat.le_refl _))
    have hW9 : V0.heap.size ≤ w8.heap.size := by have := m8.size; omega
    have jm : ¬ mz < 0 := by omega
    clear m8 q0 q1 q2 SZ1 SZ2 X4
    go_wp2_with fail
    refine (CQ.out _ _ _ _ _ GO.out.v (SV.out.up U34.out)).mono ?_; rintro x w9 ⟨rfl, u9⟩
    have U34 := Lib.hid (U34.out.trans u9)
    have GO := Lib.hid (GO.out.up u9)
    have hW10 : V0.heap.size ≤ w9.heap.size := by have := u9.size; omega
    clear u9
    go_wp2_with fail
    refine (markR_k V0.heap.size Bo nl do_ 1 _ (by omega) (by omega) (by omega) GO.out.m).mono ?_; rintro x w10 ⟨rfl, hheld, wr⟩
    have HE := Lib.hid hheld
    have U34 := Lib.hid (wr.up U34.out (by omega))
    clear hheld wr GO
    have B7 := Lib.hid (B3.out.up U34.out)
    have U7 := Lib.hid (U3.out.trans U34.out)
    have jq : ¬ (1 + 7 * (nl : Int)) < 0 := by omega
    go_wp2_with fail
    refine (heldR_any Bo nl do_ 1 w10 (by omega) (by omega) (by omega) HE.out).mono ?_; rintro x w11 ⟨rfl, u11⟩
    have HE := Lib.hid (HE.out.up u11)
    have U34 := Lib.hid (U34.out.trans u11)
    have U7 := Lib.hid (U7.out.trans u11)
    clear u11 B7
    have B7 := Lib.hid (B3.out.up U34.out)
    obtain ⟨r0, r1, r2⟩ := And.intro B7.out.c0 (And.intro B7.out.c1 B7.out.c2)
    go_wp2_with fail
    refine (CT.out _ U7.out SH.out).mono ?_; rintro x w12 ⟨g5, g6, rfl, hg5, hg6, o5, o6, u12⟩
    have V12 := Lib.hid (NewMdl.v o5 o6 hk)
    clear o5 o6 hg5 hg6 r0 r1 r2 B7
    go_wp2_with fail
    refine (CI.out _ _ _ _ _ _ _ V12.out).mono ?_; rintro x w13 ⟨⟨Do, eo, rfl, rec, -⟩, u13⟩
    have DV := Lib.hid rec
    have u14 := u12.trans u13
    have HE := Lib.hid (HE.out.up u14)
    have U34 := Lib.hid (U34.out.trans u14)
    clear rec u12 u13 u14 V12
    go_wp2_with fail
    refine (CQ.out _ _ _ _ _ DV.out (SV.out.up U34.out)).mono ?_; rintro x w15 ⟨rfl, u15⟩
    have HE := Lib.hid (HE.out.up u15)
    have U34 := Lib.hid (U34.out.trans u15)
    clear u15 DV
    go_wp2_with fail
    refine (heldR_any Bo nl do_ 1 w15 (by omega) (by omega) (by omega) HE.out).mono ?_; rintro x w16 ⟨rfl, u16⟩
    have U7 := Lib.hid (U3.out.trans (U34.out.trans u16))
    clear u16; go_wp2; go_ret
    exact ⟨rfl, U7.out⟩
end Go.Proofs.YtlikekmhccnilaaGreat

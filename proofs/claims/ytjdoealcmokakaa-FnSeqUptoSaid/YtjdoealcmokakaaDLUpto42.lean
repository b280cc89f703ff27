/-
  What markSeqState does behind another mark, in one sentence: the marks are laid one behind the other in its three blocks, and no other block changes; for simulators of the call's own.
  What impl.SeqUpto returns, in one sentence: the records ahead of the time; for every model that lies in memory.
  What spec.SeqUpto returns, in one sentence: the records ahead of the time; for every model that lies in memory.
  The records ahead of a time and of a later one, in one sentence: the beginning of the log, as far as its times are less; never shorter for a later time; all of it behind the end; for every model.
  What FnSeqUpto returns, in one sentence: true, with new blocks alone; for every code.
  For every code the law FnSeqUpto returns true and leaves its argument as it was; no condition.
-/
import Derived.Test.YtjdoealcmokakaaDLUpto01
import Derived.Test.YtjdoealcmokakaaDLUpto15
import Derived.Test.YtjdoealcmokakaaDLUpto18
import Derived.Test.YtjdoealcmokakaaDLUpto22
import Derived.Test.YtjdoealcmokakaaDLUpto37
import Derived.Test.YtjdoealcmokakaaDLUpto39
import Derived.Test.YtjdoealcmokakaaDLUpto41
import Derived.Test.YtjdoealcmokakaaRows
namespace Go.Proofs.Ytjdoealcmokakaa
set_option maxRecDepth 100000
open Go.RowKit
theorem Mkc.mono {w : World} {lo lo' : Nat} {A : Option Addr} {n s : Nat} (h : Mkc w lo A n s) (hl : lo' ≤ lo) : Mkc w lo' A n s := fun hn => by
  obtain ⟨g, hA, h1, ho⟩ := h hn
  exact ⟨g, hA, Nat.le_trans hl h1, ho⟩
theorem SqW.mono {w : World} {lo lo' : Nat} {Ac Aw Al : Option Addr} {nc nw nl : Nat} {s : Sq} (h : SqW w lo Ac nc Aw nw Al nl s) (hl : lo' ≤ lo) : SqW w lo' Ac nc Aw nw Al nl s := ⟨h.v, h.m1.mono hl, h.m2.mono hl, h.m3.mono hl, h.p12, h.p13, h.p23⟩
end Go.Proofs.Ytjdoealcmokakaa

namespace Go.Proofs.Ytjdoealcmokakaa
set_option maxRecDepth 100000
open Go.RowKit
/-- A list of records in a row of the call's own. -/
def UpP (lo : Nat) (L : List Rec) (x : Ending) (w' : World) : Prop :=
  ∃ A c, x = .returned (.slice A L.length c) ∧ Recs w' A L.length L ∧ Mkc w' lo A L.length 7
theorem Recs.take {w : World} {A : Option Addr} {n : Nat} {ls : List Rec} (h : Recs w A n ls) (j : Nat) (hj : j ≤ n) : Recs w A j (ls.take j) :=
  ⟨by rw [List.length_take, h.1]; omega, fun hn => by
    obtain ⟨b, off, hA, hb, hc⟩ := h.2 (by omega); refine ⟨b, off, hA, hb, fun i hi => ?_⟩
    have e : (ls.take j).getD i default = ls.getD i default := by rw [List.getD, List.getD, List.getElem?_take_of_lt hi]
    rw [e]
    exact hc i (by omega)⟩
theorem Mkc.take {w : World} {lo : Nat} {A : Option Addr} {n s : Nat} (h : Mkc w lo A n s) (j : Nat) (hj : j ≤ n) : Mkc w lo A j s := fun hn => by
  obtain ⟨g, hA, hl, ho⟩ := h (by omega)
  exact ⟨g, hA, hl, ho.1, fun k hk => ho.2 k (Nat.lt_of_lt_of_le hk (Nat.mul_le_mul_right s hj))⟩
set_option maxHeartbeats 4000000 in
theorem implSeqUpto_any (A : Option Addr) (n c : Nat) (B : Option Addr) (k d : Nat) (m : Mdl) (t : Int) (w : World) (hM : MdlV w A n B k m) :
    Calls Try.prog 9 #[.agg #[.slice A n c, .slice B k d, .int .i64 m.til], .int .i64 t] w fun x w' => UpP w.heap.size (uptoR m t) x w' ∧ Up w w' := by
  have CA := Lib.hid (fun W (u : Up w W) => implSeqAll_any A n c B k d m W (hM.up u))
  have TM := Lib.hid (allR_time m)
  have SM := Lib.hid (allR_small m)
  have RU := Lib.hid (show uptoR m t = (allR m).log.filter (fun r => decide (r.ev.t < t)) from rfl)
  unfold AllP at CA
  generalize allR m = Z at CA TM SM RU
  have U0 := Lib.hid (((Up.refl w).alloc (.cells #[.slice A n c, .slice B k d, .int .i64 m.til] 26)).alloc (.cells #[.int .i64 t] 3))
  have c3 : ((w.alloc (.cells #[.slice A n c, .slice B k d, .int .i64 m.til] 26)).alloc (.cells #[.int .i64 t] 3)).cell? ⟨w.heap.size + 1, 0, none⟩ = some (.int .i64 t) := by
    have hh := heap_alloc_new (w.alloc (.cells #[.slice A n c, .slice B k d, .int .i64 m.til] 26)) (.cells #[.int .i64 t] 3)
    simp only [World.size_alloc] at hh; rw [cell_of_row _ _ 0 _ _ _ hh]
    rfl
  have C3 := Lib.hid (And.intro (show w.heap.size + 1 < ((w.alloc (.cells #[.slice A n c, .slice B k d, .int .i64 m.til] 26)).alloc (.cells #[.int .i64 t] 3)).heap.size by simp) c3)
  clear hM c3
  go_enter Try.func9, Try.ntmps9
  go_wp2_with fail
  generalize (w.alloc (.cells #[.slice A n c, .slice B k d, .int .i64 m.til] 26)).alloc (.cells #[.int .i64 t] 3) = W at *
  generalize hb3 : w.heap.size + 1 = b3 at *
  clear hb3; refine (CA.out _ U0.out).mono ?_; rintro x w1 ⟨⟨Ac, cc, Aw, cw, Al, cl, rfl, sq, hcl, hcm⟩, u1⟩
  have ua := (Up.refl w1).alloc (.cells #[.slice Al Z.log.length cl] 29)
  have U1 := Lib.hid (U0.out.trans (u1.trans ua))
  have SQ := Lib.hid ((sq.up ua).mono U0.out.size)
  have C3 := Lib.hid (And.intro (Nat.lt_of_lt_of_le C3.out.1 (u1.trans ua).size) (((u1.trans ua).cells _ _ C3.out.1).trans C3.out.2))
  have c5 : (w1.alloc (.cells #[.slice Al Z.log.length cl] 29)).cell? ⟨w1.heap.size, 0, none⟩ = some (.slice Al Z.log.length cl) := by rw [cell_of_row _ _ 0 _ _ _ (heap_alloc_new w1 _)]; rfl
  have C5 := Lib.hid (And.intro (show w1.heap.size < (w1.alloc (.cells #[.slice Al Z.log.length cl] 29)).heap.size by simp) (show (w1.alloc (.cells #[.slice Al Z.log.length cl] 29)).cell? ⟨w1.heap.size, 0, none⟩ = some (.slice Al Z.log.length cl) from c5))
  have CAPS := Lib.hid (And.intro hcl hcm)
  have FL := fun W : World => (show (Instr.field 36 (.agg #[.slice Ac Z.comps.length cc, .slice Aw Z.wait.length cw, .slice Al Z.log.length cl]) 2).run Try.prog W = .ok (.slice Al Z.log.length cl) W from rfl)
  clear sq u1 ua c5 hcl hcm
  go_wp2_with fail
  clear FL
  generalize w1.alloc (.cells #[.slice Al Z.log.length cl] 29) = W1 at *
  generalize hb5 : w1.heap.size = b5 at *
  clear hb5; refine (search_any Al Z.log.length cl Z.log t b5 b3 W1 (by have := SM.out; omega) SQ.out.v.log C5.out.1 C5.out.2 C3.out.1 C3.out.2).mono ?_; rintro x w2 ⟨j, rfl, hj, hlo, hhi, u2⟩
  have RES := Lib.hid (show uptoR m t = Z.log.take j by rw [RU.out]; exact (upto_take t Z.log j TM.out hj hlo hhi).symm)
  have LEN := Lib.hid (show (Z.log.take j).length = j by rw [List.length_take]; omega)
  have RC := Lib.hid (And.intro ((SQ.out.up u2).v.log.take j hj) ((SQ.out.up u2).m3.take j hj))
  have U2 := Lib.hid (U1.out.trans u2)
  have c5 := (u2.cells _ _ C5.out.1).trans C5.out.2
  have l5 := Nat.lt_of_lt_of_le C5.out.1 u2.size
  have k1 : (0 : Int) ≤ (j : Int) := by omega
  have k2 : j ≤ cl := by have := CAPS.out; omega
  have k3 : (j : Int) ≤ (cl : Int) := by omega
  clear hj hlo hhi u2
  go_wp2_with fail
  go_ret; refine ⟨?_, U2.out⟩; rw [RES.out]; unfold UpP; rw [LEN.out]
  exact ⟨Al, cl, rfl, RC.out.1, RC.out.2⟩
end Go.Proofs.Ytjdoealcmokakaa

namespace Go.Proofs.Ytjdoealcmokakaa
set_option maxRecDepth 100000
open Go.RowKit
/-- Of the first i records those that are ahead. -/
def ahead (t : Int) (ls : List Rec) (i : Nat) : List Rec := (ls.take i).filter (fun r => decide (r.ev.t < t))
theorem ahead_yes {t : Int} {ls : List Rec} {i : Nat} (h : i < ls.length) (ht : (ls.getD i default).ev.t < t) : ahead t ls (i + 1) = ahead t ls i ++ [ls.getD i default] := by
  unfold ahead
  have e : ls.take (i + 1) = ls.take i ++ [ls.getD i default] := by
    rw [List.take_add_one]; simp [List.getD, h]
  rw [e, List.filter_append]
  congr 1
  rw [List.filter_cons, if_pos (by simpa using ht), List.filter_nil]
theorem ahead_no {t : Int} {ls : List Rec} {i : Nat} (h : i < ls.length) (ht : ¬ (ls.getD i default).ev.t < t) : ahead t ls (i + 1) = ahead t ls i := by
  unfold ahead
  have e : ls.take (i + 1) = ls.take i ++ [ls.getD i default] := by
    rw [List.take_add_one]; simp [List.getD, h]
  rw [e, List.filter_append, List.filter_cons, if_neg (by simpa using ht), List.filter_nil, List.append_nil]
theorem ahead_len (t : Int) (ls : List Rec) (i : Nat) : (ahead t ls i).length ≤ ls.length := Nat.le_trans (List.length_filter_le _ _) (by rw [List.length_take]; omega)
theorem Recs.keepB {w w' : World} {A : Option Addr} {n : Nat} {ls : List Rec} (h : Recs w A n ls) (hs : w.heap.size ≤ w'.heap.size) (k : ∀ b o, A = some ⟨b, o, none⟩ → b < w.heap.size → w'.heap[b]? = w.heap[b]?) : Recs w' A n ls :=
  ⟨h.1, fun hn => by
    obtain ⟨b, off, hA, hb, hc⟩ := h.2 hn
    exact ⟨b, off, hA, Nat.lt_of_lt_of_le hb hs, fun i hi => (hc i hi).keep fun j => World.cell?_of_block (a := ⟨b, j, none⟩) (k b off hA hb)⟩⟩
/-- On the way through the log. -/
def UpL (lo : Nat) (t : Int) (Al : Option Addr) (nl : Nat) (ls : List Rec) (w0 : World) (vo vi : Value) (wr : World) : Prop :=
  ∃ i : Nat, vi = .int .i64 (i : Int) ∧ i ≤ nl ∧ wr.ownsRow lo 41 7 vo (ahead t ls i).length (flat7 (ahead t ls i)) ∧ (0 < nl → Recs wr Al nl ls) ∧ (0 < nl → ∀ x b o, vo.ownBlock = some x → Al = some ⟨b, o, none⟩ → x ≠ b) ∧ Up w0 wr
set_option maxHeartbeats 8000000 in
theorem specSeqUpto_any (A : Option Addr) (n c : Nat) (B : Option Addr) (k d : Nat) (m : Mdl) (t : Int) (w : World) (hM : MdlV w A n B k m) :
    Calls Try.prog 11 #[.agg #[.slice A n c, .slice B k d, .int .i64 m.til], .int .i64 t] w fun x w' => UpP w.heap.size (uptoR m t) x w' ∧ Up w w' := by
  obtain ⟨i0, hi0, hz0, hz1, hz2⟩ := info_parts info41
  have INF := Lib.hid (And.intro hi0 (And.intro hz0 (And.intro hz1 hz2)))
  have SEV := Lib.hid (show 0 < 7 by omega)
  clear hi0 hz0 hz1 hz2
  have CA := Lib.hid (fun W (u : Up w W) => specSeqAll_any A n c B k d m W (hM.up u))
  have SM := Lib.hid (allR_small m)
  have RU := Lib.hid (show uptoR m t = ahead t (allR m).log (allR m).log.length by unfold uptoR ahead; rw [List.take_length])
  unfold AllP at CA
  generalize allR m = Z at CA SM RU
  have U0 := Lib.hid (((Up.refl w).alloc (.cells #[.slice A n c, .slice B k d, .int .i64 m.til] 26)).alloc (.cells #[] 41))
  have B1 := Lib.hid ((Box3.new w (.slice A n c) (.slice B k d) (.int .i64 m.til) 26).up ((Up.refl _).alloc (.cells #[] 41)))
  have LT := Lib.hid (IsLitG.new (lo := w.heap.size) (w.alloc (.cells #[.slice A n c, .slice B k d, .int .i64 m.til] 26)) 41 7 (by simp))
  clear hM
  go_enter Try.func11, Try.ntmps11
  obtain ⟨g0, hg0, hrow⟩ := LT.out
  have HG0 := Lib.hid hg0
  have HROW := Lib.hid hrow
  clear hg0 hrow
  go_wp2_with fail
  generalize hW : (w.alloc (.cells #[.slice A n c, .slice B k d, .int .i64 m.til] 26)).alloc (.cells #[] 41) = W at *
  have HGE := Lib.hid (show w.heap.size + 1 = g0 by have h := HG0.out; injection h with h _ _; injection h with h; injection h with h _ _; simpa using h)
  have HGL := Lib.hid (show w.heap.size + 1 < W.heap.size by rw [← hW]; simp)
  clear hW HG0 LT; refine (CA.out _ U0.out).mono ?_; rintro x w1 ⟨⟨Ac, cc, Aw, cw, Al, cl, rfl, sq, hcl, hcm⟩, u1⟩
  have FL := fun W : World => (show (Instr.field 36 (.agg #[.slice Ac Z.comps.length cc, .slice Aw Z.wait.length cw, .slice Al Z.log.length cl]) 2).run Try.prog W = .ok (.slice Al Z.log.length cl) W from rfl)
  have U1 := Lib.hid (U0.out.trans u1)
  have RC := Lib.hid sq.v.log
  have MK := Lib.hid sq.m3
  have ST := Lib.hid (show UpL w.heap.size t Al Z.log.length Z.log w (.slice (some ⟨w.heap.size + 1, 0, none⟩) 0 0) (.int .i64 0) w1 from
    ⟨0, rfl, Nat.zero_le _, by have h := own_up HROW.out u1; rw [← HGE.out] at h; exact h, fun _ => sq.v.log, fun hn x b o hx hb => by
      obtain ⟨g, hA, hl, ho⟩ := sq.m3 hn; rw [hA] at hb
      injection hb with hb
      injection hb with hb _ _
      injection hx with hx
      have hx : w.heap.size + 1 = x := hx
      have := HGL.out
      omega, U1.out⟩)
  clear sq u1 hcl hcm RC MK CA U0 B1 HROW
  go_wp2_with fail
  clear FL
  go_loopw [5, 7] (fun vo vi wr => UpL w.heap.size t Al Z.log.length Z.log w vo vi wr) (fun vo vi _ => Z.log.length - (intOf vi).toNat)
  case atStart => exact ST.out
  case round =>
    obtain ⟨i, rfl, hi, hrow, hrec, hap, hu⟩ := hrel
    have HI := Lib.hid hi
    have HROW := Lib.hid hrow
    have HREC := Lib.hid hrec
    have HAP := Lib.hid hap
    have HU := Lib.hid hu
    clear hi hrow hrec hap hu
    by_cases hil : i < Z.log.length
    · obtain ⟨b, off, hA, hb, hc⟩ := (HREC.out (by omega)).2 (by omega)
      have HA := Lib.hid hA
      have HB := Lib.hid hb
      have hev := hc i hil
      generalize hei : Z.log.getD i default = q at hev
      have HEI := Lib.hid hei
      obtain ⟨⟨z0, z1, z2, z3, z4, z5⟩, z6⟩ := q; obtain ⟨a0, a1, a2, a3, a4, a5, a6⟩ := hev; dsimp only at a0 a1 a2 a3 a4 a5 a6
      have j1 : (i : Int) < (Z.log.length : Int) := by omega
      have j2 : (0 : Int) ≤ (i : Int) := by omega
      have j3 : IntKind.i64.wrap ((i : Int) + 1) = (i : Int) + 1 := IntWalk.i64_in _ (by have := SM.out; omega)
      clear hc hei hb; subst hA
      by_cases ht : z0 < t
      · have HT := Lib.hid ht
        have UA := Lib.hid ((Up.refl wr).alloc (.cells #[.int .i64 z0, .int .i64 z1, .int .i64 z2, .int .i64 z3, .int .i64 z4, .int .i64 z5, .int .i64 z6] 41))
        have RDX := Lib.hid (rec1_new wr z0 z1 z2 z3 z4 z5 z6 41)
        have HR2 := Lib.hid (own_up HROW.out UA.out)
        have LN := Lib.hid (ahead_len t Z.log i)
        have HBS := Lib.hid (show w.heap.size ≤ (wr.alloc (.cells #[.int .i64 z0, .int .i64 z1, .int .i64 z2, .int .i64 z3, .int .i64 z4, .int .i64 z5, .int .i64 z6] 41)).heap.size from (HU.out.trans UA.out).size)
        have J3 := Lib.hid j3
        clear j3
        go_wp2_with (at_builtin; refine wpList_append_any (P := Try.prog) _ rfl (.tmp 26) (.tmp 31) 29 rfl w.heap.size 41 i0 _ 7 56 Try.underlying29 INF.out.1 INF.out.2.1 INF.out.2.2.1 INF.out.2.2.2 rfl SEV.out _ (ahead t Z.log i).length (flat7 (ahead t Z.log i)) rfl HR2.out _ (some ⟨wr.heap.size, 0, none⟩) 1 1 (flat7 [⟨⟨z0, z1, z2, z3, z4, z5⟩, z6⟩]) rfl RDX.out (flat7_one _) (by have := LN.out; have := SM.out; simp only [maxLen]; omega) (by have := LN.out; have := SM.out; omega) HBS.out ?_; intro v6 w6 ho6 hg6 hv6; clear a0 a1 a2 a3 a4 a5 a6; have j3 := J3.out)
        have U2 := Lib.hid (HU.out.trans UA.out)
        refine ⟨⟨i + 1, by first | rfl | go_num, by omega, ?_, fun hn => ((HREC.out hn).up UA.out).keepB hg6.size (fun b' o' hA' hl => hg6.block b' hl (fun e => HAP.out hn b' b' o' e.symm hA' rfl)), fun hn x b' o' hx hA' => ?_, ?_⟩, by simp [intOf]; omega⟩
        · rw [ahead_yes hil (by rw [HEI.out]; exact HT.out), HEI.out, List.length_append, flat7_app]
          exact ho6
        · rcases hv6 with h6 | h6
          · exact HAP.out hn x b' o' (h6 ▸ hx) hA'
          · rw [h6] at hx
            injection hx with hx
            injection hA' with hA'
            injection hA' with hA' _ _
            have h1 := HB.out
            have h2 := UA.out.size
            omega
        · exact ⟨hg6.os.trans U2.out.below.os, hg6.tape.trans U2.out.below.tape, hg6.output.trans U2.out.below.output, Nat.le_trans U2.out.size hg6.size, fun k hk => (hg6.block k (Nat.lt_of_lt_of_le hk U2.out.size) (fun e => by have := own_ge HR2.out k e.symm; omega)).trans (U2.out.below.block k hk)⟩
      · have HT := Lib.hid ht
        go_wp2
        go_roundw
        case rel => exact ⟨i + 1, by first | rfl | go_num, by omega, by rw [ahead_no hil (by rw [HEI.out]; exact HT.out)]; exact HROW.out, HREC.out, HAP.out, HU.out⟩
        case measure => (simp [intOf]; try omega)
    · have j1 : ¬ ((i : Int) < (Z.log.length : Int)) := by omega
      have hie : i = Z.log.length := by have := HI.out; omega
      subst hie; obtain ⟨-, Ao, co, rfl, -, -⟩ := own7_slice HROW.out; go_wp2; go_ret; refine ⟨?_, HU.out⟩; rw [RU.out]
      exact ⟨Ao, co, rfl, own7_recs HROW.out, Mkc.row HROW.out (flat7_int _)⟩
end Go.Proofs.Ytjdoealcmokakaa

namespace Go.Proofs.Ytjdoealcmokakaa
set_option maxRecDepth 100000
open Go.RowKit
theorem upto_split (t : Int) : ∀ ls : List Rec, ls.Pairwise (fun a b => a.ev.t ≤ b.ev.t) → ∃ l1 l2, ls = l1 ++ l2 ∧ (∀ r ∈ l1, r.ev.t < t) ∧ (∀ r ∈ l2, t ≤ r.ev.t) ∧ ls.filter (fun r => decide (r.ev.t < t)) = l1
  | [], _ => ⟨[], [], rfl, (fun r hr => by cases hr), (fun r hr => by cases hr), rfl⟩
  | a :: r, h => by
    have h1 := List.pairwise_cons.1 h
    by_cases ha : a.ev.t < t
    · obtain ⟨l1, l2, e1, e2, e3, e4⟩ := upto_split t r h1.2
      refine ⟨a :: l1, l2, by rw [e1]; rfl, fun q hq => ?_, e3, ?_⟩
      · rcases List.mem_cons.1 hq with rfl | hq
        · exact ha
        · exact e2 q hq
      · rw [List.filter_cons, if_pos (by simpa using ha), e4]
    · refine ⟨[], a :: r, rfl, (fun q hq => by cases hq), fun q hq => ?_, ?_⟩
      · rcases List.mem_cons.1 hq with rfl | hq
        · omega
        · have := h1.1 q hq
          omega
      · rw [List.filter_eq_nil_iff]
        intro q hq
        rcases List.mem_cons.1 hq with rfl | hq
        · simpa using ha
        · have := h1.1 q hq
          simp only [decide_eq_true_eq]
          omega
/-- All that is done lies ahead of the end. -/
def TilI (m : Mdl) (s : Sq) : Prop := ∀ r ∈ s.log, r.ev.t ≤ m.til
theorem run_til {m : Mdl} {N : Nat} {Z s : Sq} (h : Run m N Z s) (ht : TilI m s) : TilI m Z := by
  obtain ⟨j, hj, hz⟩ := h.last; clear hj
  induction j generalizing s with
  | zero => exact hz ▸ ht
  | succ j ih =>
    unfold runS at hz
    rcases hw : s.wait with _ | ⟨e, r⟩
    · rw [hw] at hz
      exact hz ▸ ht
    · rw [hw] at hz
      refine ih (h.step hw) (fun q hq => ?_) hz
      have hk := h.go.tak e (by rw [hw]; exact List.mem_cons_self)
      unfold takB at hk; simp only [Bool.and_eq_true, decide_eq_true_eq] at hk; unfold stpS at hq; rw [hw] at hq
      rcases List.mem_append.1 hq with hq | hq
      · exact ht q hq
      · obtain rfl : q = ⟨e, (doE m (s.comps.getD e.to.toNat default) e).1.s⟩ := by simpa using hq
        exact hk.2
theorem allR_til (m : Mdl) : ∀ r ∈ (allR m).log, r.ev.t ≤ m.til := by
  cases hm : mdlB m
  · have : allR m = ⟨[], [], []⟩ := by unfold allR; rw [if_neg (by rw [hm]; exact Bool.false_ne_true)]
    rw [this]; intro r hr
    cases hr
  · exact run_til (run0 hm) (fun r hr => by rw [sq0_yes hm] at hr; cases hr)
/-- What FnSeqUpto asks of the lists. -/
structure UptoAll (m : Mdl) (t : Int) : Prop where
  few : (uptoR m t).length ≤ (allR m).log.length
  take : (allR m).log.take (uptoR m t).length = uptoR m t
  next : (uptoR m t).length < (allR m).log.length → t ≤ ((allR m).log.getD (uptoR m t).length default).ev.t
  last : 0 < (uptoR m t).length → ((uptoR m t).getD ((uptoR m t).length - 1) default).ev.t < t
  more : (uptoR m t).length ≤ (uptoR m (t + 1)).length
  all : uptoR m (m.til + 1) = (allR m).log
theorem upto_all (m : Mdl) (t : Int) : UptoAll m t := by
  obtain ⟨l1, l2, e1, e2, e3, e4⟩ := upto_split t _ (allR_time m)
  have e5 : uptoR m t = l1 := e4
  refine ⟨?_, ?_, fun h => ?_, fun h => ?_, ?_, ?_⟩
  · rw [e5, e1, List.length_append]
    omega
  · rw [e5, e1]
    simp
  · rw [e5] at h ⊢
    rw [e1, List.length_append] at h
    have hl : 0 < l2.length := by omega
    have : (allR m).log.getD l1.length default = l2[0] := by
      rw [e1, List.getD, List.getElem?_append_right (Nat.le_refl _), Nat.sub_self]; simp [hl]
    rw [this]
    exact e3 _ (List.getElem_mem hl)
  · rw [e5] at h ⊢
    have hj : l1.length - 1 < l1.length := by omega
    have : l1.getD (l1.length - 1) default = l1[l1.length - 1] := by simp [List.getD, hj]
    rw [this]
    exact e2 _ (List.getElem_mem hj)
  · unfold uptoR
    have : (allR m).log.filter (fun r => decide (r.ev.t < t)) = ((allR m).log.filter (fun r => decide (r.ev.t < t + 1))).filter (fun r => decide (r.ev.t < t)) := by
      rw [List.filter_filter]; refine List.filter_congr (fun r _ => ?_); rw [Bool.eq_iff_iff]; simp only [Bool.and_eq_true, decide_eq_true_eq]
      omega
    rw [this]
    exact List.length_filter_le _ _
  · exact List.filter_eq_self.2 (fun r hr => decide_eq_true (by have := allR_til m r hr; omega))
end Go.Proofs.Ytjdoealcmokakaa

namespace Go.Proofs.Ytjdoealcmokakaa
set_option maxRecDepth 100000
open Go.RowKit
theorem uptoR_few (m : Mdl) (t : Int) : (uptoR m t).length ≤ 54 := Nat.le_trans (List.length_filter_le _ _) (allR_small m).2.2
theorem uptoR_bad {m : Mdl} (h : mdlB m = false) (t : Int) : uptoR m t = [] := by
  unfold uptoR allR; rw [if_neg (by rw [h]; exact Bool.false_ne_true)]
  rfl
set_option maxHeartbeats 8000000 in
theorem walkUpto {w : World} (A : Option Addr) (n cap : Nat) (hc : n ≤ cap) (hmax : cap ≤ 9223372036854775807) (hB : Bys w A n w.heap.size) :
    Calls Try.prog 3 #[.slice A n cap] w fun x w' => x = .returned (.bool true) ∧ Up w w' := by
  have HB := Lib.hid hB
  clear hB
  by_cases h : 1048576 < n
  · have h' : (1048576 : Int) < n := by omega
    go_enter Try.func3, Try.ntmps3
    go_wp2; go_ret
    exact ⟨rfl, Up.refl _⟩
  · have h' : ¬ (1048576 : Int) < n := by omega
    go_enter Try.func3, Try.ntmps3
    go_wp2_with fail
    refine (drawUt_any A n cap _ hc hmax HB.out).mono ?_; rintro x w1 ⟨A, n, c, B, k, d, m, t, rfl, MV, ⟨hn, hnc, hcm⟩, ⟨ht0, ht1⟩, ⟨hm0, hm1⟩, u1⟩
    have MV1 := Lib.hid MV
    have HU1 := Lib.hid u1
    clear HB h h' hc hmax u1
    have UA := upto_all m t
    have CI := Lib.hid (fun W (u : Up w1 W) => implSeqUpto_any A n c B k d m t W (MV.up u))
    have CP := Lib.hid (fun W (u : Up w1 W) => specSeqUpto_any A n c B k d m t W (MV.up u))
    have CJ := Lib.hid (fun W (u : Up w1 W) => implSeqUpto_any A n c B k d m (t + 1) W (MV.up u))
    have CL := Lib.hid (fun W (u : Up w1 W) => implSeqUpto_any A n c B k d m (m.til + 1) W (MV.up u))
    have CA := Lib.hid (fun W (u : Up w1 W) => implSeqAll_any A n c B k d m W (MV.up u))
    have CM := Lib.hid (fun W (u : Up w1 W) => specMdl_any A n c B k d m W (MV.up u))
    have BAD := Lib.hid (fun h => uptoR_bad (m := m) h t)
    have F1 := uptoR_few m t
    have F2 := uptoR_few m (t + 1)
    have F3 := (allR_small m).2.2
    obtain ⟨ua1, ua2, ua3, ua4, ua5, ua6⟩ := UA; rw [ua6] at CL; unfold UpP at CI CP CJ CL; unfold AllP at CA
    generalize allR m = S at *
    generalize uptoR m t = L at *
    generalize uptoR m (t + 1) = L1 at *
    generalize hnl : L.length = nl at *
    generalize hna : S.log.length = na at *
    generalize L1.length = n1 at *
    have LA := Lib.hid hna
    have LL := Lib.hid hnl
    have UA2 := Lib.hid ua2
    have UA3 := Lib.hid ua3
    have UA4 := Lib.hid ua4
    clear ua2 ua3 ua4 ua6 hna hnl MV
    have CT := Lib.hid (fun A B ca cb W h1 h2 => tbRecs_same A B nl ca cb L W (by omega) h1 h2)
    have CU := Lib.hid (fun A B ca cb W h1 h2 => tbRecs_same A B na ca cb S.log W (by omega) h1 h2)
    have i1 : IntKind.i64.wrap (t + 1) = t + 1 := IntWalk.i64_in _ (by omega)
    have i2 : IntKind.i64.wrap (m.til + 1) = m.til + 1 := IntWalk.i64_in _ (by omega)
    have B3 := Lib.hid (Blk.new w1 #[.slice A n c, .slice B k d, .int .i64 m.til] 26)
    have U3 := Lib.hid ((Up.refl w1).alloc (.cells #[.slice A n c, .slice B k d, .int .i64 m.til] 26))
    go_wp2_with fail
    generalize w1.alloc (.cells #[.slice A n c, .slice B k d, .int .i64 m.til] 26) = W3 at *
    generalize hb3 : w1.heap.size = b3 at *
    clear hb3; refine (CI.out _ U3.out).mono ?_; rintro x w4 ⟨⟨Al, cl, rfl, VI, -⟩, u4⟩
    have U5 := Lib.hid (U3.out.trans u4)
    have B3 := Lib.hid (B3.out.up u4)
    have V1 := Lib.hid VI
    clear u4 VI U3; obtain ⟨m0, m1, m2⟩ := And.intro (B3.out.cell (j := 0) rfl) (And.intro (B3.out.cell (j := 1) rfl) (B3.out.cell (j := 2) rfl))
    have lt3_ := B3.out.lt
    go_wp2_with fail
    refine (CP.out _ U5.out).mono ?_; rintro x wA ⟨⟨Bl, dl, rfl, VP, -⟩, uA⟩
    have V1 := Lib.hid (V1.out.up uA)
    have VP := Lib.hid VP
    clear m0 m1 m2 lt3_
    go_wp2_with fail
    refine (CT.out _ _ _ _ _ V1.out VP.out).mono ?_; rintro x wB ⟨rfl, uB⟩
    have U5 := Lib.hid (U5.out.trans (uA.trans uB))
    have B3 := Lib.hid (B3.out.up (uA.trans uB))
    have V1 := Lib.hid (V1.out.up uB)
    clear VP uA uB; obtain ⟨m0, m1, m2⟩ := And.intro (B3.out.cell (j := 0) rfl) (And.intro (B3.out.cell (j := 1) rfl) (B3.out.cell (j := 2) rfl))
    have lt3_ := B3.out.lt
    generalize hmb : mdlB m = mb at CM
    have HMB := Lib.hid hmb
    clear hmb
    go_wp2_with fail
    refine (CM.out _ U5.out).mono ?_; rintro x w6 ⟨rfl, u6⟩
    have U5 := Lib.hid (U5.out.trans u6)
    have B3 := Lib.hid (B3.out.up u6)
    have V1 := Lib.hid (V1.out.up u6)
    clear u6 m0 m1 m2 lt3_
    cases mb
    · have e0 : nl = 0 := by rw [← LL.out, BAD.out HMB.out]; rfl
      subst e0
      go_wp2_with fail
      refine (tbOk_any _).mono ?_; rintro x w9 ⟨rfl, u9⟩; go_wp2; go_ret
      exact ⟨rfl, HU1.out.trans (U5.out.trans u9)⟩
    · obtain ⟨m0, m1, m2⟩ := And.intro (B3.out.cell (j := 0) rfl) (And.intro (B3.out.cell (j := 1) rfl) (B3.out.cell (j := 2) rfl))
      have lt3_ := B3.out.lt
      go_wp2_with fail
      refine (CA.out _ U5.out).mono ?_; rintro x w7 ⟨⟨Ac, cc, Aw, cw, Ag, cg, rfl, own, hcap, hcapm⟩, u7⟩
      have U5 := Lib.hid (U5.out.trans u7)
      have B3 := Lib.hid (B3.out.up u7)
      have V1 := Lib.hid (V1.out.up u7)
      have V2 := Lib.hid own.v.log
      clear u7 own m0 m1 m2 lt3_
      have FL := fun W : World => (show (Instr.field 36 (.agg #[.slice Ac S.comps.length cc, .slice Aw S.wait.length cw, .slice Ag na cg]) 2).run Try.prog W = .ok (.slice Ag na cg) W from rfl)
      obtain ⟨m0, m1, m2⟩ := And.intro (B3.out.cell (j := 0) rfl) (And.intro (B3.out.cell (j := 1) rfl) (B3.out.cell (j := 2) rfl))
      have lt3_ := B3.out.lt
      go_wp2_with fail
      refine (CJ.out _ U5.out).mono ?_; rintro x w8 ⟨⟨Bm, bm, rfl, VM, -⟩, u8⟩
      have U5 := Lib.hid (U5.out.trans u8)
      have B3 := Lib.hid (B3.out.up u8)
      have V1 := Lib.hid (V1.out.up u8)
      have V2 := Lib.hid (V2.out.up u8)
      clear u8 VM m0 m1 m2 lt3_ FL
      have VT := Lib.hid (show Recs w8 Ag nl L by have := V2.out.take nl ua1; rwa [UA2.out] at this)
      have g1 : (nl : Int) ≤ (na : Int) := by omega
      have g2 : (n1 : Int) ≥ (nl : Int) := by omega
      have g3 : (nl : Int) ≤ (cg : Int) := by omega
      by_cases hq : nl = na
      · subst hq
        by_cases hz : nl = 0
        · subst hz
          go_wp2_with fail
          refine (CT.out _ _ _ _ _ VT.out V1.out).mono ?_; rintro x wA ⟨rfl, uA⟩; obtain ⟨m0, m1, m2⟩ := And.intro ((B3.out.up uA).cell (j := 0) rfl) (And.intro ((B3.out.up uA).cell (j := 1) rfl) ((B3.out.up uA).cell (j := 2) rfl))
          have lt3_ := (B3.out.up uA).lt
          have UA := Lib.hid uA
          clear uA
          go_wp2_with fail
          refine (CL.out _ (U5.out.trans UA.out)).mono ?_; rintro x wC ⟨⟨Cl, el, rfl, VC, -⟩, uC⟩
          have VC := Lib.hid VC
          have UC := Lib.hid (UA.out.trans uC)
          clear uC m0 m1 m2 lt3_
          go_wp2_with fail
          refine (CU.out _ _ _ _ _ VC.out (V2.out.up UC.out)).mono ?_; rintro x wD ⟨rfl, uD⟩; go_wp2; go_ret
          exact ⟨rfl, HU1.out.trans (U5.out.trans (UC.out.trans uD))⟩
        · obtain ⟨j, rfl⟩ : ∃ j, nl = j + 1 := ⟨nl - 1, by omega⟩
          obtain ⟨bH, oH, rfl, LH, VH⟩ := V1.out.2 (by omega)
          have VH := Lib.hid (fun W (u : Up w8 W) => ((VH j (by omega)).up u LH).1)
          have LH := Lib.hid LH
          have u4 := UA4.out (by omega)
          simp only [Nat.add_sub_cancel] at u4
          generalize (L.getD j default).ev.t = tb at VH u4
          have g5 : ¬ ((j : Int) + 1 = 0) := by omega
          have i3 : IntKind.i64.wrap ((j : Int) + 1 - 1) = (j : Int) := by rw [show (j : Int) + 1 - 1 = (j : Int) by omega]; exact IntWalk.i64_in _ (by omega)
          have i4 : (j : Int) + 1 - 1 = (j : Int) := by omega
          have i5 : IntKind.i64.wrap (j : Int) = (j : Int) := IntWalk.i64_in _ (by omega)
          have g6 : (j : Int) < (j : Int) + 1 := by omega
          go_wp2_with fail
          refine (CT.out _ _ _ _ _ VT.out V1.out).mono ?_; rintro x wA ⟨rfl, uA⟩
          have a1 := VH.out _ uA
          have ltH := Nat.lt_of_lt_of_le LH.out uA.size
          obtain ⟨m0, m1, m2⟩ := And.intro ((B3.out.up uA).cell (j := 0) rfl) (And.intro ((B3.out.up uA).cell (j := 1) rfl) ((B3.out.up uA).cell (j := 2) rfl))
          have lt3_ := (B3.out.up uA).lt
          have UA := Lib.hid uA
          clear uA
          go_wp2_with fail
          refine (CL.out _ (U5.out.trans UA.out)).mono ?_; rintro x wC ⟨⟨Cl, el, rfl, VC, -⟩, uC⟩
          have VC := Lib.hid VC
          have UC := Lib.hid (UA.out.trans uC)
          clear uC m0 m1 m2 lt3_ a1 ltH
          go_wp2_with fail
          refine (CU.out _ _ _ _ _ VC.out (V2.out.up UC.out)).mono ?_; rintro x wD ⟨rfl, uD⟩; go_wp2; go_ret
          exact ⟨rfl, HU1.out.trans (U5.out.trans (UC.out.trans uD))⟩
      · by_cases hz : nl = 0
        · subst hz
          obtain ⟨bG, oG, rfl, LG, VG⟩ := V2.out.2 (by omega)
          have VG := Lib.hid (fun W (u : Up w8 W) => ((VG 0 (by omega)).up u LG).1)
          have LG := Lib.hid LG
          have u3 := UA3.out (by omega)
          generalize (S.log.getD 0 default).ev.t = ta at VG u3
          have g4 : ¬ (0 = (na : Int)) := by omega
          have g7 : 0 < (na : Int) := by omega
          go_wp2_with fail
          refine (CT.out _ _ _ _ _ VT.out V1.out).mono ?_; rintro x wA ⟨rfl, uA⟩
          have a0 := VG.out _ uA
          simp only [Nat.zero_mul, Nat.add_zero] at a0
          have ltG := Nat.lt_of_lt_of_le LG.out uA.size
          obtain ⟨m0, m1, m2⟩ := And.intro ((B3.out.up uA).cell (j := 0) rfl) (And.intro ((B3.out.up uA).cell (j := 1) rfl) ((B3.out.up uA).cell (j := 2) rfl))
          have lt3_ := (B3.out.up uA).lt
          have UA := Lib.hid uA
          clear uA
          go_wp2_with fail
          refine (CL.out _ (U5.out.trans UA.out)).mono ?_; rintro x wC ⟨⟨Cl, el, rfl, VC, -⟩, uC⟩
          have VC := Lib.hid VC
          have UC := Lib.hid (UA.out.trans uC)
          clear uC m0 m1 m2 lt3_ a0 ltG
          go_wp2_with fail
          refine (CU.out _ _ _ _ _ VC.out (V2.out.up UC.out)).mono ?_; rintro x wD ⟨rfl, uD⟩; go_wp2; go_ret
          exact ⟨rfl, HU1.out.trans (U5.out.trans (UC.out.trans uD))⟩
        · obtain ⟨bG, oG, rfl, LG, VG⟩ := V2.out.2 (by omega)
          have VG := Lib.hid (fun W (u : Up w8 W) => ((VG nl (by omega)).up u LG).1)
          have LG := Lib.hid LG
          have u3 := UA3.out (by omega)
          generalize (S.log.getD nl default).ev.t = ta at VG u3
          have g4 : ¬ ((nl : Int) = (na : Int)) := by omega
          have g7 : (nl : Int) < (na : Int) := by omega
          obtain ⟨j, rfl⟩ : ∃ j, nl = j + 1 := ⟨nl - 1, by omega⟩; obtain ⟨bH, oH, rfl, LH, VH⟩ := V1.out.2 (by omega)
          have VH := Lib.hid (fun W (u : Up w8 W) => ((VH j (by omega)).up u LH).1)
          have LH := Lib.hid LH
          have u4 := UA4.out (by omega)
          simp only [Nat.add_sub_cancel] at u4
          generalize (L.getD j default).ev.t = tb at VH u4
          have g5 : ¬ ((j : Int) + 1 = 0) := by omega
          have i3 : IntKind.i64.wrap ((j : Int) + 1 - 1) = (j : Int) := by rw [show (j : Int) + 1 - 1 = (j : Int) by omega]; exact IntWalk.i64_in _ (by omega)
          have i4 : (j : Int) + 1 - 1 = (j : Int) := by omega
          have i5 : IntKind.i64.wrap (j : Int) = (j : Int) := IntWalk.i64_in _ (by omega)
          have g6 : (j : Int) < (j : Int) + 1 := by omega
          go_wp2_with fail
          refine (CT.out _ _ _ _ _ VT.out V1.out).mono ?_; rintro x wA ⟨rfl, uA⟩
          have a0 := VG.out _ uA
          have ltG := Nat.lt_of_lt_of_le LG.out uA.size
          have a1 := VH.out _ uA
          have ltH := Nat.lt_of_lt_of_le LH.out uA.size
          obtain ⟨m0, m1, m2⟩ := And.intro ((B3.out.up uA).cell (j := 0) rfl) (And.intro ((B3.out.up uA).cell (j := 1) rfl) ((B3.out.up uA).cell (j := 2) rfl))
          have lt3_ := (B3.out.up uA).lt
          have UA := Lib.hid uA
          clear uA
          go_wp2_with fail
          refine (CL.out _ (U5.out.trans UA.out)).mono ?_; rintro x wC ⟨⟨Cl, el, rfl, VC, -⟩, uC⟩
          have VC := Lib.hid VC
          have UC := Lib.hid (UA.out.trans uC)
          clear uC m0 m1 m2 lt3_ a0 ltG a1 ltH
          go_wp2_with fail
          refine (CU.out _ _ _ _ _ VC.out (V2.out.up UC.out)).mono ?_; rintro x wD ⟨rfl, uD⟩; go_wp2; go_ret
          exact ⟨rfl, HU1.out.trans (U5.out.trans (UC.out.trans uD))⟩
end Go.Proofs.Ytjdoealcmokakaa

namespace Go.Proofs.Ytjdoealcmokakaa.fnSeqUpto
set_option maxRecDepth 100000
open Go.ChangeShapes Go.WideShapes Go.ChangeAt Go.RowKit Go.Joins Go.Deep
set_option linter.unusedVariables false
set_option maxRecDepth 100000 in
theorem lifted (os : Os) (started : os.Started) (H : Type) (enc : TypeId × Value → H) :
    ReturnsInHanded {} Try.checked os 3 .any (Rows.fnSeqUptoSpec.pre6 enc Try.prog Try.f3 Rows.fnSeqUptoRow.domain false) (Rows.fnSeqUptoSpec.post enc Try.prog Try.f3 false true false false) := by
  refine returnsInHanded_of_change (C := Try.checked) own started (by kernel_rfl) Try.func3
    (ChangeSpec.witness6 (enc := enc) (C := Try.checked) false ⟨#[], #[.slice none 0 0], []⟩ 8 (by kernel_rfl) (by kernel_rfl) (by kernel_rfl) (by kernel_rfl)) ?_
  intro W base args ds gs before hval0 hW hcnd _
  have hval : ∀ (j : Nat) t v, Try.f3.params[j]? = some t → args[j]? = some v → Value.okWide Try.prog W .any base t v := hval0
  have hW' := hW
  obtain ⟨p, q, hA0, hV, rfl, hfz, hnd⟩ := hW
  have hA : DataW.TrodAll enc Try.prog W 0 (fun _ => true) true Try.f3.params.toList args.toList ds p := hA0
  rw [Try.params3] at hA hval; obtain ⟨v0, vs0, d0, ds0, p0, q0, hargs, rfl, rfl, h0, r0⟩ := trodAll_cons hA; obtain ⟨rfl, rfl, rfl⟩ := trodAll_nil r0
  obtain rfl : args = #[v0] := by cases args; simp_all
  obtain ⟨rfl, rfl⟩ := trodVars_none hV
  have k0 := h0
  have lt0 : ∀ x ∈ p0, x.block < W.heap.size := by obtain ⟨m, hm⟩ := k0; exact DataW.trod_lt m _ _ _ hm
  obtain ⟨A0, len0, cap0, rfl⟩ := okWide_slice Try.underlying22 (hval 0 22 v0 rfl rfl)
  have w0 := open_bytes h0
  clear hA0 hval0
  refine (walkUpto A0 len0 cap0 w0.2.1 w0.2.2 w0.1).mono fun e W' ⟨he, bel⟩ => ?_
  subst he
  exact ⟨_, rfl, _, _, _, [], _, [], hW', trodAll_mk1 (shut_bool Try.underlying4 _), (trodAll_cons_mk (Below.trod laidOut (by kernel_rfl) (of_decide_eq_true (by kernel_rfl)) k0 bel lt0) trodAll_mk0), rfl, bel.frame _, fun h => by cases h⟩
theorem over : Rows.fnSeqUptoRow.holds Try.pinned (OpenSpec.ofChange Rows.fnSeqUptoSpec) :=
  OpenClaim.holds_of_wide 3 Try.f3 rfl rfl rfl rfl rfl rfl rfl ⟨rfl, rfl, rfl, rfl, rfl⟩ rfl rfl rfl rfl rfl (by kernel_rfl) Try.func3 (by kernel_rfl)
    (of_decide_eq_true (by kernel_rfl)) (by unfold Func.isWrapper; first | (rw [if_pos (by decide +kernel)]; kernel_rfl) | (rw [if_neg (by decide +kernel)]; exact ⟨rfl, rfl⟩))
    (fun os started H enc _ => lifted os started H enc)
theorem proved : Rows.FnSeqUptoSaid := over
end Go.Proofs.Ytjdoealcmokakaa.fnSeqUpto

/-
  What eventsOf, every and records return, in one sentence: the records' events in a new slice, and whether all are as they ought to be; for every list that lies in memory.
  What it means that a simulator is one, in one sentence: two ways to say it agree; no condition is made.
  What holds of a valid host of a conservative simulation, in one sentence: its bounds, its pending events and its records as the checks take them, in the program's order and in the reference's; for every host.
  The least of a number and a list, in one sentence: step by step; for every list.
  What spec.CmbSafe returns, in one sentence: the least bound of a host, or -1; for every model, every simulation and every number, all in memory.
  The conservative simulation that has done nothing, in one sentence: it is valid, its safe times are zero, and its pending events are as many as the model's; for every valid model.
  What newMachine returns, in one sentence: false for a model that is none; else a new map with the model's rules, their number and its end; for every model that lies in memory.
  What impl.CmbLook gives, in one sentence: the least delay of the first component's sends to the second, but at most the end and one, and -1 for a model that is none or a component that does not exist; for every model that lies in memory.
-/
import Derived.ProofKit
import Derived.Test.YtklldniapombiaaDLCbn05
import Derived.Test.YtklldniapombiaaDLCbn06
import Derived.Test.YtklldniapombiaaDLCbn08
import Derived.Test.YtklldniapombiaaDLCbn13
import Derived.Test.YtklldniapombiaaDLCbn14
import Derived.Test.YtklldniapombiaaDLCbn16
import Derived.Test.YtklldniapombiaaDLCbn17
import Derived.Test.YtklldniapombiaaDLCbn18
import Derived.Test.YtklldniapombiaaDLCbn22
namespace Go.Proofs.Ytklldniapombiaa
set_option maxRecDepth 100000
open Go.RowKit
theorem cells_new (w : World) (xs : Array Value) (t : TypeId) (j : Nat) : (w.alloc (.cells xs t)).cell? ⟨w.heap.size, j, none⟩ = xs[j]? := by
  rw [cell_of_row _ _ j _ _ _ (heap_alloc_new _ _)]
theorem records_any (mp : Option Nat) (many til : Int) (r : Rec) (w : World) :
    Calls Try.prog 135 #[.agg #[.map mp, .int .i64 many, .int .i64 til], r.v] w fun z w' => z = .returned (.bool (recB many r)) ∧ Up w w' := by
  unfold recB
  have OC := Lib.hid (fun W => implOk_any r.ev many W)
  generalize okB r.ev many = b at OC ⊢
  obtain ⟨⟨et, eto, efr, esq, ekd, edt⟩, s⟩ := r
  have X3 := Lib.hid ((Box3.new w (.map mp) (.int .i64 many) (.int .i64 til) 109).up ((Up.refl _).alloc (.cells #[.int .i64 et, .int .i64 eto, .int .i64 efr, .int .i64 esq, .int .i64 ekd, .int .i64 edt, .int .i64 s] 180)))
  have c6 := cells_new (w.alloc (.cells #[.map mp, .int .i64 many, .int .i64 til] 109)) #[.int .i64 et, .int .i64 eto, .int .i64 efr, .int .i64 esq, .int .i64 ekd, .int .i64 edt, .int .i64 s] 180 6
  simp only [World.size_alloc] at c6
  have c6 : ((w.alloc (.cells #[.map mp, .int .i64 many, .int .i64 til] 109)).alloc (.cells #[.int .i64 et, .int .i64 eto, .int .i64 efr, .int .i64 esq, .int .i64 ekd, .int .i64 edt, .int .i64 s] 180)).cell? ⟨w.heap.size + 1, 6, none⟩ = some (.int .i64 s) := c6
  have UA := Lib.hid (((Up.refl w).alloc (.cells #[.map mp, .int .i64 many, .int .i64 til] 109)).alloc (.cells #[.int .i64 et, .int .i64 eto, .int .i64 efr, .int .i64 esq, .int .i64 ekd, .int .i64 edt, .int .i64 s] 180))
  unfold Rec.v; unfold Evt.v at OC; dsimp only at OC ⊢
  go_enter Try.func135, Try.ntmps135
  go_wp2_with fail
  have hs1 : w.heap.size + 1 < ((w.alloc (.cells #[.map mp, .int .i64 many, .int .i64 til] 109)).alloc (.cells #[.int .i64 et, .int .i64 eto, .int .i64 efr, .int .i64 esq, .int .i64 ekd, .int .i64 edt, .int .i64 s] 180)).heap.size := by simp
  generalize (w.alloc (.cells #[.map mp, .int .i64 many, .int .i64 til] 109)).alloc (.cells #[.int .i64 et, .int .i64 eto, .int .i64 efr, .int .i64 esq, .int .i64 ekd, .int .i64 edt, .int .i64 s] 180) = W at *
  refine (OC.out _).mono ?_; rintro v w1 ⟨rfl, u1⟩
  have c6 := (u1.cells _ _ hs1).trans c6
  have U := Lib.hid (UA.out.trans u1)
  have X3 := Lib.hid (X3.out.up u1)
  obtain ⟨b0, b1, b2⟩ := And.intro X3.out.c0 (And.intro X3.out.c1 X3.out.c2); clear u1
  cases b
  · go_wp2
    go_ret
    exact ⟨rfl, U.out⟩
  · go_wp2_with (go_at_call 73; refine (within_any _ _ _ _).mono ?_; rintro e w' ⟨rfl, rfl⟩)
    go_ret
    exact ⟨ret_bool (by simp), U.out⟩
set_option maxHeartbeats 2000000 in
theorem eventsOf_any (A : Option Addr) (n cap : Nat) (xs : List Rec) (w : World) (hn : n ≤ 1048576) (hE : Recs w A n xs) :
    Calls Try.prog 131 #[.slice A n cap] w fun x w' => ∃ g, x = .returned (.slice (some ⟨g, 0, none⟩) n n) ∧ w.heap.size ≤ g ∧ Evs w' (some ⟨g, 0, none⟩) n (xs.map (·.ev)) ∧ Up w w' := by
  obtain ⟨i0, hi, hz0, hz1, hz2⟩ := info_parts info74
  have hmk := fun W => run_make_rowN (P := Try.prog) 34 74 i0 _ Try.underlying34 hi hz0 .i64 .i64 n n (Nat.le_refl _) (by rw [hz2]; omega) (by omega) W
  rw [hz1] at hmk
  have HE := Lib.hid hE
  have LE := Lib.hid hE.1
  clear hE hi hz0 hz1 hz2
  go_enter Try.func131, Try.ntmps131
  go_wp2
  generalize hg : w.heap.size = g
  have HG := Lib.hid (Nat.le_of_eq hg)
  go_loopw [11] (fun i wr => (∃ k : Nat, k ≤ n ∧ i = .int .i64 k ∧ RowsTo wr g n 6 k (fun i j => (xs.getD i default).ev.l.getD j 0)) ∧ Up w wr) (fun i _ => n - (intOf i).toNat)
  case atStart =>
    refine ⟨⟨0, by omega, rfl, ?_⟩, (Up.refl _).alloc _⟩; subst hg
    exact RowsTo.start w n 6 #[.int .i64 0, .int .i64 0, .int .i64 0, .int .i64 0, .int .i64 0, .int .i64 0] 74 _ (fun j hj => by
      have h : j = 0 ∨ j = 1 ∨ j = 2 ∨ j = 3 ∨ j = 4 ∨ j = 5 := by simp at hj; omega
      rcases h with rfl | rfl | rfl | rfl | rfl | rfl <;> rfl) (by simp)
  case round =>
    obtain ⟨⟨k, hk, rfl, hp⟩, ur⟩ := hrel
    have HP := Lib.hid hp
    have UR := Lib.hid ur
    by_cases hlt : k < n
    · obtain ⟨b, off, hA, hb, hc⟩ := HE.out.2 (by omega)
      subst hA
      have a0 := (hc k hlt).up ur hb
      have hb' : b < wr.heap.size := by have := ur.size; omega
      clear hc hp ur
      have SX := Lib.hid (fun W (h : RowsTo W g n 6 k (fun i j => (xs.getD i default).ev.l.getD j 0)) => h.step hlt ((xs.getD k default).ev.l.getD · 0) (fun j _ => rfl))
      generalize xs.getD k default = p at a0 SX
      unfold RecAt at a0; obtain ⟨p0, p1, p2, p3, p4, p5, p6⟩ := a0; obtain ⟨⟨pt, pto, pfr, psq, pkd, pdt⟩, ps⟩ := p; dsimp only at p0 p1 p2 p3 p4 p5 p6 SX
      have i4 : (k : Int) < n := by omega
      have ua := (Up.refl wr).alloc (.cells #[.int .i64 pt, .int .i64 pto, .int .i64 pfr, .int .i64 psq, .int .i64 pkd, .int .i64 pdt, .int .i64 ps] 180)
      have P := HP.out.up ua
      obtain ⟨⟨⟨v0, c0⟩, f0⟩, ⟨⟨v1, c1⟩, f1⟩, ⟨⟨v2, c2⟩, f2⟩, ⟨⟨v3, c3⟩, f3⟩, ⟨⟨v4, c4⟩, f4⟩, ⟨⟨v5, c5⟩, f5⟩⟩ := And.intro (P.1.2 (k * 6) (by omega)) (And.intro (P.1.2 (k * 6 + 1) (by omega)) (And.intro (P.1.2 (k * 6 + 2) (by omega)) (And.intro (P.1.2 (k * 6 + 3) (by omega)) (And.intro (P.1.2 (k * 6 + 4) (by omega)) (P.1.2 (k * 6 + 5) (by omega))))))
      have NX := Lib.hid (SX.out _ P)
      have UX := Lib.hid (((UR.out.trans ua).putF HG.out (k * 6) (([pt, pto, pfr, psq, pkd, pdt] : List Int).getD · 0) 6))
      simp only [putF, Evt.l, Nat.add_zero, List.getD_cons_zero, List.getD_cons_succ] at NX UX
      have hgl := P.1.1
      clear P SX ua
      go_wp2_with fail
      go_roundw
      case rel => exact ⟨⟨k + 1, by omega, by go_num, NX.out⟩, UX.out⟩
      case measure => simp [intOf]; omega
    · obtain rfl : k = n := by omega
      have i4 : ¬ (k : Int) < k := by omega
      clear hp ur; go_wp2; go_ret; refine ⟨g, rfl, by have := HG.out; omega, ⟨by rw [List.length_map]; exact LE.out, fun _ => ⟨g, 0, rfl, HP.out.1.1, fun i hi => ?_⟩⟩, UR.out⟩
      have h := HP.out.2 i hi
      have e : (xs.map (·.ev)).getD i default = (xs.getD i default).ev := by simp [List.getD, show i < xs.length by rw [LE.out]; exact hi]
      rw [e, Nat.zero_add]
      exact ⟨h 0 (by omega), h 1 (by omega), h 2 (by omega), h 3 (by omega), h 4 (by omega), h 5 (by omega)⟩
end Go.Proofs.Ytklldniapombiaa

namespace Go.Proofs.Ytklldniapombiaa
set_option maxRecDepth 100000
open Go.RowKit
/-- Is the event behind the one ahead of it, if there is one? -/
def behind : Option Evt → Evt → Bool
  | none, _ => true
  | some q, e => ltE q e
end Go.Proofs.Ytklldniapombiaa

namespace Go.Proofs.Ytklldniapombiaa
set_option maxRecDepth 100000
open Go.RowKit
/-- A bound. -/
def bndB (til z : Int) : Bool := inB z 0 (til + 1)
/-- A pending event. -/
def pndB (many til comp : Int) (e : Evt) : Bool := okB e many && decide (e.t ≤ til) && decide (e.to = comp)
/-- A record. -/
def rcdB (many comp : Int) (r : Rec) : Bool := recB many r && decide (r.ev.to = comp)
/-- A host, as the program checks it. -/
def chB (many : Nat) (til comp : Int) (h : Ch) (log : List Rec) : Bool :=
  cstB h.now && decide (h.ins.length = many) && h.ins.all (bndB til) && riseB (log.map (·.ev) ++ h.wait) && h.wait.all (pndB many til comp) && log.all (rcdB many comp)
/-- All hosts from comp on, with their records. -/
def chsB (many : Nat) (til : Int) : Int → List Ch → List (List Rec) → Bool
  | _, [], _ => true
  | i, h :: hs, ls => chB many til i h (ls.getD 0 []) && chsB many til (i + 1) hs (ls.drop 1)
theorem chsB_drop (many : Nat) (til : Int) (hs : List Ch) (ls : List (List Rec)) (k : Nat) (h : k < hs.length) : chsB many til k (hs.drop k) (ls.drop k) = (chB many til k (hs.getD k default) (ls.getD k []) && chsB many til ((k + 1 : Nat) : Int) (hs.drop (k + 1)) (ls.drop (k + 1))) := by
  rw [List.drop_eq_getElem_cons h, chsB]
  have e1 : hs.getD k default = hs[k] := by simp [List.getD, h]
  have e2 : (ls.drop k).getD 0 [] = ls.getD k [] := by simp [List.getD]
  have e3 : (ls.drop k).drop 1 = ls.drop (k + 1) := by rw [List.drop_drop]
  rw [e1, e2, e3]
  rfl
theorem chsB_end (many : Nat) (til : Int) (hs : List Ch) (ls : List (List Rec)) (k : Nat) (h : hs.length ≤ k) : chsB many til k (hs.drop k) (ls.drop k) = true := by
  rw [List.drop_of_length_le h]
  rfl
/-- A conservative simulation of a model. -/
def cbB (m : Mdl) (hs : List Ch) (ls : List (List Rec)) : Bool := mdlB m && (decide (hs.length = m.rules.length) && decide (ls.length = m.rules.length) && chsB m.rules.length m.til 0 hs ls)
end Go.Proofs.Ytklldniapombiaa

namespace Go.Proofs.Ytklldniapombiaa
set_option maxRecDepth 100000
/-- The least of a number and a list. -/
def mnL : Int → List Int → Int
  | a, [] => a
  | a, z :: zs => mnL (min a z) zs
theorem mnL_drop (a : Int) (zs : List Int) (q : Nat) (h : q < zs.length) : mnL a (zs.drop q) = mnL (min a (zs.getD q 0)) (zs.drop (q + 1)) := by
  rw [List.drop_eq_getElem_cons h]; simp [mnL, List.getD_eq_getElem?_getD, List.getElem?_eq_getElem h]
theorem mnL_end (a : Int) (zs : List Int) (q : Nat) (h : zs.length ≤ q) : mnL a (zs.drop q) = a := by
  rw [List.drop_eq_nil_of_le h]
  rfl
end Go.Proofs.Ytklldniapombiaa

namespace Go.Proofs.Ytklldniapombiaa
set_option maxRecDepth 100000
open Go.RowKit
/-- What the safe time is. -/
def safV (m : Mdl) (hs : List Ch) (ls : List (List Rec)) (at_ : Int) : Int :=
  if cbB m hs ls && inB at_ 0 ((hs.length : Int) - 1) then mnL ((hs.getD at_.toNat default).ins.getD 0 0) ((hs.getD at_.toNat default).ins.drop 1) else -1
theorem chB_ins {many : Nat} {til comp : Int} {h : Ch} {l : List Rec} (e : chB many til comp h l = true) : h.ins.length = many := by
  unfold chB at e; simp only [Bool.and_eq_true, decide_eq_true_eq] at e
  exact e.1.1.1.1.2
theorem chsB_at (many : Nat) (til : Int) : ∀ (hs : List Ch) (ls : List (List Rec)) (comp : Int), chsB many til comp hs ls = true → ∀ i, i < hs.length → (hs.getD i default).ins.length = many
  | [], _, _, _, i, hi => absurd hi (by simp)
  | h :: hs, ls, comp, e, i, hi => by
    unfold chsB at e; rw [Bool.and_eq_true] at e
    cases i with
    | zero => simpa using chB_ins e.1
    | succ i => simpa using chsB_at many til hs (ls.drop 1) (comp + 1) e.2 i (by simpa using hi)
end Go.Proofs.Ytklldniapombiaa

namespace Go.Proofs.Ytklldniapombiaa
set_option maxRecDepth 100000
open Go.RowKit
theorem rise_pwN : ∀ l : List Evt, riseB l = true → l.Pairwise (fun a b => ltE a b = true)
  | [], _ => List.Pairwise.nil
  | [a], _ => List.Pairwise.cons (fun _ h => absurd h (by simp)) List.Pairwise.nil
  | a :: b :: r, h => by
    rw [riseB, Bool.and_eq_true] at h
    have ih := rise_pwN (b :: r) h.2
    refine List.Pairwise.cons (fun x hx => ?_) ih
    rcases List.mem_cons.1 hx with rfl | hx
    · exact h.1
    · exact ltE_trans _ _ _ h.1 ((List.pairwise_cons.1 ih).1 x hx)
theorem pw_riseN : ∀ l : List Evt, l.Pairwise (fun a b => ltE a b = true) → riseB l = true
  | [], _ => rfl
  | [_], _ => rfl
  | a :: b :: r, h => by
    have h2 := List.pairwise_cons.1 h
    rw [riseB, Bool.and_eq_true]
    exact ⟨h2.1 b (by simp), pw_riseN (b :: r) h2.2⟩
theorem stk_whole (es : List Evt) (comp : Int) : stk es comp es.length = es.filter (fun e => decide (e.to = comp)) := by
  unfold stk; rw [List.take_of_length_le (Nat.le_refl _)]
theorem chB_new {m : Mdl} (hm : mdlB m = true) (i : Nat) : chB m.rules.length m.til (i : Int) ⟨⟨0, 0, 0⟩, stk m.starts (i : Int) m.starts.length, List.replicate m.rules.length 0⟩ [] = true := by
  have hm' := hm
  simp only [mdlB, startsB, Bool.and_eq_true] at hm'; obtain ⟨⟨⟨_, ht⟩, ⟨⟨_, hr⟩, hs⟩⟩, _⟩ := hm'
  have t := inB_iff.1 ht
  unfold chB; dsimp only; simp only [Bool.and_eq_true]; refine ⟨⟨⟨⟨⟨rfl, by simp⟩, ?_⟩, ?_⟩, ?_⟩, rfl⟩
  · refine List.all_eq_true.2 fun x hx => ?_
    obtain ⟨_, rfl⟩ := List.mem_replicate.1 hx; unfold bndB
    exact inB_iff.2 (by omega)
  · rw [List.map_nil, List.nil_append, stk_whole]
    exact pw_riseN _ ((rise_pwN _ hr).filter _)
  · refine List.all_eq_true.2 fun x hx => ?_
    rw [stk_whole] at hx; obtain ⟨he, hc⟩ := List.mem_filter.1 hx
    have := List.all_eq_true.1 hs x he
    unfold startB at this; simp only [Bool.and_eq_true] at this; unfold pndB; rw [this.2, this.1.2, hc]
    rfl
theorem chsB_all (many : Nat) (til : Int) : ∀ (hs : List Ch) (ls : List (List Rec)) (comp : Int), (∀ i : Nat, i < hs.length → chB many til (comp + i) (hs.getD i default) (ls.getD i []) = true) → chsB many til comp hs ls = true
  | [], _, _, _ => rfl
  | h :: hs, ls, comp, e => by
    rw [chsB, Bool.and_eq_true]; refine ⟨?_, chsB_all many til hs (ls.drop 1) (comp + 1) fun i hi => ?_⟩
    · have := e 0 (by simp)
      simpa using this
    · have := e (i + 1) (by simpa using hi)
      rw [show comp + ((i + 1 : Nat) : Int) = comp + 1 + i by omega] at this
      have e1 : (h :: hs).getD (i + 1) default = hs.getD i default := by simp [List.getD]
      have e2 : (ls.drop 1).getD i [] = ls.getD (i + 1) [] := by simp [List.getD]
      rw [e1] at this; rw [e2]
      exact this
theorem cbH_len (m : Mdl) : (cbH m).length = cbN m := by simp [cbH]
theorem cbL_at (m : Mdl) (i : Nat) : (cbL m).getD i [] = [] := by
  simp only [cbL, List.getD, List.getElem?_replicate]
  split <;> rfl
theorem cbN_of {m : Mdl} (hm : mdlB m = true) : cbN m = m.rules.length := by
  unfold cbN; rw [if_pos hm]
theorem cbB_new (m : Mdl) : cbB m (cbH m) (cbL m) = mdlB m := by
  cases hm : mdlB m with
  | false => unfold cbB; rw [hm]; rfl
  | true =>
    have hn := cbN_of hm
    unfold cbB; simp only [Bool.and_eq_true, decide_eq_true_eq]; refine ⟨hm, ⟨by rw [cbH_len, hn], by simp [cbL, hn]⟩, chsB_all _ _ _ _ _ fun i hi => ?_⟩; rw [cbH_len] at hi; rw [cbH_at hi, cbL_at, hn, Int.zero_add]
    exact chB_new hm i
theorem mnL_zero : ∀ n : Nat, mnL 0 (List.replicate n 0) = 0
  | 0 => rfl
  | n + 1 => by rw [List.replicate_succ, mnL]; exact mnL_zero n
theorem safV_new {m : Mdl} (hm : mdlB m = true) {k : Nat} (hk : k < cbN m) : safV m (cbH m) (cbL m) (k : Int) = 0 := by
  have hi : inB (k : Int) 0 (((cbH m).length : Int) - 1) = true := inB_iff.2 (by rw [cbH_len]; omega)
  unfold safV; rw [cbB_new, hm, hi, Int.toNat_natCast, cbH_at hk]; dsimp only; rw [Bool.and_self, if_pos rfl]
  have e1 : (List.replicate (cbN m) (0 : Int)).getD 0 0 = 0 := by
    simp only [List.getD, List.getElem?_replicate]
    split <;> rfl
  rw [e1, List.drop_replicate]
  exact mnL_zero _
/-- How many pending events the first k hosts have. -/
def cntS (es : List Evt) : Nat → Nat
  | 0 => 0
  | k + 1 => cntS es k + (stk es (k : Int) es.length).length
theorem cntS_cons (e : Evt) (es : List Evt) : ∀ k : Nat, cntS (e :: es) k = cntS es k + if 0 ≤ e.to ∧ e.to < k then 1 else 0
  | 0 => by
    rw [if_neg (by omega)]
    rfl
  | k + 1 => by
    rw [cntS, cntS, cntS_cons e es k, stk_whole, stk_whole]
    by_cases h : e.to = k
    · have f1 : (e :: es).filter (fun e => decide (e.to = (k : Int))) = e :: es.filter (fun e => decide (e.to = (k : Int))) := by
        rw [List.filter_cons, if_pos (by simpa using h)]
      rw [f1, if_neg (show ¬ (0 ≤ e.to ∧ e.to < (k : Int)) by omega), if_pos (show 0 ≤ e.to ∧ e.to < ((k + 1 : Nat) : Int) by omega), List.length_cons]
      omega
    · have f1 : (e :: es).filter (fun e => decide (e.to = (k : Int))) = es.filter (fun e => decide (e.to = (k : Int))) := by
        rw [List.filter_cons, if_neg (by simpa using h)]
      rw [f1]
      by_cases h2 : 0 ≤ e.to ∧ e.to < (k : Int)
      · rw [if_pos h2, if_pos (show 0 ≤ e.to ∧ e.to < ((k + 1 : Nat) : Int) by omega)]
        omega
      · rw [if_neg h2, if_neg (show ¬ (0 ≤ e.to ∧ e.to < ((k + 1 : Nat) : Int)) by omega)]
        omega
theorem cntS_nil : ∀ k : Nat, cntS [] k = 0
  | 0 => rfl
  | k + 1 => by rw [cntS, cntS_nil k]; rfl
theorem cntS_len : ∀ (es : List Evt) (k : Nat), cntS es k ≤ es.length
  | [], k => by rw [cntS_nil]; exact Nat.le_refl _
  | e :: es, k => by
    have := cntS_len es k
    rw [cntS_cons, List.length_cons]
    split <;> omega
theorem cntS_all (N : Nat) : ∀ es : List Evt, (∀ e ∈ es, 0 ≤ e.to ∧ e.to < N) → cntS es N = es.length
  | [], _ => cntS_nil N
  | e :: es, h => by
    rw [cntS_cons, cntS_all N es (fun x hx => h x (List.mem_cons_of_mem _ hx)), if_pos (h e List.mem_cons_self), List.length_cons]
theorem cntS_new {m : Mdl} (hm : mdlB m = true) : cntS m.starts (cbN m) = m.starts.length := by
  have hm' := hm
  simp only [mdlB, startsB, Bool.and_eq_true] at hm'; obtain ⟨⟨⟨_, ht⟩, ⟨⟨_, hr⟩, hs⟩⟩, _⟩ := hm'
  refine cntS_all _ _ fun e he => ?_
  rw [cbN_of hm]
  have := List.all_eq_true.1 hs e he
  unfold startB okB at this; simp only [Bool.and_eq_true, inB_iff] at this
  omega
end Go.Proofs.Ytklldniapombiaa

namespace Go.Proofs.Ytklldniapombiaa
set_option maxRecDepth 100000
open Go.RowKit
def MachPost (m : Mdl) (w : World) (x : Ending) (w' : World) : Prop :=
  Up w w' ∧ ((mdlB m = false ∧ x = .returned (.tuple #[.agg #[.map none, .int .i64 0, .int .i64 0], .bool false])) ∨
    (mdlB m = true ∧ ∃ b, x = .returned (.tuple #[.agg #[.map (some b), .int .i64 m.rules.length, .int .i64 m.til], .bool true]) ∧ w.heap.size ≤ b ∧ Mach w' b m))
set_option maxHeartbeats 8000000 in
theorem newMachine_any (A : Option Addr) (n c : Nat) (B : Option Addr) (k d : Nat) (m : Mdl) (w : World) (hM : MdlV w A n B k m) :
    Calls Try.prog 66 #[.agg #[.slice A n c, .slice B k d, .int .i64 m.til]] w (MachPost m w) := by
  have HM := Lib.hid hM
  have HR := Lib.hid hM.rules
  have LR := Lib.hid hM.rules.1
  have U0 := Lib.hid (((Up.refl w).alloc (.cells #[.slice A n c, .slice B k d, .int .i64 m.til] 36)).alloc (.cells #[.map none, .int .i64 0, .int .i64 0] 109))
  have X1 := Lib.hid ((Box3.new w (.slice A n c) (.slice B k d) (.int .i64 m.til) 36).up ((Up.refl _).alloc (.cells #[.map none, .int .i64 0, .int .i64 0] 109)))
  have X2 := Lib.hid (Box3.new (w.alloc (.cells #[.slice A n c, .slice B k d, .int .i64 m.til] 36)) (.map none) (.int .i64 0) (.int .i64 0) 109)
  have F2 := Lib.hid (fun j => free_new (w.alloc (.cells #[.slice A n c, .slice B k d, .int .i64 m.til] 36)) #[.map none, .int .i64 0, .int .i64 0] 109 j)
  simp only [World.size_alloc] at X2 F2
  have CI := Lib.hid (fun W (u : Up w W) => implMdl_any A n c B k d m W (hM.up u))
  generalize hmb : mdlB m = g at CI
  have HB := Lib.hid hmb
  clear hM hmb
  go_enter Try.func66, Try.ntmps66
  go_wp2_with fail
  refine (CI.out _ U0.out).mono ?_; rintro x w1 ⟨rfl, u1⟩
  have U1 := Lib.hid (U0.out.trans u1)
  have X1 := Lib.hid (X1.out.up u1)
  have x2 := X2.out.up u1
  have f2 : ∀ j, w1.frozen? ⟨w.heap.size + 1, j, none⟩ = false := fun j => (u1.frozens _ _ (by simp)).trans (F2.out j)
  have X2 := Lib.hid x2
  have F2 := Lib.hid f2
  clear u1 x2 f2
  cases g
  · have K := set3_at (w := w1) (b := w.heap.size + 1) (x := .map none) (y := .int .i64 0) (z := .int .i64 0) (fun j hj => by
      have h3 : j = 0 ∨ j = 1 ∨ j = 2 := by omega
      rcases h3 with rfl | rfl | rfl
      · exact ⟨_, X2.out.c0⟩
      · exact ⟨_, X2.out.c1⟩
      · exact ⟨_, X2.out.c2⟩)
    have UE := Lib.hid (((U1.out.setCell (p := ⟨w.heap.size + 1, 0, none⟩) (by dsimp only; omega) (.map none)).setCell (p := ⟨w.heap.size + 1, 1, none⟩) (by dsimp only; omega) (.int .i64 0)).setCell (p := ⟨w.heap.size + 1, 2, none⟩) (by dsimp only; omega) (.int .i64 0))
    obtain ⟨k0, k1, k2⟩ := K; obtain ⟨q0, q1, q2⟩ := And.intro X2.out.c0 (And.intro X2.out.c1 X2.out.c2)
    have qf := F2.out
    go_wp2
    exact bodyPost_ret (v := .tuple #[.agg #[.map none, .int .i64 0, .int .i64 0], .bool false]) (by simp [results, Try.results66, go_sem, k0, k1, k2]) rfl ⟨UE.out, .inl ⟨HB.out, rfl⟩⟩
  · obtain ⟨q0, q1, q2⟩ := And.intro X1.out.c0 (And.intro X1.out.c1 X1.out.c2)
    have hsz1 : w.heap.size + 1 < w1.heap.size := X2.out.lt
    have FEW := Lib.hid (mdlB_few HB.out)
    have hn4 : n ≤ 4 := by have := FEW.out; have := LR.out; omega
    have H0 := RMap.made w1
    have F0 := Lib.hid (Filled.start w m.rules)
    have hmm := run_makeMap (P := Try.prog) 107 w1
    have u2 : Up w1 (w1.alloc (.map #[] 0)) := (Up.refl _).alloc _
    generalize w1.alloc (.map #[] 0) = w2 at H0 hmm u2
    generalize hmb : w1.heap.size = mb at H0 hmm
    have HMB := Lib.hid hmb
    have H0 := Lib.hid H0
    have x1 := X1.out.up u2
    obtain ⟨p0, p1, p2⟩ := And.intro x1.c0 (And.intro x1.c1 x1.c2)
    have U2 := Lib.hid u2
    clear hmb x1 u2 q0 q1 q2; go_wp2; clear hmm p0 p1 p2
    go_loopw [17] (fun i wr => (∃ (q N : Nat) (f : Int → Int → Option Value), q ≤ n ∧ i = .int .i64 q ∧ N ≤ 3 * q ∧ Hid (RMap wr mb N f) ∧ Hid (Filled w m.rules q 0 f)) ∧ Up w1 wr) (fun i _ => n - (intOf i).toNat)
    case atStart => exact ⟨⟨0, 0, _, by omega, rfl, by omega, H0, F0⟩, U2.out⟩
    case round =>
      obtain ⟨⟨q, N, f, hq, rfl, hN, HMAP, HF⟩, ur⟩ := hrel; obtain ⟨wo, hwo⟩ : ∃ W, W = wr := ⟨_, rfl⟩; subst hwo
      have UR := Lib.hid ur
      by_cases hlt : q < n
      · obtain ⟨b, off, hA, hb, hc⟩ := HR.out.2.2 (by omega)
        subst hA; obtain ⟨A', n', c', hcell, hrs⟩ := hc q hlt
        have cell := ((U1.out.trans ur).cells _ _ hb).trans hcell
        have HS := Lib.hid hrs
        have hb' : b < wo.heap.size := by have := (U1.out.trans ur).size; omega
        have RB := Lib.hid (mdlB_row HB.out q (by rw [LR.out]; exact hlt))
        have hn'3 : n' ≤ 3 := by
          have h := rulesB_len RB.out (by omega) (by omega)
          have := hrs.1
          omega
        clear hc hcell hrs ur
        have i4 : (q : Int) < n := by omega
        have i5 : IntKind.i64.wrap ((q : Int) + 1) = (q : Int) + 1 := IntWalk.i64_in _ (by omega)
        have RN : (m.rules.getD q []).length = n' := HS.out.1
        have RNH := Lib.hid RN
        clear RN
        go_wp2_with fail
        go_loopw [24] (fun j wj => (∃ (p N : Nat) (f : Int → Int → Option Value), p ≤ n' ∧ j = .int .i64 p ∧ N ≤ 3 * q + p ∧ Hid (RMap wj mb N f) ∧ Hid (Filled w m.rules q p f)) ∧ Up w1 wj) (fun j _ => n' - (intOf j).toNat)
        case atStart => exact ⟨⟨0, N, f, by omega, rfl, by omega, HMAP, HF⟩, UR.out⟩
        case round =>
          obtain ⟨⟨p, N2, f2, hp, rfl, hN2, HMAP2, HF2⟩, uj⟩ := hrel
          have UJ := Lib.hid uj
          by_cases hlp : p < n'
          · obtain ⟨b2, off2, hA2, hb2, hc2⟩ := HS.out.2.2 (by omega)
            subst hA2
            have at2 := (hc2 p hlp).up (U1.out.trans uj) hb2
            have hb2' : b2 < wr.heap.size := by have := (U1.out.trans uj).size; omega
            have at0 := hc2 p hlp
            clear hc2
            have ST := Lib.hid (fun r (hr : (m.rules.getD q []).getD p default = r) A n c hn he => HF2.out.step (r := r) (A := A) (n := n) (c := c) (by rw [RNH.out]; exact hlp) hr hn he)
            have RB2 := rulesB_mem RB.out p (by rw [RNH.out]; exact hlp)
            generalize hgr : (m.rules.getD q []).getD p default = r at at2 at0 RB2 ST
            obtain ⟨A3, n3, c3, ⟨r0, r1, r2, r3, r4⟩, hn3, he3⟩ := at0; obtain ⟨A4, n4, c4, ⟨s0, s1, s2, s3, s4⟩, hn4', he4⟩ := at2
            have e4 := ((U1.out.trans uj).cells _ _ hb2).trans r4
            rw [s4] at e4
            injection e4 with e4
            injection e4 with e41 e42 e43
            subst e41 e42 e43
            have HF3 := Lib.hid (ST.out r rfl A4 n4 c4 hn3 he3)
            have hkd : 0 ≤ r.kd ∧ r.kd ≤ 2 := by
              simp only [ruleB, Bool.and_eq_true, inB_iff] at RB2
              exact RB2.1.1.1.2
            obtain ⟨kd, ra, rb, rc, es⟩ := r; dsimp only at s0 s1 s2 s3 s4 hkd; unfold Rule.v at HF3; dsimp only at HF3
            have HM3 := Lib.hid (HMAP2.out.up ((Up.refl wr).alloc (.cells #[.int .i64 kd, .int .i64 ra, .int .i64 rb, .int .i64 rc, .slice A4 n4 c4] 166)))
            have UJ2 := Lib.hid (uj.alloc (.cells #[.int .i64 kd, .int .i64 ra, .int .i64 rb, .int .i64 rc, .slice A4 n4 c4] 166))
            clear uj r0 r1 r2 r3 r4 he3 he4 RB2 ST hgr
            have hmb1 : w1.heap.size ≤ mb := by have := HMB.out; omega
            have i6 : (p : Int) < n' := by omega
            have i7 : IntKind.i64.wrap ((p : Int) + 1) = (p : Int) + 1 := IntWalk.i64_in _ (by omega)
            go_wp2_with (at_mapUpdate; refine wpList_store_R rfl _ rfl _ _ _ rfl mb N2 f2 rfl HM3.out (by simp only [maxLen]; omega) q kd rfl (by unfold I64; omega) (by unfold I64; omega) _ rfl ?_; intro w5 h5 m5; have H5 := Lib.hid h5; have U5 := Lib.hid (m5.up UJ2.out hmb1); clear h5 m5)
            go_roundw
            case rel => exact ⟨⟨p + 1, N2 + 1, _, by omega, by first | rfl | go_num, by omega, H5, HF3⟩, U5.out⟩
            case measure => (simp [intOf]; try omega)
          · have HR2 := Lib.hid (HF2.out.row (by rw [RNH.out]; omega))
            have i6 : ¬ (p : Int) < n' := by omega
            clear uj; go_wp2
            go_roundw
            case rel => exact ⟨⟨q + 1, N2, f2, by omega, by first | rfl | go_num, by omega, HMAP2, HR2⟩, UJ.out⟩
            case measure => (simp [intOf]; try omega)
      · have hqn : q = n := by omega
        have DN := Lib.hid ((show Filled w m.rules m.rules.length 0 f by rw [LR.out, ← hqn]; exact HF.out).done HB.out)
        have i4 : ¬ (q : Int) < n := by omega
        clear ur hqn
        have x1 := X1.out.up UR.out
        obtain ⟨q0, q1, q2⟩ := And.intro x1.c0 (And.intro x1.c1 x1.c2)
        have x2 := X2.out.up UR.out
        obtain ⟨p0, p1, p2⟩ := And.intro x2.c0 (And.intro x2.c1 x2.c2)
        have qf : ∀ j, wo.frozen? ⟨w.heap.size + 1, j, none⟩ = false := fun j => (UR.out.frozens _ _ hsz1).trans (F2.out j)
        have K := set3_at (w := wo) (b := w.heap.size + 1) (x := .map (some mb)) (y := .int .i64 n) (z := .int .i64 m.til) (fun j hj => by
          have h3 : j = 0 ∨ j = 1 ∨ j = 2 := by omega
          rcases h3 with rfl | rfl | rfl
          · exact ⟨_, x2.c0⟩
          · exact ⟨_, x2.c1⟩
          · exact ⟨_, x2.c2⟩)
        obtain ⟨k0, k1, k2⟩ := K
        have UE := Lib.hid ((((U1.out.trans UR.out).setCell (p := ⟨w.heap.size + 1, 0, none⟩) (by dsimp only; omega) (.map (some mb))).setCell (p := ⟨w.heap.size + 1, 1, none⟩) (by dsimp only; omega) (.int .i64 n)).setCell (p := ⟨w.heap.size + 1, 2, none⟩) (by dsimp only; omega) (.int .i64 m.til))
        have hmbw : w.heap.size + 1 < mb := by have := HMB.out; omega
        have ME := Lib.hid (show Mach _ mb m from ⟨N, f, ((HMAP.out.setFar (p := ⟨w.heap.size + 1, 0, none⟩) (by dsimp only; omega) (.map (some mb))).setFar (p := ⟨w.heap.size + 1, 1, none⟩) (by dsimp only; omega) (.int .i64 n)).setFar (p := ⟨w.heap.size + 1, 2, none⟩) (by dsimp only; omega) (.int .i64 m.til), fun c k => (DN.out c k).up UE.out⟩)
        clear x1 x2; go_wp2
        exact bodyPost_ret (v := .tuple #[.agg #[.map (some mb), .int .i64 n, .int .i64 m.til], .bool true]) (by simp [results, Try.results66, go_sem, k0, k1, k2]) rfl ⟨UE.out, .inr ⟨HB.out, mb, by rw [LR.out], by omega, ME.out⟩⟩
end Go.Proofs.Ytklldniapombiaa

namespace Go.Proofs.Ytklldniapombiaa
set_option maxRecDepth 100000
open Go.RowKit
theorem neverL_any (mb : Option Nat) (many til : Int) (w : World) (h0 : 0 ≤ til ∧ til ≤ 99) :
    Calls Try.prog 120 #[.agg #[.map mb, .int .i64 many, .int .i64 til]] w fun x w' => x = .returned (.int .i64 (til + 1)) ∧ Up w w' := by
  have i1 : IntKind.i64.wrap (til + 1) = til + 1 := IntWalk.i64_in _ (by omega)
  go_enter Try.func120, Try.ntmps120
  go_wp2; go_ret
  exact ⟨rfl, (Up.refl w).alloc _⟩
end Go.Proofs.Ytklldniapombiaa

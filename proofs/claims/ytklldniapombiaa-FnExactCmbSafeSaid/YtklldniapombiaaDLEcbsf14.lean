/-
  What eventsOf, every and records return, in one sentence: the records' events in a new slice, and whether all are as they ought to be; for every list that lies in memory.
  A region that draws its order and whose effects are forced into one order, in one sentence: as region_mix, and what only reads may come up where a chosen condition on the world holds throughout.
  What it means that a simulator is one, in one sentence: two ways to say it agree; no condition is made.
  What holds of a valid host of a conservative simulation, in one sentence: its bounds, its pending events and its records as the checks take them, in the program's order and in the reference's; for every host.
-/
import Derived.OrdersHeld
import Derived.Test.YtklldniapombiaaDLEcbsf06
import Derived.Test.YtklldniapombiaaDLEcbsf08
import Derived.Test.YtklldniapombiaaDLEcbsf09
import Derived.Test.YtklldniapombiaaDLEcbsf12
import Derived.Test.YtklldniapombiaaDLEcbsf13
namespace Go.Proofs.Ytklldniapombiaa
set_option maxRecDepth 100000
open Go.RowKit
theorem cells_new (w : World) (xs : Array Value) (t : TypeId) (j : Nat) : (w.alloc (.cells xs t)).cell? ⟨w.heap.size, j, none⟩ = xs[j]? := by
  rw [cell_of_row _ _ j _ _ _ (heap_alloc_new _ _)]
theorem records_any (mp : Option Nat) (many til : Int) (r : Rec) (w : World) :
    Calls Try.prog 135 #[.agg #[.map mp, .int .i64 many, .int .i64 til], r.v] w fun z w' => z = .returned (.bool (recB many r)) ∧ Up w w' := by
  unfold recB
  have OC := Lib.hid (fun W => implOk_any r.ev many W)
  generalize okB r.ev many = b at OC ⊢
  obtain ⟨⟨et, eto, efr, esq, ekd, edt⟩, s⟩ := r
  have X3 := Lib.hid ((Box3.new w (.map mp) (.int .i64 many) (.int .i64 til) 109).up ((Up.refl _).alloc (.cells #[.int .i64 et, .int .i64 eto, .int .i64 efr, .int .i64 esq, .int .i64 ekd, .int .i64 edt, .int .i64 s] 180)))
  have c6 := cells_new (w.alloc (.cells #[.map mp, .int .i64 many, .int .i64 til] 109)) #[.int .i64 et, .int .i64 eto, .int .i64 efr, .int .i64 esq, .int .i64 ekd, .int .i64 edt, .int .i64 s] 180 6
  simp only [World.size_alloc] at c6
  have c6 : ((w.alloc (.cells #[.map mp, .int .i64 many, .int .i64 til] 109)).alloc (.cells #[.int .i64 et, .int .i64 eto, .int .i64 efr, .int .i64 esq, .int .i64 ekd, .int .i64 edt, .int .i64 s] 180)).cell? ⟨w.heap.size + 1, 6, none⟩ = some (.int .i64 s) := c6
  have UA := Lib.hid (((Up.refl w).alloc (.cells #[.map mp, .int .i64 many, .int .i64 til] 109)).alloc (.cells #[.int .i64 et, .int .i64 eto, .int .i64 efr, .int .i64 esq, .int .i64 ekd, .int .i64 edt, .int .i64 s] 180))
  unfold Rec.v; unfold Evt.v at OC; dsimp only at OC ⊢
  go_enter Try.func135, Try.ntmps135
  go_wp2_with fail
  have hs1 : w.heap.size + 1 < ((w.alloc (.cells #[.map mp, .int .i64 many, .int .i64 til] 109)).alloc (.cells #[.int .i64 et, .int .i64 eto, .int .i64 efr, .int .i64 esq, .int .i64 ekd, .int .i64 edt, .int .i64 s] 180)).heap.size := by simp
  generalize (w.alloc (.cells #[.map mp, .int .i64 many, .int .i64 til] 109)).alloc (.cells #[.int .i64 et, .int .i64 eto, .int .i64 efr, .int .i64 esq, .int .i64 ekd, .int .i64 edt, .int .i64 s] 180) = W at *
  refine (OC.out _).mono ?_; rintro v w1 ⟨rfl, u1⟩
  have c6 := (u1.cells _ _ hs1).trans c6
  have U := Lib.hid (UA.out.trans u1)
  have X3 := Lib.hid (X3.out.up u1)
  obtain ⟨b0, b1, b2⟩ := And.intro X3.out.c0 (And.intro X3.out.c1 X3.out.c2); clear u1
  cases b
  · go_wp2
    go_ret
    exact ⟨rfl, U.out⟩
  · go_wp2_with (go_at_call 73; refine (within_any _ _ _ _).mono ?_; rintro e w' ⟨rfl, rfl⟩)
    go_ret
    exact ⟨ret_bool (by simp), U.out⟩
set_option maxHeartbeats 2000000 in
theorem eventsOf_any (A : Option Addr) (n cap : Nat) (xs : List Rec) (w : World) (hn : n ≤ 1048576) (hE : Recs w A n xs) :
    Calls Try.prog 131 #[.slice A n cap] w fun x w' => ∃ g, x = .returned (.slice (some ⟨g, 0, none⟩) n n) ∧ w.heap.size ≤ g ∧ Evs w' (some ⟨g, 0, none⟩) n (xs.map (·.ev)) ∧ Up w w' := by
  obtain ⟨i0, hi, hz0, hz1, hz2⟩ := info_parts info74
  have hmk := fun W => run_make_rowN (P := Try.prog) 34 74 i0 _ Try.underlying34 hi hz0 .i64 .i64 n n (Nat.le_refl _) (by rw [hz2]; omega) (by omega) W
  rw [hz1] at hmk
  have HE := Lib.hid hE
  have LE := Lib.hid hE.1
  clear hE hi hz0 hz1 hz2
  go_enter Try.func131, Try.ntmps131
  go_wp2
  generalize hg : w.heap.size = g
  have HG := Lib.hid (Nat.le_of_eq hg)
  go_loopw [11] (fun i wr => (∃ k : Nat, k ≤ n ∧ i = .int .i64 k ∧ RowsTo wr g n 6 k (fun i j => (xs.getD i default).ev.l.getD j 0)) ∧ Up w wr) (fun i _ => n - (intOf i).toNat)
  case atStart =>
    refine ⟨⟨0, by omega, rfl, ?_⟩, (Up.refl _).alloc _⟩; subst hg
    exact RowsTo.start w n 6 #[.int .i64 0, .int .i64 0, .int .i64 0, .int .i64 0, .int .i64 0, .int .i64 0] 74 _ (fun j hj => by
      have h : j = 0 ∨ j = 1 ∨ j = 2 ∨ j = 3 ∨ j = 4 ∨ j = 5 := by simp at hj; omega
      rcases h with rfl | rfl | rfl | rfl | rfl | rfl <;> rfl) (by simp)
  case round =>
    obtain ⟨⟨k, hk, rfl, hp⟩, ur⟩ := hrel
    have HP := Lib.hid hp
    have UR := Lib.hid ur
    by_cases hlt : k < n
    · obtain ⟨b, off, hA, hb, hc⟩ := HE.out.2 (by omega)
      subst hA
      have a0 := (hc k hlt).up ur hb
      have hb' : b < wr.heap.size := by have := ur.size; omega
      clear hc hp ur
      have SX := Lib.hid (fun W (h : RowsTo W g n 6 k (fun i j => (xs.getD i default).ev.l.getD j 0)) => h.step hlt ((xs.getD k default).ev.l.getD · 0) (fun j _ => rfl))
      generalize xs.getD k default = p at a0 SX
      unfold RecAt at a0; obtain ⟨p0, p1, p2, p3, p4, p5, p6⟩ := a0; obtain ⟨⟨pt, pto, pfr, psq, pkd, pdt⟩, ps⟩ := p; dsimp only at p0 p1 p2 p3 p4 p5 p6 SX
      have i4 : (k : Int) < n := by omega
      have ua := (Up.refl wr).alloc (.cells #[.int .i64 pt, .int .i64 pto, .int .i64 pfr, .int .i64 psq, .int .i64 pkd, .int .i64 pdt, .int .i64 ps] 180)
      have P := HP.out.up ua
      obtain ⟨⟨⟨v0, c0⟩, f0⟩, ⟨⟨v1, c1⟩, f1⟩, ⟨⟨v2, c2⟩, f2⟩, ⟨⟨v3, c3⟩, f3⟩, ⟨⟨v4, c4⟩, f4⟩, ⟨⟨v5, c5⟩, f5⟩⟩ := And.intro (P.1.2 (k * 6) (by omega)) (And.intro (P.1.2 (k * 6 + 1) (by omega)) (And.intro (P.1.2 (k * 6 + 2) (by omega)) (And.intro (P.1.2 (k * 6 + 3) (by omega)) (And.intro (P.1.2 (k * 6 + 4) (by omega)) (P.1.2 (k * 6 + 5) (by omega))))))
      have NX := Lib.hid (SX.out _ P)
      have UX := Lib.hid (((UR.out.trans ua).putF HG.out (k * 6) (([pt, pto, pfr, psq, pkd, pdt] : List Int).getD · 0) 6))
      simp only [putF, Evt.l, Nat.add_zero, List.getD_cons_zero, List.getD_cons_succ] at NX UX
      have hgl := P.1.1
      clear P SX ua
      go_wp2_with fail
      go_roundw
      case rel => exact ⟨⟨k + 1, by omega, by go_num, NX.out⟩, UX.out⟩
      case measure => simp [intOf]; omega
    · obtain rfl : k = n := by omega
      have i4 : ¬ (k : Int) < k := by omega
      clear hp ur; go_wp2; go_ret; refine ⟨g, rfl, by have := HG.out; omega, ⟨by rw [List.length_map]; exact LE.out, fun _ => ⟨g, 0, rfl, HP.out.1.1, fun i hi => ?_⟩⟩, UR.out⟩
      have h := HP.out.2 i hi
      have e : (xs.map (·.ev)).getD i default = (xs.getD i default).ev := by simp [List.getD, show i < xs.length by rw [LE.out]; exact hi]
      rw [e, Nat.zero_add]
      exact ⟨h 0 (by omega), h 1 (by omega), h 2 (by omega), h 3 (by omega), h 4 (by omega), h 5 (by omega)⟩
end Go.Proofs.Ytklldniapombiaa

namespace Go.Proofs.Ytklldniapombiaa
set_option maxRecDepth 100000
open Go.RowKit
def wpMixH (P : Program) (ops : Array Oper) (Q : Exit → Act → World → Prop) (S : World → Prop) : List (Nat × Bool) → Act → World → Prop
  | (k, true) :: fs, a, w => ∃ o v, ops[k]? = some o ∧ YieldsIf P ops S o v a ∧ wpMixH P ops Q S fs (a.put o.dst v) w
  | (k, false) :: fs, a, w => ∃ o, ops[k]? = some o ∧ if Region.wanted o (yielded ops a.tmps) = true then o.wp P a w (fun a' w' => S w' ∧ wpMixH P ops Q S fs a' w') Q else wpMixH P ops Q S fs (a.put o.dst undef) w
  | [], a, w => Q .normal a w
theorem wpAnyH_of_mix {P : Program} {ops : Array Oper} {Q : Exit → Act → World → Prop} {S : World → Prop} (hsel : Region.noSelect ops = true) (hQ : ∀ c (a : Act) d v w, Q (.panic c) (a.put d v) w → Q (.panic c) a w) :
    ∀ (fs : List (Nat × Bool)) (listed : Array Bool) (a : Act) (w : World), mixB ops fs listed = true → S w → wpMixH P ops Q S fs a w → wpAnyH P .any ops Q S fs.length listed a w
  | [], _, _, _, hB, _, h => ⟨by simpa [mixB] using hB, h⟩
  | (k, true) :: fs, listed, a, w, hB, hS, h => by
    simp only [mixB, Bool.and_eq_true] at hB; obtain ⟨o, v, h0, hy, hn⟩ := h
    exact wpAnyH_take h0 hsel hB.1.2 hB.1.1.2 (fun c a w => hQ c a _ _ w) hy hS (wpAnyH_of_mix hsel hQ fs _ _ _ hB.2 hS hn)
  | (k, false) :: fs, listed, a, w, hB, hS, h => by
    simp only [mixB, Bool.and_eq_true, decide_eq_true_eq] at hB; obtain ⟨o, h0, h⟩ := h
    refine wpAnyH_all hB.1.2 (by simp) fun i hi => ?_
    obtain rfl : i = k := by simpa using hi
    refine wpOp_mono (K := fun a' w' => S w' ∧ wpMixH P ops Q S fs a' w') (fun a' w' h' => ⟨h'.1, wpAnyH_of_mix hsel hQ fs _ _ _ hB.2 h'.1 h'.2⟩) ?_; unfold wpOp; simp only [h0]
    split
    · rename_i hw
      rw [if_pos hw] at h
      exact .inl h
    · rename_i hw
      rw [if_neg hw] at h
      exact ⟨hS, h⟩
/-- What is left to walk, kept shut. -/
@[irreducible] def mWalk (P : Program) (ops : Array Oper) (Q : Exit → Act → World → Prop) (S : World → Prop) (fs : List (Nat × Bool)) (a : Act) (w : World) : Prop := wpMixH P ops Q S fs a w
theorem region_mixH {P : Program} {id : Nat} {Q : Exit → Act → World → Prop} {a : Act} {w : World} {l : List Oper} (S : World → Prop) (fs : List (Nat × Bool)) (hm : P.follows .mixedOrders = true)
    (hB : (Region.noSelect l.toArray && decide (fs.length = l.length) && mixB l.toArray fs (Array.replicate l.toArray.size false)) = true) (hS : S w.drew)
    (h : mWalk P l.toArray (NoPanic Q) S fs a w.drew) : (Code.region id l.toArray true).wp P Q a w := by
  unfold mWalk at h; simp only [Bool.and_eq_true, decide_eq_true_eq] at hB; refine wp_region_noPanic (wp_region_held (S := S) hm ?_)
  have := wpAnyH_of_mix (P := P) (Q := NoPanic Q) hB.1.1 (fun _ _ _ _ _ h => h) fs _ a w.drew hB.2 hS h
  rw [hB.1.2] at this
  simpa using this
section
variable {P : Program} {ops : Array Oper} {Q : Exit → Act → World → Prop} {S : World → Prop} {fs : List (Nat × Bool)} {k : Nat} {o : Oper} {a : Act} {w : World}
theorem mixH_take (h0 : ops[k]? = some o) (hw : Region.wanted o (yielded ops a.tmps) = true) (h : ∃ v, (∀ w1, S w1 → (execOp a.eval o).run P w1 = .ok (.value v) w1) ∧ mWalk P ops Q S fs (a.put o.dst v) w) : mWalk P ops Q S ((k, true) :: fs) a w := by
  unfold mWalk at h ⊢; obtain ⟨v, hv, hn⟩ := h
  exact ⟨o, v, h0, .inl ⟨hw, hv⟩, hn⟩
theorem mixH_skip {b : Bool} (h0 : ops[k]? = some o) (hw : Region.wanted o (yielded ops a.tmps) = false) (h : mWalk P ops Q S fs (a.put o.dst undef) w) : mWalk P ops Q S ((k, b) :: fs) a w := by
  unfold mWalk at h ⊢
  cases b
  · refine ⟨o, h0, ?_⟩
    rw [if_neg (by rw [hw]; exact Bool.false_ne_true)]
    exact h
  · exact ⟨o, undef, h0, .inr ⟨hw, rfl⟩, h⟩
theorem mixH_go (h0 : ops[k]? = some o) (hw : Region.wanted o (yielded ops a.tmps) = true) (h : ∀ K : Act → World → Prop, (∀ a w, S w → mWalk P ops Q S fs a w → K a w) → o.wp P a w K Q) : mWalk P ops Q S ((k, false) :: fs) a w := by
  unfold mWalk at h ⊢; refine ⟨o, h0, ?_⟩; rw [if_pos hw]
  exact h _ fun _ _ hs h => ⟨hs, h⟩
theorem mixH_nil (h : Q .normal a w) : mWalk P ops (NoPanic Q) S [] a w := by
  unfold mWalk
  exact h
end
end Go.Proofs.Ytklldniapombiaa

namespace Go.Proofs.Ytklldniapombiaa
set_option maxRecDepth 100000
open Go.RowKit
/-- Is the event behind the one ahead of it, if there is one? -/
def behind : Option Evt → Evt → Bool
  | none, _ => true
  | some q, e => ltE q e
/-- Are the records in order, behind p, each of them one? -/
def logB (many : Int) : Option Evt → List Rec → Bool
  | _, [] => true
  | p, r :: rs => recB many r && behind p r.ev && logB many (some r.ev) rs
/-- The last one's event. -/
def lastP : Option Evt → List Rec → Option Evt
  | p, [] => p
  | _, r :: rs => lastP (some r.ev) rs
/-- Is what comes next behind the last? -/
def joinB : Option Evt → List Evt → Bool
  | _, [] => true
  | p, e :: _ => behind p e
def riseP : Option Evt → List Evt → Bool
  | none, es => riseB es
  | some q, es => riseB (q :: es)
theorem riseP_cons (p : Option Evt) (e : Evt) (es : List Evt) : riseP p (e :: es) = (behind p e && riseP (some e) es) := by
  cases p with
  | none => simp [riseP, behind]
  | some q => simp [riseP, behind, riseB]
theorem log_join (many : Int) (wait : List Evt) : ∀ (log : List Rec) (p : Option Evt), (riseP p (log.map (·.ev) ++ wait) && log.all (recB many)) = (logB many p log && (riseB wait && joinB (lastP p log) wait))
  | [], p => by
    cases wait with
    | nil => cases p <;> simp [riseP, riseB, logB, joinB]
    | cons e es =>
      rw [List.map_nil, List.nil_append, riseP_cons]; simp only [logB, lastP, joinB, List.all_nil, Bool.and_true, Bool.true_and, riseP]; rw [Bool.and_comm]
  | r :: rs, p => by
    have ih := log_join many wait rs (some r.ev)
    rw [List.map_cons, List.cons_append, riseP_cons, List.all_cons, logB, lastP]
    generalize riseP (some r.ev) (rs.map (·.ev) ++ wait) = a at ih ⊢
    generalize rs.all (recB many) = b at ih ⊢
    generalize logB many (some r.ev) rs = c at ih ⊢
    generalize (riseB wait && joinB (lastP (some r.ev) rs) wait) = d at ih ⊢
    generalize recB many r = x
    generalize behind p r.ev = y
    revert ih
    cases a <;> cases b <;> cases c <;> cases d <;> cases x <;> cases y <;> simp
/-- The event ahead of place k. -/
def prevP (log : List Rec) (k : Nat) : Option Evt := if k = 0 then none else some (log.getD (k - 1) default).ev
theorem prevP_succ (log : List Rec) (k : Nat) : prevP log (k + 1) = some (log.getD k default).ev := by simp [prevP]
theorem lastP_eq : ∀ (log : List Rec) (p : Option Evt), lastP p log = if log.length = 0 then p else some (log.getD (log.length - 1) default).ev
  | [], p => rfl
  | [r], p => rfl
  | r :: r' :: rs, p => by
    rw [lastP, lastP_eq (r' :: rs)]; simp
end Go.Proofs.Ytklldniapombiaa

namespace Go.Proofs.Ytklldniapombiaa
set_option maxRecDepth 100000
open Go.RowKit
/-- A bound. -/
def bndB (til z : Int) : Bool := inB z 0 (til + 1)
/-- A pending event. -/
def pndB (many til comp : Int) (e : Evt) : Bool := okB e many && decide (e.t ≤ til) && decide (e.to = comp)
/-- A record. -/
def rcdB (many comp : Int) (r : Rec) : Bool := recB many r && decide (r.ev.to = comp)
/-- A host, as the program checks it. -/
def chB (many : Nat) (til comp : Int) (h : Ch) (log : List Rec) : Bool :=
  cstB h.now && decide (h.ins.length = many) && h.ins.all (bndB til) && riseB (log.map (·.ev) ++ h.wait) && h.wait.all (pndB many til comp) && log.all (rcdB many comp)
/-- All hosts from comp on, with their records. -/
def chsB (many : Nat) (til : Int) : Int → List Ch → List (List Rec) → Bool
  | _, [], _ => true
  | i, h :: hs, ls => chB many til i h (ls.getD 0 []) && chsB many til (i + 1) hs (ls.drop 1)
theorem chsB_drop (many : Nat) (til : Int) (hs : List Ch) (ls : List (List Rec)) (k : Nat) (h : k < hs.length) : chsB many til k (hs.drop k) (ls.drop k) = (chB many til k (hs.getD k default) (ls.getD k []) && chsB many til ((k + 1 : Nat) : Int) (hs.drop (k + 1)) (ls.drop (k + 1))) := by
  rw [List.drop_eq_getElem_cons h, chsB]
  have e1 : hs.getD k default = hs[k] := by simp [List.getD, h]
  have e2 : (ls.drop k).getD 0 [] = ls.getD k [] := by simp [List.getD]
  have e3 : (ls.drop k).drop 1 = ls.drop (k + 1) := by rw [List.drop_drop]
  rw [e1, e2, e3]
  rfl
theorem chsB_end (many : Nat) (til : Int) (hs : List Ch) (ls : List (List Rec)) (k : Nat) (h : hs.length ≤ k) : chsB many til k (hs.drop k) (ls.drop k) = true := by
  rw [List.drop_of_length_le h]
  rfl
/-- A conservative simulation of a model. -/
def cbB (m : Mdl) (hs : List Ch) (ls : List (List Rec)) : Bool := mdlB m && (decide (hs.length = m.rules.length) && decide (ls.length = m.rules.length) && chsB m.rules.length m.til 0 hs ls)
end Go.Proofs.Ytklldniapombiaa

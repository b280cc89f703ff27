/-
  What all texts of this seat share, in one sentence: the event as six numbers, its cells, and small facts on memory; no condition is made.
  A region that draws its order and whose callees make new blocks, in one sentence: one walk in the order of the text serves every order, where each operation yields one value in every grown world.
  The reader of a code, in one sentence: what pick, odd and open give and keep; for every code that lies in memory.
  What within, l1In and the two EvtOk return, in one sentence: the bool that the fields' bounds give; for every event and every number of components of 64 bits.
  What tbOk returns, in one sentence: true; no condition is made.
  What toEvtEvt returns, in one sentence: the same six numbers; for every event.
  What cmp.Compare, cmp.Or and evtCompare return, in one sentence: the sign of the first field that differs; for every two events.
  What the two EvtLess return, in one sentence: whether the first field that differs is less; for every two events.
  What it means that a slice holds a list of events, in one sentence: each event's six cells lie one behind the other; nil is let in.
  What the two EvtRise return, in one sentence: whether each event is less than the next one; for every list that lies in memory.
  What eqEvtEvt, szEvtEvtS and eqEvtEvtS return, in one sentence: whether the events are the same, what is left of a size, whether two lists are the same; for all that lie in memory.
  What szEvtEvtS and eqEvtEvtS return, in one sentence: what is left of a size, and whether two lists are the same; for all lists that lie in memory.
  Blocks of events of the call's own, in one sentence: what the laying of an event's six cells keeps and what it gives; no condition is made.
  What toEvtEvtS returns, in one sentence: a new slice of the same events; for every list that lies in memory.
  The order of events, in one sentence: it is irreflexive, total, asymmetric and transitive, and an earlier time is less; and what == and != of two events give; for all events.
  The walk of a region that draws, kept shut, in one sentence: as region_up, but no tactic looks into what is left to walk.
  A region that draws its order and whose effects are forced into one order, in one sentence: one walk in the order of the text serves every order, where each operation yields in every world or is the only one that may come up.
  What a new row of cells holds, in one sentence: something in each, none frozen; no condition is made.
  Component states as values, in one sentence: three numbers, and the bounds that make one valid; no condition is made.
  What sendOk and l2Send return, in one sentence: the bool that the bounds give; for every send and every number of components in bounds.
  Models in memory, in one sentence: what it means that cells hold a rule, rules, rows of rules and a model, and what both MdlOk compute; no condition is made.
  What toMdlSend returns, in one sentence: the same six numbers; for every send.
  What eqMdlSend returns, in one sentence: whether the six numbers are the same.
  What szMdlSendS and eqMdlSendS return, in one sentence: what is left of a size, and whether two lists are the same; for all lists that lie in memory.
  What toMdlSendS returns, in one sentence: a new slice of the same sends; for every list that lies in memory.
-/
import Derived.Test.YtpainlcehgiokaaProg
import Derived.WalkKit
import Derived.Lib.Hide
import Derived.Deep.QuietTactic
import Derived.BigQuiet
import Derived.Below
import Derived.WalkSmall
import Derived.Outline
import Derived.Laws.Bits64
import Derived.StillTailTactics
import Derived.Laws.StructEq
import Derived.Deep.RegionHeld3
namespace Go.Proofs.Ytpainlcehgiokaa
set_option maxRecDepth 100000
open Go.RowKit

/-- An event: its six numbers. -/
structure Evt where
  t : Int
  to : Int
  fr : Int
  sq : Int
  kd : Int
  dt : Int
deriving DecidableEq

instance : Inhabited Evt := ⟨⟨0, 0, 0, 0, 0, 0⟩⟩

/-- Its cells. -/
def Evt.cs (e : Evt) : Array Value := #[.int .i64 e.t, .int .i64 e.to, .int .i64 e.fr, .int .i64 e.sq, .int .i64 e.kd, .int .i64 e.dt]
/-- Its value. -/
def Evt.v (e : Evt) : Value := .agg #[.int .i64 e.t, .int .i64 e.to, .int .i64 e.fr, .int .i64 e.sq, .int .i64 e.kd, .int .i64 e.dt]

/-- A number of 64 bits. -/
def I64 (n : Int) : Prop := -9223372036854775808 ≤ n ∧ n ≤ 9223372036854775807
/-- All six are of 64 bits. -/
def Evt.ok (e : Evt) : Prop := I64 e.t ∧ I64 e.to ∧ I64 e.fr ∧ I64 e.sq ∧ I64 e.kd ∧ I64 e.dt

/-- lo ≤ n ≤ hi. -/
def inB (n lo hi : Int) : Bool := decide (lo ≤ n) && decide (n ≤ hi)
theorem inB_iff {n lo hi : Int} : inB n lo hi = true ↔ lo ≤ n ∧ n ≤ hi := by simp [inB]
theorem inB_no {n lo hi : Int} : inB n lo hi = false ↔ ¬ (lo ≤ n ∧ n ≤ hi) := by rw [← inB_iff]; simp

/-- w' is w with new blocks; all that was there is as it was. -/
def Up (w w' : World) : Prop := Below w.heap.size w w'
theorem Up.refl (w : World) : Up w w := Below.refl _ _
theorem Up.below {w w' : World} (h : Up w w') : Below w.heap.size w w' := h
theorem Up.size {w w' : World} (h : Up w w') : w.heap.size ≤ w'.heap.size := Below.size h
theorem Up.trans {a b c : World} (h : Up a b) (k : Up b c) : Up a c := Below.trans h (Below.mono k h.size)
theorem Up.drew {a w : World} (h : Up a w) : Up a w.drew := Below.drew h
theorem Up.drewN {a w : World} (h : Up a w) (n : Nat) : Up a (w.drewN n) := below_drewN h n
theorem Up.alloc {a w : World} (h : Up a w) (o : Obj) : Up a (w.alloc o) := Below.alloc h h.size o
theorem Up.setCell {a w : World} (h : Up a w) {p : Addr} (hp : a.heap.size ≤ p.block) (u : Value) : Up a (w.setCell p u) := Below.setCell h hp u
theorem Up.cell {w w' : World} (h : Up w w') {p : Addr} (hp : p.block < w.heap.size) : w'.cell? p = w.cell? p := Below.cell h hp
theorem Up.cells {w w' : World} (h : Up w w') : ∀ b o, b < w.heap.size → w'.cell? ⟨b, o, none⟩ = w.cell? ⟨b, o, none⟩ := fun b o hb => h.cell (p := ⟨b, o, none⟩) hb
theorem Up.frozens {w w' : World} (h : Up w w') : ∀ b o, b < w.heap.size → w'.frozen? ⟨b, o, none⟩ = w.frozen? ⟨b, o, none⟩ := fun b o hb => Below.frozen (p := ⟨b, o, none⟩) h hb

/-- What a walk lays behind a call: the old cells, the old marks, the size. -/
theorem Up.facts {w w' : World} (h : Up w w') : (∀ b o, b < w.heap.size → w'.cell? ⟨b, o, none⟩ = w.cell? ⟨b, o, none⟩) ∧ (∀ b o, b < w.heap.size → w'.frozen? ⟨b, o, none⟩ = w.frozen? ⟨b, o, none⟩) ∧ w.heap.size ≤ w'.heap.size := ⟨h.cells, h.frozens, h.size⟩

theorem ret_bool {a b : Bool} (h : a = b) : Ending.returned (.bool a) = .returned (.bool b) := by rw [h]
theorem ret_int {a b : Int} (h : a = b) : Ending.returned (.int .i64 a) = .returned (.int .i64 b) := by rw [h]

end Go.Proofs.Ytpainlcehgiokaa

namespace Go.Proofs.Ytpainlcehgiokaa
set_option maxRecDepth 100000
open Go.RowKit

theorem region_up {P : Program} {id : Nat} {Q : Exit → Act → World → Prop} {a : Act} {w : World} {l : List Oper} (hm : P.follows .mixedOrders = true) (hB : Region.lexB .any l.toArray = true)
    (h : wpQuiet P l.toArray (Up w) (fun a' => ∀ w', Up w w' → Q .normal a' w') l a) : (Code.region id l.toArray true).wp P Q a w :=
  wp_region_quiet (C := Up w) hm hB (show Up w w.drew from (Up.refl w).drew) (by simpa using h)

/-- One operation: one value, in every grown world. -/
theorem up_step {P : Program} {ops : Array Oper} {w : World} {Q : Act → Prop} {a : Act} {o : Oper} {rest : List Oper} (hg : o.guard = none)
    (h : ∃ v, (∀ w1, Up w w1 → Oper.quietUpon P (Up w) w1 v ((execOp a.eval o).run P w1)) ∧ wpQuiet P ops (Up w) Q rest (a.put o.dst v)) : wpQuiet P ops (Up w) Q (o :: rest) a :=
  wpQuiet_step fun K hK => by
    have hw : Region.wanted o (yielded ops a.tmps) = true := by simp [Region.wanted, hg]
    rw [if_pos hw]
    obtain ⟨v, hq, hk⟩ := h
    exact ⟨v, hq, hK _ hk⟩

/-- A guarded operation that is wanted. -/
theorem up_want {P : Program} {ops : Array Oper} {w : World} {Q : Act → Prop} {a : Act} {o : Oper} {rest : List Oper} (hw : Region.wanted o (yielded ops a.tmps) = true)
    (h : ∃ v, (∀ w1, Up w w1 → Oper.quietUpon P (Up w) w1 v ((execOp a.eval o).run P w1)) ∧ wpQuiet P ops (Up w) Q rest (a.put o.dst v)) : wpQuiet P ops (Up w) Q (o :: rest) a :=
  wpQuiet_step fun K hK => by
    rw [if_pos hw]
    obtain ⟨v, hq, hk⟩ := h
    exact ⟨v, hq, hK _ hk⟩
/-- A guarded operation that is not wanted. -/
theorem up_skip {P : Program} {ops : Array Oper} {w : World} {Q : Act → Prop} {a : Act} {o : Oper} {rest : List Oper} (hw : Region.wanted o (yielded ops a.tmps) = false)
    (h : wpQuiet P ops (Up w) Q rest (a.put o.dst undef)) : wpQuiet P ops (Up w) Q (o :: rest) a :=
  wpQuiet_step fun K hK => by
    rw [if_neg (by rw [hw]; exact Bool.false_ne_true)]
    exact hK _ h

/-- A pure operation, what follows behind a letter. -/
theorem up_pure {P : Program} {ops : Array Oper} {C : World → Prop} {Q : Act → Prop} {a : Act} {o : Oper} {rest : List Oper}
    (h : ∀ K : Act → Prop, (∀ a, wpQuiet P ops C Q rest a → K a) → if Region.wanted o (yielded ops a.tmps) then ∃ v, (∀ w1, (execOp a.eval o).run P w1 = .ok (.value v) w1) ∧ K (a.put o.dst v) else K (a.put o.dst undef)) : wpQuiet P ops C Q (o :: rest) a :=
  wpQuiet_step fun K hK => by
    have := h K hK
    split
    · rename_i hw
      rw [if_pos hw] at this
      obtain ⟨v, hv, hk⟩ := this
      refine ⟨v, fun w1 _ => ?_, hk⟩
      simp [Oper.quietAt, Oper.quietUpon, hv]
    · rename_i hw
      rwa [if_neg hw] at this

theorem up_call {P : Program} {f : FuncId} {args : Array Value} {w w1 : World} {v : Value} (hw : Up w w1)
    (h : Calls P f args w1 fun e w' => e = .returned v ∧ Up w1 w') : Calls P f args w1 fun e w'' => e = .returned v ∧ Up w w'' :=
  h.mono fun _ _ ⟨he, u⟩ => ⟨he, hw.trans u⟩

end Go.Proofs.Ytpainlcehgiokaa

namespace Go.Proofs.Ytpainlcehgiokaa
set_option maxRecDepth 100000
open Go.RowKit

/-- The bytes of a slice that came in. -/
def Bys (w : World) (A : Option Addr) (n B : Nat) : Prop :=
  0 < n → ∃ b off, A = some ⟨b, off, none⟩ ∧ b < B ∧ ∀ i, i < n → ∃ z : Nat, z ≤ 255 ∧ w.cell? ⟨b, off + i, none⟩ = some (.int .u8 (z : Int))

/-- The reader at block g, which has picked at most N times. -/
def Rd (w : World) (g N : Nat) : Prop :=
  ∃ A n cap p, w.cell? ⟨g, 0, none⟩ = some (.slice A n cap) ∧ w.cell? ⟨g, 1, none⟩ = some (.int .i64 (p : Nat)) ∧ w.frozen? ⟨g, 1, none⟩ = false ∧ p ≤ N ∧ g < w.heap.size ∧ n ≤ 2000 ∧ Bys w A n g

/-- w' is w with new blocks, and block g may be written. -/
structure Mv (g : Nat) (w w' : World) : Prop where
  os : w'.os = w.os
  tape : w'.tape = w.tape
  output : w'.output = w.output
  size : w.heap.size ≤ w'.heap.size
  block : ∀ k, k < w.heap.size → k ≠ g → w'.heap[k]? = w.heap[k]?

theorem Mv.refl (g : Nat) (w : World) : Mv g w w := ⟨rfl, rfl, rfl, Nat.le_refl _, fun _ _ _ => rfl⟩
theorem Mv.trans {g : Nat} {a b c : World} (h : Mv g a b) (k : Mv g b c) : Mv g a c :=
  ⟨k.os.trans h.os, k.tape.trans h.tape, k.output.trans h.output, Nat.le_trans h.size k.size, fun j hj hne => (k.block j (Nat.lt_of_lt_of_le hj h.size) hne).trans (h.block j hj hne)⟩
theorem Up.mv {w w' : World} (h : Up w w') (g : Nat) : Mv g w w' := ⟨h.below.os, h.below.tape, h.below.output, h.size, fun k hk _ => h.below.block k hk⟩
theorem Mv.up {g : Nat} {a w w' : World} (h : Mv g w w') (k : Up a w) (hg : a.heap.size ≤ g) : Up a w' :=
  ⟨h.os.trans k.below.os, h.tape.trans k.below.tape, h.output.trans k.below.output, Nat.le_trans k.size h.size, fun j hj => (h.block j (Nat.lt_of_lt_of_le hj k.size) (by omega)).trans (k.below.block j hj)⟩
theorem Mv.setCell {g : Nat} {a w : World} (h : Mv g a w) {o : Nat} (u : Value) : Mv g a (w.setCell ⟨g, o, none⟩ u) :=
  ⟨h.os, h.tape, h.output, by simpa using h.size, fun k hk hne => (Below.heap_setCell w ⟨g, o, none⟩ u k hne).trans (h.block k hk hne)⟩
theorem Mv.drew {g : Nat} {a w : World} (h : Mv g a w) : Mv g a w.drew := ⟨h.os, h.tape, h.output, h.size, h.block⟩
theorem Mv.drewN {g : Nat} {a w : World} (h : Mv g a w) (n : Nat) : Mv g a (w.drewN n) := ⟨h.os, h.tape, h.output, h.size, h.block⟩
theorem Mv.alloc {g : Nat} {a w : World} (h : Mv g a w) (o : Obj) : Mv g a (w.alloc o) := h.trans ((Up.refl w).alloc o |>.mv g)
theorem Mv.cells {g : Nat} {w w' : World} (h : Mv g w w') : ∀ b o, b < w.heap.size → b ≠ g → w'.cell? ⟨b, o, none⟩ = w.cell? ⟨b, o, none⟩ := fun b o hb hne => World.cell?_of_block (w := w) (a := ⟨b, o, none⟩) (h.block b hb hne)
theorem Mv.frozens {g : Nat} {w w' : World} (h : Mv g w w') : ∀ b o, b < w.heap.size → b ≠ g → w'.frozen? ⟨b, o, none⟩ = w.frozen? ⟨b, o, none⟩ := fun b o hb hne => World.frozen?_of_block (w := w) (a := ⟨b, o, none⟩) (h.block b hb hne)

theorem Bys.keep {w w' : World} {A : Option Addr} {n B : Nat} (h : Bys w A n B) (k : ∀ b o, b < B → w'.cell? ⟨b, o, none⟩ = w.cell? ⟨b, o, none⟩) : Bys w' A n B := fun hn => by
  obtain ⟨b, off, hA, hb, hc⟩ := h hn
  exact ⟨b, off, hA, hb, fun i hi => by
    obtain ⟨z, hz, hc⟩ := hc i hi
    exact ⟨z, hz, (k _ _ hb).trans hc⟩⟩

/-- Block g is left alone: the reader stays. -/
theorem Rd.up {w w' : World} {g N : Nat} (h : Rd w g N) (u : Up w w') : Rd w' g N := by
  obtain ⟨A, n, cap, p, h0, h1, hf, hp, hg, hn, hb⟩ := h
  exact ⟨A, n, cap, p, (u.cells _ _ hg).trans h0, (u.cells _ _ hg).trans h1, (u.frozens _ _ hg).trans hf, hp, by have := u.size; omega, hn, hb.keep fun b o hb => u.cells b o (by omega)⟩
theorem Rd.mono {w : World} {g N N' : Nat} (h : Rd w g N) (hN : N ≤ N') : Rd w g N' := by
  obtain ⟨A, n, cap, p, h0, h1, hf, hp, hr⟩ := h
  exact ⟨A, n, cap, p, h0, h1, hf, by omega, hr⟩

/-- What a pick gives: a number below m (0, if there is none), and the reader is one further. -/
def Picked (g N : Nat) (m : Int) (w : World) (x : Ending) (w' : World) : Prop :=
  ∃ v : Int, x = .returned (.int .i64 v) ∧ 0 ≤ v ∧ (v < m ∨ v = 0) ∧ Rd w' g (N + 1) ∧ Mv g w w'

theorem xor_i64 (a b : Nat) (ha : a < 4611686018427387904) (hb : b < 4611686018427387904) : ∃ c : Nat, c < 4611686018427387904 ∧ bits .xor .i64 (a : Int) (b : Int) = (c : Int) := by
  have hx : a ^^^ b < 2 ^ 62 := Nat.xor_lt_two_pow (by omega) (by omega)
  refine ⟨a ^^^ b, by omega, ?_⟩
  have h1 : (BitVec.ofInt 64 (a : Int)).toNat = a := by
    rw [BitVec.ofInt_natCast, BitVec.toNat_ofNat]; exact Nat.mod_eq_of_lt (by omega)
  have h2 : (BitVec.ofInt 64 (b : Int)).toNat = b := by
    rw [BitVec.ofInt_natCast, BitVec.toNat_ofNat]; exact Nat.mod_eq_of_lt (by omega)
  show IntKind.i64.wrap ((BitVec.ofInt 64 (a : Int) ^^^ BitVec.ofInt 64 (b : Int)).toNat : Int) = _
  rw [BitVec.toNat_xor, h1, h2, IntKind.wrap_i64]
  omega

/-- The reader behind a step. -/
theorem Rd.step {w : World} {g N n cap p : Nat} {A : Option Addr} (h0 : w.cell? ⟨g, 0, none⟩ = some (.slice A n cap)) (h1 : w.cell? ⟨g, 1, none⟩ = some (.int .i64 (p : Nat))) (hf : w.frozen? ⟨g, 1, none⟩ = false)
    (hp : p ≤ N) (hg : g < w.heap.size) (hn : n ≤ 2000) (hb : Bys w A n g) : Rd (w.setCell ⟨g, 1, none⟩ (.int .i64 ((p : Int) + 1))) g (N + 1) := by
  have ne : (⟨g, 1, none⟩ : Addr) ≠ ⟨g, 0, none⟩ := by intro e; injection e with _ e2; cases e2
  refine ⟨A, n, cap, p + 1, (World.cell?_setCell_other _ _ _ _ ne).trans h0, World.cell?_setCell_same _ _ _ h1, ?_, by omega, by simpa using hg, hn, hb.keep fun b o hb => World.cell?_setCell_other _ _ _ _ ?_⟩
  · simpa [go_sem] using hf
  · intro e
    injection e with e1
    omega
theorem Rd.drewN {w : World} {g N : Nat} (h : Rd w g N) (n : Nat) : Rd (w.drewN n) g N := h
theorem Rd.setCell {w : World} {g N : Nat} (h : Rd w g N) {p : Addr} (hp : g < p.block) (u : Value) : Rd (w.setCell p u) g N := by
  obtain ⟨A, n, cap, p', h0, h1, hf, hp', hg, hn, hb⟩ := h
  have ne : ∀ b o, b ≤ g → p ≠ ⟨b, o, none⟩ := fun b o hb e => by subst e; exact absurd hp (by simpa using hb)
  exact ⟨A, n, cap, p', (World.cell?_setCell_other _ _ _ _ (ne _ _ (Nat.le_refl _))).trans h0, (World.cell?_setCell_other _ _ _ _ (ne _ _ (Nat.le_refl _))).trans h1, by simpa [go_sem] using hf, hp', by simpa using hg, hn, hb.keep fun b o hb => World.cell?_setCell_other _ _ _ _ (ne _ _ (by omega))⟩

end Go.Proofs.Ytpainlcehgiokaa

namespace Go.Proofs.Ytpainlcehgiokaa
set_option maxRecDepth 100000
open Go.RowKit

theorem within_any (n lo hi : Int) (w : World) :
    Calls Try.prog 42 #[.int .i64 n, .int .i64 lo, .int .i64 hi] w fun e w' => e = .returned (.bool (inB n lo hi)) ∧ w = w' := by
  by_cases h1 : lo ≤ n
  · by_cases h2 : n ≤ hi
    · have hf := inB_iff.2 ⟨h1, h2⟩
      go_enter Try.func42, Try.ntmps42
      go_wp2
      go_ret
      exact ⟨by first | rfl | exact ret_bool hf.symm, rfl⟩
    · have hf : inB n lo hi = false := inB_no.2 fun h => h2 h.2
      go_enter Try.func42, Try.ntmps42
      go_wp2
      go_ret
      exact ⟨by first | rfl | exact ret_bool hf.symm, rfl⟩
  · have hf : inB n lo hi = false := inB_no.2 fun h => h1 h.1
    go_enter Try.func42, Try.ntmps42
    go_wp2
    go_ret
    exact ⟨by first | rfl | exact ret_bool hf.symm, rfl⟩

theorem l1In_any (n lo hi : Int) (w : World) :
    Calls Try.prog 28 #[.int .i64 n, .int .i64 lo, .int .i64 hi] w fun e w' => e = .returned (.bool (inB n lo hi)) ∧ w = w' := by
  by_cases h1 : lo ≤ n
  · by_cases h2 : n ≤ hi
    · have hf := inB_iff.2 ⟨h1, h2⟩
      go_enter Try.func28, Try.ntmps28
      go_wp2
      go_ret
      exact ⟨by first | rfl | exact ret_bool hf.symm, rfl⟩
    · have hf : inB n lo hi = false := inB_no.2 fun h => h2 h.2
      go_enter Try.func28, Try.ntmps28
      go_wp2
      go_ret
      exact ⟨by first | rfl | exact ret_bool hf.symm, rfl⟩
  · have hf : inB n lo hi = false := inB_no.2 fun h => h1 h.1
    go_enter Try.func28, Try.ntmps28
    go_wp2
    go_ret
    exact ⟨by first | rfl | exact ret_bool hf.symm, rfl⟩

/-- What both EvtOk compute. -/
def okB (e : Evt) (many : Int) : Bool :=
  inB many 1 4 && inB e.t 0 99 && inB e.to 0 (many - 1) && inB e.fr (-1) (many - 1) && inB e.sq 0 11 && inB e.kd 0 2 && inB e.dt 0 96

theorem implOk_any (e : Evt) (many : Int) (w : World) :
    Calls Try.prog 30 #[e.v, .int .i64 many] w fun x w' => x = .returned (.bool (okB e many)) ∧ Up w w' := by
  unfold okB
  obtain ⟨et, eto, efr, esq, ekd, edt⟩ := e
  unfold Evt.v
  dsimp only
  by_cases hm : 1 ≤ many ∧ many ≤ 4
  · have hin : inB many 1 4 = true := inB_iff.2 hm
    obtain ⟨hm1, hm2⟩ := hm
    go_enter Try.func30, Try.ntmps30
    go_wp2_with (go_at_call 42; refine (within_any _ _ _ _).mono ?_; rintro e w' ⟨rfl, rfl⟩)
    all_goals go_ret
    all_goals exact ⟨ret_bool (by simp [*]), (Up.refl _).alloc _⟩
  · have hin : inB many 1 4 = false := inB_no.2 hm
    go_enter Try.func30, Try.ntmps30
    go_wp2_with (go_at_call 42; refine (within_any _ _ _ _).mono ?_; rintro e w' ⟨rfl, rfl⟩)
    go_ret
    exact ⟨ret_bool (by simp [*]), (Up.refl _).alloc _⟩

theorem specOk_any (e : Evt) (many : Int) (w : World) :
    Calls Try.prog 60 #[e.v, .int .i64 many] w fun x w' => x = .returned (.bool (okB e many)) ∧ Up w w' := by
  unfold okB
  obtain ⟨et, eto, efr, esq, ekd, edt⟩ := e
  unfold Evt.v
  dsimp only
  by_cases hm : 1 ≤ many ∧ many ≤ 4
  · have hin : inB many 1 4 = true := inB_iff.2 hm
    obtain ⟨hm1, hm2⟩ := hm
    go_enter Try.func60, Try.ntmps60
    go_wp2_with (go_at_call 28; refine (l1In_any _ _ _ _).mono ?_; rintro e w' ⟨rfl, rfl⟩)
    all_goals go_ret
    all_goals exact ⟨ret_bool (by simp [*]), (Up.refl _).alloc _⟩
  · have hin : inB many 1 4 = false := inB_no.2 hm
    go_enter Try.func60, Try.ntmps60
    go_wp2_with (go_at_call 28; refine (l1In_any _ _ _ _).mono ?_; rintro e w' ⟨rfl, rfl⟩)
    go_ret
    exact ⟨ret_bool (by simp [*]), (Up.refl _).alloc _⟩

end Go.Proofs.Ytpainlcehgiokaa

namespace Go.Proofs.Ytpainlcehgiokaa
set_option maxRecDepth 100000
open Go.RowKit

theorem tbOk_any (w : World) : Calls Try.prog 8 #[] w fun x w' => x = .returned (.bool true) ∧ Up w w' := by
  have c := fun W => implOk_any ⟨0, 0, -1, 0, 0, 0⟩ 1 W
  have e1 : okB ⟨0, 0, -1, 0, 0, 0⟩ 1 = true := by decide
  rw [e1] at c
  clear e1
  unfold Evt.v at c
  dsimp only at c
  have H := Lib.hid c
  clear c
  go_enter Try.func8, Try.ntmps8
  go_wp2_with (go_at_call 30; refine (H.out _).mono ?_; rintro e w' ⟨rfl, hb⟩)
  go_ret
  exact ⟨rfl, hb⟩

end Go.Proofs.Ytpainlcehgiokaa

namespace Go.Proofs.Ytpainlcehgiokaa
set_option maxRecDepth 100000
open Go.RowKit

theorem toEvt_any (e : Evt) (w : World) :
    Calls Try.prog 52 #[e.v] w fun x w' => x = .returned e.v ∧ Up w w' := by
  obtain ⟨et, eto, efr, esq, ekd, edt⟩ := e
  unfold Evt.v
  dsimp only
  go_enter Try.func52, Try.ntmps52
  go_wp2
  refine bodyPost_ret (v := .agg #[.int .i64 et, .int .i64 eto, .int .i64 efr, .int .i64 esq, .int .i64 ekd, .int .i64 edt]) (by simp [results, Try.results52, go_sem]) rfl ⟨rfl, (((Up.refl _).alloc _).alloc _).alloc _⟩

end Go.Proofs.Ytpainlcehgiokaa

namespace Go.Proofs.Ytpainlcehgiokaa
set_option maxRecDepth 100000
open Go.RowKit

/-- Two numbers compared. -/
def cmpI (x y : Int) : Int := if x < y then -1 else if y < x then 1 else 0
/-- The first that is not 0. -/
def orL : List Int → Int
  | [] => 0
  | x :: r => if x = 0 then orL r else x

theorem isNaN_any (x : Int) (w : World) : Calls Try.prog 78 #[.int .i64 x] w fun e w' => e = .returned (.bool false) ∧ w = w' := by
  go_enter Try.func78, Try.ntmps78
  go_wp2
  go_ret
  exact ⟨rfl, rfl⟩

theorem cmpI_any (x y : Int) (w : World) : Calls Try.prog 77 #[.int .i64 x, .int .i64 y] w fun e w' => e = .returned (.int .i64 (cmpI x y)) ∧ w = w' := by
  by_cases h1 : x < y
  · -- less
    have hf := Lib.hid (show cmpI x y = -1 from by unfold cmpI; rw [if_pos h1])
    go_enter Try.func77, Try.ntmps77
    go_wp2_with (go_at_call 78; refine (isNaN_any _ _).mono ?_; rintro e w' ⟨rfl, rfl⟩)
    go_ret
    exact ⟨ret_int hf.out.symm, rfl⟩
  · by_cases h2 : y < x
    · -- greater
      have hf := Lib.hid (show cmpI x y = 1 from by unfold cmpI; rw [if_neg h1, if_pos h2])
      go_enter Try.func77, Try.ntmps77
      go_wp2_with (go_at_call 78; refine (isNaN_any _ _).mono ?_; rintro e w' ⟨rfl, rfl⟩)
      go_ret
      exact ⟨ret_int hf.out.symm, rfl⟩
    · -- equal
      have hf := Lib.hid (show cmpI x y = 0 from by unfold cmpI; rw [if_neg h1, if_neg h2])
      go_enter Try.func77, Try.ntmps77
      go_wp2_with (go_at_call 78; refine (isNaN_any _ _).mono ?_; rintro e w' ⟨rfl, rfl⟩)
      go_ret
      exact ⟨ret_int hf.out.symm, rfl⟩

theorem orL_drop (zs : List Int) (k : Nat) (hk : k < zs.length) : orL (zs.drop k) = if zs.getD k 0 = 0 then orL (zs.drop (k + 1)) else zs.getD k 0 := by
  rw [List.drop_eq_getElem_cons hk, orL]
  simp [hk]

theorem or_any (b off n cap : Nat) (zs : List Int) (w : World) (hn : zs.length = n) (hb : n ≤ 1000000)
    (hc : ∀ j, j < n → w.cell? ⟨b, off + j, none⟩ = some (.int .i64 (zs.getD j 0))) :
    Calls Try.prog 76 #[.slice (some ⟨b, off, none⟩) n cap] w fun e w' => e = .returned (.int .i64 (orL zs)) ∧ w = w' := by
  have HN := Lib.hid hn
  have HC := Lib.hid hc
  clear hn hc
  go_enter Try.func76, Try.ntmps76
  go_wp2
  go_loop [8, 5] (fun i _ => ∃ k : Nat, k ≤ n ∧ i = .int .i64 k ∧ orL (zs.drop k) = orL zs) (fun i _ => n - (intOf i).toNat)
  case atStart => exact ⟨0, Nat.zero_le _, rfl, rfl⟩
  case round =>
    obtain ⟨k, hk, rfl, hr⟩ := hrel
    have HR := Lib.hid hr
    clear hr
    by_cases hlt : k < n
    · have hck := HC.out k hlt
      have hd := orL_drop zs k (by rw [HN.out]; exact hlt)
      generalize zs.getD k 0 = z at hck hd
      have HD := Lib.hid hd
      clear hd
      by_cases hz : z = 0
      · have hz' : (z != 0) = false := by simp [hz]
        have HZ := Lib.hid hz
        clear hz
        go_wp2
        go_round
        case rel => exact ⟨k + 1, by omega, by go_num, by rw [← HR.out, HD.out, if_pos HZ.out]⟩
        case measure => simp [intOf]; omega
      · have hz' : (z != 0) = true := by simp [hz]
        have HZ := Lib.hid hz
        clear hz
        go_wp2
        go_ret
        exact ⟨ret_int (by rw [← HR.out, HD.out, if_neg HZ.out]), rfl⟩
    · go_wp2
      go_ret
      exact ⟨ret_int (by rw [← HR.out, List.drop_eq_nil_of_le (by rw [HN.out]; omega)]; rfl), rfl⟩

/-- What evtCompare computes. -/
def cmpE (a b : Evt) : Int := orL [cmpI a.t b.t, cmpI a.to b.to, cmpI a.fr b.fr, cmpI a.sq b.sq, cmpI a.kd b.kd, cmpI a.dt b.dt]

theorem region_tail {P : Program} {id : Nat} {Q : Exit → Act → World → Prop} {a : Act} {w : World} {l : List Oper} (n : Nat) (hm : P.follows .mixedOrders = true) (hB : Region.lexTailB .any l.toArray n = true)
    (h : wpStill P l.toArray w.drew (fun a' => wpList P l.toArray Q (l.drop n) a' w.drew) (l.take n) a) : (Code.region id l.toArray true).wp P Q a w :=
  wp_region_still_tail n hm hB h

theorem flip_same {P : Program} {f : FuncId} {args : Array Value} {w : World} {v : Value} (h : Calls P f args w fun e w' => e = .returned v ∧ w = w') : Calls P f args w fun e w' => e = .returned v ∧ w' = w :=
  h.mono fun _ _ ⟨a, b⟩ => ⟨a, b.symm⟩

set_option maxHeartbeats 1000000 in
set_option maxRecDepth 100000 in
theorem cmpE_any (a b : Evt) (w : World) : Calls Try.prog 72 #[a.v, b.v] w fun x w' => x = .returned (.int .i64 (cmpE a b)) ∧ Up w w' := by
  unfold cmpE
  obtain ⟨at_, ato, afr, asq, akd, adt⟩ := a
  obtain ⟨bt, bto, bfr, bsq, bkd, bdt⟩ := b
  unfold Evt.v
  dsimp only
  generalize h0 : cmpI at_ bt = c0
  generalize h1 : cmpI ato bto = c1
  generalize h2 : cmpI afr bfr = c2
  generalize h3 : cmpI asq bsq = c3
  generalize h4 : cmpI akd bkd = c4
  generalize h5 : cmpI adt bdt = c5
  have H0 := fun W => flip_same (h0 ▸ cmpI_any at_ bt W)
  have H1 := fun W => flip_same (h1 ▸ cmpI_any ato bto W)
  have H2 := fun W => flip_same (h2 ▸ cmpI_any afr bfr W)
  have H3 := fun W => flip_same (h3 ▸ cmpI_any asq bsq W)
  have H4 := fun W => flip_same (h4 ▸ cmpI_any akd bkd W)
  have H5 := fun W => flip_same (h5 ▸ cmpI_any adt bdt W)
  clear h0 h1 h2 h3 h4 h5
  go_enter Try.func72, Try.ntmps72
  go_wp2
  refine region_tail 30 (by kernel_rfl) (by kernel_rfl) ?_
  simp only [List.take_succ_cons, List.take_zero, List.drop_succ_cons, List.drop_zero]
  iterate 4 still_step
  still_call (H0 _)
  iterate 4 still_step
  still_call (H1 _)
  iterate 4 still_step
  still_call (H2 _)
  iterate 4 still_step
  still_call (H3 _)
  iterate 4 still_step
  still_call (H4 _)
  iterate 4 still_step
  still_call (H5 _)
  refine wpStill_nil ?_
  clear H0 H1 H2 H3 H4 H5
  go_wp2_with fail
  refine (or_any _ 0 6 6 [c0, c1, c2, c3, c4, c5] _ rfl (by omega) ?_).mono ?_
  · intro j hj
    have h6 : j = 0 ∨ j = 1 ∨ j = 2 ∨ j = 3 ∨ j = 4 ∨ j = 5 := by omega
    rcases h6 with rfl | rfl | rfl | rfl | rfl | rfl <;> simp [go_sem]
  · rintro x w' ⟨rfl, rfl⟩
    go_wp2
    go_ret
    exact ⟨rfl, ((((Up.refl _).alloc _).alloc _).alloc _).drew⟩

end Go.Proofs.Ytpainlcehgiokaa

namespace Go.Proofs.Ytpainlcehgiokaa
set_option maxRecDepth 100000
open Go.RowKit

/-- Is the first field that differs less? -/
def ltE (a b : Evt) : Bool := decide (cmpE a b < 0)

/-- The six numbers as a list. -/
def Evt.l (e : Evt) : List Int := [e.t, e.to, e.fr, e.sq, e.kd, e.dt]

/-- A new slice of these numbers. -/
def NewInts (zs : List Int) (w : World) (x : Ending) (w' : World) : Prop :=
  ∃ g, x = .returned (.slice (some ⟨g, 0, none⟩) zs.length zs.length) ∧ w.heap.size ≤ g ∧ g < w'.heap.size ∧ (∀ j, j < zs.length → w'.cell? ⟨g, j, none⟩ = some (.int .i64 (zs.getD j 0))) ∧ Up w w'

theorem l1List_any (e : Evt) (w : World) : Calls Try.prog 64 #[e.v] w (NewInts e.l w) := by
  obtain ⟨et, eto, efr, esq, ekd, edt⟩ := e
  unfold Evt.v Evt.l
  dsimp only
  go_enter Try.func64, Try.ntmps64
  go_wp2
  go_ret
  refine ⟨w.heap.size + 1, rfl, by omega, by simp, ?_, ((Up.refl _).alloc _).alloc _⟩
  intro j hj
  have h6 : j = 0 ∨ j = 1 ∨ j = 2 ∨ j = 3 ∨ j = 4 ∨ j = 5 := by simp at hj; omega
  rcases h6 with rfl | rfl | rfl | rfl | rfl | rfl <;> simp [go_sem]

theorem cmpI_lt {x y : Int} : cmpI x y < 0 ↔ x < y := by unfold cmpI; split <;> (try split) <;> omega
theorem cmpI_eq {x y : Int} : cmpI x y = 0 ↔ x = y := by unfold cmpI; split <;> (try split) <;> omega

/-- The signs of the fields. -/
def sgs (a b : Evt) : List Int := [cmpI a.t b.t, cmpI a.to b.to, cmpI a.fr b.fr, cmpI a.sq b.sq, cmpI a.kd b.kd, cmpI a.dt b.dt]
theorem cmpE_sgs (a b : Evt) : cmpE a b = orL (sgs a b) := rfl
theorem sgs_getD (a b : Evt) (k : Nat) (hk : k < 6) : (sgs a b).getD k 0 = cmpI (a.l.getD k 0) (b.l.getD k 0) := by
  have h6 : k = 0 ∨ k = 1 ∨ k = 2 ∨ k = 3 ∨ k = 4 ∨ k = 5 := by omega
  rcases h6 with rfl | rfl | rfl | rfl | rfl | rfl <;> rfl

theorem less_step (a b : Evt) (k : Nat) (hk : k < 6) (hr : orL ((sgs a b).drop k) = cmpE a b) (he : a.l.getD k 0 = b.l.getD k 0) : orL ((sgs a b).drop (k + 1)) = cmpE a b := by
  rw [← hr, orL_drop _ k (by simpa [sgs] using hk), sgs_getD _ _ _ hk, if_pos (cmpI_eq.2 he)]
theorem less_here (a b : Evt) (k : Nat) (hk : k < 6) (hr : orL ((sgs a b).drop k) = cmpE a b) (he : ¬ a.l.getD k 0 = b.l.getD k 0) : decide (a.l.getD k 0 < b.l.getD k 0) = ltE a b := by
  unfold ltE
  rw [← hr, orL_drop _ k (by simpa [sgs] using hk), sgs_getD _ _ _ hk, if_neg (fun h => he (cmpI_eq.1 h))]
  simp [cmpI_lt]
theorem less_end (a b : Evt) (k : Nat) (hk : 6 ≤ k) (hr : orL ((sgs a b).drop k) = cmpE a b) : false = ltE a b := by
  unfold ltE
  rw [← hr, List.drop_eq_nil_of_le (by simpa [sgs] using hk)]
  rfl

theorem specLess_any (a b : Evt) (w : World) : Calls Try.prog 55 #[a.v, b.v] w fun x w' => x = .returned (.bool (ltE a b)) ∧ Up w w' := by
  have ca := fun W => l1List_any a W
  have cb := fun W => l1List_any b W
  have st := less_step a b
  have he := less_here a b
  have en := less_end a b
  have h0 : orL ((sgs a b).drop 0) = cmpE a b := rfl
  have la : a.l.length = 6 := rfl
  have lb : b.l.length = 6 := rfl
  generalize ltE a b = r at he en ⊢
  generalize sgs a b = zs at st he en h0
  generalize cmpE a b = c at st he en h0
  generalize hxa : a.l = xa at ca st he la
  generalize hxb : b.l = xb at cb st he lb
  clear hxa hxb
  obtain ⟨at_, ato, afr, asq, akd, adt⟩ := a
  obtain ⟨bt, bto, bfr, bsq, bkd, bdt⟩ := b
  unfold Evt.v at ca cb ⊢
  dsimp only at ca cb ⊢
  have CA := Lib.hid ca
  have CB := Lib.hid cb
  have ST := Lib.hid st
  have HE := Lib.hid he
  have EN := Lib.hid en
  have H0 := Lib.hid h0
  have LA := Lib.hid la
  have LB := Lib.hid lb
  clear ca cb st he en h0 la lb
  go_enter Try.func55, Try.ntmps55
  go_wp2_with fail
  refine (CA.out _).mono ?_
  rintro x w1 ⟨ga, rfl, ga1, ga2, hca, u1⟩
  rw [LA.out] at hca ⊢
  have HCA := Lib.hid hca
  clear hca
  obtain ⟨hc, hf, hz⟩ := u1.facts
  simp at hz ga1
  go_wp2_with fail
  refine (CB.out _).mono ?_
  rintro x w2 ⟨gb, rfl, gb1, gb2, hcb, u2⟩
  rw [LB.out] at hcb ⊢
  have HCB := Lib.hid hcb
  clear hcb
  clear hc hf
  have u := ((((Up.refl _).alloc _).alloc _).trans u1).trans u2
  have hcA : ∀ j, j < 6 → w2.cell? ⟨ga, j, none⟩ = some (.int .i64 (xa.getD j 0)) := fun j hj => (u2.cells ga j ga2).trans (HCA.out j hj)
  have HCA2 := Lib.hid hcA
  clear hcA
  have ga3 : ga < w2.heap.size := by have := u2.size; omega
  go_wp2
  go_loopw [7] (fun i wr => (∃ k : Nat, k ≤ 6 ∧ i = .int .i64 k ∧ orL (zs.drop k) = c) ∧ Up w2 wr) (fun i _ => 6 - (intOf i).toNat)
  case atStart => exact ⟨⟨0, by omega, rfl, H0.out⟩, Up.refl _⟩
  case round =>
    obtain ⟨⟨k, hk, rfl, hr⟩, ur⟩ := hrel
    have HR := Lib.hid hr
    clear hr
    by_cases hlt : k < 6
    · have hk1 := (ur.cells ga k ga3).trans (HCA2.out k hlt)
      have hk2 := (ur.cells gb k gb2).trans (HCB.out k hlt)
      have S := ST.out k hlt HR.out
      have E := HE.out k hlt HR.out
      generalize xa.getD k 0 = p at hk1 S E
      generalize xb.getD k 0 = q at hk2 S E
      have S' := Lib.hid S
      have E' := Lib.hid E
      clear S E
      by_cases hpq : p = q
      · have hne : (p != q) = false := by simp [hpq]
        have HP := Lib.hid hpq
        clear hpq
        go_wp2
        go_quiet (fail)
        go_wp2
        go_roundw
        case rel => exact ⟨⟨k + 1, by omega, by go_num, S'.out HP.out⟩, ur.drewN _⟩
        case measure => simp [intOf]; omega
      · have hne : (p != q) = true := by simp [hpq]
        have HP := Lib.hid hpq
        clear hpq
        go_wp2
        go_quiet (fail)
        go_wp2
        go_quiet (fail)
        go_wp2
        go_ret
        exact ⟨ret_bool (E'.out HP.out), ((u.trans ur).drewN _).drewN _⟩
    · go_wp2
      go_ret
      exact ⟨ret_bool (EN.out k (by omega) HR.out), u.trans ur⟩

end Go.Proofs.Ytpainlcehgiokaa

namespace Go.Proofs.Ytpainlcehgiokaa
set_option maxRecDepth 100000
open Go.RowKit

/-- The six cells of an event, from o on. -/
def EvAt (w : World) (b o : Nat) (e : Evt) : Prop :=
  w.cell? ⟨b, o, none⟩ = some (.int .i64 e.t) ∧ w.cell? ⟨b, o + 1, none⟩ = some (.int .i64 e.to) ∧ w.cell? ⟨b, o + 2, none⟩ = some (.int .i64 e.fr) ∧
  w.cell? ⟨b, o + 3, none⟩ = some (.int .i64 e.sq) ∧ w.cell? ⟨b, o + 4, none⟩ = some (.int .i64 e.kd) ∧ w.cell? ⟨b, o + 5, none⟩ = some (.int .i64 e.dt)

/-- The slice at A of n elements holds the list. -/
def Evs (w : World) (A : Option Addr) (n : Nat) (es : List Evt) : Prop :=
  es.length = n ∧ (0 < n → ∃ b off, A = some ⟨b, off, none⟩ ∧ b < w.heap.size ∧ ∀ i, i < n → EvAt w b (off + i * 6) (es.getD i default))

theorem EvAt.up {w w' : World} {b o : Nat} {e : Evt} (h : EvAt w b o e) (u : Up w w') (hb : b < w.heap.size) : EvAt w' b o e := by
  obtain ⟨h0, h1, h2, h3, h4, h5⟩ := h
  exact ⟨(u.cells _ _ hb).trans h0, (u.cells _ _ hb).trans h1, (u.cells _ _ hb).trans h2, (u.cells _ _ hb).trans h3, (u.cells _ _ hb).trans h4, (u.cells _ _ hb).trans h5⟩
theorem Evs.up {w w' : World} {A : Option Addr} {n : Nat} {es : List Evt} (h : Evs w A n es) (u : Up w w') : Evs w' A n es :=
  ⟨h.1, fun hn => by
    obtain ⟨b, off, hA, hb, hc⟩ := h.2 hn
    exact ⟨b, off, hA, by have := u.size; omega, fun i hi => (hc i hi).up u hb⟩⟩
theorem Evs.none_ (w : World) : Evs w none 0 [] := ⟨rfl, fun h => absurd h (by omega)⟩
theorem Evs.nil {w : World} {A : Option Addr} {es : List Evt} (h : Evs w A 0 es) : es = [] := List.eq_nil_of_length_eq_zero h.1

/-- Are they in order, none twice? -/
def riseB : List Evt → Bool
  | a :: b :: r => ltE a b && riseB (b :: r)
  | _ => true

theorem riseB_drop (es : List Evt) (j : Nat) (h : j + 1 < es.length) : riseB (es.drop j) = (ltE (es.getD j default) (es.getD (j + 1) default) && riseB (es.drop (j + 1))) := by
  rw [List.drop_eq_getElem_cons (show j < es.length by omega), List.drop_eq_getElem_cons h, riseB]
  simp [show j < es.length by omega, h]
theorem riseB_end (es : List Evt) (j : Nat) (h : es.length ≤ j + 1) : riseB (es.drop j) = true := by
  have : (es.drop j).length ≤ 1 := by simp; omega
  match hd : es.drop j, this with
  | [], _ => rfl
  | [a], _ => rfl

end Go.Proofs.Ytpainlcehgiokaa

namespace Go.Proofs.Ytpainlcehgiokaa
set_option maxRecDepth 100000
open Go.RowKit

set_option maxHeartbeats 1000000 in
theorem ascE_any (A : Option Addr) (n cap : Nat) (es : List Evt) (w : World) (hn : n ≤ 1000000000) (hE : Evs w A n es) :
    Calls Try.prog 71 #[.func (.func 72) #[] #[], .slice A n cap] w fun x w' => x = .returned (.bool (riseB es)) ∧ Up w w' := by
  have H0 := Lib.hid (show riseB (es.drop 0) = riseB es from rfl)
  have ST := Lib.hid (riseB_drop es)
  have EN := Lib.hid (riseB_end es)
  have HE := Lib.hid hE
  have LE := Lib.hid hE.1
  have CL := Lib.hid (fun a b W => cmpE_any a b W)
  clear hE
  go_enter Try.func71, Try.ntmps71
  go_wp2
  go_loopw [5] (fun i wr => (∃ j : Nat, (j = 0 ∨ j + 1 ≤ n) ∧ i = .int .i64 ((j : Int) + 1) ∧ riseB (es.drop j) = riseB es) ∧ Up w wr) (fun i _ => n + 1 - (intOf i).toNat)
  case atStart => exact ⟨⟨0, .inl rfl, rfl, H0.out⟩, Up.refl _⟩
  case round =>
    obtain ⟨⟨j, hj, rfl, hr⟩, ur⟩ := hrel
    have HR := Lib.hid hr
    clear hr
    by_cases hlt : j + 1 < n
    · obtain ⟨b, off, hA, hb, hc⟩ := HE.out.2 (by omega)
      subst hA
      have a0 := (hc j (by omega)).up ur hb
      have a1 := (hc (j + 1) hlt).up ur hb
      have hb' : b < wr.heap.size := by have := ur.size; omega
      clear hc
      have S := ST.out j (by rw [LE.out]; exact hlt)
      have cl := CL.out (es.getD j default) (es.getD (j + 1) default)
      generalize es.getD j default = p at a0 S cl
      generalize es.getD (j + 1) default = q at a1 S cl
      have S' := Lib.hid S
      clear S
      generalize hz : cmpE p q = z at cl
      have HZ := Lib.hid (show ltE p q = decide (z < 0) by unfold ltE; rw [hz])
      clear hz
      generalize ltE p q = r at S' HZ
      obtain ⟨pt, pto, pfr, psq, pkd, pdt⟩ := p
      obtain ⟨qt, qto, qfr, qsq, qkd, qdt⟩ := q
      unfold EvAt at a0 a1
      unfold Evt.v at cl
      dsimp only at a0 a1 cl
      obtain ⟨p0, p1, p2, p3, p4, p5⟩ := a0
      obtain ⟨q0, q1, q2, q3, q4, q5⟩ := a1
      have C := Lib.hid cl
      clear cl
      have i0 : IntKind.i64.wrap (j : Int) = j := IntWalk.i64_in _ (by omega)
      have i1 : (0 : Int) ≤ (j : Int) + 1 := by omega
      have i2 : ((j : Int) + 1).toNat = j + 1 := by omega
      have i3 : (j : Int) + 1 < n := by omega
      have i4 : (j : Int) < n := by omega
      go_wp2
      by_cases hz : z < 0
      · have hr : r = true := by rw [HZ.out]; exact decide_eq_true hz
        have HR2 := Lib.hid hr
        clear hr
        refine region_up (by kernel_rfl) (by kernel_rfl) ?_
        refine up_step rfl ?_
        apply Exists.intro
        refine ⟨fun w1 hw1 => ?_, ?_⟩
        · go_simp
          try rfl
        go_simp
        refine up_step rfl ?_
        apply Exists.intro
        refine ⟨fun w1 hw1 => ?_, ?_⟩
        · go_simp
          try rfl
        go_simp
        refine up_step rfl ?_
        apply Exists.intro
        refine ⟨fun w1 hw1 => ?_, ?_⟩
        · go_simp
          try rfl
        go_simp
        refine up_step rfl ?_
        apply Exists.intro
        refine ⟨fun w1 hw1 => ?_, ?_⟩
        · go_simp
          try rfl
        go_simp
        refine up_step rfl ?_
        apply Exists.intro
        refine ⟨fun w1 hw1 => ?_, ?_⟩
        · go_simp
          try rfl
        go_simp
        refine up_step rfl ?_
        apply Exists.intro
        refine ⟨fun w1 hw1 => ?_, ?_⟩
        · obtain ⟨hc, hf, hz⟩ := hw1.facts
          try simp at hz
          go_simp
          try rfl
        go_simp
        refine up_step rfl ?_
        apply Exists.intro
        refine ⟨fun w1 hw1 => ?_, ?_⟩
        · go_simp
          try rfl
        go_simp
        refine up_step rfl ?_
        apply Exists.intro
        refine ⟨fun w1 hw1 => ?_, ?_⟩
        · go_simp
          try rfl
        go_simp
        refine up_step rfl ?_
        apply Exists.intro
        refine ⟨fun w1 hw1 => ?_, ?_⟩
        · go_simp
          try rfl
        go_simp
        refine up_step rfl ?_
        apply Exists.intro
        refine ⟨fun w1 hw1 => ?_, ?_⟩
        · obtain ⟨hc, hf, hz⟩ := hw1.facts
          try simp at hz
          go_simp
          try rfl
        go_simp
        refine up_step rfl ?_
        apply Exists.intro
        refine ⟨fun w1 hw1 => ?_, ?_⟩
        · go_simp
          exact up_call hw1 (C.out _)
        go_simp
        refine up_step rfl ?_
        apply Exists.intro
        refine ⟨fun w1 hw1 => ?_, ?_⟩
        · go_simp
          try rfl
        go_simp
        refine wpQuiet_nil ?_
        intro wA uA
        clear i0 i1 i2 i3 i4 p0 p1 p2 p3 p4 p5 q0 q1 q2 q3 q4 q5 C
        go_wp2
        go_roundw
        case rel => exact ⟨⟨j + 1, .inr (by omega), by go_num, by rw [← HR.out, S'.out, HR2.out]; rfl⟩, ur.trans uA⟩
        case measure => simp [intOf]; omega
      · have hz0 : 0 ≤ z := by omega
        have hr : r = false := by rw [HZ.out]; exact decide_eq_false hz
        have HR2 := Lib.hid hr
        clear hr
        refine region_up (by kernel_rfl) (by kernel_rfl) ?_
        refine up_step rfl ?_
        apply Exists.intro
        refine ⟨fun w1 hw1 => ?_, ?_⟩
        · go_simp
          try rfl
        go_simp
        refine up_step rfl ?_
        apply Exists.intro
        refine ⟨fun w1 hw1 => ?_, ?_⟩
        · go_simp
          try rfl
        go_simp
        refine up_step rfl ?_
        apply Exists.intro
        refine ⟨fun w1 hw1 => ?_, ?_⟩
        · go_simp
          try rfl
        go_simp
        refine up_step rfl ?_
        apply Exists.intro
        refine ⟨fun w1 hw1 => ?_, ?_⟩
        · go_simp
          try rfl
        go_simp
        refine up_step rfl ?_
        apply Exists.intro
        refine ⟨fun w1 hw1 => ?_, ?_⟩
        · go_simp
          try rfl
        go_simp
        refine up_step rfl ?_
        apply Exists.intro
        refine ⟨fun w1 hw1 => ?_, ?_⟩
        · obtain ⟨hc, hf, hz⟩ := hw1.facts
          try simp at hz
          go_simp
          try rfl
        go_simp
        refine up_step rfl ?_
        apply Exists.intro
        refine ⟨fun w1 hw1 => ?_, ?_⟩
        · go_simp
          try rfl
        go_simp
        refine up_step rfl ?_
        apply Exists.intro
        refine ⟨fun w1 hw1 => ?_, ?_⟩
        · go_simp
          try rfl
        go_simp
        refine up_step rfl ?_
        apply Exists.intro
        refine ⟨fun w1 hw1 => ?_, ?_⟩
        · go_simp
          try rfl
        go_simp
        refine up_step rfl ?_
        apply Exists.intro
        refine ⟨fun w1 hw1 => ?_, ?_⟩
        · obtain ⟨hc, hf, hz⟩ := hw1.facts
          try simp at hz
          go_simp
          try rfl
        go_simp
        refine up_step rfl ?_
        apply Exists.intro
        refine ⟨fun w1 hw1 => ?_, ?_⟩
        · go_simp
          exact up_call hw1 (C.out _)
        go_simp
        refine up_step rfl ?_
        apply Exists.intro
        refine ⟨fun w1 hw1 => ?_, ?_⟩
        · go_simp
          try rfl
        go_simp
        refine wpQuiet_nil ?_
        intro wA uA
        clear i0 i1 i2 i3 i4 p0 p1 p2 p3 p4 p5 q0 q1 q2 q3 q4 q5 C
        go_wp2
        go_ret
        exact ⟨ret_bool (by rw [← HR.out, S'.out, HR2.out]; rfl), ur.trans uA⟩
    · have e := EN.out j (by rw [LE.out]; omega)
      have E := Lib.hid e
      clear e
      go_wp2
      go_ret
      exact ⟨ret_bool (by rw [← HR.out, E.out]), ur⟩

theorem implRise_any (A : Option Addr) (n cap : Nat) (es : List Evt) (w : World) (hn : n ≤ 1000000000) (hE : Evs w A n es) :
    Calls Try.prog 65 #[.slice A n cap] w fun x w' => x = .returned (.bool (riseB es)) ∧ Up w w' := by
  have C := Lib.hid (ascE_any A n cap es w hn hE)
  generalize riseB es = r at C ⊢
  clear hE
  go_enter Try.func65, Try.ntmps65
  go_wp2_with fail
  refine C.out.mono ?_
  rintro x w1 ⟨rfl, u⟩
  go_wp2
  go_ret
  exact ⟨rfl, u⟩

set_option maxHeartbeats 1000000 in
theorem specRise_any (A : Option Addr) (n cap : Nat) (es : List Evt) (w : World) (hn : n ≤ 1000000000) (hE : Evs w A n es) :
    Calls Try.prog 58 #[.slice A n cap] w fun x w' => x = .returned (.bool (riseB es)) ∧ Up w w' := by
  have H0 := Lib.hid (show riseB (es.drop 0) = riseB es from rfl)
  have ST := Lib.hid (riseB_drop es)
  have EN := Lib.hid (riseB_end es)
  have HE := Lib.hid hE
  have LE := Lib.hid hE.1
  have CL := Lib.hid (fun a b W => specLess_any a b W)
  clear hE
  go_enter Try.func58, Try.ntmps58
  go_wp2
  go_loopw [3] (fun i wr => (∃ j : Nat, (j = 0 ∨ j + 1 ≤ n) ∧ i = .int .i64 ((j : Int) + 1) ∧ riseB (es.drop j) = riseB es) ∧ Up w wr) (fun i _ => n + 1 - (intOf i).toNat)
  case atStart => exact ⟨⟨0, .inl rfl, rfl, H0.out⟩, Up.refl _⟩
  case round =>
    obtain ⟨⟨j, hj, rfl, hr⟩, ur⟩ := hrel
    have HR := Lib.hid hr
    clear hr
    by_cases hlt : j + 1 < n
    · obtain ⟨b, off, hA, hb, hc⟩ := HE.out.2 (by omega)
      subst hA
      have a0 := (hc j (by omega)).up ur hb
      have a1 := (hc (j + 1) hlt).up ur hb
      have hb' : b < wr.heap.size := by have := ur.size; omega
      clear hc
      have S := ST.out j (by rw [LE.out]; exact hlt)
      have cl := CL.out (es.getD j default) (es.getD (j + 1) default)
      generalize es.getD j default = p at a0 S cl
      generalize es.getD (j + 1) default = q at a1 S cl
      have S' := Lib.hid S
      clear S
      generalize ltE p q = r at S' cl
      obtain ⟨pt, pto, pfr, psq, pkd, pdt⟩ := p
      obtain ⟨qt, qto, qfr, qsq, qkd, qdt⟩ := q
      unfold EvAt at a0 a1
      unfold Evt.v at cl
      dsimp only at a0 a1 cl
      obtain ⟨p0, p1, p2, p3, p4, p5⟩ := a0
      obtain ⟨q0, q1, q2, q3, q4, q5⟩ := a1
      have C := Lib.hid cl
      clear cl
      have i0 : IntKind.i64.wrap (j : Int) = j := IntWalk.i64_in _ (by omega)
      have i1 : (0 : Int) ≤ (j : Int) + 1 := by omega
      have i2 : ((j : Int) + 1).toNat = j + 1 := by omega
      have i3 : (j : Int) + 1 < n := by omega
      have i4 : (j : Int) < n := by omega
      go_wp2
      refine region_up (by kernel_rfl) (by kernel_rfl) ?_
      refine up_step rfl ?_
      apply Exists.intro
      refine ⟨fun w1 hw1 => ?_, ?_⟩
      · go_simp
        try rfl
      go_simp
      refine up_step rfl ?_
      apply Exists.intro
      refine ⟨fun w1 hw1 => ?_, ?_⟩
      · go_simp
        try rfl
      go_simp
      refine up_step rfl ?_
      apply Exists.intro
      refine ⟨fun w1 hw1 => ?_, ?_⟩
      · go_simp
        try rfl
      go_simp
      refine up_step rfl ?_
      apply Exists.intro
      refine ⟨fun w1 hw1 => ?_, ?_⟩
      · go_simp
        try rfl
      go_simp
      refine up_step rfl ?_
      apply Exists.intro
      refine ⟨fun w1 hw1 => ?_, ?_⟩
      · obtain ⟨hc, hf, hz⟩ := hw1.facts
        try simp at hz
        go_simp
        try rfl
      go_simp
      refine up_step rfl ?_
      apply Exists.intro
      refine ⟨fun w1 hw1 => ?_, ?_⟩
      · go_simp
        try rfl
      go_simp
      refine up_step rfl ?_
      apply Exists.intro
      refine ⟨fun w1 hw1 => ?_, ?_⟩
      · go_simp
        try rfl
      go_simp
      refine up_step rfl ?_
      apply Exists.intro
      refine ⟨fun w1 hw1 => ?_, ?_⟩
      · go_simp
        try rfl
      go_simp
      refine up_step rfl ?_
      apply Exists.intro
      refine ⟨fun w1 hw1 => ?_, ?_⟩
      · obtain ⟨hc, hf, hz⟩ := hw1.facts
        try simp at hz
        go_simp
        try rfl
      go_simp
      refine up_step rfl ?_
      apply Exists.intro
      refine ⟨fun w1 hw1 => ?_, ?_⟩
      · go_simp
        exact up_call hw1 (C.out _)
      go_simp
      refine up_step rfl ?_
      apply Exists.intro
      refine ⟨fun w1 hw1 => ?_, ?_⟩
      · go_simp
        try rfl
      go_simp
      refine wpQuiet_nil ?_
      intro wA uA
      clear i0 i1 i2 i3 i4 p0 p1 p2 p3 p4 p5 q0 q1 q2 q3 q4 q5 C
      cases r
      · go_wp2
        go_ret
        exact ⟨ret_bool (by rw [← HR.out, S'.out]; rfl), ur.trans uA⟩
      · go_wp2
        go_roundw
        case rel => exact ⟨⟨j + 1, .inr (by omega), by go_num, by rw [← HR.out, S'.out]; rfl⟩, ur.trans uA⟩
        case measure => simp [intOf]; omega
    · have e := EN.out j (by rw [LE.out]; omega)
      have E := Lib.hid e
      clear e
      go_wp2
      go_ret
      exact ⟨ret_bool (by rw [← HR.out, E.out]), ur⟩

end Go.Proofs.Ytpainlcehgiokaa

namespace Go.Proofs.Ytpainlcehgiokaa
set_option maxRecDepth 100000
open Go.RowKit

def eqB (a b : Evt) : Bool := decide (a = b)
theorem eqB_mk (a b c d e f a' b' c' d' e' f' : Int) : eqB ⟨a, b, c, d, e, f⟩ ⟨a', b', c', d', e', f'⟩ = (decide (a = a') && decide (b = b') && decide (c = c') && decide (d = d') && decide (e = e') && decide (f = f')) := by
  unfold eqB
  rw [Bool.eq_iff_iff]
  simp [Bool.and_eq_true, and_assoc]

theorem eqEvt_any (a b : Evt) (w : World) : Calls Try.prog 54 #[a.v, b.v] w fun x w' => x = .returned (.bool (eqB a b)) ∧ Up w w' := by
  obtain ⟨at_, ato, afr, asq, akd, adt⟩ := a
  obtain ⟨bt, bto, bfr, bsq, bkd, bdt⟩ := b
  have hf := Lib.hid (eqB_mk at_ ato afr asq akd adt bt bto bfr bsq bkd bdt)
  generalize eqB ⟨at_, ato, afr, asq, akd, adt⟩ ⟨bt, bto, bfr, bsq, bkd, bdt⟩ = r at hf ⊢
  unfold Evt.v
  dsimp only
  go_enter Try.func54, Try.ntmps54
  go_wp2
  all_goals go_ret

  all_goals exact ⟨ret_bool (by rw [hf.out]; simp_all), ((Up.refl _).alloc _).alloc _⟩

end Go.Proofs.Ytpainlcehgiokaa

namespace Go.Proofs.Ytpainlcehgiokaa
set_option maxRecDepth 100000
open Go.RowKit

theorem sz_any (A : Option Addr) (n cap : Nat) (left : Int) (w : World) (h0 : 0 ≤ left) (h1 : left ≤ 1000000000) (hn : n ≤ 9223372036854775807) :
    Calls Try.prog 32 #[.slice A n cap, .int .i64 left] w fun x w' => x = .returned (.int .i64 (if left < n then -1 else left - n)) ∧ w = w' := by
  by_cases h : left < n
  · have hf := Lib.hid (show (if left < n then -1 else left - n) = (-1 : Int) from if_pos h)
    generalize (if left < n then -1 else left - n) = r at hf ⊢
    have h' : left - n < 0 := by omega
    go_enter Try.func32, Try.ntmps32
    go_wp2
    go_ret
    exact ⟨ret_int hf.out.symm, rfl⟩
  · have hf := Lib.hid (show (if left < n then -1 else left - n) = left - n from if_neg h)
    generalize (if left < n then -1 else left - n) = r at hf ⊢
    have h' : ¬ left - n < 0 := by omega
    go_enter Try.func32, Try.ntmps32
    go_wp2
    go_ret
    exact ⟨ret_int hf.out.symm, rfl⟩

theorem eqL_drop (es fs : List Evt) (h : es.length = fs.length) (k : Nat) (hk : k < es.length) :
    decide (es.drop k = fs.drop k) = (eqB (es.getD k default) (fs.getD k default) && decide (es.drop (k + 1) = fs.drop (k + 1))) := by
  have hk2 : k < fs.length := by omega
  have e1 : es.drop k = es[k] :: es.drop (k + 1) := List.drop_eq_getElem_cons hk
  have e2 : fs.drop k = fs[k] :: fs.drop (k + 1) := List.drop_eq_getElem_cons hk2
  have g1 : es.getD k default = es[k] := by simp [hk]
  have g2 : fs.getD k default = fs[k] := by simp [hk2]
  rw [e1, e2, g1, g2, Bool.eq_iff_iff]
  unfold eqB
  rw [Bool.and_eq_true, decide_eq_true_iff, decide_eq_true_iff, decide_eq_true_iff, List.cons.injEq]

set_option maxHeartbeats 1000000 in
theorem eqS_any (A B : Option Addr) (n m capa capb : Nat) (es fs : List Evt) (w : World) (hn : n ≤ 1000000000) (hE : Evs w A n es) (hF : Evs w B m fs) :
    Calls Try.prog 36 #[.slice A n capa, .slice B m capb] w fun x w' => x = .returned (.bool (decide (es = fs))) ∧ Up w w' := by
  by_cases hnm : n = m
  · subst hnm
    have H0 := Lib.hid (show decide (es.drop 0 = fs.drop 0) = decide (es = fs) from rfl)
    have ST := Lib.hid (eqL_drop es fs (by rw [hE.1, hF.1]))
    have HE := Lib.hid hE
    have HF := Lib.hid hF
    have LE := Lib.hid hE.1
    have LF := Lib.hid hF.1
    have CL := Lib.hid (fun a b W => eqEvt_any a b W)
    generalize hr : decide (es = fs) = res at H0 ⊢
    clear hE hF hr
    go_enter Try.func36, Try.ntmps36
    go_wp2
    go_loopw [5] (fun i wr => (∃ k : Nat, k ≤ n ∧ i = .int .i64 k ∧ decide (es.drop k = fs.drop k) = res) ∧ Up w wr) (fun i _ => n - (intOf i).toNat)
    case atStart => exact ⟨⟨0, by omega, rfl, H0.out⟩, Up.refl _⟩
    case round =>
      obtain ⟨⟨k, hk, rfl, hr⟩, ur⟩ := hrel
      have HR := Lib.hid hr
      clear hr
      by_cases hlt : k < n
      · obtain ⟨b, off, hA, hb, hc⟩ := HE.out.2 (by omega)
        obtain ⟨b2, off2, hA2, hb2, hc2⟩ := HF.out.2 (by omega)
        subst hA hA2
        have a0 := (hc k hlt).up ur hb
        have a1 := (hc2 k hlt).up ur hb2
        have hb' : b < wr.heap.size := by have := ur.size; omega
        have hb2' : b2 < wr.heap.size := by have := ur.size; omega
        clear hc hc2
        have S := ST.out k (by rw [LE.out]; exact hlt)
        have cl := CL.out (es.getD k default) (fs.getD k default)
        generalize es.getD k default = p at a0 S cl
        generalize fs.getD k default = q at a1 S cl
        have S' := Lib.hid S
        clear S
        generalize eqB p q = r at S' cl
        obtain ⟨pt, pto, pfr, psq, pkd, pdt⟩ := p
        obtain ⟨qt, qto, qfr, qsq, qkd, qdt⟩ := q
        unfold EvAt at a0 a1
        unfold Evt.v at cl
        dsimp only at a0 a1 cl
        obtain ⟨p0, p1, p2, p3, p4, p5⟩ := a0
        obtain ⟨q0, q1, q2, q3, q4, q5⟩ := a1
        have C := Lib.hid cl
        clear cl
        have i4 : (k : Int) < n := by omega
        go_wp2
        refine region_up (by kernel_rfl) (by kernel_rfl) ?_
        refine up_step rfl ?_
        apply Exists.intro
        refine ⟨fun w1 hw1 => ?_, ?_⟩
        · go_simp
          try rfl
        go_simp
        refine up_step rfl ?_
        apply Exists.intro
        refine ⟨fun w1 hw1 => ?_, ?_⟩
        · go_simp
          try rfl
        go_simp
        refine up_step rfl ?_
        apply Exists.intro
        refine ⟨fun w1 hw1 => ?_, ?_⟩
        · go_simp
          try rfl
        go_simp
        refine up_step rfl ?_
        apply Exists.intro
        refine ⟨fun w1 hw1 => ?_, ?_⟩
        · obtain ⟨hc, hf, hz⟩ := hw1.facts
          try simp at hz
          go_simp
          try rfl
        go_simp
        refine up_step rfl ?_
        apply Exists.intro
        refine ⟨fun w1 hw1 => ?_, ?_⟩
        · go_simp
          try rfl
        go_simp
        refine up_step rfl ?_
        apply Exists.intro
        refine ⟨fun w1 hw1 => ?_, ?_⟩
        · go_simp
          try rfl
        go_simp
        refine up_step rfl ?_
        apply Exists.intro
        refine ⟨fun w1 hw1 => ?_, ?_⟩
        · go_simp
          try rfl
        go_simp
        refine up_step rfl ?_
        apply Exists.intro
        refine ⟨fun w1 hw1 => ?_, ?_⟩
        · obtain ⟨hc, hf, hz⟩ := hw1.facts
          try simp at hz
          go_simp
          try rfl
        go_simp
        refine up_step rfl ?_
        apply Exists.intro
        refine ⟨fun w1 hw1 => ?_, ?_⟩
        · go_simp
          exact up_call hw1 (C.out _)
        go_simp
        refine up_step rfl ?_
        apply Exists.intro
        refine ⟨fun w1 hw1 => ?_, ?_⟩
        · go_simp
          try rfl
        go_simp
        refine wpQuiet_nil ?_
        intro wA uA
        clear i4 p0 p1 p2 p3 p4 p5 q0 q1 q2 q3 q4 q5 C
        cases r
        · go_wp2
          go_ret
          exact ⟨ret_bool (by rw [← HR.out, S'.out]; rfl), ur.trans uA⟩
        · go_wp2
          go_roundw
          case rel => exact ⟨⟨k + 1, by omega, by go_num, by rw [← HR.out, S'.out]; rfl⟩, ur.trans uA⟩
          case measure => simp [intOf]; omega
      · have e : decide (es.drop k = fs.drop k) = true := by rw [List.drop_eq_nil_of_le (by rw [LE.out]; omega), List.drop_eq_nil_of_le (by rw [LF.out]; omega)]; rfl
        have E := Lib.hid e
        clear e
        go_wp2
        go_ret
        exact ⟨ret_bool (by rw [← HR.out, E.out]), ur⟩
  · have hf := Lib.hid (show decide (es = fs) = false from decide_eq_false fun h => hnm (by rw [← hE.1, ← hF.1, h]))
    generalize decide (es = fs) = r at hf ⊢
    have hne : ((n : Int) != (m : Int)) = true := by rw [bne_iff_ne]; omega
    have HN := Lib.hid hnm
    clear hE hF hnm
    go_enter Try.func36, Try.ntmps36
    go_wp2
    go_ret
    exact ⟨ret_bool hf.out.symm, Up.refl _⟩

end Go.Proofs.Ytpainlcehgiokaa

namespace Go.Proofs.Ytpainlcehgiokaa
set_option maxRecDepth 100000
open Go.RowKit

/-- The block g of n events, of the call's own: it holds the list, and may be written. -/
def Own (w : World) (g n : Nat) (es : List Evt) : Prop :=
  es.length = n ∧ g < w.heap.size ∧ (∀ i, i < n → EvAt w g (i * 6) (es.getD i default)) ∧ ∀ j, j < n * 6 → w.frozen? ⟨g, j, none⟩ = false

/-- A new slice of these events. -/
def NewEvs (es : List Evt) (n : Nat) (w : World) (x : Ending) (w' : World) : Prop :=
  ∃ g, x = .returned (.slice (some ⟨g, 0, none⟩) n n) ∧ w.heap.size ≤ g ∧ Own w' g n es ∧ Up w w'

/-- The block g on the way: k of its n events are laid. -/
def Part (w : World) (g n k : Nat) (es : List Evt) : Prop :=
  g < w.heap.size ∧ (∀ i, i < k → EvAt w g (i * 6) (es.getD i default)) ∧ ∀ j, j < n * 6 → (∃ v, w.cell? ⟨g, j, none⟩ = some v) ∧ w.frozen? ⟨g, j, none⟩ = false

theorem Part.up {w w' : World} {g n k : Nat} {es : List Evt} (h : Part w g n k es) (u : Up w w') : Part w' g n k es :=
  ⟨by have := u.size; have := h.1; omega, fun i hi => (h.2.1 i hi).up u h.1, fun j hj => by
    obtain ⟨⟨v, c⟩, f⟩ := h.2.2 j hj
    exact ⟨⟨v, (u.cells _ _ h.1).trans c⟩, (u.frozens _ _ h.1).trans f⟩⟩

/-- The world with an event's six cells laid. -/
def putEv (w : World) (b o : Nat) (e : Evt) : World :=
  (((((w.setCell ⟨b, o, none⟩ (.int .i64 e.t)).setCell ⟨b, o + 1, none⟩ (.int .i64 e.to)).setCell ⟨b, o + 2, none⟩ (.int .i64 e.fr)).setCell ⟨b, o + 3, none⟩ (.int .i64 e.sq)).setCell ⟨b, o + 4, none⟩ (.int .i64 e.kd)).setCell ⟨b, o + 5, none⟩ (.int .i64 e.dt)

theorem addr_ne {b b' o o' : Nat} (h : b ≠ b' ∨ o ≠ o') : (⟨b, o, none⟩ : Addr) ≠ ⟨b', o', none⟩ := by
  intro e
  injection e with e1 e2
  rcases h with h | h
  · exact h e1
  · exact h e2

theorem putEv_other (w : World) (b o : Nat) (e : Evt) (b' o' : Nat) (h : b ≠ b' ∨ o' < o ∨ o + 6 ≤ o') : (putEv w b o e).cell? ⟨b', o', none⟩ = w.cell? ⟨b', o', none⟩ := by
  unfold putEv
  have f : ∀ k, k < 6 → (⟨b, o + k, none⟩ : Addr) ≠ ⟨b', o', none⟩ := fun k hk => addr_ne (by omega)
  have f0 : (⟨b, o, none⟩ : Addr) ≠ ⟨b', o', none⟩ := addr_ne (by omega)
  rw [World.cell?_setCell_other _ _ _ _ (f 5 (by omega)), World.cell?_setCell_other _ _ _ _ (f 4 (by omega)), World.cell?_setCell_other _ _ _ _ (f 3 (by omega)), World.cell?_setCell_other _ _ _ _ (f 2 (by omega)), World.cell?_setCell_other _ _ _ _ (f 1 (by omega)), World.cell?_setCell_other _ _ _ _ f0]
theorem putEv_frozen (w : World) (b o : Nat) (e : Evt) (a : Addr) : (putEv w b o e).frozen? a = w.frozen? a := by
  unfold putEv
  simp [go_sem]
theorem putEv_size (w : World) (b o : Nat) (e : Evt) : (putEv w b o e).heap.size = w.heap.size := by
  unfold putEv
  simp
theorem Up.putEv {a w : World} (h : Up a w) {b o : Nat} {e : Evt} (hb : a.heap.size ≤ b) : Up a (putEv w b o e) :=
  (((((h.setCell hb _).setCell hb _).setCell hb _).setCell hb _).setCell hb _).setCell hb _

/-- What a cell of the row holds behind the laying: something. -/
theorem setCell_some {w : World} {p q : Addr} {u v : Value} (h : w.cell? q = some v) : ∃ v', (w.setCell p u).cell? q = some v' := by
  by_cases e : p = q
  · subst e
    exact ⟨u, World.cell?_setCell_same _ _ _ h⟩
  · exact ⟨v, (World.cell?_setCell_other _ _ _ _ e).trans h⟩

theorem putEv_at {w : World} {b o : Nat} {e : Evt} (h : ∀ k, k < 6 → ∃ v, w.cell? ⟨b, o + k, none⟩ = some v) : EvAt (putEv w b o e) b o e := by
  have ne : ∀ k j, k ≠ j → (⟨b, o + k, none⟩ : Addr) ≠ ⟨b, o + j, none⟩ := fun k j hk => addr_ne (by omega)
  have nez : ∀ k, k ≠ 0 → (⟨b, o + k, none⟩ : Addr) ≠ ⟨b, o, none⟩ := fun k hk => addr_ne (by omega)
  unfold putEv
  obtain ⟨v0, h0⟩ := h 0 (by omega)
  obtain ⟨v1, h1⟩ := h 1 (by omega)
  obtain ⟨v2, h2⟩ := h 2 (by omega)
  obtain ⟨v3, h3⟩ := h 3 (by omega)
  obtain ⟨v4, h4⟩ := h 4 (by omega)
  obtain ⟨v5, h5⟩ := h 5 (by omega)
  have s0 := World.cell?_setCell_same _ _ (.int .i64 e.t) h0
  have s0 : (w.setCell ⟨b, o, none⟩ (.int .i64 e.t)).cell? ⟨b, o, none⟩ = some (.int .i64 e.t) := s0
  have ne0 : ∀ j, 0 ≠ j → (⟨b, o, none⟩ : Addr) ≠ ⟨b, o + j, none⟩ := fun j hj => addr_ne (by omega)
  generalize hw0 : w.setCell ⟨b, o, none⟩ (.int .i64 e.t) = w0 at s0 ⊢
  have g1 : w0.cell? ⟨b, o + 1, none⟩ = some v1 := by rw [← hw0, World.cell?_setCell_other _ _ _ _ (ne0 1 (by omega))]; exact h1
  have g2 : w0.cell? ⟨b, o + 2, none⟩ = some v2 := by rw [← hw0, World.cell?_setCell_other _ _ _ _ (ne0 2 (by omega))]; exact h2
  have g3 : w0.cell? ⟨b, o + 3, none⟩ = some v3 := by rw [← hw0, World.cell?_setCell_other _ _ _ _ (ne0 3 (by omega))]; exact h3
  have g4 : w0.cell? ⟨b, o + 4, none⟩ = some v4 := by rw [← hw0, World.cell?_setCell_other _ _ _ _ (ne0 4 (by omega))]; exact h4
  have g5 : w0.cell? ⟨b, o + 5, none⟩ = some v5 := by rw [← hw0, World.cell?_setCell_other _ _ _ _ (ne0 5 (by omega))]; exact h5
  simp only [EvAt]
  refine ⟨?_, ?_, ?_, ?_, ?_, ?_⟩
  · rw [World.cell?_setCell_other _ _ _ _ (nez 5 (by omega)), World.cell?_setCell_other _ _ _ _ (nez 4 (by omega)), World.cell?_setCell_other _ _ _ _ (nez 3 (by omega)), World.cell?_setCell_other _ _ _ _ (nez 2 (by omega)), World.cell?_setCell_other _ _ _ _ (nez 1 (by omega))]
    exact s0
  · rw [World.cell?_setCell_other _ _ _ _ (ne 5 1 (by omega)), World.cell?_setCell_other _ _ _ _ (ne 4 1 (by omega)), World.cell?_setCell_other _ _ _ _ (ne 3 1 (by omega)), World.cell?_setCell_other _ _ _ _ (ne 2 1 (by omega))]
    exact World.cell?_setCell_same _ _ _ g1
  · rw [World.cell?_setCell_other _ _ _ _ (ne 5 2 (by omega)), World.cell?_setCell_other _ _ _ _ (ne 4 2 (by omega)), World.cell?_setCell_other _ _ _ _ (ne 3 2 (by omega))]
    exact World.cell?_setCell_same _ _ _ ((World.cell?_setCell_other _ _ _ _ (ne 1 2 (by omega))).trans g2)
  · rw [World.cell?_setCell_other _ _ _ _ (ne 5 3 (by omega)), World.cell?_setCell_other _ _ _ _ (ne 4 3 (by omega))]
    exact World.cell?_setCell_same _ _ _ ((World.cell?_setCell_other _ _ _ _ (ne 2 3 (by omega))).trans ((World.cell?_setCell_other _ _ _ _ (ne 1 3 (by omega))).trans g3))
  · rw [World.cell?_setCell_other _ _ _ _ (ne 5 4 (by omega))]
    exact World.cell?_setCell_same _ _ _ ((World.cell?_setCell_other _ _ _ _ (ne 3 4 (by omega))).trans ((World.cell?_setCell_other _ _ _ _ (ne 2 4 (by omega))).trans ((World.cell?_setCell_other _ _ _ _ (ne 1 4 (by omega))).trans g4)))
  · exact World.cell?_setCell_same _ _ _ ((World.cell?_setCell_other _ _ _ _ (ne 4 5 (by omega))).trans ((World.cell?_setCell_other _ _ _ _ (ne 3 5 (by omega))).trans ((World.cell?_setCell_other _ _ _ _ (ne 2 5 (by omega))).trans ((World.cell?_setCell_other _ _ _ _ (ne 1 5 (by omega))).trans g5))))

theorem EvAt.putEv_far {w : World} {b o b' o' : Nat} {e e' : Evt} (h : EvAt w b' o' e') (hne : b ≠ b' ∨ o' + 6 ≤ o ∨ o + 6 ≤ o') : EvAt (putEv w b o e) b' o' e' := by
  obtain ⟨h0, h1, h2, h3, h4, h5⟩ := h
  exact ⟨(putEv_other _ _ _ _ _ _ (by omega)).trans h0, (putEv_other _ _ _ _ _ _ (by omega)).trans h1, (putEv_other _ _ _ _ _ _ (by omega)).trans h2, (putEv_other _ _ _ _ _ _ (by omega)).trans h3, (putEv_other _ _ _ _ _ _ (by omega)).trans h4, (putEv_other _ _ _ _ _ _ (by omega)).trans h5⟩

theorem putEv_some {w : World} {b o : Nat} {e : Evt} {q : Addr} (h : ∃ v, w.cell? q = some v) : ∃ v, (putEv w b o e).cell? q = some v := by
  obtain ⟨v, h⟩ := h
  unfold putEv
  obtain ⟨v, h⟩ := setCell_some (p := ⟨b, o, none⟩) (u := .int .i64 e.t) h
  obtain ⟨v, h⟩ := setCell_some (p := ⟨b, o + 1, none⟩) (u := .int .i64 e.to) h
  obtain ⟨v, h⟩ := setCell_some (p := ⟨b, o + 2, none⟩) (u := .int .i64 e.fr) h
  obtain ⟨v, h⟩ := setCell_some (p := ⟨b, o + 3, none⟩) (u := .int .i64 e.sq) h
  obtain ⟨v, h⟩ := setCell_some (p := ⟨b, o + 4, none⟩) (u := .int .i64 e.kd) h
  exact setCell_some h

theorem Part.put {w : World} {g n k : Nat} {es : List Evt} {e : Evt} (h : Part w g n k es) (he : es.getD k default = e) (hk : k < n) : Part (putEv w g (k * 6) e) g n (k + 1) es := by
  subst he
  refine ⟨by rw [putEv_size]; exact h.1, fun i hi => ?_, fun j hj => ?_⟩
  · by_cases hik : i = k
    · subst hik
      exact putEv_at fun j hj => (h.2.2 (i * 6 + j) (by omega)).1
    · exact (h.2.1 i (by omega)).putEv_far (by omega)
  · obtain ⟨c, f⟩ := h.2.2 j hj
    exact ⟨putEv_some c, (putEv_frozen _ _ _ _ _).trans f⟩

theorem Part.own {w : World} {g n k : Nat} {es : List Evt} (h : Part w g n k es) (hl : es.length = n) (hk : n ≤ k) : Own w g n es :=
  ⟨hl, h.1, fun i hi => h.2.1 i (by omega), fun j hj => (h.2.2 j hj).2⟩

theorem Part.start (w : World) (n : Nat) (es : List Evt) : Part (w.alloc (.cells (madeCells #[.int .i64 0, .int .i64 0, .int .i64 0, .int .i64 0, .int .i64 0, .int .i64 0] (n * 6)) 71)) w.heap.size n 0 es := by
  refine ⟨by simp, fun i hi => absurd hi (by omega), fun j hj => ?_⟩
  have hh := heap_alloc_new w (.cells (madeCells #[.int .i64 0, .int .i64 0, .int .i64 0, .int .i64 0, .int .i64 0, .int .i64 0] (n * 6)) 71)
  refine ⟨?_, ?_⟩
  · rw [cell_of_row _ _ j _ _ _ hh]
    have : j < (madeCells #[.int .i64 0, .int .i64 0, .int .i64 0, .int .i64 0, .int .i64 0, .int .i64 0] (n * 6)).size := by rw [size_madeCells]; exact hj
    exact ⟨_, Array.getElem?_eq_getElem this⟩
  · unfold World.frozen?
    rw [hh]
    simp


end Go.Proofs.Ytpainlcehgiokaa

namespace Go.Proofs.Ytpainlcehgiokaa
set_option maxRecDepth 100000
open Go.RowKit

theorem info71 : (Try.prog.info? 71).map (fun i => (i.zero, i.size, i.bytes)) = some (some (.agg #[.int .i64 0, .int .i64 0, .int .i64 0, .int .i64 0, .int .i64 0, .int .i64 0]), 6, 48) := by kernel_rfl

theorem run_make_rowN {P : Program} (t e : TypeId) (i : TypeInfo) (z : Value) (ht : P.underlying t = some (.slice e)) (hi : P.info? e = some i) (hz : i.zero = some z)
    (kl kc : IntKind) (n c : Nat) (hnc : n ≤ c) (hbytes : i.bytes * c ≤ 281474976710656) (h63 : c ≤ 9223372036854775807) (w : World) :
    (Instr.makeSlice t (.int kl (n : Int)) (.int kc (c : Int))).run P w = .ok (.slice (some ⟨w.heap.size, 0, none⟩) n c) (w.alloc (.cells (madeCells z.cells (c * i.size)) e)) := by
  have hb : (i.bytes : Int) * (c : Int) ≤ 281474976710656 := by
    have h : ((i.bytes * c : Nat) : Int) ≤ 281474976710656 := by omega
    rwa [Int.natCast_mul] at h
  have hr := run_make (P := P) w t e i z ht hi hz kl kc n c (by omega) (by omega) hb (by omega)
  simp only [Int.toNat_natCast] at hr
  exact hr

set_option maxHeartbeats 1000000 in
theorem toS_any (A : Option Addr) (n cap : Nat) (es : List Evt) (w : World) (hn : n ≤ 1000000000) (hE : Evs w A n es) :
    Calls Try.prog 34 #[.slice A n cap] w (NewEvs es n w) := by
  obtain ⟨i0, hi, hz0, hz1, hz2⟩ := info_parts info71
  have hmk := fun W => run_make_rowN (P := Try.prog) 24 71 i0 _ Try.underlying24 hi hz0 .i64 .i64 n n (Nat.le_refl _) (by rw [hz2]; omega) (by omega) W
  rw [hz1] at hmk
  have HE := Lib.hid hE
  have LE := Lib.hid hE.1
  have CL := Lib.hid (fun a W => toEvt_any a W)
  clear hE hi hz0 hz1 hz2
  go_enter Try.func34, Try.ntmps34
  go_wp2
  generalize hg : w.heap.size = g
  have HG := Lib.hid (Nat.le_of_eq hg)
  go_loopw [4] (fun i wr => (∃ k : Nat, k ≤ n ∧ i = .int .i64 k ∧ Part wr g n k es) ∧ Up w wr) (fun i _ => n - (intOf i).toNat)
  case atStart =>
    refine ⟨⟨0, by omega, rfl, ?_⟩, (Up.refl _).alloc _⟩
    subst hg
    exact Part.start w n es
  case round =>
    obtain ⟨⟨k, hk, rfl, hp⟩, ur⟩ := hrel
    by_cases hlt : k < n
    · obtain ⟨b, off, hA, hb, hc⟩ := HE.out.2 (by omega)
      subst hA
      have a0 := (hc k hlt).up ur hb
      have hb' : b < wr.heap.size := by have := ur.size; omega
      clear hc
      have cl := CL.out (es.getD k default)
      have HP := Lib.hid hp
      clear hp
      generalize hpk : es.getD k default = p at a0 cl
      obtain ⟨pt, pto, pfr, psq, pkd, pdt⟩ := p
      have HE' := Lib.hid hpk
      clear hpk
      unfold EvAt at a0
      unfold Evt.v at cl
      dsimp only at a0 cl
      obtain ⟨p0, p1, p2, p3, p4, p5⟩ := a0
      have C := Lib.hid cl
      clear cl
      have i4 : (k : Int) < n := by omega
      go_wp2_with fail
      refine (C.out _).mono ?_
      rintro x wA ⟨rfl, uA⟩
      have P := HP.out.up uA
      obtain ⟨⟨v0, c0⟩, f0⟩ := P.2.2 (k * 6) (by omega)
      obtain ⟨⟨v1, c1⟩, f1⟩ := P.2.2 (k * 6 + 1) (by omega)
      obtain ⟨⟨v2, c2⟩, f2⟩ := P.2.2 (k * 6 + 2) (by omega)
      obtain ⟨⟨v3, c3⟩, f3⟩ := P.2.2 (k * 6 + 3) (by omega)
      obtain ⟨⟨v4, c4⟩, f4⟩ := P.2.2 (k * 6 + 4) (by omega)
      obtain ⟨⟨v5, c5⟩, f5⟩ := P.2.2 (k * 6 + 5) (by omega)
      have HP2 := Lib.hid P
      clear P p0 p1 p2 p3 p4 p5
      go_wp2
      go_roundw
      case rel =>
        have hq := HP2.out.put HE'.out hlt
        have hu := (ur.trans uA).putEv (b := g) (o := k * 6) (e := ⟨pt, pto, pfr, psq, pkd, pdt⟩) HG.out
        unfold putEv at hq hu
        exact ⟨⟨k + 1, by omega, by go_num, hq⟩, hu⟩
      case measure => simp [intOf]; omega
    · have HP := Lib.hid hp
      clear hp
      go_wp2
      go_ret
      exact ⟨g, rfl, by omega, HP.out.own LE.out (by omega), ur⟩

end Go.Proofs.Ytpainlcehgiokaa

namespace Go.Proofs.Ytpainlcehgiokaa
set_option maxRecDepth 100000
open Go.RowKit

theorem orL_lt (x : Int) (r : List Int) : orL (x :: r) < 0 ↔ x < 0 ∨ (x = 0 ∧ orL r < 0) := by
  rw [orL]
  split <;> omega
theorem ltE_iff (a b : Evt) : ltE a b = true ↔ a.t < b.t ∨ (a.t = b.t ∧ (a.to < b.to ∨ (a.to = b.to ∧ (a.fr < b.fr ∨ (a.fr = b.fr ∧ (a.sq < b.sq ∨ (a.sq = b.sq ∧ (a.kd < b.kd ∨ (a.kd = b.kd ∧ a.dt < b.dt))))))))) := by
  unfold ltE cmpE
  rw [decide_eq_true_iff, orL_lt, orL_lt, orL_lt, orL_lt, orL_lt, orL_lt]
  simp only [cmpI_lt, cmpI_eq, orL]
  omega
theorem ltE_no (a b : Evt) : ltE a b = false ↔ ¬ (a.t < b.t ∨ (a.t = b.t ∧ (a.to < b.to ∨ (a.to = b.to ∧ (a.fr < b.fr ∨ (a.fr = b.fr ∧ (a.sq < b.sq ∨ (a.sq = b.sq ∧ (a.kd < b.kd ∨ (a.kd = b.kd ∧ a.dt < b.dt)))))))))) := by
  rw [← ltE_iff]; simp
theorem eqB_iff (a b : Evt) : eqB a b = true ↔ a.t = b.t ∧ a.to = b.to ∧ a.fr = b.fr ∧ a.sq = b.sq ∧ a.kd = b.kd ∧ a.dt = b.dt := by
  obtain ⟨z0, z1, z2, z3, z4, z5⟩ := a
  obtain ⟨y0, y1, y2, y3, y4, y5⟩ := b
  simp [eqB]
theorem ltE_irr (a : Evt) : ltE a a = false := by rw [ltE_no]; omega
theorem ltE_trans (a b c : Evt) (h1 : ltE a b = true) (h2 : ltE b c = true) : ltE a c = true := by
  rw [ltE_iff] at *
  omega
theorem ltE_asym (a b : Evt) (h1 : ltE a b = true) : ltE b a = false := by
  rw [ltE_no]
  rw [ltE_iff] at h1
  omega
theorem ltE_ne (a b : Evt) (h1 : ltE a b = true) : eqB a b = false := by
  rw [Bool.eq_false_iff]
  intro h
  rw [eqB_iff] at h
  rw [ltE_iff] at h1
  omega
theorem eqB_comm (a b : Evt) : eqB a b = eqB b a := by
  unfold eqB
  rw [Bool.eq_iff_iff, decide_eq_true_iff, decide_eq_true_iff]
  exact eq_comm
theorem ltE_total (a b : Evt) (h1 : ltE a b = false) (h2 : ltE b a = false) : eqB a b = true := by
  rw [eqB_iff]
  rw [ltE_no] at h1 h2
  omega
theorem ltE_time (a b : Evt) (h1 : ltE a b = false) : b.t ≤ a.t := by
  rw [ltE_no] at h1
  omega

theorem equalIn_evt (a b : Evt) (w : World) : (Op.equalIn 10000 71 a.v b.v).run Try.prog w = .ok (eqB a b) w := by
  obtain ⟨z0, z1, z2, z3, z4, z5⟩ := a
  obtain ⟨y0, y1, y2, y3, y4, y5⟩ := b
  have u3 := Try.underlying3
  have a3 := Try.isAgg3
  have s3 := Try.sizeOf3
  have hS : Try.prog.underlying 71 = some (.struct (Try.prog.fieldsOf 71)) := by kernel_rfl
  have hp : Try.prog.stoodInHeld 71 = false := by kernel_rfl
  rw [eqB_mk]
  unfold Evt.v
  dsimp only
  rw [show (10000 : Nat) = 9999 + 1 from rfl, run_equalIn_agg w 9999 71 _ _ hS hp]
  simp only [Program.fieldsOf, Try.underlying71]
  go_simp
  by_cases h0 : z0 = y0 <;> by_cases h1 : z1 = y1 <;> by_cases h2 : z2 = y2 <;> by_cases h3 : z3 = y3 <;> by_cases h4 : z4 = y4 <;> by_cases h5 : z5 = y5 <;> simp [h0, h1, h2, h3, h4, h5]

theorem neq_evt (a b : Evt) (w : World) : (binOp .neq 71 a.v b.v).run Try.prog w = .ok (.bool (!eqB a b)) w := by
  have h := equalIn_evt a b w
  unfold Evt.v at h ⊢
  rw [run_neq_struct, h]
  rfl
theorem eql_evt (a b : Evt) (w : World) : (binOp .eql 71 a.v b.v).run Try.prog w = .ok (.bool (eqB a b)) w := by
  have h := equalIn_evt a b w
  unfold Evt.v at h ⊢
  rw [run_eql_struct, h]
  rfl
theorem guard_evt (op : BinOp) (x y : Operand) (xs ys : Array Value) (w : World) : (eqGuard op 71 x y (.agg xs) (.agg ys)).run Try.prog w = .ok () w :=
  run_eqGuard_agg w op 71 x y xs ys (by kernel_rfl)

end Go.Proofs.Ytpainlcehgiokaa

namespace Go.Proofs.Ytpainlcehgiokaa
set_option maxRecDepth 100000
open Go.RowKit

/-- What is left to walk. -/
@[irreducible] def qWalk (P : Program) (ops : Array Oper) (C : World → Prop) (Q : Act → Prop) (l : List Oper) (a : Act) : Prop := wpQuiet P ops C Q l a

theorem qWalk_step {P : Program} {ops : Array Oper} {C : World → Prop} {Q : Act → Prop} {a : Act} {o : Oper} {rest : List Oper}
    (h : ∀ K : Act → Prop, (∀ a, qWalk P ops C Q rest a → K a) → if Region.wanted o (yielded ops a.tmps) then o.quiet P a C K else K (a.put o.dst undef)) : qWalk P ops C Q (o :: rest) a := by
  unfold qWalk at h ⊢
  exact wpQuiet_step h
theorem qWalk_nil {P : Program} {ops : Array Oper} {C : World → Prop} {Q : Act → Prop} {a : Act} (h : Q a) : qWalk P ops C Q [] a := by
  unfold qWalk
  exact wpQuiet_nil h
theorem region_qw {P : Program} {id : Nat} {Q : Exit → Act → World → Prop} {a : Act} {w : World} {l : List Oper} (hm : P.follows .mixedOrders = true) (hB : Region.lexB .any l.toArray = true)
    (h : qWalk P l.toArray (Up w) (fun a' => ∀ w', Up w w' → Q .normal a' w') l a) : (Code.region id l.toArray true).wp P Q a w := by
  unfold qWalk at h
  exact region_up hm hB h

end Go.Proofs.Ytpainlcehgiokaa

namespace Go.Proofs.Ytpainlcehgiokaa
set_option maxRecDepth 100000
open Go.RowKit

def mixB (ops : Array Oper) : List (Nat × Bool) → Array Bool → Bool
  | [], listed => (Region.ready .any ops listed).isEmpty
  | (k, true) :: fs, listed => decide (k < ops.size) && (Region.ready .any ops listed).contains k && Region.free .any ops listed k && mixB ops fs (listed.setIfInBounds k true)
  | (k, false) :: fs, listed => decide (k < ops.size) && decide (Region.ready .any ops listed = [k]) && mixB ops fs (listed.setIfInBounds k true)

def wpMix (P : Program) (ops : Array Oper) (Q : Exit → Act → World → Prop) : List (Nat × Bool) → Act → World → Prop
  | (k, true) :: fs, a, w => ∃ o v, ops[k]? = some o ∧ Yields P ops o v a ∧ wpMix P ops Q fs (a.put o.dst v) w
  | (k, false) :: fs, a, w => ∃ o, ops[k]? = some o ∧ if Region.wanted o (yielded ops a.tmps) = true then o.wp P a w (wpMix P ops Q fs) Q else wpMix P ops Q fs (a.put o.dst undef) w
  | [], a, w => Q .normal a w

theorem wpAny_of_mix {P : Program} {ops : Array Oper} {Q : Exit → Act → World → Prop} (hsel : Region.noSelect ops = true) (hQ : ∀ c (a : Act) d v w, Q (.panic c) (a.put d v) w → Q (.panic c) a w) :
    ∀ (fs : List (Nat × Bool)) (listed : Array Bool) (a : Act) (w : World), mixB ops fs listed = true → wpMix P ops Q fs a w → wpAny P .any ops Q fs.length listed a w
  | [], _, _, _, hB, h => ⟨by simpa [mixB] using hB, h⟩
  | (k, true) :: fs, listed, a, w, hB, h => by
    simp only [mixB, Bool.and_eq_true] at hB
    obtain ⟨o, v, h0, hy, hn⟩ := h
    exact wpAny_take h0 hsel hB.1.2 hB.1.1.2 (fun c a w => hQ c a _ _ w) hy (wpAny_of_mix hsel hQ fs _ _ _ hB.2 hn)
  | (k, false) :: fs, listed, a, w, hB, h => by
    simp only [mixB, Bool.and_eq_true, decide_eq_true_eq] at hB
    obtain ⟨o, h0, h⟩ := h
    refine wpAny_all hB.1.2 (by simp) fun i hi => ?_
    obtain rfl : i = k := by simpa using hi
    refine wpOp_mono (K := wpMix P ops Q fs) (fun a' w' h' => wpAny_of_mix hsel hQ fs _ _ _ hB.2 h') ?_
    unfold wpOp
    simp only [h0]
    split
    · rename_i hw
      rw [if_pos hw] at h
      exact .inl h
    · rename_i hw
      rw [if_neg hw] at h
      exact h

theorem region_mix {P : Program} {id : Nat} {Q : Exit → Act → World → Prop} {a : Act} {w : World} {l : List Oper} (fs : List (Nat × Bool)) (hm : P.follows .mixedOrders = true)
    (hB : (Region.noSelect l.toArray && decide (fs.length = l.length) && mixB l.toArray fs (Array.replicate l.toArray.size false)) = true)
    (h : wpMix P l.toArray (NoPanic Q) fs a w.drew) : (Code.region id l.toArray true).wp P Q a w := by
  simp only [Bool.and_eq_true, decide_eq_true_eq] at hB
  refine wp_region_noPanic (wp_region_any hm ?_)
  have := wpAny_of_mix (P := P) (Q := NoPanic Q) hB.1.1 (fun _ _ _ _ _ h => h) fs _ a w.drew hB.2 h
  rw [hB.1.2] at this
  simpa using this

section
variable {P : Program} {ops : Array Oper} {Q : Exit → Act → World → Prop} {fs : List (Nat × Bool)} {k : Nat} {o : Oper} {a : Act} {w : World}
theorem mix_take (h0 : ops[k]? = some o) (hw : Region.wanted o (yielded ops a.tmps) = true) (h : ∃ v, (∀ w1, (execOp a.eval o).run P w1 = .ok (.value v) w1) ∧ wpMix P ops Q fs (a.put o.dst v) w) : wpMix P ops Q ((k, true) :: fs) a w := by
  obtain ⟨v, hv, hn⟩ := h
  exact ⟨o, v, h0, .inl ⟨hw, hv⟩, hn⟩
theorem mix_skip {b : Bool} (h0 : ops[k]? = some o) (hw : Region.wanted o (yielded ops a.tmps) = false) (h : wpMix P ops Q fs (a.put o.dst undef) w) : wpMix P ops Q ((k, b) :: fs) a w := by
  cases b
  · refine ⟨o, h0, ?_⟩
    rw [if_neg (by rw [hw]; exact Bool.false_ne_true)]
    exact h
  · exact ⟨o, undef, h0, .inr ⟨hw, rfl⟩, h⟩
theorem mix_go (h0 : ops[k]? = some o) (hw : Region.wanted o (yielded ops a.tmps) = true) (h : ∀ K : Act → World → Prop, (∀ a w, wpMix P ops Q fs a w → K a w) → o.wp P a w K Q) : wpMix P ops Q ((k, false) :: fs) a w := by
  refine ⟨o, h0, ?_⟩
  rw [if_pos hw]
  exact h _ fun _ _ h => h
theorem mix_nil (h : Q .normal a w) : wpMix P ops (NoPanic Q) [] a w := h
end

end Go.Proofs.Ytpainlcehgiokaa

namespace Go.Proofs.Ytpainlcehgiokaa
set_option maxRecDepth 100000
open Go.RowKit

theorem made_cell (w : World) (z : Array Value) (N : Nat) (t : TypeId) (j : Nat) (hj : j < N) : (∃ v, (w.alloc (.cells (madeCells z N) t)).cell? ⟨w.heap.size, j, none⟩ = some v) ∧ (w.alloc (.cells (madeCells z N) t)).frozen? ⟨w.heap.size, j, none⟩ = false := by
  have hh := heap_alloc_new w (.cells (madeCells z N) t)
  refine ⟨?_, ?_⟩
  · rw [cell_of_row _ _ j _ _ _ hh]
    have : j < (madeCells z N).size := by rw [size_madeCells]; exact hj
    exact ⟨_, Array.getElem?_eq_getElem this⟩
  · unfold World.frozen?
    rw [hh]
    simp
theorem Part.begin (w : World) (n : Nat) (t : TypeId) (es : List Evt) : Part (w.alloc (.cells (madeCells #[.int .i64 0, .int .i64 0, .int .i64 0, .int .i64 0, .int .i64 0, .int .i64 0] (n * 6)) t)) w.heap.size n 0 es :=
  ⟨by simp, fun i hi => absurd hi (by omega), fun j hj => made_cell w _ _ t j hj⟩

end Go.Proofs.Ytpainlcehgiokaa

namespace Go.Proofs.Ytpainlcehgiokaa
set_option maxRecDepth 100000
open Go.RowKit

/-- A component's state: its three numbers. -/
structure Cst where
  s : Int
  sq : Int
  ct : Int
deriving DecidableEq
instance : Inhabited Cst := ⟨⟨0, 0, 0⟩⟩
def Cst.v (c : Cst) : Value := .agg #[.int .i64 c.s, .int .i64 c.sq, .int .i64 c.ct]
def Cst.ok (c : Cst) : Prop := I64 c.s ∧ I64 c.sq ∧ I64 c.ct

/-- What both CmpOk compute. -/
def cstB (c : Cst) : Bool := inB c.s 0 96 && inB c.sq 0 12 && decide (0 ≤ c.ct)

end Go.Proofs.Ytpainlcehgiokaa

namespace Go.Proofs.Ytpainlcehgiokaa
set_option maxRecDepth 100000
open Go.RowKit

/-- What both compute: to, delay, kind, plus, mod, rem. -/
def sndB (e : Evt) (many : Int) : Bool :=
  inB e.t 0 (many - 1) && inB e.to 1 9 && inB e.fr 0 2 && inB e.sq 0 96 && inB e.kd 1 9 && inB e.dt 0 (e.kd - 1)

set_option maxHeartbeats 2000000 in
theorem implSnd_any (e : Evt) (many : Int) (hm1 : 1 ≤ many) (hm2 : many ≤ 4) (w : World) :
    Calls Try.prog 73 #[e.v, .int .i64 many] w fun x w' => x = .returned (.bool (sndB e many)) ∧ Up w w' := by
  unfold sndB
  obtain ⟨et, eto, efr, esq, ekd, edt⟩ := e
  unfold Evt.v
  dsimp only
  by_cases hk : 1 ≤ ekd ∧ ekd ≤ 9
  · have hin : inB ekd 1 9 = true := inB_iff.2 hk
    obtain ⟨hk1, hk2⟩ := hk
    go_enter Try.func73, Try.ntmps73
    go_wp2_with (go_at_call 42; refine (within_any _ _ _ _).mono ?_; rintro e w' ⟨rfl, rfl⟩)
    all_goals go_ret
    all_goals exact ⟨ret_bool (by simp [*]), (Up.refl _).alloc _⟩
  · have hin : inB ekd 1 9 = false := inB_no.2 hk
    clear hk
    go_enter Try.func73, Try.ntmps73
    go_wp2_with (go_at_call 42; refine (within_any _ _ _ _).mono ?_; rintro e w' ⟨rfl, rfl⟩)
    all_goals go_ret
    all_goals exact ⟨ret_bool (by simp [*]), (Up.refl _).alloc _⟩

set_option maxHeartbeats 2000000 in
theorem specSnd_any (e : Evt) (many : Int) (hm1 : 1 ≤ many) (hm2 : many ≤ 4) (w : World) :
    Calls Try.prog 67 #[e.v, .int .i64 many] w fun x w' => x = .returned (.bool (sndB e many)) ∧ Up w w' := by
  unfold sndB
  obtain ⟨et, eto, efr, esq, ekd, edt⟩ := e
  unfold Evt.v
  dsimp only
  by_cases hk : 1 ≤ ekd ∧ ekd ≤ 9
  · have hin : inB ekd 1 9 = true := inB_iff.2 hk
    obtain ⟨hk1, hk2⟩ := hk
    go_enter Try.func67, Try.ntmps67
    go_wp2_with (go_at_call 28; refine (l1In_any _ _ _ _).mono ?_; rintro e w' ⟨rfl, rfl⟩)
    all_goals go_ret
    all_goals exact ⟨ret_bool (by simp [*]), (Up.refl _).alloc _⟩
  · have hin : inB ekd 1 9 = false := inB_no.2 hk
    clear hk
    go_enter Try.func67, Try.ntmps67
    go_wp2_with (go_at_call 28; refine (l1In_any _ _ _ _).mono ?_; rintro e w' ⟨rfl, rfl⟩)
    all_goals go_ret
    all_goals exact ⟨ret_bool (by simp [*]), (Up.refl _).alloc _⟩

end Go.Proofs.Ytpainlcehgiokaa

namespace Go.Proofs.Ytpainlcehgiokaa
set_option maxRecDepth 100000
open Go.RowKit

/-- A rule: kind, a, b, c, and what it sends (to, delay, kind, plus, mod, rem). -/
structure Rule where
  kd : Int
  a : Int
  b : Int
  c : Int
  sends : List Evt
instance : Inhabited Rule := ⟨⟨0, 0, 0, 0, []⟩⟩
deriving instance DecidableEq for Rule

def Rule.v (r : Rule) (s : Value) : Value := .agg #[.int .i64 r.kd, .int .i64 r.a, .int .i64 r.b, .int .i64 r.c, s]

/-- The five cells of a rule, from o on. -/
def RuleAt (w : World) (b o : Nat) (r : Rule) : Prop :=
  ∃ A n c, (w.cell? ⟨b, o, none⟩ = some (.int .i64 r.kd) ∧ w.cell? ⟨b, o + 1, none⟩ = some (.int .i64 r.a) ∧ w.cell? ⟨b, o + 2, none⟩ = some (.int .i64 r.b) ∧ w.cell? ⟨b, o + 3, none⟩ = some (.int .i64 r.c) ∧ w.cell? ⟨b, o + 4, none⟩ = some (.slice A n c)) ∧
    n ≤ 9223372036854775807 ∧ Evs w A n r.sends
def Rules (w : World) (A : Option Addr) (n : Nat) (rs : List Rule) : Prop :=
  rs.length = n ∧ n ≤ 9223372036854775807 ∧ (0 < n → ∃ b off, A = some ⟨b, off, none⟩ ∧ b < w.heap.size ∧ ∀ i, i < n → RuleAt w b (off + i * 5) (rs.getD i default))
def Rulz (w : World) (A : Option Addr) (n : Nat) (rss : List (List Rule)) : Prop :=
  rss.length = n ∧ n ≤ 9223372036854775807 ∧ (0 < n → ∃ b off, A = some ⟨b, off, none⟩ ∧ b < w.heap.size ∧ ∀ i, i < n → ∃ A' n' c', w.cell? ⟨b, off + i, none⟩ = some (.slice A' n' c') ∧ Rules w A' n' (rss.getD i []))

theorem RuleAt.up {w w' : World} {b o : Nat} {r : Rule} (h : RuleAt w b o r) (u : Up w w') (hb : b < w.heap.size) : RuleAt w' b o r := by
  obtain ⟨A, n, c, ⟨h0, h1, h2, h3, h4⟩, hn, hE⟩ := h
  exact ⟨A, n, c, ⟨(u.cells _ _ hb).trans h0, (u.cells _ _ hb).trans h1, (u.cells _ _ hb).trans h2, (u.cells _ _ hb).trans h3, (u.cells _ _ hb).trans h4⟩, hn, hE.up u⟩
theorem Rules.up {w w' : World} {A : Option Addr} {n : Nat} {rs : List Rule} (h : Rules w A n rs) (u : Up w w') : Rules w' A n rs :=
  ⟨h.1, h.2.1, fun hn => by
    obtain ⟨b, off, hA, hb, hc⟩ := h.2.2 hn
    exact ⟨b, off, hA, by have := u.size; omega, fun i hi => (hc i hi).up u hb⟩⟩
theorem Rulz.up {w w' : World} {A : Option Addr} {n : Nat} {rss : List (List Rule)} (h : Rulz w A n rss) (u : Up w w') : Rulz w' A n rss :=
  ⟨h.1, h.2.1, fun hn => by
    obtain ⟨b, off, hA, hb, hc⟩ := h.2.2 hn
    exact ⟨b, off, hA, by have := u.size; omega, fun i hi => by
      obtain ⟨A', n', c', h1, h2⟩ := hc i hi
      exact ⟨A', n', c', (u.cells _ _ hb).trans h1, h2.up u⟩⟩⟩

/-- A model. -/
structure Mdl where
  rules : List (List Rule)
  starts : List Evt
  til : Int
deriving DecidableEq
/-- Its value, over these slices. -/
structure MdlV (w : World) (A : Option Addr) (n : Nat) (B : Option Addr) (k : Nat) (m : Mdl) : Prop where
  rules : Rulz w A n m.rules
  starts : Evs w B k m.starts
  big : k ≤ 9223372036854775807
theorem MdlV.up {w w' : World} {A B : Option Addr} {n k : Nat} {m : Mdl} (h : MdlV w A n B k m) (u : Up w w') : MdlV w' A n B k m := ⟨h.rules.up u, h.starts.up u, h.big⟩

def ruleB (r : Rule) (many : Int) : Bool :=
  r.sends.all (fun e => sndB e many) && decide ((r.sends.length : Int) ≤ 2) && inB r.kd 0 2 && inB r.a 0 96 && inB r.b 0 96 && inB r.c 0 96
/-- Rules behind one of kind bf. -/
def rulesB (many bf : Int) : List Rule → Bool
  | [] => true
  | r :: rs => decide (bf < r.kd) && ruleB r many && rulesB many r.kd rs
def startB (til many : Int) (e : Evt) : Bool := decide (e.fr = -1) && decide (e.t ≤ til) && okB e many

theorem all_drop {α : Type} {f : α → Bool} {d : α} (es : List α) (k : Nat) (h : k < es.length) : (es.drop k).all f = (f (es.getD k d) && (es.drop (k + 1)).all f) := by
  rw [List.drop_eq_getElem_cons h, List.all_cons]
  simp [h]
theorem all_end {α : Type} {f : α → Bool} (es : List α) (k : Nat) (h : es.length ≤ k) : (es.drop k).all f = true := by
  rw [List.drop_eq_nil_of_le h]; rfl
theorem rulesB_drop (many bf : Int) (rs : List Rule) (k : Nat) (h : k < rs.length) : rulesB many bf (rs.drop k) = (decide (bf < (rs.getD k default).kd) && ruleB (rs.getD k default) many && rulesB many (rs.getD k default).kd (rs.drop (k + 1))) := by
  rw [List.drop_eq_getElem_cons h, rulesB]
  simp [h]
theorem rulesB_end (many bf : Int) (rs : List Rule) (k : Nat) (h : rs.length ≤ k) : rulesB many bf (rs.drop k) = true := by
  rw [List.drop_eq_nil_of_le h]; rfl

end Go.Proofs.Ytpainlcehgiokaa

namespace Go.Proofs.Ytpainlcehgiokaa
set_option maxRecDepth 100000
open Go.RowKit

theorem toSnd_any (e : Evt) (w : World) :
    Calls Try.prog 74 #[e.v] w fun x w' => x = .returned e.v ∧ Up w w' := by
  obtain ⟨et, eto, efr, esq, ekd, edt⟩ := e
  unfold Evt.v
  dsimp only
  go_enter Try.func74, Try.ntmps74
  go_wp2
  refine bodyPost_ret (v := .agg #[.int .i64 et, .int .i64 eto, .int .i64 efr, .int .i64 esq, .int .i64 ekd, .int .i64 edt]) (by simp [results, Try.results74, go_sem]) rfl ⟨rfl, (((Up.refl _).alloc _).alloc _).alloc _⟩

end Go.Proofs.Ytpainlcehgiokaa

namespace Go.Proofs.Ytpainlcehgiokaa
set_option maxRecDepth 100000
open Go.RowKit

theorem eqSnd_any (a b : Evt) (w : World) : Calls Try.prog 75 #[a.v, b.v] w fun x w' => x = .returned (.bool (eqB a b)) ∧ Up w w' := by
  obtain ⟨at_, ato, afr, asq, akd, adt⟩ := a
  obtain ⟨bt, bto, bfr, bsq, bkd, bdt⟩ := b
  have hf := Lib.hid (eqB_mk at_ ato afr asq akd adt bt bto bfr bsq bkd bdt)
  generalize eqB ⟨at_, ato, afr, asq, akd, adt⟩ ⟨bt, bto, bfr, bsq, bkd, bdt⟩ = r at hf ⊢
  unfold Evt.v
  dsimp only
  go_enter Try.func75, Try.ntmps75
  go_wp2
  all_goals go_ret

  all_goals exact ⟨ret_bool (by rw [hf.out]; simp_all), ((Up.refl _).alloc _).alloc _⟩

end Go.Proofs.Ytpainlcehgiokaa

namespace Go.Proofs.Ytpainlcehgiokaa
set_option maxRecDepth 100000
open Go.RowKit

theorem szSnd_any (A : Option Addr) (n cap : Nat) (left : Int) (w : World) (h0 : 0 ≤ left) (h1 : left ≤ 1000000000) (hn : n ≤ 9223372036854775807) :
    Calls Try.prog 68 #[.slice A n cap, .int .i64 left] w fun x w' => x = .returned (.int .i64 (if left < n then -1 else left - n)) ∧ w = w' := by
  by_cases h : left < n
  · have hf := Lib.hid (show (if left < n then -1 else left - n) = (-1 : Int) from if_pos h)
    generalize (if left < n then -1 else left - n) = r at hf ⊢
    have h' : left - n < 0 := by omega
    go_enter Try.func68, Try.ntmps68
    go_wp2
    go_ret
    exact ⟨ret_int hf.out.symm, rfl⟩
  · have hf := Lib.hid (show (if left < n then -1 else left - n) = left - n from if_neg h)
    generalize (if left < n then -1 else left - n) = r at hf ⊢
    have h' : ¬ left - n < 0 := by omega
    go_enter Try.func68, Try.ntmps68
    go_wp2
    go_ret
    exact ⟨ret_int hf.out.symm, rfl⟩

set_option maxHeartbeats 1000000 in
theorem eqSndS_any (A B : Option Addr) (n m capa capb : Nat) (es fs : List Evt) (w : World) (hn : n ≤ 1000000000) (hE : Evs w A n es) (hF : Evs w B m fs) :
    Calls Try.prog 70 #[.slice A n capa, .slice B m capb] w fun x w' => x = .returned (.bool (decide (es = fs))) ∧ Up w w' := by
  by_cases hnm : n = m
  · subst hnm
    have H0 := Lib.hid (show decide (es.drop 0 = fs.drop 0) = decide (es = fs) from rfl)
    have ST := Lib.hid (eqL_drop es fs (by rw [hE.1, hF.1]))
    have HE := Lib.hid hE
    have HF := Lib.hid hF
    have LE := Lib.hid hE.1
    have LF := Lib.hid hF.1
    have CL := Lib.hid (fun a b W => eqSnd_any a b W)
    generalize hr : decide (es = fs) = res at H0 ⊢
    clear hE hF hr
    go_enter Try.func70, Try.ntmps70
    go_wp2
    go_loopw [5] (fun i wr => (∃ k : Nat, k ≤ n ∧ i = .int .i64 k ∧ decide (es.drop k = fs.drop k) = res) ∧ Up w wr) (fun i _ => n - (intOf i).toNat)
    case atStart => exact ⟨⟨0, by omega, rfl, H0.out⟩, Up.refl _⟩
    case round =>
      obtain ⟨⟨k, hk, rfl, hr⟩, ur⟩ := hrel
      have HR := Lib.hid hr
      clear hr
      by_cases hlt : k < n
      · obtain ⟨b, off, hA, hb, hc⟩ := HE.out.2 (by omega)
        obtain ⟨b2, off2, hA2, hb2, hc2⟩ := HF.out.2 (by omega)
        subst hA hA2
        have a0 := (hc k hlt).up ur hb
        have a1 := (hc2 k hlt).up ur hb2
        have hb' : b < wr.heap.size := by have := ur.size; omega
        have hb2' : b2 < wr.heap.size := by have := ur.size; omega
        clear hc hc2
        have S := ST.out k (by rw [LE.out]; exact hlt)
        have cl := CL.out (es.getD k default) (fs.getD k default)
        generalize es.getD k default = p at a0 S cl
        generalize fs.getD k default = q at a1 S cl
        have S' := Lib.hid S
        clear S
        generalize eqB p q = r at S' cl
        obtain ⟨pt, pto, pfr, psq, pkd, pdt⟩ := p
        obtain ⟨qt, qto, qfr, qsq, qkd, qdt⟩ := q
        unfold EvAt at a0 a1
        unfold Evt.v at cl
        dsimp only at a0 a1 cl
        obtain ⟨p0, p1, p2, p3, p4, p5⟩ := a0
        obtain ⟨q0, q1, q2, q3, q4, q5⟩ := a1
        have C := Lib.hid cl
        clear cl
        have i4 : (k : Int) < n := by omega
        go_wp2
        refine region_up (by kernel_rfl) (by kernel_rfl) ?_
        refine up_step rfl ?_
        apply Exists.intro
        refine ⟨fun w1 hw1 => ?_, ?_⟩
        · go_simp
          try rfl
        go_simp
        refine up_step rfl ?_
        apply Exists.intro
        refine ⟨fun w1 hw1 => ?_, ?_⟩
        · go_simp
          try rfl
        go_simp
        refine up_step rfl ?_
        apply Exists.intro
        refine ⟨fun w1 hw1 => ?_, ?_⟩
        · go_simp
          try rfl
        go_simp
        refine up_step rfl ?_
        apply Exists.intro
        refine ⟨fun w1 hw1 => ?_, ?_⟩
        · obtain ⟨hc, hf, hz⟩ := hw1.facts
          try simp at hz
          go_simp
          try rfl
        go_simp
        refine up_step rfl ?_
        apply Exists.intro
        refine ⟨fun w1 hw1 => ?_, ?_⟩
        · go_simp
          try rfl
        go_simp
        refine up_step rfl ?_
        apply Exists.intro
        refine ⟨fun w1 hw1 => ?_, ?_⟩
        · go_simp
          try rfl
        go_simp
        refine up_step rfl ?_
        apply Exists.intro
        refine ⟨fun w1 hw1 => ?_, ?_⟩
        · go_simp
          try rfl
        go_simp
        refine up_step rfl ?_
        apply Exists.intro
        refine ⟨fun w1 hw1 => ?_, ?_⟩
        · obtain ⟨hc, hf, hz⟩ := hw1.facts
          try simp at hz
          go_simp
          try rfl
        go_simp
        refine up_step rfl ?_
        apply Exists.intro
        refine ⟨fun w1 hw1 => ?_, ?_⟩
        · go_simp
          exact up_call hw1 (C.out _)
        go_simp
        refine up_step rfl ?_
        apply Exists.intro
        refine ⟨fun w1 hw1 => ?_, ?_⟩
        · go_simp
          try rfl
        go_simp
        refine wpQuiet_nil ?_
        intro wA uA
        clear i4 p0 p1 p2 p3 p4 p5 q0 q1 q2 q3 q4 q5 C
        cases r
        · go_wp2
          go_ret
          exact ⟨ret_bool (by rw [← HR.out, S'.out]; rfl), ur.trans uA⟩
        · go_wp2
          go_roundw
          case rel => exact ⟨⟨k + 1, by omega, by go_num, by rw [← HR.out, S'.out]; rfl⟩, ur.trans uA⟩
          case measure => simp [intOf]; omega
      · have e : decide (es.drop k = fs.drop k) = true := by rw [List.drop_eq_nil_of_le (by rw [LE.out]; omega), List.drop_eq_nil_of_le (by rw [LF.out]; omega)]; rfl
        have E := Lib.hid e
        clear e
        go_wp2
        go_ret
        exact ⟨ret_bool (by rw [← HR.out, E.out]), ur⟩
  · have hf := Lib.hid (show decide (es = fs) = false from decide_eq_false fun h => hnm (by rw [← hE.1, ← hF.1, h]))
    generalize decide (es = fs) = r at hf ⊢
    have hne : ((n : Int) != (m : Int)) = true := by rw [bne_iff_ne]; omega
    have HN := Lib.hid hnm
    clear hE hF hnm
    go_enter Try.func70, Try.ntmps70
    go_wp2
    go_ret
    exact ⟨ret_bool hf.out.symm, Up.refl _⟩

end Go.Proofs.Ytpainlcehgiokaa

namespace Go.Proofs.Ytpainlcehgiokaa
set_option maxRecDepth 100000
open Go.RowKit

theorem info86 : (Try.prog.info? 86).map (fun i => (i.zero, i.size, i.bytes)) = some (some (.agg #[.int .i64 0, .int .i64 0, .int .i64 0, .int .i64 0, .int .i64 0, .int .i64 0]), 6, 48) := by kernel_rfl

set_option maxHeartbeats 1000000 in
theorem toSndS_any (A : Option Addr) (n cap : Nat) (es : List Evt) (w : World) (hn : n ≤ 1000000000) (hE : Evs w A n es) :
    Calls Try.prog 69 #[.slice A n cap] w (NewEvs es n w) := by
  obtain ⟨i0, hi, hz0, hz1, hz2⟩ := info_parts info86
  have hmk := fun W => run_make_rowN (P := Try.prog) 82 86 i0 _ Try.underlying82 hi hz0 .i64 .i64 n n (Nat.le_refl _) (by rw [hz2]; omega) (by omega) W
  rw [hz1] at hmk
  have HE := Lib.hid hE
  have LE := Lib.hid hE.1
  have CL := Lib.hid (fun a W => toSnd_any a W)
  clear hE hi hz0 hz1 hz2
  go_enter Try.func69, Try.ntmps69
  go_wp2
  generalize hg : w.heap.size = g
  have HG := Lib.hid (Nat.le_of_eq hg)
  go_loopw [4] (fun i wr => (∃ k : Nat, k ≤ n ∧ i = .int .i64 k ∧ Part wr g n k es) ∧ Up w wr) (fun i _ => n - (intOf i).toNat)
  case atStart =>
    refine ⟨⟨0, by omega, rfl, ?_⟩, (Up.refl _).alloc _⟩
    subst hg
    exact Part.begin w n _ es
  case round =>
    obtain ⟨⟨k, hk, rfl, hp⟩, ur⟩ := hrel
    by_cases hlt : k < n
    · obtain ⟨b, off, hA, hb, hc⟩ := HE.out.2 (by omega)
      subst hA
      have a0 := (hc k hlt).up ur hb
      have hb' : b < wr.heap.size := by have := ur.size; omega
      clear hc
      have cl := CL.out (es.getD k default)
      have HP := Lib.hid hp
      clear hp
      generalize hpk : es.getD k default = p at a0 cl
      obtain ⟨pt, pto, pfr, psq, pkd, pdt⟩ := p
      have HE' := Lib.hid hpk
      clear hpk
      unfold EvAt at a0
      unfold Evt.v at cl
      dsimp only at a0 cl
      obtain ⟨p0, p1, p2, p3, p4, p5⟩ := a0
      have C := Lib.hid cl
      clear cl
      have i4 : (k : Int) < n := by omega
      go_wp2_with fail
      refine (C.out _).mono ?_
      rintro x wA ⟨rfl, uA⟩
      have P := HP.out.up uA
      obtain ⟨⟨v0, c0⟩, f0⟩ := P.2.2 (k * 6) (by omega)
      obtain ⟨⟨v1, c1⟩, f1⟩ := P.2.2 (k * 6 + 1) (by omega)
      obtain ⟨⟨v2, c2⟩, f2⟩ := P.2.2 (k * 6 + 2) (by omega)
      obtain ⟨⟨v3, c3⟩, f3⟩ := P.2.2 (k * 6 + 3) (by omega)
      obtain ⟨⟨v4, c4⟩, f4⟩ := P.2.2 (k * 6 + 4) (by omega)
      obtain ⟨⟨v5, c5⟩, f5⟩ := P.2.2 (k * 6 + 5) (by omega)
      have HP2 := Lib.hid P
      clear P p0 p1 p2 p3 p4 p5
      go_wp2
      go_roundw
      case rel =>
        have hq := HP2.out.put HE'.out hlt
        have hu := (ur.trans uA).putEv (b := g) (o := k * 6) (e := ⟨pt, pto, pfr, psq, pkd, pdt⟩) HG.out
        unfold putEv at hq hu
        exact ⟨⟨k + 1, by omega, by go_num, hq⟩, hu⟩
      case measure => simp [intOf]; omega
    · have HP := Lib.hid hp
      clear hp
      go_wp2
      go_ret
      exact ⟨g, rfl, by omega, HP.out.own LE.out (by omega), ur⟩

end Go.Proofs.Ytpainlcehgiokaa

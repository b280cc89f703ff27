/-
  What all texts of this seat share, in one sentence: the event as six numbers, its cells, and small facts on memory; no condition is made.
  A region that draws its order and whose callees make new blocks, in one sentence: one walk in the order of the text serves every order, where each operation yields one value in every grown world.
  What a strings.Builder's copyCheck and WriteString do in this program, in one sentence: the bytes go in behind those that are there; for every builder of the call's own.
  What spec.l8Plain returns, in one sentence: the decimal numeral, - for what is below 0; for every number.
  The reader of a code, in one sentence: what pick, odd and open give and keep; for every code that lies in memory.
  How a law's arguments are opened, in one sentence: an event by value gives its six numbers, a slice of events its cells; no condition is made.
  How a code that came in is opened, in one sentence: its bytes lie in memory; no condition is made.
  A region that draws its order and whose effects are forced into one order, in one sentence: one walk in the order of the text serves every order, where each operation yields in every world or is the only one that may come up.
  A region that draws its order, walked by relations, in one sentence: each of the first n operations is shown once, in any frame whose slots bear what its forerunners' relations say; the rest comes up in one order.
  Blocks of events of the call's own, in one sentence: what the laying of an event's six cells keeps and what it gives; no condition is made.
  An event's block of the call's own, in one sentence: its six cells, none frozen, kept wherever another block alone is written.
-/
import Derived.Below
import Derived.BigQuiet
import Derived.ChangeOld
import Derived.ChangeSame
import Derived.Deep.Fields
import Derived.Deep.QuietTactic
import Derived.Deep.RegionHeld3
import Derived.Deep.Slices
import Derived.Laws.Bits64
import Derived.Laws.Concat
import Derived.Laws.Externs
import Derived.Laws.IdiomStrings
import Derived.Lib.AppendStr
import Derived.Lib.Builder
import Derived.Lib.Hide
import Derived.Lib.ItoaNum
import Derived.Lib.SmallJoins
import Derived.Lib.Walk
import Derived.OpenShut
import Derived.Outline
import Derived.ProofKit
import Derived.ShutString
import Derived.StillTailTactics
import Derived.Test.YtlkmhmiamdbhcaaDoorChecked
import Derived.Test.YtlkmhmiamdbhcaaDoorProg
import Derived.WalkKit
import Derived.WalkSmall
namespace Go.Proofs.YtlkmhmiamdbhcaaDoor
set_option maxRecDepth 100000
open Go.RowKit
/-- An event: its six numbers. -/
structure Evt where
  t : Int
  to : Int
  fr : Int
  sq : Int
  kd : Int
  dt : Int
deriving DecidableEq
instance : Inhabited Evt := ⟨⟨0, 0, 0, 0, 0, 0⟩⟩
/-- Its value. -/
def Evt.v (e : Evt) : Value := .agg #[.int .i64 e.t, .int .i64 e.to, .int .i64 e.fr, .int .i64 e.sq, .int .i64 e.kd, .int .i64 e.dt]
/-- A number of 64 bits. -/
def I64 (n : Int) : Prop := -9223372036854775808 ≤ n ∧ n ≤ 9223372036854775807
/-- lo ≤ n ≤ hi. -/
def inB (n lo hi : Int) : Bool := decide (lo ≤ n) && decide (n ≤ hi)
theorem inB_iff {n lo hi : Int} : inB n lo hi = true ↔ lo ≤ n ∧ n ≤ hi := by simp [inB]
theorem inB_no {n lo hi : Int} : inB n lo hi = false ↔ ¬ (lo ≤ n ∧ n ≤ hi) := by rw [← inB_iff]; simp
/-- w' is w with new blocks; all that was there is as it was. -/
def Up (w w' : World) : Prop := Below w.heap.size w w'
theorem Up.refl (w : World) : Up w w := Below.refl _ _
theorem Up.below {w w' : World} (h : Up w w') : Below w.heap.size w w' := h
theorem Up.size {w w' : World} (h : Up w w') : w.heap.size ≤ w'.heap.size := Below.size h
theorem Up.trans {a b c : World} (h : Up a b) (k : Up b c) : Up a c := Below.trans h (Below.mono k h.size)
theorem Up.drew {a w : World} (h : Up a w) : Up a w.drew := Below.drew h
theorem Up.alloc {a w : World} (h : Up a w) (o : Obj) : Up a (w.alloc o) := Below.alloc h h.size o
theorem Up.setCell {a w : World} (h : Up a w) {p : Addr} (hp : a.heap.size ≤ p.block) (u : Value) : Up a (w.setCell p u) := Below.setCell h hp u
theorem Up.cell {w w' : World} (h : Up w w') {p : Addr} (hp : p.block < w.heap.size) : w'.cell? p = w.cell? p := Below.cell h hp
theorem Up.cells {w w' : World} (h : Up w w') : ∀ b o, b < w.heap.size → w'.cell? ⟨b, o, none⟩ = w.cell? ⟨b, o, none⟩ := fun b o hb => h.cell (p := ⟨b, o, none⟩) hb
theorem Up.frozens {w w' : World} (h : Up w w') : ∀ b o, b < w.heap.size → w'.frozen? ⟨b, o, none⟩ = w.frozen? ⟨b, o, none⟩ := fun b o hb => Below.frozen (p := ⟨b, o, none⟩) h hb
/-- What a walk lays behind a call: the old cells, the old marks, the size. -/
theorem Up.facts {w w' : World} (h : Up w w') : (∀ b o, b < w.heap.size → w'.cell? ⟨b, o, none⟩ = w.cell? ⟨b, o, none⟩) ∧ (∀ b o, b < w.heap.size → w'.frozen? ⟨b, o, none⟩ = w.frozen? ⟨b, o, none⟩) ∧ w.heap.size ≤ w'.heap.size := ⟨h.cells, h.frozens, h.size⟩
theorem ret_bool {a b : Bool} (h : a = b) : Ending.returned (.bool a) = .returned (.bool b) := by rw [h]
end Go.Proofs.YtlkmhmiamdbhcaaDoor

namespace Go.Proofs.YtlkmhmiamdbhcaaDoor
set_option maxRecDepth 100000
open Go.RowKit
theorem region_up {P : Program} {id : Nat} {Q : Exit → Act → World → Prop} {a : Act} {w : World} {l : List Oper} (hm : P.follows .mixedOrders = true) (hB : Region.lexB .any l.toArray = true)
    (h : wpQuiet P l.toArray (Up w) (fun a' => ∀ w', Up w w' → Q .normal a' w') l a) : (Code.region id l.toArray true).wp P Q a w :=
  wp_region_quiet (C := Up w) hm hB (show Up w w.drew from (Up.refl w).drew) (by simpa using h)
/-- One operation: one value, in every grown world. -/
theorem up_step {P : Program} {ops : Array Oper} {w : World} {Q : Act → Prop} {a : Act} {o : Oper} {rest : List Oper} (hg : o.guard = none)
    (h : ∃ v, (∀ w1, Up w w1 → Oper.quietUpon P (Up w) w1 v ((execOp a.eval o).run P w1)) ∧ wpQuiet P ops (Up w) Q rest (a.put o.dst v)) : wpQuiet P ops (Up w) Q (o :: rest) a :=
  wpQuiet_step fun K hK => by
    have hw : Region.wanted o (yielded ops a.tmps) = true := by simp [Region.wanted, hg]
    rw [if_pos hw]; obtain ⟨v, hq, hk⟩ := h
    exact ⟨v, hq, hK _ hk⟩
theorem up_call {P : Program} {f : FuncId} {args : Array Value} {w w1 : World} {v : Value} (hw : Up w w1)
    (h : Calls P f args w1 fun e w' => e = .returned v ∧ Up w1 w') : Calls P f args w1 fun e w'' => e = .returned v ∧ Up w w'' :=
  h.mono fun _ _ ⟨he, u⟩ => ⟨he, hw.trans u⟩
end Go.Proofs.YtlkmhmiamdbhcaaDoor

namespace Go.Proofs.YtlkmhmiamdbhcaaDoor
set_option maxRecDepth 100000
open Go.RowKit
theorem infoBd : ∃ j, Tryd.prog.info? 86 = some j ∧ j.size = 2 := by
  have h : (Tryd.prog.info? 86).map (fun i => i.size) = some 2 := by kernel_rfl
  obtain ⟨j, hj, hs⟩ := Option.map_eq_some_iff.1 h
  exact ⟨j, hj, hs⟩
theorem infoBy : (Tryd.prog.info? 5).map (fun i => (i.zero, i.size, i.bytes)) = some (some (.int .u8 0), 1, 1) := by kernel_rfl
theorem bdUsed (b : Nat) (w : World) (h0 : w.cell? ⟨b, 0, none⟩ = some (.pointer (some ⟨b, 0, none⟩))) : Calls Tryd.prog 47 #[.pointer (some ⟨b, 0, none⟩)] w fun e w' => e = .returned (.tuple #[]) ∧ w' = w := by
  obtain ⟨j, hj, _⟩ := infoBd
  go_enter Tryd.func47, Tryd.ntmps47
  go_wp2; rw [Lib.run_neq_ptr_same w _ Tryd.underlying84 hj]; go_wp2
  go_end0
  exact ⟨rfl, rfl⟩
theorem bdFresh (b : Nat) (w : World) (h0 : w.cell? ⟨b, 0, none⟩ = some (.pointer none)) (hsh : w.shape? b = some (86, 2)) (hfz : w.frozen? ⟨b, 0, none⟩ = false) :
    Calls Tryd.prog 47 #[.pointer (some ⟨b, 0, none⟩)] w fun e w' => e = .returned (.tuple #[]) ∧ w' = w.setCell ⟨b, 0, none⟩ (.pointer (some ⟨b, 0, none⟩)) := by
  obtain ⟨j, hj, hjs⟩ := infoBd
  go_enter Tryd.func47, Tryd.ntmps47
  go_wp2; rw [Lib.run_to_unsafe w ⟨b, 0, none⟩ Tryd.underlying84 Tryd.underlying105 hj (by rw [hjs]; decide) hsh (Nat.zero_lt_succ 1)]; simp only [Result.andThen]; rw [Oper.upon_value]; go_wp2; rw [run_callFunc_extern Tryd.func58 (by kernel_rfl) (by kernel_rfl) (by kernel_rfl) (e := Extern.AbiNoEscape.same) (by kernel_rfl)]; rw [Lib.run_noEscape]; simp only [Result.andThen]; rw [Oper.upon_value]; go_wp2; rw [Lib.run_from_unsafe w ⟨b, 0, none⟩ Tryd.underlying105 Tryd.underlying84 hj hsh (by kernel_rfl)]; simp only [Result.andThen]; rw [Oper.upon_value]; go_wp2
  go_end0
  exact ⟨rfl, rfl⟩
/-- A builder of the call's own that holds these bytes. -/
def Bdr (B b : Nat) (l : List UInt8) (w : World) : Prop := Lib.IsBuilder 86 5 B b (Lib.byteCells l) w
theorem strCells_bytes (l : List UInt8) : Lib.strCells ⟨l.toArray⟩ = Lib.byteCells l := by
  simp [Lib.strCells, Lib.byteCells]
set_option maxHeartbeats 1000000 in
theorem bdWrite_any (B b : Nat) (l m : List UInt8) (w : World) (h : Bdr B b l w) (hlen : l.length + m.length ≤ 1000000000) (hBw : B ≤ w.heap.size) :
    Calls Tryd.prog 38 #[.pointer (some ⟨b, 0, none⟩), .string ⟨m.toArray⟩] w fun e w' => (∃ v, e = .returned v) ∧ Bdr B b (l ++ m) w' ∧ Below B w w' := by
  obtain ⟨i0, hi, hz0, hz1, hz2⟩ := info_parts infoBy
  have CC : Calls Tryd.prog 47 #[.pointer (some ⟨b, 0, none⟩)] w fun e w' => e = .returned (.tuple #[]) ∧ (Lib.BuilderAt 86 5 B b (.pointer (some ⟨b, 0, none⟩)) (Lib.byteCells l) w' ∧ Below B w w') := by
    rcases h with h | h
    · refine (bdFresh b w h.cell0 h.shape h.frozen0).mono ?_
      rintro e w' ⟨rfl, rfl⟩
      exact ⟨rfl, h.used _, (Below.refl B w).setCell (p := ⟨b, 0, none⟩) h.1 _⟩
    · refine (bdUsed b w h.cell0).mono ?_
      rintro e w' ⟨rfl, rfl⟩
      exact ⟨rfl, h, Below.refl B _⟩
  have hl : (Lib.byteCells l).length = l.length := by simp [Lib.byteCells]
  have hm : (⟨m.toArray⟩ : ByteArray).size = m.length := by simp [ByteArray.size]
  go_enter Tryd.func38, Tryd.ntmps38
  go_wp2_with fail
  refine CC.mono ?_; rintro e w1 ⟨rfl, h1, hb1⟩; obtain ⟨hB, v, hbk, hown, hne⟩ := h1
  have c0 : w1.cell? ⟨b, 0, none⟩ = some (.pointer (some ⟨b, 0, none⟩)) := by rw [Lib.cell_of_heap hbk]; rfl
  have c1 : w1.cell? ⟨b, 1, none⟩ = some v := by rw [Lib.cell_of_heap hbk]; rfl
  go_wp2_with (at_builtin; refine Lib.wpList_append_own_string _ rfl _ _ 42 9 rfl B 5 i0 Tryd.underlying42 Tryd.underlying9 hi hz0 hz1 hz2 _ _ _ rfl hown ⟨m.toArray⟩ rfl ?c3 ?c4 ?c5 ?_)
  case c3 => rw [hm, hl]; unfold maxLen; omega
  case c4 => rw [hm, hl]; omega
  case c5 => have := hb1.size; omega
  intro v' w2 hown' hgrow _
  have hlt : b < w1.heap.size := (Array.getElem?_eq_some_iff.1 hbk).1
  have hb2 : w2.heap[b]? = some (.cells #[.pointer (some ⟨b, 0, none⟩), v] 86 (0, 0)) := by
    rw [hgrow.block b hlt (fun e => hne e.symm)]
    exact hbk
  have d0 : w2.cell? ⟨b, 0, none⟩ = some (.pointer (some ⟨b, 0, none⟩)) := by rw [Lib.cell_of_heap hb2]; rfl
  have d1 : w2.cell? ⟨b, 1, none⟩ = some v := by rw [Lib.cell_of_heap hb2]; rfl
  have f1 : w2.frozen? ⟨b, 1, none⟩ = false := Lib.frozen_of_heap hb2 1
  obtain ⟨ao, n', cap, rfl⟩ : ∃ ao n' cap, v' = .slice ao n' cap := by
    rcases hown'.2 with ⟨hv, _⟩ | ⟨g, cap, cur, hv, _⟩
    · exact ⟨_, _, _, hv⟩
    · exact ⟨_, _, _, hv⟩
  have RES := Lib.hid (show Bdr B b (l ++ m) (w2.setCell ⟨b, 1, none⟩ (.slice ao n' cap)) ∧ Below B w (w2.setCell ⟨b, 1, none⟩ (.slice ao n' cap)) from ⟨by
    unfold Bdr; rw [Lib.byteCells_append]; refine .inr (Lib.BuilderAt.put (T := 86) (e := 5) hB hb2 (bs' := Lib.byteCells l ++ Lib.byteCells m) ?_ (by decide)); rw [strCells_bytes] at hown'
    simpa [hm, Lib.byteCells] using hown', (hb1.grown hgrow (by have := hb1.size; omega) (fun k hk => (hown.lt k hk).1)).setCell (p := ⟨b, 1, none⟩) hB _⟩)
  clear hown hown' hgrow hbk hb2 hne hb1; go_wp2
  go_ret2
  exact ⟨⟨_, rfl⟩, RES.out⟩
theorem bdFresh_any (w : World) : Bdr w.heap.size w.heap.size [] (w.alloc (.cells #[.pointer none, .slice none 0 0] 86)) := Lib.fresh_isBuilder 86 5 w
/-- Of other blocks' making nothing comes to a builder. -/
theorem Bdr.below {B b : Nat} {l : List UInt8} {w w' : World} (h : Bdr B b l w) (k : Below w.heap.size w w') : Bdr B b l w' := by
  have hk : ∀ {p : Value}, Lib.BuilderAt 86 5 B b p (Lib.byteCells l) w → Lib.BuilderAt 86 5 B b p (Lib.byteCells l) w' := fun {p} h => by
    obtain ⟨hB, v, hb, ho, hne⟩ := h
    exact ⟨hB, v, (k.block b (Array.getElem?_eq_some_iff.1 hb).1).trans hb, ho.kept (row := none) ⟨k.os, k.tape, k.output, k.size, fun i hi _ => k.block i hi⟩ (by cases hv : v.ownBlock <;> simp), hne⟩
  exact h.imp hk hk
end Go.Proofs.YtlkmhmiamdbhcaaDoor

namespace Go.Proofs.YtlkmhmiamdbhcaaDoor
set_option maxRecDepth 100000
open Go.RowKit
def plainS (n : Int) : List UInt8 := if n < 0 then [45] else Lib.decDigits n.toNat
/-- Two strings, one behind the other. -/
theorem str_add (a b : List UInt8) (h : a.length + b.length ≤ 9000000000) : ∀ (w : World), (Op.stringOp .add ⟨a.toArray⟩ ⟨b.toArray⟩).run Tryd.prog w = .ok (.string ⟨(a ++ b).toArray⟩) w := fun w => by
  rw [run_string_add_sum w _ _ (by simp [ByteArray.size]; omega), ByteArray.mk_append_mk]
theorem ret_str {a b : ByteArray} (h : a = b) : Ending.returned (.string a) = .returned (.string b) := by rw [h]
theorem conv1 (w : World) (u : Nat) (hu : u < 256) : (convert 42 9 (.slice (some ⟨w.heap.size, 0, none⟩) 1 1)).run Tryd.prog (w.alloc (.cells #[.int .u8 (u : Int)] 5)) = .ok (.string ⟨#[UInt8.ofNat u]⟩) (w.alloc (.cells #[.int .u8 (u : Int)] 5)) := by
  have h := run_convert_bytes_back (P := Tryd.prog) (w.alloc (.cells #[.int .u8 (u : Int)] 5)) 42 9 5 ⟨w.heap.size, 0, none⟩ 1 [UInt8.ofNat u] Tryd.underlying42 Tryd.underlying5 Tryd.underlying9 (fun j hj => by
    obtain rfl : j = 0 := by simpa using hj
    have hh := heap_alloc_new w (.cells #[.int .u8 (u : Int)] 5)
    have e : (UInt8.ofNat u).toNat = u := by simp; omega
    rw [show ((⟨w.heap.size, 0, none⟩ : Addr).add 0) = ⟨w.heap.size, 0, none⟩ from rfl, cell_of_row _ _ 0 _ _ _ hh]
    simp [e])
  exact h
set_option maxHeartbeats 1000000 in
theorem plain_any (n : Int) (hn : n ≤ 1000000000) (w : World) : Calls Tryd.prog 23 #[.int .i64 n] w fun x w' => x = .returned (.string ⟨(plainS n).toArray⟩) ∧ Up w w' := by
  by_cases h0 : n < 0
  · have HP := Lib.hid (show (⟨#[45]⟩ : ByteArray) = ⟨(plainS n).toArray⟩ by rw [show plainS n = [45] from if_pos h0])
    go_enter Tryd.func23, Tryd.ntmps23
    go_wp2; go_ret
    exact ⟨ret_str HP.out, Up.refl _⟩
  · obtain ⟨u, rfl⟩ : ∃ u : Nat, n = u := ⟨n.toNat, by omega⟩
    have HP := Lib.hid (show Lib.decDigits u = plainS u from (if_neg h0).symm)
    have HU := Lib.hid (show u ≤ 1000000000 by omega)
    clear hn
    go_enter Tryd.func23, Tryd.ntmps23
    go_wp2
    go_loopw [0, 3] (fun n s wr => (∃ (q : Nat) (l : List UInt8), n = .int .i64 q ∧ s = .string ⟨l.toArray⟩ ∧ l.length + q ≤ u + 1 ∧ Lib.decDigits u = Lib.decDigits q ++ l) ∧ Up w wr) (fun n _ _ => (intOf n).toNat)
    case atStart => exact ⟨⟨u, [], rfl, rfl, by simp, by simp⟩, Up.refl _⟩
    case round =>
      obtain ⟨⟨q, l, rfl, rfl, hq, hd⟩, ur⟩ := hrel
      have HD := Lib.hid hd
      have UR := Lib.hid ur
      have hq2 := HU.out
      clear hd ur
      by_cases h9 : 9 < q
      · have i1 : (9 : Int) < q := by omega
        have cv := conv1 wr (48 + q % 10) (by omega)
        rw [show ((48 + q % 10 : Nat) : Int) = 48 + (q : Int) % 10 by omega] at cv
        have ST := Lib.hid (show Lib.decDigits u = Lib.decDigits (q / 10) ++ (UInt8.ofNat (48 + q % 10) :: l) by
          rw [HD.out]
          conv => lhs; rw [Lib.decDigits, dif_neg (by omega)]
          simp)
        generalize UInt8.ofNat (48 + q % 10) = ch at cv ST
        have cc := str_add [ch] l (by simp; omega)
        go_wp2
        go_roundw
        case rel => exact ⟨⟨q / 10, ch :: l, by go_num, rfl, by simp; omega, ST.out⟩, UR.out.alloc _⟩
        case measure => simp [intOf]; omega
      · have i1 : ¬ (9 : Int) < q := by omega
        have cv := conv1 wr (48 + q) (by omega)
        rw [show ((48 + q : Nat) : Int) = 48 + (q : Int) by omega] at cv
        have ST := Lib.hid (show (⟨([UInt8.ofNat (48 + q)] ++ l).toArray⟩ : ByteArray) = ⟨(plainS u).toArray⟩ by
          rw [← HP.out, HD.out, Lib.decDigits, dif_pos (by omega)])
        generalize UInt8.ofNat (48 + q) = ch at cv ST
        have cc := str_add [ch] l (by simp; omega)
        go_wp2; go_ret
        exact ⟨ret_str ST.out, UR.out.alloc _⟩
theorem plain_short3 (n : Int) (h : n ≤ 999) : (plainS n).length ≤ 3 := by
  unfold plainS
  split
  · simp
  · by_cases h1 : n.toNat < 10
    · rw [Lib.decDigits, dif_pos h1]; simp
    · rw [Lib.decDigits, dif_neg h1]
      by_cases h2 : n.toNat / 10 < 10
      · rw [Lib.decDigits, dif_pos h2]; simp
      · rw [Lib.decDigits, dif_neg h2, Lib.decDigits, dif_pos (by omega)]; simp
end Go.Proofs.YtlkmhmiamdbhcaaDoor

namespace Go.Proofs.YtlkmhmiamdbhcaaDoor
set_option maxRecDepth 100000
open Go.RowKit
/-- The bytes of a slice that came in. -/
def Bys (w : World) (A : Option Addr) (n B : Nat) : Prop :=
  0 < n → ∃ b off, A = some ⟨b, off, none⟩ ∧ b < B ∧ ∀ i, i < n → ∃ z : Nat, z ≤ 255 ∧ w.cell? ⟨b, off + i, none⟩ = some (.int .u8 (z : Int))
/-- The reader at block g, which has picked at most N times. -/
def Rd (w : World) (g N : Nat) : Prop :=
  ∃ A n cap p, w.cell? ⟨g, 0, none⟩ = some (.slice A n cap) ∧ w.cell? ⟨g, 1, none⟩ = some (.int .i64 (p : Nat)) ∧ w.frozen? ⟨g, 1, none⟩ = false ∧ p ≤ N ∧ g < w.heap.size ∧ n ≤ 2000 ∧ Bys w A n g
/-- w' is w with new blocks, and block g may be written. -/
structure Mv (g : Nat) (w w' : World) : Prop where
  os : w'.os = w.os
  tape : w'.tape = w.tape
  output : w'.output = w.output
  size : w.heap.size ≤ w'.heap.size
  block : ∀ k, k < w.heap.size → k ≠ g → w'.heap[k]? = w.heap[k]?
theorem Mv.refl (g : Nat) (w : World) : Mv g w w := ⟨rfl, rfl, rfl, Nat.le_refl _, fun _ _ _ => rfl⟩
theorem Mv.trans {g : Nat} {a b c : World} (h : Mv g a b) (k : Mv g b c) : Mv g a c :=
  ⟨k.os.trans h.os, k.tape.trans h.tape, k.output.trans h.output, Nat.le_trans h.size k.size, fun j hj hne => (k.block j (Nat.lt_of_lt_of_le hj h.size) hne).trans (h.block j hj hne)⟩
theorem Up.mv {w w' : World} (h : Up w w') (g : Nat) : Mv g w w' := ⟨h.below.os, h.below.tape, h.below.output, h.size, fun k hk _ => h.below.block k hk⟩
theorem Mv.up {g : Nat} {a w w' : World} (h : Mv g w w') (k : Up a w) (hg : a.heap.size ≤ g) : Up a w' :=
  ⟨h.os.trans k.below.os, h.tape.trans k.below.tape, h.output.trans k.below.output, Nat.le_trans k.size h.size, fun j hj => (h.block j (Nat.lt_of_lt_of_le hj k.size) (by omega)).trans (k.below.block j hj)⟩
theorem Mv.setCell {g : Nat} {a w : World} (h : Mv g a w) {o : Nat} (u : Value) : Mv g a (w.setCell ⟨g, o, none⟩ u) :=
  ⟨h.os, h.tape, h.output, by simpa using h.size, fun k hk hne => (Below.heap_setCell w ⟨g, o, none⟩ u k hne).trans (h.block k hk hne)⟩
theorem Mv.drew {g : Nat} {a w : World} (h : Mv g a w) : Mv g a w.drew := ⟨h.os, h.tape, h.output, h.size, h.block⟩
theorem Mv.alloc {g : Nat} {a w : World} (h : Mv g a w) (o : Obj) : Mv g a (w.alloc o) := h.trans ((Up.refl w).alloc o |>.mv g)
theorem Mv.cells {g : Nat} {w w' : World} (h : Mv g w w') : ∀ b o, b < w.heap.size → b ≠ g → w'.cell? ⟨b, o, none⟩ = w.cell? ⟨b, o, none⟩ := fun b o hb hne => World.cell?_of_block (w := w) (a := ⟨b, o, none⟩) (h.block b hb hne)
theorem Bys.keep {w w' : World} {A : Option Addr} {n B : Nat} (h : Bys w A n B) (k : ∀ b o, b < B → w'.cell? ⟨b, o, none⟩ = w.cell? ⟨b, o, none⟩) : Bys w' A n B := fun hn => by
  obtain ⟨b, off, hA, hb, hc⟩ := h hn
  exact ⟨b, off, hA, hb, fun i hi => by
    obtain ⟨z, hz, hc⟩ := hc i hi
    exact ⟨z, hz, (k _ _ hb).trans hc⟩⟩
/-- Block g is left alone: the reader stays. -/
theorem Rd.up {w w' : World} {g N : Nat} (h : Rd w g N) (u : Up w w') : Rd w' g N := by
  obtain ⟨A, n, cap, p, h0, h1, hf, hp, hg, hn, hb⟩ := h
  exact ⟨A, n, cap, p, (u.cells _ _ hg).trans h0, (u.cells _ _ hg).trans h1, (u.frozens _ _ hg).trans hf, hp, by have := u.size; omega, hn, hb.keep fun b o hb => u.cells b o (by omega)⟩
theorem Rd.mono {w : World} {g N N' : Nat} (h : Rd w g N) (hN : N ≤ N') : Rd w g N' := by
  obtain ⟨A, n, cap, p, h0, h1, hf, hp, hr⟩ := h
  exact ⟨A, n, cap, p, h0, h1, hf, by omega, hr⟩
/-- What a pick gives: a number below m (0, if there is none), and the reader is one further. -/
def Picked (g N : Nat) (m : Int) (w : World) (x : Ending) (w' : World) : Prop :=
  ∃ v : Int, x = .returned (.int .i64 v) ∧ 0 ≤ v ∧ (v < m ∨ v = 0) ∧ Rd w' g (N + 1) ∧ Mv g w w'
theorem xor_i64 (a b : Nat) (ha : a < 4611686018427387904) (hb : b < 4611686018427387904) : ∃ c : Nat, c < 4611686018427387904 ∧ bits .xor .i64 (a : Int) (b : Int) = (c : Int) := by
  have hx : a ^^^ b < 2 ^ 62 := Nat.xor_lt_two_pow (by omega) (by omega)
  refine ⟨a ^^^ b, by omega, ?_⟩
  have h1 : (BitVec.ofInt 64 (a : Int)).toNat = a := by
    rw [BitVec.ofInt_natCast, BitVec.toNat_ofNat]; exact Nat.mod_eq_of_lt (by omega)
  have h2 : (BitVec.ofInt 64 (b : Int)).toNat = b := by
    rw [BitVec.ofInt_natCast, BitVec.toNat_ofNat]; exact Nat.mod_eq_of_lt (by omega)
  show IntKind.i64.wrap ((BitVec.ofInt 64 (a : Int) ^^^ BitVec.ofInt 64 (b : Int)).toNat : Int) = _
  rw [BitVec.toNat_xor, h1, h2, IntKind.wrap_i64]
  omega
/-- The reader behind a step. -/
theorem Rd.step {w : World} {g N n cap p : Nat} {A : Option Addr} (h0 : w.cell? ⟨g, 0, none⟩ = some (.slice A n cap)) (h1 : w.cell? ⟨g, 1, none⟩ = some (.int .i64 (p : Nat))) (hf : w.frozen? ⟨g, 1, none⟩ = false)
    (hp : p ≤ N) (hg : g < w.heap.size) (hn : n ≤ 2000) (hb : Bys w A n g) : Rd (w.setCell ⟨g, 1, none⟩ (.int .i64 ((p : Int) + 1))) g (N + 1) := by
  have ne : (⟨g, 1, none⟩ : Addr) ≠ ⟨g, 0, none⟩ := by intro e; injection e with _ e2; cases e2
  refine ⟨A, n, cap, p + 1, (World.cell?_setCell_other _ _ _ _ ne).trans h0, World.cell?_setCell_same _ _ _ h1, ?_, by omega, by simpa using hg, hn, hb.keep fun b o hb => World.cell?_setCell_other _ _ _ _ ?_⟩
  · simpa [go_sem] using hf
  · intro e
    injection e with e1
    omega
theorem Rd.setCell {w : World} {g N : Nat} (h : Rd w g N) {p : Addr} (hp : g < p.block) (u : Value) : Rd (w.setCell p u) g N := by
  obtain ⟨A, n, cap, p', h0, h1, hf, hp', hg, hn, hb⟩ := h
  have ne : ∀ b o, b ≤ g → p ≠ ⟨b, o, none⟩ := fun b o hb e => by subst e; exact absurd hp (by simpa using hb)
  exact ⟨A, n, cap, p', (World.cell?_setCell_other _ _ _ _ (ne _ _ (Nat.le_refl _))).trans h0, (World.cell?_setCell_other _ _ _ _ (ne _ _ (Nat.le_refl _))).trans h1, by simpa [go_sem] using hf, hp', by simpa using hg, hn, hb.keep fun b o hb => World.cell?_setCell_other _ _ _ _ (ne _ _ (by omega))⟩
end Go.Proofs.YtlkmhmiamdbhcaaDoor

namespace Go.Proofs.YtlkmhmiamdbhcaaDoor
set_option maxRecDepth 100000
open Go.ChangeShapes Go.WideShapes Go.ChangeAt Go.RowKit Go.Joins Go.Deep
set_option linter.unusedVariables false
theorem own : ownKnob Tryd.prog.godebug = none := by kernel_rfl
theorem laidOut : laidOutB Tryd.prog = true := by kernel_rfl
section
variable {H : Type} {enc : TypeId × Value → H} {P : Program} {w : World} {base : Nat} {spare : Nat → Bool} {held : Bool}
end
theorem block_lt {w : World} {b o : Nat} {v : Value} (h : w.cell? ⟨b, o, none⟩ = some v) : b < w.heap.size := by
  rcases Nat.lt_or_ge b w.heap.size with hlt | hge
  · exact hlt
  · simp [World.cell?, Array.getElem?_eq_none hge] at h
end Go.Proofs.YtlkmhmiamdbhcaaDoor

namespace Go.Proofs.YtlkmhmiamdbhcaaDoor
set_option maxRecDepth 100000
open Go.ChangeShapes Go.WideShapes Go.ChangeAt Go.RowKit Go.Joins Go.Deep
set_option linter.unusedVariables false
/-- A code that came in. -/
theorem open_bytes {H : Type} {enc : TypeId × Value → H} {w : World} {base : Nat} {spare : Nat → Bool} {held : Bool} {A : Option Addr} {n cap : Nat} {d : DataW H} {p : List MemPlace}
    (h : DataW.Trod enc Tryd.prog w base spare held 42 (.slice A n cap) d p) : Bys w A n w.heap.size ∧ n ≤ cap ∧ cap ≤ 9223372036854775807 := by
  obtain ⟨fuel, hf⟩ := h
  rcases open_ints Tryd.underlying42 Tryd.underlying5 (by kernel_rfl) hf with ⟨hcs, _⟩ | ⟨x, l, c, zs, hcs, _, hl, hm, hz, _, hcell, hwz⟩
  · simp [Value.cells] at hcs
    obtain ⟨rfl, rfl, rfl⟩ := hcs
    exact ⟨fun h0 => absurd h0 (by omega), by omega, by omega⟩
  · simp [Value.cells] at hcs
    obtain ⟨rfl, rfl, rfl⟩ := hcs; refine ⟨fun h0 => ?_, hl, by unfold maxLen at hm; omega⟩
    have hlen : n ≤ zs.length := by rw [hz]; split <;> omega
    obtain ⟨b, off, spot⟩ := x
    have c0 := hcell 0 (by omega)
    have hspot : spot = none := by simpa [Addr.add] using World.cell?_spot c0
    subst hspot
    have c0' : w.cell? ⟨b, off, none⟩ = some (.int .u8 (zs.getD 0 0)) := by simpa [Addr.add] using c0
    refine ⟨b, off, rfl, block_lt c0', fun i hi => ?_⟩
    have ci := hcell i (by omega)
    have ad : (⟨b, off, none⟩ : Addr).add i = ⟨b, off + i, none⟩ := by
      unfold Addr.add
      split
      · rename_i h0; subst h0; rfl
      · rfl
    rw [ad] at ci
    have hmem : zs.getD i 0 ∈ zs := by
      have : i < zs.length := by omega
      simp [this]
    have wf := hwz _ hmem
    generalize zs.getD i 0 = z at ci wf
    have hz2 : 0 ≤ z ∧ z ≤ 255 := by simpa [Lit.wf, IntKind.min, IntKind.max, IntKind.signed, IntKind.bits] using wf
    exact ⟨z.toNat, by omega, by rw [ci]; congr 2; omega⟩
end Go.Proofs.YtlkmhmiamdbhcaaDoor

namespace Go.Proofs.YtlkmhmiamdbhcaaDoor
set_option maxRecDepth 100000
open Go.RowKit
def mixB (ops : Array Oper) : List (Nat × Bool) → Array Bool → Bool
  | [], listed => (Region.ready .any ops listed).isEmpty
  | (k, true) :: fs, listed => decide (k < ops.size) && (Region.ready .any ops listed).contains k && Region.free .any ops listed k && mixB ops fs (listed.setIfInBounds k true)
  | (k, false) :: fs, listed => decide (k < ops.size) && decide (Region.ready .any ops listed = [k]) && mixB ops fs (listed.setIfInBounds k true)
def wpMix (P : Program) (ops : Array Oper) (Q : Exit → Act → World → Prop) : List (Nat × Bool) → Act → World → Prop
  | (k, true) :: fs, a, w => ∃ o v, ops[k]? = some o ∧ Yields P ops o v a ∧ wpMix P ops Q fs (a.put o.dst v) w
  | (k, false) :: fs, a, w => ∃ o, ops[k]? = some o ∧ if Region.wanted o (yielded ops a.tmps) = true then o.wp P a w (wpMix P ops Q fs) Q else wpMix P ops Q fs (a.put o.dst undef) w
  | [], a, w => Q .normal a w
theorem wpAny_of_mix {P : Program} {ops : Array Oper} {Q : Exit → Act → World → Prop} (hsel : Region.noSelect ops = true) (hQ : ∀ c (a : Act) d v w, Q (.panic c) (a.put d v) w → Q (.panic c) a w) :
    ∀ (fs : List (Nat × Bool)) (listed : Array Bool) (a : Act) (w : World), mixB ops fs listed = true → wpMix P ops Q fs a w → wpAny P .any ops Q fs.length listed a w
  | [], _, _, _, hB, h => ⟨by simpa [mixB] using hB, h⟩
  | (k, true) :: fs, listed, a, w, hB, h => by
    simp only [mixB, Bool.and_eq_true] at hB; obtain ⟨o, v, h0, hy, hn⟩ := h
    exact wpAny_take h0 hsel hB.1.2 hB.1.1.2 (fun c a w => hQ c a _ _ w) hy (wpAny_of_mix hsel hQ fs _ _ _ hB.2 hn)
  | (k, false) :: fs, listed, a, w, hB, h => by
    simp only [mixB, Bool.and_eq_true, decide_eq_true_eq] at hB; obtain ⟨o, h0, h⟩ := h
    refine wpAny_all hB.1.2 (by simp) fun i hi => ?_
    obtain rfl : i = k := by simpa using hi
    refine wpOp_mono (K := wpMix P ops Q fs) (fun a' w' h' => wpAny_of_mix hsel hQ fs _ _ _ hB.2 h') ?_; unfold wpOp; simp only [h0]
    split
    · rename_i hw
      rw [if_pos hw] at h
      exact .inl h
    · rename_i hw
      rw [if_neg hw] at h
      exact h
section
variable {P : Program} {ops : Array Oper} {Q : Exit → Act → World → Prop} {fs : List (Nat × Bool)} {k : Nat} {o : Oper} {a : Act} {w : World}
theorem mix_go (h0 : ops[k]? = some o) (hw : Region.wanted o (yielded ops a.tmps) = true) (h : ∀ K : Act → World → Prop, (∀ a w, wpMix P ops Q fs a w → K a w) → o.wp P a w K Q) : wpMix P ops Q ((k, false) :: fs) a w := by
  refine ⟨o, h0, ?_⟩; rw [if_pos hw]
  exact h _ fun _ _ h => h
theorem mix_nil (h : Q .normal a w) : wpMix P ops (NoPanic Q) [] a w := h
end
end Go.Proofs.YtlkmhmiamdbhcaaDoor

namespace Go.Proofs.YtlkmhmiamdbhcaaDoor
set_option maxRecDepth 100000
open Go.RowKit
/-- A frame's slots, those of a list laid anew. -/
def mixT (t : Array Value) : List Nat → (Nat → Value) → Array Value
  | [], _ => t
  | d :: ds, X => (mixT t ds X).setIfInBounds d (X d)
theorem mixT_size (t : Array Value) (X : Nat → Value) : ∀ ds, (mixT t ds X).size = t.size
  | [] => rfl
  | d :: ds => by rw [mixT, Array.size_setIfInBounds, mixT_size t X ds]
theorem mixT_get (t : Array Value) (X : Nat → Value) (k : Nat) : ∀ ds, (mixT t ds X)[k]? = if k ∈ ds ∧ k < t.size then some (X k) else t[k]?
  | [] => by simp [mixT]
  | d :: ds => by
    rw [mixT, Array.getElem?_setIfInBounds, mixT_size, mixT_get t X k ds]
    by_cases hk : d = k
    · subst hk
      by_cases hs : d < t.size
      · simp [hs]
      · simp [hs]
    · rw [if_neg hk]
      simp [show k ≠ d from fun e => hk e.symm]
def updX (X : Nat → Value) (d : Nat) (v : Value) : Nat → Value := fun k => if k = d then v else X k
theorem mixT_put (t : Array Value) (X : Nat → Value) (ds : List Nat) (d : Nat) (v : Value) (hd : d ∈ ds) : (mixT t ds X).setIfInBounds d v = mixT t ds (updX X d v) := by
  apply Array.ext_getElem?; intro k; rw [Array.getElem?_setIfInBounds, mixT_size, mixT_get, mixT_get]
  by_cases hk : d = k
  · subst hk
    by_cases hs : d < t.size
    · simp [hs, hd, updX]
    · simp [hs]
  · rw [if_neg hk]
    simp [updX, show k ≠ d from fun e => hk e.symm]
theorem mixT_self (t : Array Value) (ds : List Nat) : mixT t ds (fun d => t.getD d undef) = t := by
  apply Array.ext_getElem?; intro k; rw [mixT_get]
  split
  · rename_i h
    simp [h.2]
  · rfl
def dsts (ops : Array Oper) (n : Nat) : List Nat := (List.range n).filterMap fun i => (ops[i]?).bind (·.dst)
def dstAt (ops : Array Oper) (i : Nat) : Nat := ((ops[i]?).bind (·.dst)).getD 0
def deps (ops : Array Oper) (o : Oper) : List Nat := (o.after.toList.filter (Region.binds .any)).map fun e => dstAt ops e.on
def frontArr (ops : Array Oper) (n : Nat) : Array Bool := (Array.range ops.size).map fun i => decide (i < n)
/-- What an operation has brought. -/
structure DoneR (a : Act) (dst : Option Tmp) (M : World → World → Prop) (Gk : World → Prop) (Rd : Value → World → Prop) (w : World) (a' : Act) (w' : World) : Prop where
  out : ∃ v, a' = a.put dst v ∧ M w w' ∧ Gk w' ∧ Rd v w'
/-- An operation's walk, kept shut: 'refine', 'obtain' and their like reduce a goal to see whether it is a product. -/
@[irreducible] def opW (P : Program) (o : Oper) (a : Act) (w : World) (K : Act → World → Prop) (Q : Exit → Act → World → Prop) : Prop := o.wp P a w K Q
theorem opW_def (P : Program) (o : Oper) (a : Act) (w : World) (K : Act → World → Prop) (Q : Exit → Act → World → Prop) : opW P o a w K Q = o.wp P a w K Q := by
  unfold opW
  rfl
/-- What is asked of one operation. -/
def StepR (P : Program) (ops : Array Oper) (ds : List Nat) (a0 : Act) (G : Nat → World → Prop) (M : World → World → Prop) (R : Nat → Value → World → Prop) (Q : Exit → Act → World → Prop) (o : Oper) : Prop :=
  ∀ X w k, G (k + 1) w → (∀ d ∈ deps ops o, R d (X d) w) →
    opW P o ⟨mixT a0.tmps ds X, a0.defers⟩ w (DoneR ⟨mixT a0.tmps ds X, a0.defers⟩ o.dst M (G k) (R (o.dst.getD 0)) w) Q
end Go.Proofs.YtlkmhmiamdbhcaaDoor

namespace Go.Proofs.YtlkmhmiamdbhcaaDoor
set_option maxRecDepth 100000
open Go.RowKit
theorem addr_ne {b b' o o' : Nat} (h : b ≠ b' ∨ o ≠ o') : (⟨b, o, none⟩ : Addr) ≠ ⟨b', o', none⟩ := by
  intro e
  injection e with e1 e2
  rcases h with h | h
  · exact h e1
  · exact h e2
end Go.Proofs.YtlkmhmiamdbhcaaDoor

namespace Go.Proofs.YtlkmhmiamdbhcaaDoor
set_option maxRecDepth 100000
open Go.RowKit
theorem Mv.setNew {g : Nat} {a w : World} (h : Mv g a w) {p : Addr} (hp : a.heap.size ≤ p.block) (u : Value) : Mv g a (w.setCell p u) :=
  ⟨h.os, h.tape, h.output, by simpa using h.size, fun k hk hne => (Below.heap_setCell w p u k (by omega)).trans (h.block k hk hne)⟩
end Go.Proofs.YtlkmhmiamdbhcaaDoor

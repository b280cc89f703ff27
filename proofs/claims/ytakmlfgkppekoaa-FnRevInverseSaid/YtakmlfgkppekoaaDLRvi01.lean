/-
  What all texts of this seat share, in one sentence: the event as six numbers, its cells, and small facts on memory; no condition is made.
  The reader of a code, in one sentence: what pick, odd and open give and keep; for every code that lies in memory.
  How a law's arguments are opened, in one sentence: an event by value gives its six numbers, a slice of events its cells; no condition is made.
  How a code that came in is opened, in one sentence: its bytes lie in memory; no condition is made.
  A region that draws its order and whose callees make new blocks, in one sentence: one walk in the order of the text serves every order, where each operation yields one value in every grown world.
  What pick gives, in one sentence: a number below its bound, and the reader is one further; for every reader that lies in memory.
  What odd and l20Open give, in one sentence: a bool and the reader one further; a new reader; for every reader and every code that lie in memory.
  What DrawRevInverse returns, in one sentence: some number of -1 to 98, with new blocks alone; for every code.
  What within, l1In and the two EvtOk return, in one sentence: the bool that the fields' bounds give; for every event and every number of components of 64 bits.
  Inverses modulo 97, in one sentence: numbers, and one step of the Euclidean algorithm; no condition is made.
-/
import Derived.Below
import Derived.BigQuiet
import Derived.ChangeOld
import Derived.ChangeSame
import Derived.Deep.Fields
import Derived.Deep.QuietTactic
import Derived.Deep.Slices
import Derived.Laws.Bits64
import Derived.Lib.Hide
import Derived.Lib.SmallJoins
import Derived.OpenShut
import Derived.Outline
import Derived.ProofKit
import Derived.ShutString
import Derived.StillTailTactics
import Derived.Test.YtakmlfgkppekoaaChecked
import Derived.Test.YtakmlfgkppekoaaProg
import Derived.WalkKit
import Derived.WalkSmall
namespace Go.Proofs.Ytakmlfgkppekoaa
set_option maxRecDepth 100000
open Go.RowKit
/-- An event: its six numbers. -/
structure Evt where
  t : Int
  to : Int
  fr : Int
  sq : Int
  kd : Int
  dt : Int
deriving DecidableEq
instance : Inhabited Evt := ⟨⟨0, 0, 0, 0, 0, 0⟩⟩
/-- A number of 64 bits. -/
def I64 (n : Int) : Prop := -9223372036854775808 ≤ n ∧ n ≤ 9223372036854775807
/-- lo ≤ n ≤ hi. -/
def inB (n lo hi : Int) : Bool := decide (lo ≤ n) && decide (n ≤ hi)
theorem inB_iff {n lo hi : Int} : inB n lo hi = true ↔ lo ≤ n ∧ n ≤ hi := by simp [inB]
theorem inB_no {n lo hi : Int} : inB n lo hi = false ↔ ¬ (lo ≤ n ∧ n ≤ hi) := by rw [← inB_iff]; simp
/-- w' is w with new blocks; all that was there is as it was. -/
def Up (w w' : World) : Prop := Below w.heap.size w w'
theorem Up.refl (w : World) : Up w w := Below.refl _ _
theorem Up.below {w w' : World} (h : Up w w') : Below w.heap.size w w' := h
theorem Up.size {w w' : World} (h : Up w w') : w.heap.size ≤ w'.heap.size := Below.size h
theorem Up.trans {a b c : World} (h : Up a b) (k : Up b c) : Up a c := Below.trans h (Below.mono k h.size)
theorem Up.drew {a w : World} (h : Up a w) : Up a w.drew := Below.drew h
theorem Up.drewN {a w : World} (h : Up a w) (n : Nat) : Up a (w.drewN n) := below_drewN h n
theorem Up.alloc {a w : World} (h : Up a w) (o : Obj) : Up a (w.alloc o) := Below.alloc h h.size o
theorem Up.cell {w w' : World} (h : Up w w') {p : Addr} (hp : p.block < w.heap.size) : w'.cell? p = w.cell? p := Below.cell h hp
theorem Up.cells {w w' : World} (h : Up w w') : ∀ b o, b < w.heap.size → w'.cell? ⟨b, o, none⟩ = w.cell? ⟨b, o, none⟩ := fun b o hb => h.cell (p := ⟨b, o, none⟩) hb
theorem Up.frozens {w w' : World} (h : Up w w') : ∀ b o, b < w.heap.size → w'.frozen? ⟨b, o, none⟩ = w.frozen? ⟨b, o, none⟩ := fun b o hb => Below.frozen (p := ⟨b, o, none⟩) h hb
/-- What a walk lays behind a call: the old cells, the old marks, the size. -/
theorem Up.facts {w w' : World} (h : Up w w') : (∀ b o, b < w.heap.size → w'.cell? ⟨b, o, none⟩ = w.cell? ⟨b, o, none⟩) ∧ (∀ b o, b < w.heap.size → w'.frozen? ⟨b, o, none⟩ = w.frozen? ⟨b, o, none⟩) ∧ w.heap.size ≤ w'.heap.size := ⟨h.cells, h.frozens, h.size⟩
theorem ret_bool {a b : Bool} (h : a = b) : Ending.returned (.bool a) = .returned (.bool b) := by rw [h]
theorem ret_int {a b : Int} (h : a = b) : Ending.returned (.int .i64 a) = .returned (.int .i64 b) := by rw [h]
end Go.Proofs.Ytakmlfgkppekoaa

namespace Go.Proofs.Ytakmlfgkppekoaa
set_option maxRecDepth 100000
open Go.RowKit
/-- The bytes of a slice that came in. -/
def Bys (w : World) (A : Option Addr) (n B : Nat) : Prop :=
  0 < n → ∃ b off, A = some ⟨b, off, none⟩ ∧ b < B ∧ ∀ i, i < n → ∃ z : Nat, z ≤ 255 ∧ w.cell? ⟨b, off + i, none⟩ = some (.int .u8 (z : Int))
/-- The reader at block g, which has picked at most N times. -/
def Rd (w : World) (g N : Nat) : Prop :=
  ∃ A n cap p, w.cell? ⟨g, 0, none⟩ = some (.slice A n cap) ∧ w.cell? ⟨g, 1, none⟩ = some (.int .i64 (p : Nat)) ∧ w.frozen? ⟨g, 1, none⟩ = false ∧ p ≤ N ∧ g < w.heap.size ∧ n ≤ 2000 ∧ Bys w A n g
/-- w' is w with new blocks, and block g may be written. -/
structure Mv (g : Nat) (w w' : World) : Prop where
  os : w'.os = w.os
  tape : w'.tape = w.tape
  output : w'.output = w.output
  size : w.heap.size ≤ w'.heap.size
  block : ∀ k, k < w.heap.size → k ≠ g → w'.heap[k]? = w.heap[k]?
theorem Mv.refl (g : Nat) (w : World) : Mv g w w := ⟨rfl, rfl, rfl, Nat.le_refl _, fun _ _ _ => rfl⟩
theorem Mv.trans {g : Nat} {a b c : World} (h : Mv g a b) (k : Mv g b c) : Mv g a c :=
  ⟨k.os.trans h.os, k.tape.trans h.tape, k.output.trans h.output, Nat.le_trans h.size k.size, fun j hj hne => (k.block j (Nat.lt_of_lt_of_le hj h.size) hne).trans (h.block j hj hne)⟩
theorem Up.mv {w w' : World} (h : Up w w') (g : Nat) : Mv g w w' := ⟨h.below.os, h.below.tape, h.below.output, h.size, fun k hk _ => h.below.block k hk⟩
theorem Mv.up {g : Nat} {a w w' : World} (h : Mv g w w') (k : Up a w) (hg : a.heap.size ≤ g) : Up a w' :=
  ⟨h.os.trans k.below.os, h.tape.trans k.below.tape, h.output.trans k.below.output, Nat.le_trans k.size h.size, fun j hj => (h.block j (Nat.lt_of_lt_of_le hj k.size) (by omega)).trans (k.below.block j hj)⟩
theorem Mv.setCell {g : Nat} {a w : World} (h : Mv g a w) {o : Nat} (u : Value) : Mv g a (w.setCell ⟨g, o, none⟩ u) :=
  ⟨h.os, h.tape, h.output, by simpa using h.size, fun k hk hne => (Below.heap_setCell w ⟨g, o, none⟩ u k hne).trans (h.block k hk hne)⟩
theorem Bys.keep {w w' : World} {A : Option Addr} {n B : Nat} (h : Bys w A n B) (k : ∀ b o, b < B → w'.cell? ⟨b, o, none⟩ = w.cell? ⟨b, o, none⟩) : Bys w' A n B := fun hn => by
  obtain ⟨b, off, hA, hb, hc⟩ := h hn
  exact ⟨b, off, hA, hb, fun i hi => by
    obtain ⟨z, hz, hc⟩ := hc i hi
    exact ⟨z, hz, (k _ _ hb).trans hc⟩⟩
/-- Block g is left alone: the reader stays. -/
theorem Rd.up {w w' : World} {g N : Nat} (h : Rd w g N) (u : Up w w') : Rd w' g N := by
  obtain ⟨A, n, cap, p, h0, h1, hf, hp, hg, hn, hb⟩ := h
  exact ⟨A, n, cap, p, (u.cells _ _ hg).trans h0, (u.cells _ _ hg).trans h1, (u.frozens _ _ hg).trans hf, hp, by have := u.size; omega, hn, hb.keep fun b o hb => u.cells b o (by omega)⟩
/-- What a pick gives: a number below m (0, if there is none), and the reader is one further. -/
def Picked (g N : Nat) (m : Int) (w : World) (x : Ending) (w' : World) : Prop :=
  ∃ v : Int, x = .returned (.int .i64 v) ∧ 0 ≤ v ∧ (v < m ∨ v = 0) ∧ Rd w' g (N + 1) ∧ Mv g w w'
theorem xor_i64 (a b : Nat) (ha : a < 4611686018427387904) (hb : b < 4611686018427387904) : ∃ c : Nat, c < 4611686018427387904 ∧ bits .xor .i64 (a : Int) (b : Int) = (c : Int) := by
  have hx : a ^^^ b < 2 ^ 62 := Nat.xor_lt_two_pow (by omega) (by omega)
  refine ⟨a ^^^ b, by omega, ?_⟩
  have h1 : (BitVec.ofInt 64 (a : Int)).toNat = a := by
    rw [BitVec.ofInt_natCast, BitVec.toNat_ofNat]; exact Nat.mod_eq_of_lt (by omega)
  have h2 : (BitVec.ofInt 64 (b : Int)).toNat = b := by
    rw [BitVec.ofInt_natCast, BitVec.toNat_ofNat]; exact Nat.mod_eq_of_lt (by omega)
  show IntKind.i64.wrap ((BitVec.ofInt 64 (a : Int) ^^^ BitVec.ofInt 64 (b : Int)).toNat : Int) = _
  rw [BitVec.toNat_xor, h1, h2, IntKind.wrap_i64]
  omega
/-- The reader behind a step. -/
theorem Rd.step {w : World} {g N n cap p : Nat} {A : Option Addr} (h0 : w.cell? ⟨g, 0, none⟩ = some (.slice A n cap)) (h1 : w.cell? ⟨g, 1, none⟩ = some (.int .i64 (p : Nat))) (hf : w.frozen? ⟨g, 1, none⟩ = false)
    (hp : p ≤ N) (hg : g < w.heap.size) (hn : n ≤ 2000) (hb : Bys w A n g) : Rd (w.setCell ⟨g, 1, none⟩ (.int .i64 ((p : Int) + 1))) g (N + 1) := by
  have ne : (⟨g, 1, none⟩ : Addr) ≠ ⟨g, 0, none⟩ := by intro e; injection e with _ e2; cases e2
  refine ⟨A, n, cap, p + 1, (World.cell?_setCell_other _ _ _ _ ne).trans h0, World.cell?_setCell_same _ _ _ h1, ?_, by omega, by simpa using hg, hn, hb.keep fun b o hb => World.cell?_setCell_other _ _ _ _ ?_⟩
  · simpa [go_sem] using hf
  · intro e
    injection e with e1
    omega
end Go.Proofs.Ytakmlfgkppekoaa

namespace Go.Proofs.Ytakmlfgkppekoaa
set_option maxRecDepth 100000
open Go.ChangeShapes Go.WideShapes Go.ChangeAt Go.RowKit Go.Joins Go.Deep
set_option linter.unusedVariables false
theorem own : ownKnob Try.prog.godebug = none := by kernel_rfl
theorem laidOut : laidOutB Try.prog = true := by kernel_rfl
section
variable {H : Type} {enc : TypeId × Value → H} {P : Program} {w : World} {base : Nat} {spare : Nat → Bool} {held : Bool}
end
theorem block_lt {w : World} {b o : Nat} {v : Value} (h : w.cell? ⟨b, o, none⟩ = some v) : b < w.heap.size := by
  rcases Nat.lt_or_ge b w.heap.size with hlt | hge
  · exact hlt
  · simp [World.cell?, Array.getElem?_eq_none hge] at h
end Go.Proofs.Ytakmlfgkppekoaa

namespace Go.Proofs.Ytakmlfgkppekoaa
set_option maxRecDepth 100000
open Go.ChangeShapes Go.WideShapes Go.ChangeAt Go.RowKit Go.Joins Go.Deep
set_option linter.unusedVariables false
/-- A code that came in. -/
theorem open_bytes {H : Type} {enc : TypeId × Value → H} {w : World} {base : Nat} {spare : Nat → Bool} {held : Bool} {A : Option Addr} {n cap : Nat} {d : DataW H} {p : List MemPlace}
    (h : DataW.Trod enc Try.prog w base spare held 54 (.slice A n cap) d p) : Bys w A n w.heap.size ∧ n ≤ cap ∧ cap ≤ 9223372036854775807 := by
  obtain ⟨fuel, hf⟩ := h
  rcases open_ints Try.underlying54 Try.underlying5 (by kernel_rfl) hf with ⟨hcs, _⟩ | ⟨x, l, c, zs, hcs, _, hl, hm, hz, _, hcell, hwz⟩
  · simp [Value.cells] at hcs
    obtain ⟨rfl, rfl, rfl⟩ := hcs
    exact ⟨fun h0 => absurd h0 (by omega), by omega, by omega⟩
  · simp [Value.cells] at hcs
    obtain ⟨rfl, rfl, rfl⟩ := hcs; refine ⟨fun h0 => ?_, hl, by unfold maxLen at hm; omega⟩
    have hlen : n ≤ zs.length := by rw [hz]; split <;> omega
    obtain ⟨b, off, spot⟩ := x
    have c0 := hcell 0 (by omega)
    have hspot : spot = none := by simpa [Addr.add] using World.cell?_spot c0
    subst hspot
    have c0' : w.cell? ⟨b, off, none⟩ = some (.int .u8 (zs.getD 0 0)) := by simpa [Addr.add] using c0
    refine ⟨b, off, rfl, block_lt c0', fun i hi => ?_⟩
    have ci := hcell i (by omega)
    have ad : (⟨b, off, none⟩ : Addr).add i = ⟨b, off + i, none⟩ := by
      unfold Addr.add
      split
      · rename_i h0; subst h0; rfl
      · rfl
    rw [ad] at ci
    have hmem : zs.getD i 0 ∈ zs := by
      have : i < zs.length := by omega
      simp [this]
    have wf := hwz _ hmem
    generalize zs.getD i 0 = z at ci wf
    have hz2 : 0 ≤ z ∧ z ≤ 255 := by simpa [Lit.wf, IntKind.min, IntKind.max, IntKind.signed, IntKind.bits] using wf
    exact ⟨z.toNat, by omega, by rw [ci]; congr 2; omega⟩
end Go.Proofs.Ytakmlfgkppekoaa

namespace Go.Proofs.Ytakmlfgkppekoaa
set_option maxRecDepth 100000
open Go.RowKit
theorem region_up {P : Program} {id : Nat} {Q : Exit → Act → World → Prop} {a : Act} {w : World} {l : List Oper} (hm : P.follows .mixedOrders = true) (hB : Region.lexB .any l.toArray = true)
    (h : wpQuiet P l.toArray (Up w) (fun a' => ∀ w', Up w w' → Q .normal a' w') l a) : (Code.region id l.toArray true).wp P Q a w :=
  wp_region_quiet (C := Up w) hm hB (show Up w w.drew from (Up.refl w).drew) (by simpa using h)
/-- One operation: one value, in every grown world. -/
theorem up_step {P : Program} {ops : Array Oper} {w : World} {Q : Act → Prop} {a : Act} {o : Oper} {rest : List Oper} (hg : o.guard = none)
    (h : ∃ v, (∀ w1, Up w w1 → Oper.quietUpon P (Up w) w1 v ((execOp a.eval o).run P w1)) ∧ wpQuiet P ops (Up w) Q rest (a.put o.dst v)) : wpQuiet P ops (Up w) Q (o :: rest) a :=
  wpQuiet_step fun K hK => by
    have hw : Region.wanted o (yielded ops a.tmps) = true := by simp [Region.wanted, hg]
    rw [if_pos hw]; obtain ⟨v, hq, hk⟩ := h
    exact ⟨v, hq, hK _ hk⟩
end Go.Proofs.Ytakmlfgkppekoaa

namespace Go.Proofs.Ytakmlfgkppekoaa
set_option maxRecDepth 100000
open Go.RowKit
theorem wr (x : Int) (c : Nat) (h : x = c) (hc : c < 4611686018427387904) : IntKind.i64.wrap x = c := by
  rw [h]
  exact IntWalk.i64_in _ (by omega)
set_option maxHeartbeats 2000000 in
theorem pick_any (g N : Nat) (m : Int) (w : World) (hm : I64 m) (hN : N ≤ 1000000) (hR : Rd w g N) :
    Calls Try.prog 80 #[.pointer (some ⟨g, 0, none⟩), .int .i64 m] w (Picked g N m w) := by
  obtain ⟨A, n, cap, p, h0, h1, hf, hp, hg, hn, hb⟩ := hR
  have R := Lib.hid (Rd.step h0 h1 hf hp hg hn hb)
  have HM := Lib.hid hm
  clear hm
  by_cases hm1 : m < 1
  · go_enter Try.func80, Try.ntmps80
    go_wp2; go_ret
    exact ⟨0, rfl, by omega, .inr rfl, R.out, (Mv.refl _ _).setCell _⟩
  · by_cases hn0 : n = 0
    · subst hn0
      go_enter Try.func80, Try.ntmps80
      go_wp2; go_ret
      exact ⟨0, rfl, by omega, .inr rfl, R.out, (Mv.refl _ _).setCell _⟩
    · obtain ⟨b, off, rfl, hbg, hc⟩ := hb (by omega)
      have hn0' : ((n : Int) == 0) = false := by simp; omega
      have HC := Lib.hid hc
      clear hc
      have hne : b ≠ g := by omega
      by_cases hpn : p < n
      · obtain ⟨z, hz, hcz⟩ := HC.out p hpn
        go_enter Try.func80, Try.ntmps80
        go_wp2; go_ret
        exact ⟨_, rfl, Int.emod_nonneg _ (by omega), .inl (Int.emod_lt_of_pos _ (by omega)), R.out, (Mv.refl _ _).setCell _⟩
      · obtain ⟨q1, hq1, e1⟩ : ∃ q : Nat, q < n ∧ (p : Int).tmod (n : Int) = (q : Int) := ⟨p % n, Nat.mod_lt _ (by omega), by rw [Int.tmod_eq_emod_of_nonneg (by omega)]; rfl⟩
        obtain ⟨q2, hq2, e2⟩ : ∃ q : Nat, q < n ∧ ((p * 7 + 3 : Nat) : Int).tmod (n : Int) = (q : Int) := ⟨(p * 7 + 3) % n, Nat.mod_lt _ (by omega), by rw [Int.tmod_eq_emod_of_nonneg (by omega)]; rfl⟩; obtain ⟨q3, hq3, e3⟩ : ∃ q : Nat, q ≤ p ∧ (p : Int).tdiv (n : Int) = (q : Int) := ⟨p / n, Nat.div_le_self _ _, by rw [Int.tdiv_eq_ediv_of_nonneg (by omega)]; rfl⟩; obtain ⟨z1, hz1, hcz1⟩ := HC.out q1 hq1; obtain ⟨z2, hz2, hcz2⟩ := HC.out q2 hq2
        have w1 : IntKind.i64.wrap (z1 : Int) = z1 := wr _ _ rfl (by omega)
        have w2 : IntKind.i64.wrap (z2 : Int) = z2 := wr _ _ rfl (by omega)
        obtain ⟨y1, hy1, w3⟩ : ∃ y : Nat, y ≤ 1000000 ∧ IntKind.i64.wrap ((z1 : Int) * 131) = (y : Int) := ⟨z1 * 131, by omega, wr _ _ (by omega) (by omega)⟩; obtain ⟨y2, hy2, w4⟩ : ∃ y : Nat, y ≤ 1000000 ∧ IntKind.i64.wrap ((z2 : Int) * 1117) = (y : Int) := ⟨z2 * 1117, by omega, wr _ _ (by omega) (by omega)⟩; obtain ⟨s1, hs1, w5⟩ : ∃ s : Nat, s = p * 7 ∧ IntKind.i64.wrap ((p : Int) * 7) = (s : Int) := ⟨p * 7, rfl, wr _ _ (by omega) (by omega)⟩; obtain ⟨s2, hs2, w6⟩ : ∃ s : Nat, s = p * 7 + 3 ∧ IntKind.i64.wrap ((s1 : Int) + 3) = (s : Int) := ⟨p * 7 + 3, rfl, wr _ _ (by omega) (by omega)⟩; rw [← hs2] at e2
        obtain ⟨y3, hy3, w7⟩ : ∃ y : Nat, y ≤ 2000000 ∧ IntKind.i64.wrap ((y1 : Int) + (y2 : Int)) = (y : Int) := ⟨y1 + y2, by omega, wr _ _ (by omega) (by omega)⟩; obtain ⟨y4, hy4, w8⟩ : ∃ y : Nat, y ≤ 29000000 ∧ IntKind.i64.wrap ((p : Int) * 29) = (y : Int) := ⟨p * 29, by omega, wr _ _ (by omega) (by omega)⟩; obtain ⟨y5, hy5, w9⟩ : ∃ y : Nat, y ≤ 31000000 ∧ IntKind.i64.wrap ((y3 : Int) + (y4 : Int)) = (y : Int) := ⟨y3 + y4, by omega, wr _ _ (by omega) (by omega)⟩
        have wq : IntKind.i64.wrap (q3 : Int) = q3 := wr _ _ rfl (by omega)
        obtain ⟨y6, hy6, w10⟩ : ∃ y : Nat, y ≤ 53000000 ∧ IntKind.i64.wrap ((q3 : Int) * 53) = (y : Int) := ⟨q3 * 53, by omega, wr _ _ (by omega) (by omega)⟩; obtain ⟨y7, hy7, w11⟩ : ∃ y : Nat, y ≤ 90000000 ∧ IntKind.i64.wrap ((y5 : Int) + (y6 : Int)) = (y : Int) := ⟨y5 + y6, by omega, wr _ _ (by omega) (by omega)⟩; obtain ⟨y8, hy8, w12⟩ : ∃ y : Nat, y ≤ 90000000 ∧ (y7 : Int) / 64 = (y : Int) := ⟨y7 / 64, by omega, by omega⟩; obtain ⟨y9, hy9, w13⟩ := xor_i64 y7 y8 (by omega) (by omega)
        have hbw : b < w.heap.size := by omega
        have lq1 : (q1 : Int) < n := by omega
        have lq2 : (q2 : Int) < n := by omega
        have nn : ((n : Int) == 0) = false := hn0'
        clear hs1 hs2
        go_enter Try.func80, Try.ntmps80
        go_wp2; refine region_up (by kernel_rfl) (by kernel_rfl) ?_; refine up_step rfl ?_; apply Exists.intro; refine ⟨fun w1 hw1 => ?_, ?_⟩
        · go_simp
          try rfl
        go_simp; refine up_step rfl ?_; apply Exists.intro; refine ⟨fun w1 hw1 => ?_, ?_⟩
        · go_simp
          try rfl
        go_simp; refine up_step rfl ?_; apply Exists.intro; refine ⟨fun w1 hw1 => ?_, ?_⟩
        · go_simp
          try rfl
        go_simp; refine up_step rfl ?_; apply Exists.intro; refine ⟨fun w1 hw1 => ?_, ?_⟩
        · obtain ⟨hc, hf, hz⟩ := hw1.facts
          try simp at hz
          go_simp
          try rfl
        go_simp; refine up_step rfl ?_; apply Exists.intro; refine ⟨fun w1 hw1 => ?_, ?_⟩
        · go_simp
          try rfl
        go_simp; refine up_step rfl ?_; apply Exists.intro; refine ⟨fun w1 hw1 => ?_, ?_⟩
        · go_simp
          try rfl
        go_simp; refine up_step rfl ?_; apply Exists.intro; refine ⟨fun w1 hw1 => ?_, ?_⟩
        · go_simp
          try rfl
        go_simp; refine up_step rfl ?_; apply Exists.intro; refine ⟨fun w1 hw1 => ?_, ?_⟩
        · go_simp
          try rfl
        go_simp; refine up_step rfl ?_; apply Exists.intro; refine ⟨fun w1 hw1 => ?_, ?_⟩
        · obtain ⟨hc, hf, hz⟩ := hw1.facts
          try simp at hz
          go_simp
          try rfl
        go_simp; refine up_step rfl ?_; apply Exists.intro; refine ⟨fun w1 hw1 => ?_, ?_⟩
        · go_simp
          try rfl
        go_simp; refine up_step rfl ?_; apply Exists.intro; refine ⟨fun w1 hw1 => ?_, ?_⟩
        · go_simp
          try rfl
        go_simp; refine up_step rfl ?_; apply Exists.intro; refine ⟨fun w1 hw1 => ?_, ?_⟩
        · go_simp
          try rfl
        go_simp; refine up_step rfl ?_; apply Exists.intro; refine ⟨fun w1 hw1 => ?_, ?_⟩
        · obtain ⟨hc, hf, hz⟩ := hw1.facts
          try simp at hz
          go_simp
          try rfl
        go_simp; refine up_step rfl ?_; apply Exists.intro; refine ⟨fun w1 hw1 => ?_, ?_⟩
        · go_simp
          try rfl
        go_simp; refine up_step rfl ?_; apply Exists.intro; refine ⟨fun w1 hw1 => ?_, ?_⟩
        · go_simp
          try rfl
        go_simp; refine up_step rfl ?_; apply Exists.intro; refine ⟨fun w1 hw1 => ?_, ?_⟩
        · go_simp
          try rfl
        go_simp; refine up_step rfl ?_; apply Exists.intro; refine ⟨fun w1 hw1 => ?_, ?_⟩
        · go_simp
          try rfl
        go_simp; refine up_step rfl ?_; apply Exists.intro; refine ⟨fun w1 hw1 => ?_, ?_⟩
        · go_simp
          try rfl
        go_simp; refine up_step rfl ?_; apply Exists.intro; refine ⟨fun w1 hw1 => ?_, ?_⟩
        · obtain ⟨hc, hf, hz⟩ := hw1.facts
          try simp at hz
          go_simp
          try rfl
        go_simp; refine up_step rfl ?_; apply Exists.intro; refine ⟨fun w1 hw1 => ?_, ?_⟩
        · go_simp
          try rfl
        go_simp; refine up_step rfl ?_; apply Exists.intro; refine ⟨fun w1 hw1 => ?_, ?_⟩
        · go_simp
          try rfl
        go_simp; refine up_step rfl ?_; apply Exists.intro; refine ⟨fun w1 hw1 => ?_, ?_⟩
        · go_simp
          try rfl
        go_simp; refine up_step rfl ?_; apply Exists.intro; refine ⟨fun w1 hw1 => ?_, ?_⟩
        · go_simp
          try rfl
        go_simp; refine up_step rfl ?_; apply Exists.intro; refine ⟨fun w1 hw1 => ?_, ?_⟩
        · go_simp
          try rfl
        go_simp; refine up_step rfl ?_; apply Exists.intro; refine ⟨fun w1 hw1 => ?_, ?_⟩
        · go_simp
          try rfl
        go_simp; refine up_step rfl ?_; apply Exists.intro; refine ⟨fun w1 hw1 => ?_, ?_⟩
        · obtain ⟨hc, hf, hz⟩ := hw1.facts
          try simp at hz
          go_simp
          try rfl
        go_simp; refine up_step rfl ?_; apply Exists.intro; refine ⟨fun w1 hw1 => ?_, ?_⟩
        · go_simp
          try rfl
        go_simp; refine up_step rfl ?_; apply Exists.intro; refine ⟨fun w1 hw1 => ?_, ?_⟩
        · go_simp
          try rfl
        go_simp; refine up_step rfl ?_; apply Exists.intro; refine ⟨fun w1 hw1 => ?_, ?_⟩
        · go_simp
          try rfl
        go_simp; refine up_step rfl ?_; apply Exists.intro; refine ⟨fun w1 hw1 => ?_, ?_⟩
        · obtain ⟨hc, hf, hz⟩ := hw1.facts
          try simp at hz
          go_simp
          try rfl
        go_simp; refine up_step rfl ?_; apply Exists.intro; refine ⟨fun w1 hw1 => ?_, ?_⟩
        · go_simp
          try rfl
        go_simp; refine up_step rfl ?_; apply Exists.intro; refine ⟨fun w1 hw1 => ?_, ?_⟩
        · go_simp
          try rfl
        go_simp; refine up_step rfl ?_; apply Exists.intro; refine ⟨fun w1 hw1 => ?_, ?_⟩
        · go_simp
          try rfl
        go_simp; refine up_step rfl ?_; apply Exists.intro; refine ⟨fun w1 hw1 => ?_, ?_⟩
        · go_simp
          try rfl
        go_simp; refine up_step rfl ?_; apply Exists.intro; refine ⟨fun w1 hw1 => ?_, ?_⟩
        · go_simp
          try rfl
        go_simp; refine up_step rfl ?_; apply Exists.intro; refine ⟨fun w1 hw1 => ?_, ?_⟩
        · go_simp
          try rfl
        go_simp; refine up_step rfl ?_; apply Exists.intro; refine ⟨fun w1 hw1 => ?_, ?_⟩
        · go_simp
          try rfl
        go_simp; refine up_step rfl ?_; apply Exists.intro; refine ⟨fun w1 hw1 => ?_, ?_⟩
        · go_simp
          try rfl
        go_simp; refine up_step rfl ?_; apply Exists.intro; refine ⟨fun w1 hw1 => ?_, ?_⟩
        · go_simp
          try rfl
        go_simp; refine up_step rfl ?_; apply Exists.intro; refine ⟨fun w1 hw1 => ?_, ?_⟩
        · go_simp
          try rfl
        go_simp; refine up_step rfl ?_; apply Exists.intro; refine ⟨fun w1 hw1 => ?_, ?_⟩
        · obtain ⟨hc, hf, hz⟩ := hw1.facts
          try simp at hz
          go_simp
          try rfl
        go_simp; refine up_step rfl ?_; apply Exists.intro; refine ⟨fun w1 hw1 => ?_, ?_⟩
        · go_simp
          try rfl
        go_simp; refine up_step rfl ?_; apply Exists.intro; refine ⟨fun w1 hw1 => ?_, ?_⟩
        · go_simp
          try rfl
        go_simp; refine up_step rfl ?_; apply Exists.intro; refine ⟨fun w1 hw1 => ?_, ?_⟩
        · go_simp
          try rfl
        go_simp; refine up_step rfl ?_; apply Exists.intro; refine ⟨fun w1 hw1 => ?_, ?_⟩
        · go_simp
          try rfl
        go_simp; refine up_step rfl ?_; apply Exists.intro; refine ⟨fun w1 hw1 => ?_, ?_⟩
        · go_simp
          try rfl
        go_simp; refine wpQuiet_nil ?_; intro wA uA; clear w1 w2 w3 w4 w5 w6 w7 w8 w9 wq w10 w11 e1 e2 e3; go_wp2; go_ret
        exact ⟨_, rfl, Int.emod_nonneg _ (by omega), .inl (Int.emod_lt_of_pos _ (by omega)), R.out.up uA, ((Mv.refl _ _).setCell _).trans (uA.mv g)⟩
end Go.Proofs.Ytakmlfgkppekoaa

namespace Go.Proofs.Ytakmlfgkppekoaa
set_option maxRecDepth 100000
open Go.RowKit
/-- A new reader. -/
def Opened (w : World) (x : Ending) (w' : World) : Prop :=
  ∃ g, x = .returned (.pointer (some ⟨g, 0, none⟩)) ∧ w.heap.size ≤ g ∧ Rd w' g 0 ∧ Up w w'
theorem Bys.less {w : World} {A : Option Addr} {n k B : Nat} (h : Bys w A n B) (hk : k ≤ n) : Bys w A k B := fun h0 => by
  obtain ⟨b, off, hA, hb, hc⟩ := h (by omega)
  exact ⟨b, off, hA, hb, fun i hi => hc i (by omega)⟩
theorem Rd.new {w : World} {A : Option Addr} {n cap : Nat} (hn : n ≤ 2000) (hB : Bys w A n w.heap.size) (t : TypeId) : Rd (w.alloc (.cells #[.slice A n cap, .int .i64 0] t)) w.heap.size 0 := by
  have hh := heap_alloc_new w (.cells #[.slice A n cap, .int .i64 0] t)
  refine ⟨A, n, cap, 0, ?_, ?_, ?_, Nat.le_refl _, by simp, hn, hB.keep fun b o hb => World.cell?_alloc_lt w _ ⟨b, o, none⟩ hb⟩
  · rw [cell_of_row _ _ 0 _ _ _ hh]; rfl
  · rw [cell_of_row _ _ 1 _ _ _ hh]; rfl
  · unfold World.frozen?
    rw [hh]; simp
theorem open_any (A : Option Addr) (n cap : Nat) (w : World) (hc : n ≤ cap) (hmax : cap ≤ 9223372036854775807) (hB : Bys w A n w.heap.size) :
    Calls Try.prog 79 #[.slice A n cap] w (Opened w) := by
  have HB := Lib.hid hB
  clear hB
  by_cases h : 2000 < n
  · obtain ⟨b, off, rfl, _, _⟩ := HB.out (by omega)
    have h1 : ((n : Int) > 2000) := by omega
    go_enter Try.func79, Try.ntmps79
    go_wp2; go_ret
    exact ⟨w.heap.size, rfl, Nat.le_refl _, Rd.new (Nat.le_refl _) (HB.out.less (by omega)) _, (Up.refl _).alloc _⟩
  · go_enter Try.func79, Try.ntmps79
    go_wp2; go_ret
    exact ⟨w.heap.size, rfl, Nat.le_refl _, Rd.new (by omega) HB.out _, (Up.refl _).alloc _⟩
end Go.Proofs.Ytakmlfgkppekoaa

namespace Go.Proofs.Ytakmlfgkppekoaa
set_option maxRecDepth 100000
open Go.RowKit
theorem drawRvi_any (A : Option Addr) (n cap : Nat) (w : World) (hc : n ≤ cap) (hmax : cap ≤ 9223372036854775807) (hB : Bys w A n w.heap.size) :
    Calls Try.prog 33 #[.slice A n cap] w fun x w' => (∃ a : Int, x = .returned (.int .i64 a) ∧ -1 ≤ a ∧ a ≤ 98) ∧ Up w w' := by
  go_enter Try.func33, Try.ntmps33
  go_wp2_with fail
  refine (open_any A n cap _ hc hmax hB).mono ?_; rintro x wO ⟨g, rfl, hg, r1, u1⟩
  have U1 := Lib.hid u1
  clear u1
  go_wp2_with fail
  refine (pick_any g 0 100 _ (by unfold I64; omega) (by omega) r1).mono ?_; rintro x w2 ⟨r, rfl, r0, r9, R2, m2⟩
  have UM := Lib.hid (show Up w w2 from m2.up U1.out hg)
  have i1 : IntKind.i64.wrap (r - 1) = r - 1 := IntWalk.i64_in _ (by omega)
  clear R2 m2; go_wp2; go_ret
  exact ⟨⟨_, rfl, by omega, by omega⟩, UM.out⟩
end Go.Proofs.Ytakmlfgkppekoaa

namespace Go.Proofs.Ytakmlfgkppekoaa
set_option maxRecDepth 100000
open Go.RowKit
theorem within_any (n lo hi : Int) (w : World) :
    Calls Try.prog 65 #[.int .i64 n, .int .i64 lo, .int .i64 hi] w fun e w' => e = .returned (.bool (inB n lo hi)) ∧ w = w' := by
  by_cases h1 : lo ≤ n
  · by_cases h2 : n ≤ hi
    · have hf := inB_iff.2 ⟨h1, h2⟩
      go_enter Try.func65, Try.ntmps65
      go_wp2; go_ret
      exact ⟨by first | rfl | exact ret_bool hf.symm, rfl⟩
    · have hf : inB n lo hi = false := inB_no.2 fun h => h2 h.2
      go_enter Try.func65, Try.ntmps65
      go_wp2; go_ret
      exact ⟨by first | rfl | exact ret_bool hf.symm, rfl⟩
  · have hf : inB n lo hi = false := inB_no.2 fun h => h1 h.1
    go_enter Try.func65, Try.ntmps65
    go_wp2; go_ret
    exact ⟨by first | rfl | exact ret_bool hf.symm, rfl⟩
theorem l1In_any (n lo hi : Int) (w : World) :
    Calls Try.prog 64 #[.int .i64 n, .int .i64 lo, .int .i64 hi] w fun e w' => e = .returned (.bool (inB n lo hi)) ∧ w = w' := by
  by_cases h1 : lo ≤ n
  · by_cases h2 : n ≤ hi
    · have hf := inB_iff.2 ⟨h1, h2⟩
      go_enter Try.func64, Try.ntmps64
      go_wp2; go_ret
      exact ⟨by first | rfl | exact ret_bool hf.symm, rfl⟩
    · have hf : inB n lo hi = false := inB_no.2 fun h => h2 h.2
      go_enter Try.func64, Try.ntmps64
      go_wp2; go_ret
      exact ⟨by first | rfl | exact ret_bool hf.symm, rfl⟩
  · have hf : inB n lo hi = false := inB_no.2 fun h => h1 h.1
    go_enter Try.func64, Try.ntmps64
    go_wp2; go_ret
    exact ⟨by first | rfl | exact ret_bool hf.symm, rfl⟩
end Go.Proofs.Ytakmlfgkppekoaa

namespace Go.Proofs.Ytakmlfgkppekoaa
set_option maxRecDepth 100000
open Go.RowKit
/-- The inverse modulo 97. -/
def invN (a : Nat) : Nat := a ^ 95 % 97
def invT : Bool := (List.range 97).all fun a => a == 0 || (List.range 97).all fun b => (a * b % 97 == 1) == (b == invN a)
theorem invT_true : invT = true := by decide +kernel
theorem invN_iff {a b : Nat} (ha : 0 < a) (h97 : a < 97) (hb : b < 97) : a * b % 97 = 1 ↔ b = invN a := by
  have h := invT_true
  unfold invT at h; rw [List.all_eq_true] at h
  have h1 := h a (List.mem_range.2 h97)
  rw [Bool.or_eq_true] at h1
  rcases h1 with h1 | h1
  · have h1 := eq_of_beq h1
    omega
  · rw [List.all_eq_true] at h1
    have h2 := eq_of_beq (h1 b (List.mem_range.2 hb))
    rw [Bool.eq_iff_iff, beq_iff_eq, beq_iff_eq] at h2
    exact h2
theorem invN_lt (a : Nat) : invN a < 97 := Nat.mod_lt _ (by decide)
theorem invN_mul {a : Nat} (ha : 0 < a) (h97 : a < 97) : a * invN a % 97 = 1 := (invN_iff ha h97 (invN_lt a)).2 rfl
theorem invN_pos {a : Nat} (ha : 0 < a) (h97 : a < 97) : 0 < invN a := by
  rcases Nat.eq_zero_or_pos (invN a) with h | h
  · have := invN_mul ha h97
    rw [h] at this; simp at this
  · exact h
/-- What RevInverse returns. -/
def invV (a : Int) : Int := if inB a 1 96 = true then ((invN a.toNat : Nat) : Int) else 0
theorem invV_in {a : Int} (h : 1 ≤ a ∧ a ≤ 96) : invV a = ((invN a.toNat : Nat) : Int) := by
  unfold invV; rw [if_pos (inB_iff.2 h)]
theorem invV_no {a : Int} (h : ¬ (1 ≤ a ∧ a ≤ 96)) : invV a = 0 := by
  unfold invV; rw [if_neg (by rw [inB_iff]; exact h)]
theorem invV_le (a : Int) : 0 ≤ invV a ∧ invV a ≤ 96 := by
  by_cases h : 1 ≤ a ∧ a ≤ 96
  · rw [invV_in h]
    have := invN_lt a.toNat
    omega
  · rw [invV_no h]
    omega
theorem invV_pos {a : Int} (h : 1 ≤ a ∧ a ≤ 96) : 1 ≤ invV a := by
  rw [invV_in h]
  have := @invN_pos a.toNat (by omega) (by omega)
  omega
theorem castm (a b : Nat) : ((a : Int) * (b : Int)) % 97 = ((a * b % 97 : Nat) : Int) := by
  rw [Int.natCast_emod, Int.natCast_mul]
  rfl
theorem invV_iff {a b : Int} (h : 1 ≤ a ∧ a ≤ 96) (hb : 0 ≤ b ∧ b ≤ 96) : a * b % 97 = 1 ↔ b = invV a := by
  obtain ⟨x, rfl⟩ : ∃ x : Nat, a = x := ⟨a.toNat, by omega⟩; obtain ⟨y, rfl⟩ : ∃ y : Nat, b = y := ⟨b.toNat, by omega⟩; rw [invV_in h, castm, Int.toNat_natCast]
  have := @invN_iff x y (by omega) (by omega) (by omega)
  omega
theorem invV_mul {a : Int} (h : 1 ≤ a ∧ a ≤ 96) : a * invV a % 97 = 1 := (invV_iff h (invV_le a)).2 rfl
theorem invV_inv {a : Int} (h : 1 ≤ a ∧ a ≤ 96) : invV (invV a) = a := by
  have h1 := invV_pos h
  have h2 := invV_le a
  exact ((invV_iff ⟨h1, h2.2⟩ ⟨by omega, h.2⟩).1 (by rw [Int.mul_comm]; exact invV_mul h)).symm
/-- A step of the Euclidean algorithm. -/
structure Eu (r a b s t : Nat) : Prop where
  a97 : a ≤ 97
  b97 : b < 97
  s97 : s < 97
  t97 : t < 97
  sa : s * r % 97 = a % 97
  tb : t * r % 97 = b % 97
  one : Nat.gcd a b = 1
theorem Eu.start {r : Nat} (h : 0 < r) (h97 : r < 97) : Eu r 97 r 0 1 :=
  ⟨by omega, h97, by omega, by omega, by simp, by simp, by
    have hall : ((List.range 97).all fun r => r == 0 || Nat.gcd 97 r == 1) = true := by decide +kernel
    rw [List.all_eq_true] at hall
    have h1 := hall r (List.mem_range.2 h97)
    rw [Bool.or_eq_true] at h1
    rcases h1 with h1 | h1
    · have h1 := eq_of_beq h1
      omega
    · exact eq_of_beq h1⟩
theorem Eu.next {r a b s t : Nat} (h : Eu r a b s t) (hb : 0 < b) : Eu r b (a % b) t ((s + 97 - a / b * t % 97) % 97) := by
  have hlt := Nat.mod_lt a hb
  have h97 := h.b97
  refine ⟨by omega, by omega, h.t97, Nat.mod_lt _ (by decide), h.tb, ?_, ?_⟩
  · have y97 : a / b * t % 97 < 97 := Nat.mod_lt _ (by decide)
    have e1 : ((s + 97 - a / b * t % 97) % 97 + a / b * t % 97) % 97 = s % 97 := by
      have := h.s97
      omega
    have e2 : (((s + 97 - a / b * t % 97) % 97 + a / b * t % 97) * r) % 97 = (s * r) % 97 := by
      rw [Nat.mul_mod, e1, ← Nat.mul_mod]
    rw [Nat.add_mul, Nat.add_mod, h.sa] at e2
    have e3 : (a / b * t % 97 * r) % 97 = (a / b * b) % 97 := by
      rw [Nat.mul_mod, Nat.mod_mod, ← Nat.mul_mod, Nat.mul_assoc, Nat.mul_mod, h.tb, ← Nat.mul_mod]
    rw [e3] at e2
    have e4 : a / b * b + a % b = a := by
      rw [Nat.mul_comm]
      exact Nat.div_add_mod a b
    generalize (s + 97 - a / b * t % 97) % 97 * r = X at *
    generalize a / b * b = Y at *
    generalize a % b = Z at *
    omega
  · rw [← h.one, Nat.gcd_comm a b, Nat.gcd_rec b a, Nat.gcd_comm]
theorem Eu.done {r a s t : Nat} (h : Eu r a 0 s t) (hr : 0 < r) (h97 : r < 97) : s = invN r := by
  have h1 := h.one
  rw [Nat.gcd_zero_right] at h1
  have h2 := h.sa
  rw [h1, Nat.mul_comm] at h2
  exact (invN_iff hr h97 h.s97).1 h2
end Go.Proofs.Ytakmlfgkppekoaa

/-
  The reader of a code, in one sentence: what pick, odd and open give and keep; for every code that lies in memory.
-/
import Derived.Test.YtojnphchkdjafaaBase
import Derived.Laws.Bits64
namespace Go.Proofs.Ytojnphchkdjafaa
set_option maxRecDepth 100000
open Go.RowKit

/-- The bytes of a slice that came in. -/
def Bys (w : World) (A : Option Addr) (n B : Nat) : Prop :=
  0 < n → ∃ b off, A = some ⟨b, off, none⟩ ∧ b < B ∧ ∀ i, i < n → ∃ z : Nat, z ≤ 255 ∧ w.cell? ⟨b, off + i, none⟩ = some (.int .u8 (z : Int))

/-- The reader at block g, which has picked at most N times. -/
def Rd (w : World) (g N : Nat) : Prop :=
  ∃ A n cap p, w.cell? ⟨g, 0, none⟩ = some (.slice A n cap) ∧ w.cell? ⟨g, 1, none⟩ = some (.int .i64 (p : Nat)) ∧ w.frozen? ⟨g, 1, none⟩ = false ∧ p ≤ N ∧ g < w.heap.size ∧ n ≤ 2000 ∧ Bys w A n g

/-- w' is w with new blocks, and block g may be written. -/
structure Mv (g : Nat) (w w' : World) : Prop where
  os : w'.os = w.os
  tape : w'.tape = w.tape
  output : w'.output = w.output
  size : w.heap.size ≤ w'.heap.size
  block : ∀ k, k < w.heap.size → k ≠ g → w'.heap[k]? = w.heap[k]?

theorem Mv.refl (g : Nat) (w : World) : Mv g w w := ⟨rfl, rfl, rfl, Nat.le_refl _, fun _ _ _ => rfl⟩
theorem Mv.trans {g : Nat} {a b c : World} (h : Mv g a b) (k : Mv g b c) : Mv g a c :=
  ⟨k.os.trans h.os, k.tape.trans h.tape, k.output.trans h.output, Nat.le_trans h.size k.size, fun j hj hne => (k.block j (Nat.lt_of_lt_of_le hj h.size) hne).trans (h.block j hj hne)⟩
theorem Up.mv {w w' : World} (h : Up w w') (g : Nat) : Mv g w w' := ⟨h.below.os, h.below.tape, h.below.output, h.size, fun k hk _ => h.below.block k hk⟩
theorem Mv.up {g : Nat} {a w w' : World} (h : Mv g w w') (k : Up a w) (hg : a.heap.size ≤ g) : Up a w' :=
  ⟨h.os.trans k.below.os, h.tape.trans k.below.tape, h.output.trans k.below.output, Nat.le_trans k.size h.size, fun j hj => (h.block j (Nat.lt_of_lt_of_le hj k.size) (by omega)).trans (k.below.block j hj)⟩
theorem Mv.setCell {g : Nat} {a w : World} (h : Mv g a w) {o : Nat} (u : Value) : Mv g a (w.setCell ⟨g, o, none⟩ u) :=
  ⟨h.os, h.tape, h.output, by simpa using h.size, fun k hk hne => (Below.heap_setCell w ⟨g, o, none⟩ u k hne).trans (h.block k hk hne)⟩
theorem Mv.drew {g : Nat} {a w : World} (h : Mv g a w) : Mv g a w.drew := ⟨h.os, h.tape, h.output, h.size, h.block⟩
theorem Mv.drewN {g : Nat} {a w : World} (h : Mv g a w) (n : Nat) : Mv g a (w.drewN n) := ⟨h.os, h.tape, h.output, h.size, h.block⟩
theorem Mv.alloc {g : Nat} {a w : World} (h : Mv g a w) (o : Obj) : Mv g a (w.alloc o) := h.trans ((Up.refl w).alloc o |>.mv g)
theorem Mv.cells {g : Nat} {w w' : World} (h : Mv g w w') : ∀ b o, b < w.heap.size → b ≠ g → w'.cell? ⟨b, o, none⟩ = w.cell? ⟨b, o, none⟩ := fun b o hb hne => World.cell?_of_block (w := w) (a := ⟨b, o, none⟩) (h.block b hb hne)
theorem Mv.frozens {g : Nat} {w w' : World} (h : Mv g w w') : ∀ b o, b < w.heap.size → b ≠ g → w'.frozen? ⟨b, o, none⟩ = w.frozen? ⟨b, o, none⟩ := fun b o hb hne => World.frozen?_of_block (w := w) (a := ⟨b, o, none⟩) (h.block b hb hne)

theorem Bys.keep {w w' : World} {A : Option Addr} {n B : Nat} (h : Bys w A n B) (k : ∀ b o, b < B → w'.cell? ⟨b, o, none⟩ = w.cell? ⟨b, o, none⟩) : Bys w' A n B := fun hn => by
  obtain ⟨b, off, hA, hb, hc⟩ := h hn
  exact ⟨b, off, hA, hb, fun i hi => by
    obtain ⟨z, hz, hc⟩ := hc i hi
    exact ⟨z, hz, (k _ _ hb).trans hc⟩⟩

/-- Block g is left alone: the reader stays. -/
theorem Rd.up {w w' : World} {g N : Nat} (h : Rd w g N) (u : Up w w') : Rd w' g N := by
  obtain ⟨A, n, cap, p, h0, h1, hf, hp, hg, hn, hb⟩ := h
  exact ⟨A, n, cap, p, (u.cells _ _ hg).trans h0, (u.cells _ _ hg).trans h1, (u.frozens _ _ hg).trans hf, hp, by have := u.size; omega, hn, hb.keep fun b o hb => u.cells b o (by omega)⟩
theorem Rd.mono {w : World} {g N N' : Nat} (h : Rd w g N) (hN : N ≤ N') : Rd w g N' := by
  obtain ⟨A, n, cap, p, h0, h1, hf, hp, hr⟩ := h
  exact ⟨A, n, cap, p, h0, h1, hf, by omega, hr⟩

/-- What a pick gives: a number below m (0, if there is none), and the reader is one further. -/
def Picked (g N : Nat) (m : Int) (w : World) (x : Ending) (w' : World) : Prop :=
  ∃ v : Int, x = .returned (.int .i64 v) ∧ 0 ≤ v ∧ (v < m ∨ v = 0) ∧ Rd w' g (N + 1) ∧ Mv g w w'

theorem xor_i64 (a b : Nat) (ha : a < 4611686018427387904) (hb : b < 4611686018427387904) : ∃ c : Nat, c < 4611686018427387904 ∧ bits .xor .i64 (a : Int) (b : Int) = (c : Int) := by
  have hx : a ^^^ b < 2 ^ 62 := Nat.xor_lt_two_pow (by omega) (by omega)
  refine ⟨a ^^^ b, by omega, ?_⟩
  have h1 : (BitVec.ofInt 64 (a : Int)).toNat = a := by
    rw [BitVec.ofInt_natCast, BitVec.toNat_ofNat]; exact Nat.mod_eq_of_lt (by omega)
  have h2 : (BitVec.ofInt 64 (b : Int)).toNat = b := by
    rw [BitVec.ofInt_natCast, BitVec.toNat_ofNat]; exact Nat.mod_eq_of_lt (by omega)
  show IntKind.i64.wrap ((BitVec.ofInt 64 (a : Int) ^^^ BitVec.ofInt 64 (b : Int)).toNat : Int) = _
  rw [BitVec.toNat_xor, h1, h2, IntKind.wrap_i64]
  omega

/-- The reader behind a step. -/
theorem Rd.step {w : World} {g N n cap p : Nat} {A : Option Addr} (h0 : w.cell? ⟨g, 0, none⟩ = some (.slice A n cap)) (h1 : w.cell? ⟨g, 1, none⟩ = some (.int .i64 (p : Nat))) (hf : w.frozen? ⟨g, 1, none⟩ = false)
    (hp : p ≤ N) (hg : g < w.heap.size) (hn : n ≤ 2000) (hb : Bys w A n g) : Rd (w.setCell ⟨g, 1, none⟩ (.int .i64 ((p : Int) + 1))) g (N + 1) := by
  have ne : (⟨g, 1, none⟩ : Addr) ≠ ⟨g, 0, none⟩ := by intro e; injection e with _ e2; cases e2
  refine ⟨A, n, cap, p + 1, (World.cell?_setCell_other _ _ _ _ ne).trans h0, World.cell?_setCell_same _ _ _ h1, ?_, by omega, by simpa using hg, hn, hb.keep fun b o hb => World.cell?_setCell_other _ _ _ _ ?_⟩
  · simpa [go_sem] using hf
  · intro e
    injection e with e1
    omega
theorem Rd.drewN {w : World} {g N : Nat} (h : Rd w g N) (n : Nat) : Rd (w.drewN n) g N := h
theorem Rd.setCell {w : World} {g N : Nat} (h : Rd w g N) {p : Addr} (hp : g < p.block) (u : Value) : Rd (w.setCell p u) g N := by
  obtain ⟨A, n, cap, p', h0, h1, hf, hp', hg, hn, hb⟩ := h
  have ne : ∀ b o, b ≤ g → p ≠ ⟨b, o, none⟩ := fun b o hb e => by subst e; exact absurd hp (by simpa using hb)
  exact ⟨A, n, cap, p', (World.cell?_setCell_other _ _ _ _ (ne _ _ (Nat.le_refl _))).trans h0, (World.cell?_setCell_other _ _ _ _ (ne _ _ (Nat.le_refl _))).trans h1, by simpa [go_sem] using hf, hp', by simpa using hg, hn, hb.keep fun b o hb => World.cell?_setCell_other _ _ _ _ (ne _ _ (by omega))⟩

end Go.Proofs.Ytojnphchkdjafaa

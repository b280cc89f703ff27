/-
  What toHstItem, toHstItemS, toHstKeep and toHstKeepS return, in one sentence: the same, the lists in new rows; for all that lie in memory.
-/
import Derived.Test.YtlkmhmiamdbhcabGreatDLElst04
import Derived.Test.YtlkmhmiamdbhcabGreatDLElst11
import Derived.Test.YtlkmhmiamdbhcabGreatDLElst24
namespace Go.Proofs.YtlkmhmiamdbhcabGreat
set_option maxRecDepth 100000
open Go.RowKit
/-- Blocks from lo on stay as they are. -/
structure Hi (lo : Nat) (w w2 : World) : Prop where
  size : w.heap.size ≤ w2.heap.size
  block : ∀ k, lo ≤ k → k < w.heap.size → w2.heap[k]? = w.heap[k]?
theorem Hi.refl (lo : Nat) (w : World) : Hi lo w w := ⟨Nat.le_refl _, fun _ _ _ => rfl⟩
theorem Hi.set {lo b o : Nat} {a w : World} {u : Value} (h : Hi lo a w) (hb : b < lo) : Hi lo a (w.setCell ⟨b, o, none⟩ u) :=
  ⟨by simpa using h.size, fun k h1 h2 => (Below.heap_setCell w ⟨b, o, none⟩ u k (by dsimp only; omega)).trans (h.block k h1 h2)⟩
theorem Hi.cell {lo b o : Nat} {a w : World} (h : Hi lo a w) (h1 : lo ≤ b) (h2 : b < a.heap.size) : w.cell? ⟨b, o, none⟩ = a.cell? ⟨b, o, none⟩ := World.cell?_of_block (w := a) (a := ⟨b, o, none⟩) (h.block b h1 h2)
theorem Hi.frozen {lo b o : Nat} {a w : World} (h : Hi lo a w) (h1 : lo ≤ b) (h2 : b < a.heap.size) : w.frozen? ⟨b, o, none⟩ = a.frozen? ⟨b, o, none⟩ := by
  unfold World.frozen?; dsimp only; rw [h.block b h1 h2]
theorem IntsOwn.hi {lo g N : Nat} {w w2 : World} (h : IntsOwn w g N) (k : Hi lo w w2) (hg : lo ≤ g) : IntsOwn w2 g N :=
  ⟨Nat.lt_of_lt_of_le h.1 k.size, fun j hj => by
    obtain ⟨⟨z, hz⟩, hf⟩ := h.2 j hj
    exact ⟨⟨z, (k.cell hg h.1).trans hz⟩, (k.frozen hg h.1).trans hf⟩⟩
theorem Blk.cast {w : World} {b e : Nat} {arr arr2 : Array Value} (h : Blk w b e arr) (k : arr = arr2) : Blk w b e arr2 := k ▸ h
/-- A list of items in a row of the call's own. -/
structure NewI (w : World) (lo g n : Nat) (xs : List Rec) : Prop where
  lo_ : lo ≤ g
  v : Recs w (some ⟨g, 0, none⟩) n xs
  own : IntsOwn w g (n * 7)
theorem NewI.up {w w2 : World} {lo g n : Nat} {xs : List Rec} (h : NewI w lo g n xs) (u : Up w w2) : NewI w2 lo g n xs := ⟨h.lo_, h.v.up u, h.own.up u⟩
theorem NewI.hi {w w2 : World} {lo g n : Nat} {xs : List Rec} (h : NewI w lo g n xs) (k : Hi lo w w2) : NewI w2 lo g n xs :=
  ⟨h.lo_, ⟨h.v.1, fun hn => by
    obtain ⟨b, off, hA, hb, hc⟩ := h.v.2 hn
    have : b = g := by injection hA with e; injection e with e; exact e.symm
    subst this
    exact ⟨b, off, hA, Nat.lt_of_lt_of_le hb k.size, fun i hi => (hc i hi).keep fun j => k.cell h.lo_ hb⟩⟩, h.own.hi k h.lo_⟩
structure NewK (w : World) (lo g n : Nat) (xs : List Kep) : Prop where
  lo_ : lo ≤ g
  v : Keps w (some ⟨g, 0, none⟩) n xs
  own : IntsOwn w g (n * 13)
theorem NewK.hi {w w2 : World} {lo g n : Nat} {xs : List Kep} (h : NewK w lo g n xs) (k : Hi lo w w2) : NewK w2 lo g n xs :=
  ⟨h.lo_, ⟨h.v.1, fun hn => by
    obtain ⟨b, off, hA, hb, hc⟩ := h.v.2 hn
    have : b = g := by injection hA with e; injection e with e; exact e.symm
    subst this
    exact ⟨b, off, hA, Nat.lt_of_lt_of_le hb k.size, fun i hi => (hc i hi).keep fun j => k.cell h.lo_ hb⟩⟩, h.own.hi k h.lo_⟩
set_option maxHeartbeats 800000 in
theorem toItR_any (a : Rec) (w : World) : Calls Tryz.prog 66 #[a.v] w fun x w' => x = .returned a.v ∧ Up w w' := by
  have c0 := fun W => toEvt_any a.ev W
  unfold Rec.v; obtain ⟨⟨a0, a1, a2, a3, a4, a5⟩, a6⟩ := a; unfold Evt.v at c0; dsimp only at c0 ⊢
  have C0 := Lib.hid c0
  clear c0
  have X := Lib.hid (((Blk.new w #[.int .i64 a0, .int .i64 a1, .int .i64 a2, .int .i64 a3, .int .i64 a4, .int .i64 a5, .int .i64 a6] 101).alloc (.cells #[.int .i64 0, .int .i64 0, .int .i64 0, .int .i64 0, .int .i64 0, .int .i64 0, .int .i64 0] 109)).alloc (.cells #[.int .i64 0, .int .i64 0, .int .i64 0, .int .i64 0, .int .i64 0, .int .i64 0, .int .i64 0] 109))
  have R := Lib.hid ((Blk.new (w.alloc (.cells #[.int .i64 a0, .int .i64 a1, .int .i64 a2, .int .i64 a3, .int .i64 a4, .int .i64 a5, .int .i64 a6] 101)) #[.int .i64 0, .int .i64 0, .int .i64 0, .int .i64 0, .int .i64 0, .int .i64 0, .int .i64 0] 109).alloc (.cells #[.int .i64 0, .int .i64 0, .int .i64 0, .int .i64 0, .int .i64 0, .int .i64 0, .int .i64 0] 109))
  have O := Lib.hid (Blk.new ((w.alloc (.cells #[.int .i64 a0, .int .i64 a1, .int .i64 a2, .int .i64 a3, .int .i64 a4, .int .i64 a5, .int .i64 a6] 101)).alloc (.cells #[.int .i64 0, .int .i64 0, .int .i64 0, .int .i64 0, .int .i64 0, .int .i64 0, .int .i64 0] 109)) #[.int .i64 0, .int .i64 0, .int .i64 0, .int .i64 0, .int .i64 0, .int .i64 0, .int .i64 0] 109)
  simp only [World.size_alloc] at R O
  have U := Lib.hid ((((Up.refl w).alloc (.cells #[.int .i64 a0, .int .i64 a1, .int .i64 a2, .int .i64 a3, .int .i64 a4, .int .i64 a5, .int .i64 a6] 101)).alloc (.cells #[.int .i64 0, .int .i64 0, .int .i64 0, .int .i64 0, .int .i64 0, .int .i64 0, .int .i64 0] 109)).alloc (.cells #[.int .i64 0, .int .i64 0, .int .i64 0, .int .i64 0, .int .i64 0, .int .i64 0, .int .i64 0] 109))
  have le_ : w.heap.size + 3 ≤ (((w.alloc (.cells #[.int .i64 a0, .int .i64 a1, .int .i64 a2, .int .i64 a3, .int .i64 a4, .int .i64 a5, .int .i64 a6] 101)).alloc (.cells #[.int .i64 0, .int .i64 0, .int .i64 0, .int .i64 0, .int .i64 0, .int .i64 0, .int .i64 0] 109)).alloc (.cells #[.int .i64 0, .int .i64 0, .int .i64 0, .int .i64 0, .int .i64 0, .int .i64 0, .int .i64 0] 109)).heap.size := by simp
  go_enter Tryz.func66, Tryz.ntmps66
  go_wp2_with fail
  generalize ((w.alloc (.cells #[.int .i64 a0, .int .i64 a1, .int .i64 a2, .int .i64 a3, .int .i64 a4, .int .i64 a5, .int .i64 a6] 101)).alloc (.cells #[.int .i64 0, .int .i64 0, .int .i64 0, .int .i64 0, .int .i64 0, .int .i64 0, .int .i64 0] 109)).alloc (.cells #[.int .i64 0, .int .i64 0, .int .i64 0, .int .i64 0, .int .i64 0, .int .i64 0, .int .i64 0] 109) = W at *
  generalize hbO : w.heap.size + 1 + 1 = bO at *
  generalize hbR : w.heap.size + 1 = bR at *
  generalize hbX : w.heap.size = bX at *
  have n1 : bX ≠ bR := by omega
  have n2 : bX ≠ bO := by omega
  have n3 : bR ≠ bO := by omega
  have n4 : bO ≠ bX := by omega
  have n5 : bO ≠ bR := by omega
  have n6 : bR ≠ bX := by omega
  have LT := Lib.hid (show w.heap.size ≤ bR ∧ w.heap.size ≤ bO ∧ bR < bX + 3 ∧ bO < bX + 3 by omega)
  clear hbO hbR; refine (C0.out _).mono ?_; rintro x w1_ ⟨rfl, u⟩
  have U := Lib.hid (U.out.trans u)
  have X := Lib.hid (X.out.up u)
  have R := Lib.hid (R.out.up u)
  have O := Lib.hid (O.out.up u)
  have le_ : bX + 3 ≤ w1_.heap.size := Nat.le_trans le_ u.size
  clear u
  have O2 := Lib.hid (Blk.cast (arr2 := #[.int .i64 a0, .int .i64 a1, .int .i64 a2, .int .i64 a3, .int .i64 a4, .int .i64 a5, .int .i64 a6]) (((((((O.out.set 0 (.int .i64 a0)).set 1 (.int .i64 a1)).set 2 (.int .i64 a2)).set 3 (.int .i64 a3)).set 4 (.int .i64 a4)).set 5 (.int .i64 a5)).set 6 (.int .i64 a6)) (by simp))
  have R2 := Lib.hid (((((((R.out.far (b' := bO) 0 (.int .i64 a0) n3).far (b' := bO) 1 (.int .i64 a1) n3).far (b' := bO) 2 (.int .i64 a2) n3).far (b' := bO) 3 (.int .i64 a3) n3).far (b' := bO) 4 (.int .i64 a4) n3).far (b' := bO) 5 (.int .i64 a5) n3).far (b' := bO) 6 (.int .i64 a6) n3)
  have X2 := Lib.hid (((((((X.out.far (b' := bO) 0 (.int .i64 a0) n2).far (b' := bO) 1 (.int .i64 a1) n2).far (b' := bO) 2 (.int .i64 a2) n2).far (b' := bO) 3 (.int .i64 a3) n2).far (b' := bO) 4 (.int .i64 a4) n2).far (b' := bO) 5 (.int .i64 a5) n2).far (b' := bO) 6 (.int .i64 a6) n2)
  have U2 := Lib.hid (((((((U.out.setCell (p := ⟨bO, 0, none⟩) (LT.out.2.1) (.int .i64 a0)).setCell (p := ⟨bO, 1, none⟩) (LT.out.2.1) (.int .i64 a1)).setCell (p := ⟨bO, 2, none⟩) (LT.out.2.1) (.int .i64 a2)).setCell (p := ⟨bO, 3, none⟩) (LT.out.2.1) (.int .i64 a3)).setCell (p := ⟨bO, 4, none⟩) (LT.out.2.1) (.int .i64 a4)).setCell (p := ⟨bO, 5, none⟩) (LT.out.2.1) (.int .i64 a5)).setCell (p := ⟨bO, 6, none⟩) (LT.out.2.1) (.int .i64 a6))
  have HS2 := Lib.hid ((((((((Hi.refl (bX + 3) w1_).set (b := bO) (o := 0) (u := .int .i64 a0) LT.out.2.2.2).set (b := bO) (o := 1) (u := .int .i64 a1) LT.out.2.2.2).set (b := bO) (o := 2) (u := .int .i64 a2) LT.out.2.2.2).set (b := bO) (o := 3) (u := .int .i64 a3) LT.out.2.2.2).set (b := bO) (o := 4) (u := .int .i64 a4) LT.out.2.2.2).set (b := bO) (o := 5) (u := .int .i64 a5) LT.out.2.2.2).set (b := bO) (o := 6) (u := .int .i64 a6) LT.out.2.2.2)
  have R3 := Lib.hid (Blk.cast (arr2 := #[.int .i64 a0, .int .i64 a1, .int .i64 a2, .int .i64 a3, .int .i64 a4, .int .i64 a5, .int .i64 a6]) (((((((R2.out.set 0 (.int .i64 a0)).set 1 (.int .i64 a1)).set 2 (.int .i64 a2)).set 3 (.int .i64 a3)).set 4 (.int .i64 a4)).set 5 (.int .i64 a5)).set 6 (.int .i64 a6)) (by simp))
  have U3 := Lib.hid (((((((U2.out.setCell (p := ⟨bR, 0, none⟩) (LT.out.1) (.int .i64 a0)).setCell (p := ⟨bR, 1, none⟩) (LT.out.1) (.int .i64 a1)).setCell (p := ⟨bR, 2, none⟩) (LT.out.1) (.int .i64 a2)).setCell (p := ⟨bR, 3, none⟩) (LT.out.1) (.int .i64 a3)).setCell (p := ⟨bR, 4, none⟩) (LT.out.1) (.int .i64 a4)).setCell (p := ⟨bR, 5, none⟩) (LT.out.1) (.int .i64 a5)).setCell (p := ⟨bR, 6, none⟩) (LT.out.1) (.int .i64 a6))
  have HS3 := Lib.hid ((((((((Hi.refl (bX + 3) (((((((w1_.setCell ⟨bO, 0, none⟩ (.int .i64 a0)).setCell ⟨bO, 1, none⟩ (.int .i64 a1)).setCell ⟨bO, 2, none⟩ (.int .i64 a2)).setCell ⟨bO, 3, none⟩ (.int .i64 a3)).setCell ⟨bO, 4, none⟩ (.int .i64 a4)).setCell ⟨bO, 5, none⟩ (.int .i64 a5)).setCell ⟨bO, 6, none⟩ (.int .i64 a6))).set (b := bR) (o := 0) (u := .int .i64 a0) LT.out.2.2.1).set (b := bR) (o := 1) (u := .int .i64 a1) LT.out.2.2.1).set (b := bR) (o := 2) (u := .int .i64 a2) LT.out.2.2.1).set (b := bR) (o := 3) (u := .int .i64 a3) LT.out.2.2.1).set (b := bR) (o := 4) (u := .int .i64 a4) LT.out.2.2.1).set (b := bR) (o := 5) (u := .int .i64 a5) LT.out.2.2.1).set (b := bR) (o := 6) (u := .int .i64 a6) LT.out.2.2.1)
  have o0 := O.out.cell (j := 0) rfl
  have o1 := O.out.cell (j := 1) rfl
  have o2 := O.out.cell (j := 2) rfl
  have o3 := O.out.cell (j := 3) rfl
  have o4 := O.out.cell (j := 4) rfl
  have o5 := O.out.cell (j := 5) rfl
  have o6 := O.out.cell (j := 6) rfl
  have fO := O.out.frozen
  have lo_ := O.out.lt
  have x6 := X.out.cell (j := 6) rfl
  have lx := X.out.lt
  have r0 := R.out.cell (j := 0) rfl
  have r1 := R.out.cell (j := 1) rfl
  have r2 := R.out.cell (j := 2) rfl
  have r3 := R.out.cell (j := 3) rfl
  have r4 := R.out.cell (j := 4) rfl
  have r5 := R.out.cell (j := 5) rfl
  have r6 := R.out.cell (j := 6) rfl
  have fR := R.out.frozen
  have lr := R.out.lt
  go_wp2; clear o0 r0 o1 r1 o2 r2 o3 r3 o4 r4 o5 r5 o6 r6 fO fR lo_ lr lx x6
  generalize ((((((((((((((w1_.setCell ⟨bO, 0, none⟩ (.int .i64 a0)).setCell ⟨bO, 1, none⟩ (.int .i64 a1)).setCell ⟨bO, 2, none⟩ (.int .i64 a2)).setCell ⟨bO, 3, none⟩ (.int .i64 a3)).setCell ⟨bO, 4, none⟩ (.int .i64 a4)).setCell ⟨bO, 5, none⟩ (.int .i64 a5)).setCell ⟨bO, 6, none⟩ (.int .i64 a6)).setCell ⟨bR, 0, none⟩ (.int .i64 a0)).setCell ⟨bR, 1, none⟩ (.int .i64 a1)).setCell ⟨bR, 2, none⟩ (.int .i64 a2)).setCell ⟨bR, 3, none⟩ (.int .i64 a3)).setCell ⟨bR, 4, none⟩ (.int .i64 a4)).setCell ⟨bR, 5, none⟩ (.int .i64 a5)).setCell ⟨bR, 6, none⟩ (.int .i64 a6)) = WF at *
  obtain ⟨k0, k1, k2, k3, k4, k5, k6⟩ := And.intro (R3.out.cell (j := 0) rfl) (And.intro (R3.out.cell (j := 1) rfl) (And.intro (R3.out.cell (j := 2) rfl) (And.intro (R3.out.cell (j := 3) rfl) (And.intro (R3.out.cell (j := 4) rfl) (And.intro (R3.out.cell (j := 5) rfl) (R3.out.cell (j := 6) rfl))))))
  exact bodyPost_ret (v := .agg #[.int .i64 a0, .int .i64 a1, .int .i64 a2, .int .i64 a3, .int .i64 a4, .int .i64 a5, .int .i64 a6]) (by simp [results, Tryz.results66, go_sem, k0, k1, k2, k3, k4, k5, k6]) rfl ⟨rfl, U3.out⟩
set_option maxHeartbeats 800000 in
theorem toKep_any (a : Kep) (w : World) : Calls Tryz.prog 67 #[a.v] w fun x w' => x = .returned a.v ∧ Up w w' := by
  have c0 := fun W => toEvt_any a.by_ W
  have c1 := fun W => toItR_any a.sent W
  unfold Kep.v; obtain ⟨⟨a0, a1, a2, a3, a4, a5⟩, ⟨⟨a6, a7, a8, a9, a10, a11⟩, a12⟩⟩ := a; unfold Evt.v at c0; unfold Rec.v at c1; dsimp only at c0 c1 ⊢
  have C0 := Lib.hid c0
  have C1 := Lib.hid c1
  clear c0 c1
  have X := Lib.hid (((Blk.new w #[.int .i64 a0, .int .i64 a1, .int .i64 a2, .int .i64 a3, .int .i64 a4, .int .i64 a5, .int .i64 a6, .int .i64 a7, .int .i64 a8, .int .i64 a9, .int .i64 a10, .int .i64 a11, .int .i64 a12] 122).alloc (.cells #[.int .i64 0, .int .i64 0, .int .i64 0, .int .i64 0, .int .i64 0, .int .i64 0, .int .i64 0, .int .i64 0, .int .i64 0, .int .i64 0, .int .i64 0, .int .i64 0, .int .i64 0] 111)).alloc (.cells #[.int .i64 0, .int .i64 0, .int .i64 0, .int .i64 0, .int .i64 0, .int .i64 0, .int .i64 0, .int .i64 0, .int .i64 0, .int .i64 0, .int .i64 0, .int .i64 0, .int .i64 0] 111))
  have R := Lib.hid ((Blk.new (w.alloc (.cells #[.int .i64 a0, .int .i64 a1, .int .i64 a2, .int .i64 a3, .int .i64 a4, .int .i64 a5, .int .i64 a6, .int .i64 a7, .int .i64 a8, .int .i64 a9, .int .i64 a10, .int .i64 a11, .int .i64 a12] 122)) #[.int .i64 0, .int .i64 0, .int .i64 0, .int .i64 0, .int .i64 0, .int .i64 0, .int .i64 0, .int .i64 0, .int .i64 0, .int .i64 0, .int .i64 0, .int .i64 0, .int .i64 0] 111).alloc (.cells #[.int .i64 0, .int .i64 0, .int .i64 0, .int .i64 0, .int .i64 0, .int .i64 0, .int .i64 0, .int .i64 0, .int .i64 0, .int .i64 0, .int .i64 0, .int .i64 0, .int .i64 0] 111))
  have O := Lib.hid (Blk.new ((w.alloc (.cells #[.int .i64 a0, .int .i64 a1, .int .i64 a2, .int .i64 a3, .int .i64 a4, .int .i64 a5, .int .i64 a6, .int .i64 a7, .int .i64 a8, .int .i64 a9, .int .i64 a10, .int .i64 a11, .int .i64 a12] 122)).alloc (.cells #[.int .i64 0, .int .i64 0, .int .i64 0, .int .i64 0, .int .i64 0, .int .i64 0, .int .i64 0, .int .i64 0, .int .i64 0, .int .i64 0, .int .i64 0, .int .i64 0, .int .i64 0] 111)) #[.int .i64 0, .int .i64 0, .int .i64 0, .int .i64 0, .int .i64 0, .int .i64 0, .int .i64 0, .int .i64 0, .int .i64 0, .int .i64 0, .int .i64 0, .int .i64 0, .int .i64 0] 111)
  simp only [World.size_alloc] at R O
  have U := Lib.hid ((((Up.refl w).alloc (.cells #[.int .i64 a0, .int .i64 a1, .int .i64 a2, .int .i64 a3, .int .i64 a4, .int .i64 a5, .int .i64 a6, .int .i64 a7, .int .i64 a8, .int .i64 a9, .int .i64 a10, .int .i64 a11, .int .i64 a12] 122)).alloc (.cells #[.int .i64 0, .int .i64 0, .int .i64 0, .int .i64 0, .int .i64 0, .int .i64 0, .int .i64 0, .int .i64 0, .int .i64 0, .int .i64 0, .int .i64 0, .int .i64 0, .int .i64 0] 111)).alloc (.cells #[.int .i64 0, .int .i64 0, .int .i64 0, .int .i64 0, .int .i64 0, .int .i64 0, .int .i64 0, .int .i64 0, .int .i64 0, .int .i64 0, .int .i64 0, .int .i64 0, .int .i64 0] 111))
  have le_ : w.heap.size + 3 ≤ (((w.alloc (.cells #[.int .i64 a0, .int .i64 a1, .int .i64 a2, .int .i64 a3, .int .i64 a4, .int .i64 a5, .int .i64 a6, .int .i64 a7, .int .i64 a8, .int .i64 a9, .int .i64 a10, .int .i64 a11, .int .i64 a12] 122)).alloc (.cells #[.int .i64 0, .int .i64 0, .int .i64 0, .int .i64 0, .int .i64 0, .int .i64 0, .int .i64 0, .int .i64 0, .int .i64 0, .int .i64 0, .int .i64 0, .int .i64 0, .int .i64 0] 111)).alloc (.cells #[.int .i64 0, .int .i64 0, .int .i64 0, .int .i64 0, .int .i64 0, .int .i64 0, .int .i64 0, .int .i64 0, .int .i64 0, .int .i64 0, .int .i64 0, .int .i64 0, .int .i64 0] 111)).heap.size := by simp
  go_enter Tryz.func67, Tryz.ntmps67
  go_wp2_with fail
  generalize ((w.alloc (.cells #[.int .i64 a0, .int .i64 a1, .int .i64 a2, .int .i64 a3, .int .i64 a4, .int .i64 a5, .int .i64 a6, .int .i64 a7, .int .i64 a8, .int .i64 a9, .int .i64 a10, .int .i64 a11, .int .i64 a12] 122)).alloc (.cells #[.int .i64 0, .int .i64 0, .int .i64 0, .int .i64 0, .int .i64 0, .int .i64 0, .int .i64 0, .int .i64 0, .int .i64 0, .int .i64 0, .int .i64 0, .int .i64 0, .int .i64 0] 111)).alloc (.cells #[.int .i64 0, .int .i64 0, .int .i64 0, .int .i64 0, .int .i64 0, .int .i64 0, .int .i64 0, .int .i64 0, .int .i64 0, .int .i64 0, .int .i64 0, .int .i64 0, .int .i64 0] 111) = W at *
  generalize hbO : w.heap.size + 1 + 1 = bO at *
  generalize hbR : w.heap.size + 1 = bR at *
  generalize hbX : w.heap.size = bX at *
  have n1 : bX ≠ bR := by omega
  have n2 : bX ≠ bO := by omega
  have n3 : bR ≠ bO := by omega
  have n4 : bO ≠ bX := by omega
  have n5 : bO ≠ bR := by omega
  have n6 : bR ≠ bX := by omega
  have LT := Lib.hid (show w.heap.size ≤ bR ∧ w.heap.size ≤ bO ∧ bR < bX + 3 ∧ bO < bX + 3 by omega)
  clear hbO hbR; refine (C0.out _).mono ?_; rintro x w1_ ⟨rfl, u⟩
  have U := Lib.hid (U.out.trans u)
  have X := Lib.hid (X.out.up u)
  have R := Lib.hid (R.out.up u)
  have O := Lib.hid (O.out.up u)
  have le_ : bX + 3 ≤ w1_.heap.size := Nat.le_trans le_ u.size
  clear u
  have O2 := Lib.hid (Blk.cast (arr2 := #[.int .i64 a0, .int .i64 a1, .int .i64 a2, .int .i64 a3, .int .i64 a4, .int .i64 a5, .int .i64 0, .int .i64 0, .int .i64 0, .int .i64 0, .int .i64 0, .int .i64 0, .int .i64 0]) ((((((O.out.set 0 (.int .i64 a0)).set 1 (.int .i64 a1)).set 2 (.int .i64 a2)).set 3 (.int .i64 a3)).set 4 (.int .i64 a4)).set 5 (.int .i64 a5)) (by simp))
  have R2 := Lib.hid ((((((R.out.far (b' := bO) 0 (.int .i64 a0) n3).far (b' := bO) 1 (.int .i64 a1) n3).far (b' := bO) 2 (.int .i64 a2) n3).far (b' := bO) 3 (.int .i64 a3) n3).far (b' := bO) 4 (.int .i64 a4) n3).far (b' := bO) 5 (.int .i64 a5) n3)
  have X2 := Lib.hid ((((((X.out.far (b' := bO) 0 (.int .i64 a0) n2).far (b' := bO) 1 (.int .i64 a1) n2).far (b' := bO) 2 (.int .i64 a2) n2).far (b' := bO) 3 (.int .i64 a3) n2).far (b' := bO) 4 (.int .i64 a4) n2).far (b' := bO) 5 (.int .i64 a5) n2)
  have U2 := Lib.hid ((((((U.out.setCell (p := ⟨bO, 0, none⟩) (LT.out.2.1) (.int .i64 a0)).setCell (p := ⟨bO, 1, none⟩) (LT.out.2.1) (.int .i64 a1)).setCell (p := ⟨bO, 2, none⟩) (LT.out.2.1) (.int .i64 a2)).setCell (p := ⟨bO, 3, none⟩) (LT.out.2.1) (.int .i64 a3)).setCell (p := ⟨bO, 4, none⟩) (LT.out.2.1) (.int .i64 a4)).setCell (p := ⟨bO, 5, none⟩) (LT.out.2.1) (.int .i64 a5))
  have HS2 := Lib.hid (((((((Hi.refl (bX + 3) w1_).set (b := bO) (o := 0) (u := .int .i64 a0) LT.out.2.2.2).set (b := bO) (o := 1) (u := .int .i64 a1) LT.out.2.2.2).set (b := bO) (o := 2) (u := .int .i64 a2) LT.out.2.2.2).set (b := bO) (o := 3) (u := .int .i64 a3) LT.out.2.2.2).set (b := bO) (o := 4) (u := .int .i64 a4) LT.out.2.2.2).set (b := bO) (o := 5) (u := .int .i64 a5) LT.out.2.2.2)
  have o0 := O.out.cell (j := 0) rfl
  have o1 := O.out.cell (j := 1) rfl
  have o2 := O.out.cell (j := 2) rfl
  have o3 := O.out.cell (j := 3) rfl
  have o4 := O.out.cell (j := 4) rfl
  have o5 := O.out.cell (j := 5) rfl
  have o6 := O.out.cell (j := 6) rfl
  have o7 := O.out.cell (j := 7) rfl
  have o8 := O.out.cell (j := 8) rfl
  have o9 := O.out.cell (j := 9) rfl
  have o10 := O.out.cell (j := 10) rfl
  have o11 := O.out.cell (j := 11) rfl
  have o12 := O.out.cell (j := 12) rfl
  have fO := O.out.frozen
  have lo_ := O.out.lt
  have x6 := X.out.cell (j := 6) rfl
  have x7 := X.out.cell (j := 7) rfl
  have x8 := X.out.cell (j := 8) rfl
  have x9 := X.out.cell (j := 9) rfl
  have x10 := X.out.cell (j := 10) rfl
  have x11 := X.out.cell (j := 11) rfl
  have x12 := X.out.cell (j := 12) rfl
  have lx := X.out.lt
  have le2 : bX + 3 ≤ (((((((w1_.setCell ⟨bO, 0, none⟩ (.int .i64 a0)).setCell ⟨bO, 1, none⟩ (.int .i64 a1)).setCell ⟨bO, 2, none⟩ (.int .i64 a2)).setCell ⟨bO, 3, none⟩ (.int .i64 a3)).setCell ⟨bO, 4, none⟩ (.int .i64 a4)).setCell ⟨bO, 5, none⟩ (.int .i64 a5))).heap.size := by simpa using le_
  clear le_
  go_wp2_with fail
  generalize ((((((w1_.setCell ⟨bO, 0, none⟩ (.int .i64 a0)).setCell ⟨bO, 1, none⟩ (.int .i64 a1)).setCell ⟨bO, 2, none⟩ (.int .i64 a2)).setCell ⟨bO, 3, none⟩ (.int .i64 a3)).setCell ⟨bO, 4, none⟩ (.int .i64 a4)).setCell ⟨bO, 5, none⟩ (.int .i64 a5)) = V0 at *
  have le_ := le2
  have O := O2
  have R := R2
  have X := X2
  have U := U2
  clear le2 O2 R2 X2 U2 HS2 fO lo_ lx x6 x7 x8 x9 x10 x11 x12 o0 o1 o2 o3 o4 o5 o6 o7 o8 o9 o10 o11 o12; refine (C1.out _).mono ?_; rintro x w2_ ⟨rfl, u⟩
  have U := Lib.hid (U.out.trans u)
  have X := Lib.hid (X.out.up u)
  have R := Lib.hid (R.out.up u)
  have O := Lib.hid (O.out.up u)
  have le_ : bX + 3 ≤ w2_.heap.size := Nat.le_trans le_ u.size
  clear u
  have O2 := Lib.hid (Blk.cast (arr2 := #[.int .i64 a0, .int .i64 a1, .int .i64 a2, .int .i64 a3, .int .i64 a4, .int .i64 a5, .int .i64 a6, .int .i64 a7, .int .i64 a8, .int .i64 a9, .int .i64 a10, .int .i64 a11, .int .i64 a12]) (((((((O.out.set 6 (.int .i64 a6)).set 7 (.int .i64 a7)).set 8 (.int .i64 a8)).set 9 (.int .i64 a9)).set 10 (.int .i64 a10)).set 11 (.int .i64 a11)).set 12 (.int .i64 a12)) (by simp))
  have R2 := Lib.hid (((((((R.out.far (b' := bO) 6 (.int .i64 a6) n3).far (b' := bO) 7 (.int .i64 a7) n3).far (b' := bO) 8 (.int .i64 a8) n3).far (b' := bO) 9 (.int .i64 a9) n3).far (b' := bO) 10 (.int .i64 a10) n3).far (b' := bO) 11 (.int .i64 a11) n3).far (b' := bO) 12 (.int .i64 a12) n3)
  have X2 := Lib.hid (((((((X.out.far (b' := bO) 6 (.int .i64 a6) n2).far (b' := bO) 7 (.int .i64 a7) n2).far (b' := bO) 8 (.int .i64 a8) n2).far (b' := bO) 9 (.int .i64 a9) n2).far (b' := bO) 10 (.int .i64 a10) n2).far (b' := bO) 11 (.int .i64 a11) n2).far (b' := bO) 12 (.int .i64 a12) n2)
  have U2 := Lib.hid (((((((U.out.setCell (p := ⟨bO, 6, none⟩) (LT.out.2.1) (.int .i64 a6)).setCell (p := ⟨bO, 7, none⟩) (LT.out.2.1) (.int .i64 a7)).setCell (p := ⟨bO, 8, none⟩) (LT.out.2.1) (.int .i64 a8)).setCell (p := ⟨bO, 9, none⟩) (LT.out.2.1) (.int .i64 a9)).setCell (p := ⟨bO, 10, none⟩) (LT.out.2.1) (.int .i64 a10)).setCell (p := ⟨bO, 11, none⟩) (LT.out.2.1) (.int .i64 a11)).setCell (p := ⟨bO, 12, none⟩) (LT.out.2.1) (.int .i64 a12))
  have HS2 := Lib.hid ((((((((Hi.refl (bX + 3) w2_).set (b := bO) (o := 6) (u := .int .i64 a6) LT.out.2.2.2).set (b := bO) (o := 7) (u := .int .i64 a7) LT.out.2.2.2).set (b := bO) (o := 8) (u := .int .i64 a8) LT.out.2.2.2).set (b := bO) (o := 9) (u := .int .i64 a9) LT.out.2.2.2).set (b := bO) (o := 10) (u := .int .i64 a10) LT.out.2.2.2).set (b := bO) (o := 11) (u := .int .i64 a11) LT.out.2.2.2).set (b := bO) (o := 12) (u := .int .i64 a12) LT.out.2.2.2)
  have R3 := Lib.hid (Blk.cast (arr2 := #[.int .i64 a0, .int .i64 a1, .int .i64 a2, .int .i64 a3, .int .i64 a4, .int .i64 a5, .int .i64 a6, .int .i64 a7, .int .i64 a8, .int .i64 a9, .int .i64 a10, .int .i64 a11, .int .i64 a12]) (((((((((((((R2.out.set 0 (.int .i64 a0)).set 1 (.int .i64 a1)).set 2 (.int .i64 a2)).set 3 (.int .i64 a3)).set 4 (.int .i64 a4)).set 5 (.int .i64 a5)).set 6 (.int .i64 a6)).set 7 (.int .i64 a7)).set 8 (.int .i64 a8)).set 9 (.int .i64 a9)).set 10 (.int .i64 a10)).set 11 (.int .i64 a11)).set 12 (.int .i64 a12)) (by simp))
  have U3 := Lib.hid (((((((((((((U2.out.setCell (p := ⟨bR, 0, none⟩) (LT.out.1) (.int .i64 a0)).setCell (p := ⟨bR, 1, none⟩) (LT.out.1) (.int .i64 a1)).setCell (p := ⟨bR, 2, none⟩) (LT.out.1) (.int .i64 a2)).setCell (p := ⟨bR, 3, none⟩) (LT.out.1) (.int .i64 a3)).setCell (p := ⟨bR, 4, none⟩) (LT.out.1) (.int .i64 a4)).setCell (p := ⟨bR, 5, none⟩) (LT.out.1) (.int .i64 a5)).setCell (p := ⟨bR, 6, none⟩) (LT.out.1) (.int .i64 a6)).setCell (p := ⟨bR, 7, none⟩) (LT.out.1) (.int .i64 a7)).setCell (p := ⟨bR, 8, none⟩) (LT.out.1) (.int .i64 a8)).setCell (p := ⟨bR, 9, none⟩) (LT.out.1) (.int .i64 a9)).setCell (p := ⟨bR, 10, none⟩) (LT.out.1) (.int .i64 a10)).setCell (p := ⟨bR, 11, none⟩) (LT.out.1) (.int .i64 a11)).setCell (p := ⟨bR, 12, none⟩) (LT.out.1) (.int .i64 a12))
  have HS3 := Lib.hid ((((((((((((((Hi.refl (bX + 3) (((((((w2_.setCell ⟨bO, 6, none⟩ (.int .i64 a6)).setCell ⟨bO, 7, none⟩ (.int .i64 a7)).setCell ⟨bO, 8, none⟩ (.int .i64 a8)).setCell ⟨bO, 9, none⟩ (.int .i64 a9)).setCell ⟨bO, 10, none⟩ (.int .i64 a10)).setCell ⟨bO, 11, none⟩ (.int .i64 a11)).setCell ⟨bO, 12, none⟩ (.int .i64 a12))).set (b := bR) (o := 0) (u := .int .i64 a0) LT.out.2.2.1).set (b := bR) (o := 1) (u := .int .i64 a1) LT.out.2.2.1).set (b := bR) (o := 2) (u := .int .i64 a2) LT.out.2.2.1).set (b := bR) (o := 3) (u := .int .i64 a3) LT.out.2.2.1).set (b := bR) (o := 4) (u := .int .i64 a4) LT.out.2.2.1).set (b := bR) (o := 5) (u := .int .i64 a5) LT.out.2.2.1).set (b := bR) (o := 6) (u := .int .i64 a6) LT.out.2.2.1).set (b := bR) (o := 7) (u := .int .i64 a7) LT.out.2.2.1).set (b := bR) (o := 8) (u := .int .i64 a8) LT.out.2.2.1).set (b := bR) (o := 9) (u := .int .i64 a9) LT.out.2.2.1).set (b := bR) (o := 10) (u := .int .i64 a10) LT.out.2.2.1).set (b := bR) (o := 11) (u := .int .i64 a11) LT.out.2.2.1).set (b := bR) (o := 12) (u := .int .i64 a12) LT.out.2.2.1)
  have o0 := O.out.cell (j := 0) rfl
  have o1 := O.out.cell (j := 1) rfl
  have o2 := O.out.cell (j := 2) rfl
  have o3 := O.out.cell (j := 3) rfl
  have o4 := O.out.cell (j := 4) rfl
  have o5 := O.out.cell (j := 5) rfl
  have o6 := O.out.cell (j := 6) rfl
  have o7 := O.out.cell (j := 7) rfl
  have o8 := O.out.cell (j := 8) rfl
  have o9 := O.out.cell (j := 9) rfl
  have o10 := O.out.cell (j := 10) rfl
  have o11 := O.out.cell (j := 11) rfl
  have o12 := O.out.cell (j := 12) rfl
  have fO := O.out.frozen
  have lo_ := O.out.lt
  have r0 := R.out.cell (j := 0) rfl
  have r1 := R.out.cell (j := 1) rfl
  have r2 := R.out.cell (j := 2) rfl
  have r3 := R.out.cell (j := 3) rfl
  have r4 := R.out.cell (j := 4) rfl
  have r5 := R.out.cell (j := 5) rfl
  have r6 := R.out.cell (j := 6) rfl
  have r7 := R.out.cell (j := 7) rfl
  have r8 := R.out.cell (j := 8) rfl
  have r9 := R.out.cell (j := 9) rfl
  have r10 := R.out.cell (j := 10) rfl
  have r11 := R.out.cell (j := 11) rfl
  have r12 := R.out.cell (j := 12) rfl
  have fR := R.out.frozen
  have lr := R.out.lt
  go_wp2; clear o0 r0 o1 r1 o2 r2 o3 r3 o4 r4 o5 r5 o6 r6 o7 r7 o8 r8 o9 r9 o10 r10 o11 r11 o12 r12 fO fR lo_ lr
  generalize ((((((((((((((((((((w2_.setCell ⟨bO, 6, none⟩ (.int .i64 a6)).setCell ⟨bO, 7, none⟩ (.int .i64 a7)).setCell ⟨bO, 8, none⟩ (.int .i64 a8)).setCell ⟨bO, 9, none⟩ (.int .i64 a9)).setCell ⟨bO, 10, none⟩ (.int .i64 a10)).setCell ⟨bO, 11, none⟩ (.int .i64 a11)).setCell ⟨bO, 12, none⟩ (.int .i64 a12)).setCell ⟨bR, 0, none⟩ (.int .i64 a0)).setCell ⟨bR, 1, none⟩ (.int .i64 a1)).setCell ⟨bR, 2, none⟩ (.int .i64 a2)).setCell ⟨bR, 3, none⟩ (.int .i64 a3)).setCell ⟨bR, 4, none⟩ (.int .i64 a4)).setCell ⟨bR, 5, none⟩ (.int .i64 a5)).setCell ⟨bR, 6, none⟩ (.int .i64 a6)).setCell ⟨bR, 7, none⟩ (.int .i64 a7)).setCell ⟨bR, 8, none⟩ (.int .i64 a8)).setCell ⟨bR, 9, none⟩ (.int .i64 a9)).setCell ⟨bR, 10, none⟩ (.int .i64 a10)).setCell ⟨bR, 11, none⟩ (.int .i64 a11)).setCell ⟨bR, 12, none⟩ (.int .i64 a12)) = WF at *
  obtain ⟨k0, k1, k2, k3, k4, k5, k6, k7, k8, k9, k10, k11, k12⟩ := And.intro (R3.out.cell (j := 0) rfl) (And.intro (R3.out.cell (j := 1) rfl) (And.intro (R3.out.cell (j := 2) rfl) (And.intro (R3.out.cell (j := 3) rfl) (And.intro (R3.out.cell (j := 4) rfl) (And.intro (R3.out.cell (j := 5) rfl) (And.intro (R3.out.cell (j := 6) rfl) (And.intro (R3.out.cell (j := 7) rfl) (And.intro (R3.out.cell (j := 8) rfl) (And.intro (R3.out.cell (j := 9) rfl) (And.intro (R3.out.cell (j := 10) rfl) (And.intro (R3.out.cell (j := 11) rfl) (R3.out.cell (j := 12) rfl))))))))))))
  exact bodyPost_ret (v := .agg #[.int .i64 a0, .int .i64 a1, .int .i64 a2, .int .i64 a3, .int .i64 a4, .int .i64 a5, .int .i64 a6, .int .i64 a7, .int .i64 a8, .int .i64 a9, .int .i64 a10, .int .i64 a11, .int .i64 a12]) (by simp [results, Tryz.results67, go_sem, k0, k1, k2, k3, k4, k5, k6, k7, k8, k9, k10, k11, k12]) rfl ⟨rfl, U3.out⟩
theorem info111 : (Tryz.prog.info? 111).map (fun i => (i.zero, i.size, i.bytes)) = some (some (.agg #[.int .i64 0, .int .i64 0, .int .i64 0, .int .i64 0, .int .i64 0, .int .i64 0, .int .i64 0, .int .i64 0, .int .i64 0, .int .i64 0, .int .i64 0, .int .i64 0, .int .i64 0]), 13, 104) := by kernel_rfl
set_option maxHeartbeats 2000000 in
theorem toI_any (A : Option Addr) (n cap : Nat) (xs : List Rec) (w : World) (hn : n ≤ 1048576) (hE : Recs w A n xs) :
    Calls Tryz.prog 32 #[.slice A n cap] w fun x w' => ∃ g, x = .returned (.slice (some ⟨g, 0, none⟩) n n) ∧ w.heap.size ≤ g ∧ Recs w' (some ⟨g, 0, none⟩) n xs ∧ IntsOwn w' g (n * 7) ∧ Up w w' := by
  obtain ⟨i0, hi, hz0, hz1, hz2⟩ := info_parts info109
  have hmk := fun W => run_make_rowN (P := Tryz.prog) 43 109 i0 _ Tryz.underlying43 hi hz0 .i64 .i64 n n (Nat.le_refl _) (by rw [hz2]; omega) (by omega) W
  rw [hz1] at hmk
  have HE := Lib.hid hE
  have LE := Lib.hid hE.1
  have CL := Lib.hid (fun a W => toItR_any a W)
  clear hE hi hz0 hz1 hz2
  go_enter Tryz.func32, Tryz.ntmps32
  go_wp2
  generalize hg : w.heap.size = g
  have HG := Lib.hid (Nat.le_of_eq hg)
  go_loopw [4] (fun i wr => (∃ k : Nat, k ≤ n ∧ i = .int .i64 k ∧ RowsTo wr g n 7 k (fun i j => (xs.getD i default).nums.getD j 0)) ∧ Up w wr) (fun i _ => n - (intOf i).toNat)
  case atStart =>
    refine ⟨⟨0, by omega, rfl, ?_⟩, (Up.refl _).alloc _⟩; subst hg
    exact RowsTo.start w n 7 #[.int .i64 0, .int .i64 0, .int .i64 0, .int .i64 0, .int .i64 0, .int .i64 0, .int .i64 0] 109 _ (fun j hj => by
      have h : j = 0 ∨ j = 1 ∨ j = 2 ∨ j = 3 ∨ j = 4 ∨ j = 5 ∨ j = 6 := by simp at hj; omega
      rcases h with rfl | rfl | rfl | rfl | rfl | rfl | rfl <;> rfl) (by simp)
  case round =>
    obtain ⟨⟨k, hk, rfl, hp⟩, ur⟩ := hrel
    have HP := Lib.hid hp
    have UR := Lib.hid ur
    by_cases hlt : k < n
    · obtain ⟨b, off, hA, hb, hc⟩ := HE.out.2 (by omega)
      subst hA
      have a0 := (hc k hlt).up ur hb
      have hb' : b < wr.heap.size := by have := ur.size; omega
      clear hc hp ur
      have cl := CL.out (xs.getD k default)
      have SX := Lib.hid (fun W (h : RowsTo W g n 7 k (fun i j => (xs.getD i default).nums.getD j 0)) => h.step hlt ((xs.getD k default).nums.getD · 0) (fun j _ => rfl))
      generalize xs.getD k default = p at a0 cl SX
      unfold RecAt at a0; unfold Rec.v at cl; obtain ⟨p0, p1, p2, p3, p4, p5, p6⟩ := a0
      have C := Lib.hid cl
      clear cl
      have i4 : (k : Int) < n := by omega
      go_wp2_with fail
      refine (C.out _).mono ?_; rintro x wA ⟨rfl, uA⟩
      have P := HP.out.up uA
      obtain ⟨⟨⟨v0, c0⟩, f0⟩, ⟨⟨v1, c1⟩, f1⟩, ⟨⟨v2, c2⟩, f2⟩, ⟨⟨v3, c3⟩, f3⟩, ⟨⟨v4, c4⟩, f4⟩, ⟨⟨v5, c5⟩, f5⟩, ⟨⟨v6, c6⟩, f6⟩⟩ := And.intro (P.1.2 (k * 7) (by omega)) (And.intro (P.1.2 (k * 7 + 1) (by omega)) (And.intro (P.1.2 (k * 7 + 2) (by omega)) (And.intro (P.1.2 (k * 7 + 3) (by omega)) (And.intro (P.1.2 (k * 7 + 4) (by omega)) (And.intro (P.1.2 (k * 7 + 5) (by omega)) (P.1.2 (k * 7 + 6) (by omega)))))))
      have NX := Lib.hid (SX.out _ P)
      have UX := Lib.hid (((UR.out.trans uA).putF HG.out (k * 7) (p.nums.getD · 0) 7))
      simp only [putF, Rec.nums, Nat.add_zero, List.getD_cons_zero, List.getD_cons_succ] at NX UX
      have hgl := P.1.1
      clear P p0 p1 p2 p3 p4 p5 p6 SX; go_wp2
      go_roundw
      case rel => exact ⟨⟨k + 1, by omega, by go_num, NX.out⟩, UX.out⟩
      case measure => simp [intOf]; omega
    · obtain rfl : k = n := by omega
      have i4 : ¬ (k : Int) < k := by omega
      clear hp ur; go_wp2; go_ret
      exact ⟨g, rfl, by have := HG.out; omega, ⟨LE.out, fun _ => ⟨g, 0, rfl, HP.out.1.1, fun i hi => by
        have h := HP.out.2 i hi
        exact ⟨by rw [Nat.zero_add]; exact h 0 (by omega), by rw [Nat.zero_add]; exact h 1 (by omega), by rw [Nat.zero_add]; exact h 2 (by omega), by rw [Nat.zero_add]; exact h 3 (by omega), by rw [Nat.zero_add]; exact h 4 (by omega), by rw [Nat.zero_add]; exact h 5 (by omega), by rw [Nat.zero_add]; exact h 6 (by omega)⟩⟩⟩, HP.out.1, UR.out⟩
set_option maxHeartbeats 2000000 in
theorem toKeps_any (A : Option Addr) (n cap : Nat) (xs : List Kep) (w : World) (hn : n ≤ 1048576) (hE : Keps w A n xs) :
    Calls Tryz.prog 33 #[.slice A n cap] w fun x w' => ∃ g, x = .returned (.slice (some ⟨g, 0, none⟩) n n) ∧ w.heap.size ≤ g ∧ Keps w' (some ⟨g, 0, none⟩) n xs ∧ IntsOwn w' g (n * 13) ∧ Up w w' := by
  obtain ⟨i0, hi, hz0, hz1, hz2⟩ := info_parts info111
  have hmk := fun W => run_make_rowN (P := Tryz.prog) 44 111 i0 _ Tryz.underlying44 hi hz0 .i64 .i64 n n (Nat.le_refl _) (by rw [hz2]; omega) (by omega) W
  rw [hz1] at hmk
  have HE := Lib.hid hE
  have LE := Lib.hid hE.1
  have CL := Lib.hid (fun a W => toKep_any a W)
  clear hE hi hz0 hz1 hz2
  go_enter Tryz.func33, Tryz.ntmps33
  go_wp2
  generalize hg : w.heap.size = g
  have HG := Lib.hid (Nat.le_of_eq hg)
  go_loopw [4] (fun i wr => (∃ k : Nat, k ≤ n ∧ i = .int .i64 k ∧ RowsTo wr g n 13 k (fun i j => (xs.getD i default).nums.getD j 0)) ∧ Up w wr) (fun i _ => n - (intOf i).toNat)
  case atStart =>
    refine ⟨⟨0, by omega, rfl, ?_⟩, (Up.refl _).alloc _⟩; subst hg
    exact RowsTo.start w n 13 #[.int .i64 0, .int .i64 0, .int .i64 0, .int .i64 0, .int .i64 0, .int .i64 0, .int .i64 0, .int .i64 0, .int .i64 0, .int .i64 0, .int .i64 0, .int .i64 0, .int .i64 0] 111 _ (fun j hj => by
      have h : j = 0 ∨ j = 1 ∨ j = 2 ∨ j = 3 ∨ j = 4 ∨ j = 5 ∨ j = 6 ∨ j = 7 ∨ j = 8 ∨ j = 9 ∨ j = 10 ∨ j = 11 ∨ j = 12 := by simp at hj; omega
      rcases h with rfl | rfl | rfl | rfl | rfl | rfl | rfl | rfl | rfl | rfl | rfl | rfl | rfl <;> rfl) (by simp)
  case round =>
    obtain ⟨⟨k, hk, rfl, hp⟩, ur⟩ := hrel
    have HP := Lib.hid hp
    have UR := Lib.hid ur
    by_cases hlt : k < n
    · obtain ⟨b, off, hA, hb, hc⟩ := HE.out.2 (by omega)
      subst hA
      have a0 := (hc k hlt).up ur hb
      have hb' : b < wr.heap.size := by have := ur.size; omega
      clear hc hp ur
      have cl := CL.out (xs.getD k default)
      have SX := Lib.hid (fun W (h : RowsTo W g n 13 k (fun i j => (xs.getD i default).nums.getD j 0)) => h.step hlt ((xs.getD k default).nums.getD · 0) (fun j _ => rfl))
      generalize xs.getD k default = p at a0 cl SX
      unfold KepAt at a0; unfold Kep.v at cl; obtain ⟨p0, p1, p2, p3, p4, p5, p6, p7, p8, p9, p10, p11, p12⟩ := a0
      have C := Lib.hid cl
      clear cl
      have i4 : (k : Int) < n := by omega
      go_wp2_with fail
      refine (C.out _).mono ?_; rintro x wA ⟨rfl, uA⟩
      have P := HP.out.up uA
      obtain ⟨⟨⟨v0, c0⟩, f0⟩, ⟨⟨v1, c1⟩, f1⟩, ⟨⟨v2, c2⟩, f2⟩, ⟨⟨v3, c3⟩, f3⟩, ⟨⟨v4, c4⟩, f4⟩, ⟨⟨v5, c5⟩, f5⟩, ⟨⟨v6, c6⟩, f6⟩, ⟨⟨v7, c7⟩, f7⟩, ⟨⟨v8, c8⟩, f8⟩, ⟨⟨v9, c9⟩, f9⟩, ⟨⟨v10, c10⟩, f10⟩, ⟨⟨v11, c11⟩, f11⟩, ⟨⟨v12, c12⟩, f12⟩⟩ := And.intro (P.1.2 (k * 13) (by omega)) (And.intro (P.1.2 (k * 13 + 1) (by omega)) (And.intro (P.1.2 (k * 13 + 2) (by omega)) (And.intro (P.1.2 (k * 13 + 3) (by omega)) (And.intro (P.1.2 (k * 13 + 4) (by omega)) (And.intro (P.1.2 (k * 13 + 5) (by omega)) (And.intro (P.1.2 (k * 13 + 6) (by omega)) (And.intro (P.1.2 (k * 13 + 7) (by omega)) (And.intro (P.1.2 (k * 13 + 8) (by omega)) (And.intro (P.1.2 (k * 13 + 9) (by omega)) (And.intro (P.1.2 (k * 13 + 10) (by omega)) (And.intro (P.1.2 (k * 13 + 11) (by omega)) (P.1.2 (k * 13 + 12) (by omega)))))))))))))
      have NX := Lib.hid (SX.out _ P)
      have UX := Lib.hid (((UR.out.trans uA).putF HG.out (k * 13) (p.nums.getD · 0) 13))
      simp only [putF, Kep.nums, Nat.add_zero, List.getD_cons_zero, List.getD_cons_succ] at NX UX
      have hgl := P.1.1
      clear P p0 p1 p2 p3 p4 p5 p6 p7 p8 p9 p10 p11 p12 SX; go_wp2
      go_roundw
      case rel => exact ⟨⟨k + 1, by omega, by go_num, NX.out⟩, UX.out⟩
      case measure => simp [intOf]; omega
    · obtain rfl : k = n := by omega
      have i4 : ¬ (k : Int) < k := by omega
      clear hp ur; go_wp2; go_ret
      exact ⟨g, rfl, by have := HG.out; omega, ⟨LE.out, fun _ => ⟨g, 0, rfl, HP.out.1.1, fun i hi => by
        have h := HP.out.2 i hi
        exact ⟨by rw [Nat.zero_add]; exact h 0 (by omega), by rw [Nat.zero_add]; exact h 1 (by omega), by rw [Nat.zero_add]; exact h 2 (by omega), by rw [Nat.zero_add]; exact h 3 (by omega), by rw [Nat.zero_add]; exact h 4 (by omega), by rw [Nat.zero_add]; exact h 5 (by omega), by rw [Nat.zero_add]; exact h 6 (by omega), by rw [Nat.zero_add]; exact h 7 (by omega), by rw [Nat.zero_add]; exact h 8 (by omega), by rw [Nat.zero_add]; exact h 9 (by omega), by rw [Nat.zero_add]; exact h 10 (by omega), by rw [Nat.zero_add]; exact h 11 (by omega), by rw [Nat.zero_add]; exact h 12 (by omega)⟩⟩⟩, HP.out.1, UR.out⟩
end Go.Proofs.YtlkmhmiamdbhcabGreat

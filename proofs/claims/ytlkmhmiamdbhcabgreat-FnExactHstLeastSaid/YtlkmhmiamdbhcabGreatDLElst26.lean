/-
  What toHstDone returns, in one sentence: the same over a new list; for all that lies in memory.
  What toHstDoneS returns, in one sentence: the same over new rows; for every list that lies in memory.
-/
import Derived.Test.YtlkmhmiamdbhcabGreatDLElst02
import Derived.Test.YtlkmhmiamdbhcabGreatDLElst03
import Derived.Test.YtlkmhmiamdbhcabGreatDLElst16
import Derived.Test.YtlkmhmiamdbhcabGreatDLElst25
namespace Go.Proofs.YtlkmhmiamdbhcabGreat
set_option maxRecDepth 100000
open Go.RowKit
/-- What was done over a new list of what was sent. -/
def NewDon (d : Don) (n : Nat) (w : World) (x : Ending) (w' : World) : Prop :=
  ∃ g, x = .returned (d.v (.slice (some ⟨g, 0, none⟩) n n)) ∧ w.heap.size ≤ g ∧ Recs w' (some ⟨g, 0, none⟩) n d.sent ∧ IntsOwn w' g (n * 7) ∧ Up w w'
set_option maxHeartbeats 800000 in
theorem toDon_any (a : Don) (A : Option Addr) (n c : Nat) (w : World) (hn : n ≤ 1048576) (hE : Recs w A n a.sent) : Calls Tryz.prog 65 #[a.v (.slice A n c)] w (NewDon a n w) := by
  have c0 := fun W => toItR_any a.it W
  have c1 := fun W => toCst_any a.bf W
  have C2 := Lib.hid (fun W (u : Up w W) => toI_any A n c a.sent W hn (hE.up u))
  unfold Don.v NewDon; unfold Don.v; obtain ⟨⟨⟨a0, a1, a2, a3, a4, a5⟩, a6⟩, ⟨a7, a8, a9⟩, a10, ax⟩ := a; unfold Rec.v at c0; unfold Cst.v at c1; dsimp only at c0 c1 C2 ⊢
  have C0 := Lib.hid c0
  have C1 := Lib.hid c1
  clear c0 c1 hE
  have X := Lib.hid (((Blk.new w #[.int .i64 a0, .int .i64 a1, .int .i64 a2, .int .i64 a3, .int .i64 a4, .int .i64 a5, .int .i64 a6, .int .i64 a7, .int .i64 a8, .int .i64 a9, .int .i64 a10, .slice A n c] 103).alloc (.cells #[.int .i64 0, .int .i64 0, .int .i64 0, .int .i64 0, .int .i64 0, .int .i64 0, .int .i64 0, .int .i64 0, .int .i64 0, .int .i64 0, .int .i64 0, .slice none 0 0] 117)).alloc (.cells #[.int .i64 0, .int .i64 0, .int .i64 0, .int .i64 0, .int .i64 0, .int .i64 0, .int .i64 0, .int .i64 0, .int .i64 0, .int .i64 0, .int .i64 0, .slice none 0 0] 117))
  have R := Lib.hid ((Blk.new (w.alloc (.cells #[.int .i64 a0, .int .i64 a1, .int .i64 a2, .int .i64 a3, .int .i64 a4, .int .i64 a5, .int .i64 a6, .int .i64 a7, .int .i64 a8, .int .i64 a9, .int .i64 a10, .slice A n c] 103)) #[.int .i64 0, .int .i64 0, .int .i64 0, .int .i64 0, .int .i64 0, .int .i64 0, .int .i64 0, .int .i64 0, .int .i64 0, .int .i64 0, .int .i64 0, .slice none 0 0] 117).alloc (.cells #[.int .i64 0, .int .i64 0, .int .i64 0, .int .i64 0, .int .i64 0, .int .i64 0, .int .i64 0, .int .i64 0, .int .i64 0, .int .i64 0, .int .i64 0, .slice none 0 0] 117))
  have O := Lib.hid (Blk.new ((w.alloc (.cells #[.int .i64 a0, .int .i64 a1, .int .i64 a2, .int .i64 a3, .int .i64 a4, .int .i64 a5, .int .i64 a6, .int .i64 a7, .int .i64 a8, .int .i64 a9, .int .i64 a10, .slice A n c] 103)).alloc (.cells #[.int .i64 0, .int .i64 0, .int .i64 0, .int .i64 0, .int .i64 0, .int .i64 0, .int .i64 0, .int .i64 0, .int .i64 0, .int .i64 0, .int .i64 0, .slice none 0 0] 117)) #[.int .i64 0, .int .i64 0, .int .i64 0, .int .i64 0, .int .i64 0, .int .i64 0, .int .i64 0, .int .i64 0, .int .i64 0, .int .i64 0, .int .i64 0, .slice none 0 0] 117)
  simp only [World.size_alloc] at R O
  have U := Lib.hid ((((Up.refl w).alloc (.cells #[.int .i64 a0, .int .i64 a1, .int .i64 a2, .int .i64 a3, .int .i64 a4, .int .i64 a5, .int .i64 a6, .int .i64 a7, .int .i64 a8, .int .i64 a9, .int .i64 a10, .slice A n c] 103)).alloc (.cells #[.int .i64 0, .int .i64 0, .int .i64 0, .int .i64 0, .int .i64 0, .int .i64 0, .int .i64 0, .int .i64 0, .int .i64 0, .int .i64 0, .int .i64 0, .slice none 0 0] 117)).alloc (.cells #[.int .i64 0, .int .i64 0, .int .i64 0, .int .i64 0, .int .i64 0, .int .i64 0, .int .i64 0, .int .i64 0, .int .i64 0, .int .i64 0, .int .i64 0, .slice none 0 0] 117))
  have le_ : w.heap.size + 3 ≤ (((w.alloc (.cells #[.int .i64 a0, .int .i64 a1, .int .i64 a2, .int .i64 a3, .int .i64 a4, .int .i64 a5, .int .i64 a6, .int .i64 a7, .int .i64 a8, .int .i64 a9, .int .i64 a10, .slice A n c] 103)).alloc (.cells #[.int .i64 0, .int .i64 0, .int .i64 0, .int .i64 0, .int .i64 0, .int .i64 0, .int .i64 0, .int .i64 0, .int .i64 0, .int .i64 0, .int .i64 0, .slice none 0 0] 117)).alloc (.cells #[.int .i64 0, .int .i64 0, .int .i64 0, .int .i64 0, .int .i64 0, .int .i64 0, .int .i64 0, .int .i64 0, .int .i64 0, .int .i64 0, .int .i64 0, .slice none 0 0] 117)).heap.size := by simp
  go_enter Tryz.func65, Tryz.ntmps65
  go_wp2_with fail
  generalize ((w.alloc (.cells #[.int .i64 a0, .int .i64 a1, .int .i64 a2, .int .i64 a3, .int .i64 a4, .int .i64 a5, .int .i64 a6, .int .i64 a7, .int .i64 a8, .int .i64 a9, .int .i64 a10, .slice A n c] 103)).alloc (.cells #[.int .i64 0, .int .i64 0, .int .i64 0, .int .i64 0, .int .i64 0, .int .i64 0, .int .i64 0, .int .i64 0, .int .i64 0, .int .i64 0, .int .i64 0, .slice none 0 0] 117)).alloc (.cells #[.int .i64 0, .int .i64 0, .int .i64 0, .int .i64 0, .int .i64 0, .int .i64 0, .int .i64 0, .int .i64 0, .int .i64 0, .int .i64 0, .int .i64 0, .slice none 0 0] 117) = W at *
  generalize hbO : w.heap.size + 1 + 1 = bO at *
  generalize hbR : w.heap.size + 1 = bR at *
  generalize hbX : w.heap.size = bX at *
  have n1 : bX ≠ bR := by omega
  have n2 : bX ≠ bO := by omega
  have n3 : bR ≠ bO := by omega
  have n4 : bO ≠ bX := by omega
  have n5 : bO ≠ bR := by omega
  have n6 : bR ≠ bX := by omega
  have LT := Lib.hid (show w.heap.size ≤ bR ∧ w.heap.size ≤ bO ∧ bR < bX + 3 ∧ bO < bX + 3 by omega)
  clear hbO hbR; refine (C0.out _).mono ?_; rintro x w1_ ⟨rfl, u⟩
  have U := Lib.hid (U.out.trans u)
  have X := Lib.hid (X.out.up u)
  have R := Lib.hid (R.out.up u)
  have O := Lib.hid (O.out.up u)
  have le_ : bX + 3 ≤ w1_.heap.size := Nat.le_trans le_ u.size
  clear u
  have O2 := Lib.hid (Blk.cast (arr2 := #[.int .i64 a0, .int .i64 a1, .int .i64 a2, .int .i64 a3, .int .i64 a4, .int .i64 a5, .int .i64 a6, .int .i64 0, .int .i64 0, .int .i64 0, .int .i64 0, .slice none 0 0]) (((((((O.out.set 0 (.int .i64 a0)).set 1 (.int .i64 a1)).set 2 (.int .i64 a2)).set 3 (.int .i64 a3)).set 4 (.int .i64 a4)).set 5 (.int .i64 a5)).set 6 (.int .i64 a6)) (by simp))
  have R2 := Lib.hid (((((((R.out.far (b' := bO) 0 (.int .i64 a0) n3).far (b' := bO) 1 (.int .i64 a1) n3).far (b' := bO) 2 (.int .i64 a2) n3).far (b' := bO) 3 (.int .i64 a3) n3).far (b' := bO) 4 (.int .i64 a4) n3).far (b' := bO) 5 (.int .i64 a5) n3).far (b' := bO) 6 (.int .i64 a6) n3)
  have X2 := Lib.hid (((((((X.out.far (b' := bO) 0 (.int .i64 a0) n2).far (b' := bO) 1 (.int .i64 a1) n2).far (b' := bO) 2 (.int .i64 a2) n2).far (b' := bO) 3 (.int .i64 a3) n2).far (b' := bO) 4 (.int .i64 a4) n2).far (b' := bO) 5 (.int .i64 a5) n2).far (b' := bO) 6 (.int .i64 a6) n2)
  have U2 := Lib.hid (((((((U.out.setCell (p := ⟨bO, 0, none⟩) (LT.out.2.1) (.int .i64 a0)).setCell (p := ⟨bO, 1, none⟩) (LT.out.2.1) (.int .i64 a1)).setCell (p := ⟨bO, 2, none⟩) (LT.out.2.1) (.int .i64 a2)).setCell (p := ⟨bO, 3, none⟩) (LT.out.2.1) (.int .i64 a3)).setCell (p := ⟨bO, 4, none⟩) (LT.out.2.1) (.int .i64 a4)).setCell (p := ⟨bO, 5, none⟩) (LT.out.2.1) (.int .i64 a5)).setCell (p := ⟨bO, 6, none⟩) (LT.out.2.1) (.int .i64 a6))
  have HS2 := Lib.hid ((((((((Hi.refl (bX + 3) w1_).set (b := bO) (o := 0) (u := .int .i64 a0) LT.out.2.2.2).set (b := bO) (o := 1) (u := .int .i64 a1) LT.out.2.2.2).set (b := bO) (o := 2) (u := .int .i64 a2) LT.out.2.2.2).set (b := bO) (o := 3) (u := .int .i64 a3) LT.out.2.2.2).set (b := bO) (o := 4) (u := .int .i64 a4) LT.out.2.2.2).set (b := bO) (o := 5) (u := .int .i64 a5) LT.out.2.2.2).set (b := bO) (o := 6) (u := .int .i64 a6) LT.out.2.2.2)
  have o0 := O.out.cell (j := 0) rfl
  have o1 := O.out.cell (j := 1) rfl
  have o2 := O.out.cell (j := 2) rfl
  have o3 := O.out.cell (j := 3) rfl
  have o4 := O.out.cell (j := 4) rfl
  have o5 := O.out.cell (j := 5) rfl
  have o6 := O.out.cell (j := 6) rfl
  have o7 := O.out.cell (j := 7) rfl
  have o8 := O.out.cell (j := 8) rfl
  have o9 := O.out.cell (j := 9) rfl
  have o10 := O.out.cell (j := 10) rfl
  have o11 := O.out.cell (j := 11) rfl
  have fO := O.out.frozen
  have lo_ := O.out.lt
  have x7 := X.out.cell (j := 7) rfl
  have x8 := X.out.cell (j := 8) rfl
  have x9 := X.out.cell (j := 9) rfl
  have lx := X.out.lt
  have le2 : bX + 3 ≤ ((((((((w1_.setCell ⟨bO, 0, none⟩ (.int .i64 a0)).setCell ⟨bO, 1, none⟩ (.int .i64 a1)).setCell ⟨bO, 2, none⟩ (.int .i64 a2)).setCell ⟨bO, 3, none⟩ (.int .i64 a3)).setCell ⟨bO, 4, none⟩ (.int .i64 a4)).setCell ⟨bO, 5, none⟩ (.int .i64 a5)).setCell ⟨bO, 6, none⟩ (.int .i64 a6))).heap.size := by simpa using le_
  clear le_
  go_wp2_with fail
  generalize (((((((w1_.setCell ⟨bO, 0, none⟩ (.int .i64 a0)).setCell ⟨bO, 1, none⟩ (.int .i64 a1)).setCell ⟨bO, 2, none⟩ (.int .i64 a2)).setCell ⟨bO, 3, none⟩ (.int .i64 a3)).setCell ⟨bO, 4, none⟩ (.int .i64 a4)).setCell ⟨bO, 5, none⟩ (.int .i64 a5)).setCell ⟨bO, 6, none⟩ (.int .i64 a6)) = V0 at *
  have le_ := le2
  have O := O2
  have R := R2
  have X := X2
  have U := U2
  clear le2 O2 R2 X2 U2 HS2 fO lo_ lx x7 x8 x9 o0 o1 o2 o3 o4 o5 o6 o7 o8 o9 o10 o11; refine (C1.out _).mono ?_; rintro x w2_ ⟨rfl, u⟩
  have U := Lib.hid (U.out.trans u)
  have X := Lib.hid (X.out.up u)
  have R := Lib.hid (R.out.up u)
  have O := Lib.hid (O.out.up u)
  have le_ : bX + 3 ≤ w2_.heap.size := Nat.le_trans le_ u.size
  clear u
  have O2 := Lib.hid (Blk.cast (arr2 := #[.int .i64 a0, .int .i64 a1, .int .i64 a2, .int .i64 a3, .int .i64 a4, .int .i64 a5, .int .i64 a6, .int .i64 a7, .int .i64 a8, .int .i64 a9, .int .i64 a10, .slice none 0 0]) ((((O.out.set 7 (.int .i64 a7)).set 8 (.int .i64 a8)).set 9 (.int .i64 a9)).set 10 (.int .i64 a10)) (by simp))
  have R2 := Lib.hid ((((R.out.far (b' := bO) 7 (.int .i64 a7) n3).far (b' := bO) 8 (.int .i64 a8) n3).far (b' := bO) 9 (.int .i64 a9) n3).far (b' := bO) 10 (.int .i64 a10) n3)
  have X2 := Lib.hid ((((X.out.far (b' := bO) 7 (.int .i64 a7) n2).far (b' := bO) 8 (.int .i64 a8) n2).far (b' := bO) 9 (.int .i64 a9) n2).far (b' := bO) 10 (.int .i64 a10) n2)
  have U2 := Lib.hid ((((U.out.setCell (p := ⟨bO, 7, none⟩) (LT.out.2.1) (.int .i64 a7)).setCell (p := ⟨bO, 8, none⟩) (LT.out.2.1) (.int .i64 a8)).setCell (p := ⟨bO, 9, none⟩) (LT.out.2.1) (.int .i64 a9)).setCell (p := ⟨bO, 10, none⟩) (LT.out.2.1) (.int .i64 a10))
  have HS2 := Lib.hid (((((Hi.refl (bX + 3) w2_).set (b := bO) (o := 7) (u := .int .i64 a7) LT.out.2.2.2).set (b := bO) (o := 8) (u := .int .i64 a8) LT.out.2.2.2).set (b := bO) (o := 9) (u := .int .i64 a9) LT.out.2.2.2).set (b := bO) (o := 10) (u := .int .i64 a10) LT.out.2.2.2)
  have o0 := O.out.cell (j := 0) rfl
  have o1 := O.out.cell (j := 1) rfl
  have o2 := O.out.cell (j := 2) rfl
  have o3 := O.out.cell (j := 3) rfl
  have o4 := O.out.cell (j := 4) rfl
  have o5 := O.out.cell (j := 5) rfl
  have o6 := O.out.cell (j := 6) rfl
  have o7 := O.out.cell (j := 7) rfl
  have o8 := O.out.cell (j := 8) rfl
  have o9 := O.out.cell (j := 9) rfl
  have o10 := O.out.cell (j := 10) rfl
  have o11 := O.out.cell (j := 11) rfl
  have fO := O.out.frozen
  have lo_ := O.out.lt
  have x10 := X.out.cell (j := 10) rfl
  have x11 := X.out.cell (j := 11) rfl
  have lx := X.out.lt
  have le2 : bX + 3 ≤ (((((w2_.setCell ⟨bO, 7, none⟩ (.int .i64 a7)).setCell ⟨bO, 8, none⟩ (.int .i64 a8)).setCell ⟨bO, 9, none⟩ (.int .i64 a9)).setCell ⟨bO, 10, none⟩ (.int .i64 a10))).heap.size := by simpa using le_
  clear le_
  go_wp2_with fail
  generalize ((((w2_.setCell ⟨bO, 7, none⟩ (.int .i64 a7)).setCell ⟨bO, 8, none⟩ (.int .i64 a8)).setCell ⟨bO, 9, none⟩ (.int .i64 a9)).setCell ⟨bO, 10, none⟩ (.int .i64 a10)) = V1 at *
  have le_ := le2
  have O := O2
  have R := R2
  have X := X2
  have U := U2
  clear le2 O2 R2 X2 U2 HS2 fO lo_ lx x10 x11 o0 o1 o2 o3 o4 o5 o6 o7 o8 o9 o10 o11
  have le_pre := le_
  refine (C2.out _ U.out).mono ?_; rintro x w3_ ⟨g, rfl, hg, hv, ho, u⟩
  have U := Lib.hid (U.out.trans u)
  have X := Lib.hid (X.out.up u)
  have R := Lib.hid (R.out.up u)
  have O := Lib.hid (O.out.up u)
  have le_ : bX + 3 ≤ w3_.heap.size := Nat.le_trans le_ u.size
  have N1 := Lib.hid (show NewI w3_ (bX + 3) g n ax from ⟨Nat.le_trans le_pre hg, hv, ho⟩)
  clear hg hv ho le_pre; clear u
  have O2 := Lib.hid (Blk.cast (arr2 := #[.int .i64 a0, .int .i64 a1, .int .i64 a2, .int .i64 a3, .int .i64 a4, .int .i64 a5, .int .i64 a6, .int .i64 a7, .int .i64 a8, .int .i64 a9, .int .i64 a10, .slice (some ⟨g, 0, none⟩) n n]) (O.out.set 11 (.slice (some ⟨g, 0, none⟩) n n)) (by simp))
  have R2 := Lib.hid (R.out.far (b' := bO) 11 (.slice (some ⟨g, 0, none⟩) n n) n3)
  have X2 := Lib.hid (X.out.far (b' := bO) 11 (.slice (some ⟨g, 0, none⟩) n n) n2)
  have U2 := Lib.hid (U.out.setCell (p := ⟨bO, 11, none⟩) (LT.out.2.1) (.slice (some ⟨g, 0, none⟩) n n))
  have HS2 := Lib.hid ((Hi.refl (bX + 3) w3_).set (b := bO) (o := 11) (u := .slice (some ⟨g, 0, none⟩) n n) LT.out.2.2.2)
  have N12 := Lib.hid (N1.out.hi HS2.out)
  have R3 := Lib.hid (Blk.cast (arr2 := #[.int .i64 a0, .int .i64 a1, .int .i64 a2, .int .i64 a3, .int .i64 a4, .int .i64 a5, .int .i64 a6, .int .i64 a7, .int .i64 a8, .int .i64 a9, .int .i64 a10, .slice (some ⟨g, 0, none⟩) n n]) ((((((((((((R2.out.set 0 (.int .i64 a0)).set 1 (.int .i64 a1)).set 2 (.int .i64 a2)).set 3 (.int .i64 a3)).set 4 (.int .i64 a4)).set 5 (.int .i64 a5)).set 6 (.int .i64 a6)).set 7 (.int .i64 a7)).set 8 (.int .i64 a8)).set 9 (.int .i64 a9)).set 10 (.int .i64 a10)).set 11 (.slice (some ⟨g, 0, none⟩) n n)) (by simp))
  have U3 := Lib.hid ((((((((((((U2.out.setCell (p := ⟨bR, 0, none⟩) (LT.out.1) (.int .i64 a0)).setCell (p := ⟨bR, 1, none⟩) (LT.out.1) (.int .i64 a1)).setCell (p := ⟨bR, 2, none⟩) (LT.out.1) (.int .i64 a2)).setCell (p := ⟨bR, 3, none⟩) (LT.out.1) (.int .i64 a3)).setCell (p := ⟨bR, 4, none⟩) (LT.out.1) (.int .i64 a4)).setCell (p := ⟨bR, 5, none⟩) (LT.out.1) (.int .i64 a5)).setCell (p := ⟨bR, 6, none⟩) (LT.out.1) (.int .i64 a6)).setCell (p := ⟨bR, 7, none⟩) (LT.out.1) (.int .i64 a7)).setCell (p := ⟨bR, 8, none⟩) (LT.out.1) (.int .i64 a8)).setCell (p := ⟨bR, 9, none⟩) (LT.out.1) (.int .i64 a9)).setCell (p := ⟨bR, 10, none⟩) (LT.out.1) (.int .i64 a10)).setCell (p := ⟨bR, 11, none⟩) (LT.out.1) (.slice (some ⟨g, 0, none⟩) n n))
  have HS3 := Lib.hid (((((((((((((Hi.refl (bX + 3) (w3_.setCell ⟨bO, 11, none⟩ (.slice (some ⟨g, 0, none⟩) n n))).set (b := bR) (o := 0) (u := .int .i64 a0) LT.out.2.2.1).set (b := bR) (o := 1) (u := .int .i64 a1) LT.out.2.2.1).set (b := bR) (o := 2) (u := .int .i64 a2) LT.out.2.2.1).set (b := bR) (o := 3) (u := .int .i64 a3) LT.out.2.2.1).set (b := bR) (o := 4) (u := .int .i64 a4) LT.out.2.2.1).set (b := bR) (o := 5) (u := .int .i64 a5) LT.out.2.2.1).set (b := bR) (o := 6) (u := .int .i64 a6) LT.out.2.2.1).set (b := bR) (o := 7) (u := .int .i64 a7) LT.out.2.2.1).set (b := bR) (o := 8) (u := .int .i64 a8) LT.out.2.2.1).set (b := bR) (o := 9) (u := .int .i64 a9) LT.out.2.2.1).set (b := bR) (o := 10) (u := .int .i64 a10) LT.out.2.2.1).set (b := bR) (o := 11) (u := .slice (some ⟨g, 0, none⟩) n n) LT.out.2.2.1)
  have N13 := Lib.hid (N12.out.hi HS3.out)
  have o0 := O.out.cell (j := 0) rfl
  have o1 := O.out.cell (j := 1) rfl
  have o2 := O.out.cell (j := 2) rfl
  have o3 := O.out.cell (j := 3) rfl
  have o4 := O.out.cell (j := 4) rfl
  have o5 := O.out.cell (j := 5) rfl
  have o6 := O.out.cell (j := 6) rfl
  have o7 := O.out.cell (j := 7) rfl
  have o8 := O.out.cell (j := 8) rfl
  have o9 := O.out.cell (j := 9) rfl
  have o10 := O.out.cell (j := 10) rfl
  have o11 := O.out.cell (j := 11) rfl
  have fO := O.out.frozen
  have lo_ := O.out.lt
  have r0 := R.out.cell (j := 0) rfl
  have r1 := R.out.cell (j := 1) rfl
  have r2 := R.out.cell (j := 2) rfl
  have r3 := R.out.cell (j := 3) rfl
  have r4 := R.out.cell (j := 4) rfl
  have r5 := R.out.cell (j := 5) rfl
  have r6 := R.out.cell (j := 6) rfl
  have r7 := R.out.cell (j := 7) rfl
  have r8 := R.out.cell (j := 8) rfl
  have r9 := R.out.cell (j := 9) rfl
  have r10 := R.out.cell (j := 10) rfl
  have r11 := R.out.cell (j := 11) rfl
  have fR := R.out.frozen
  have lr := R.out.lt
  go_wp2; clear o0 r0 o1 r1 o2 r2 o3 r3 o4 r4 o5 r5 o6 r6 o7 r7 o8 r8 o9 r9 o10 r10 o11 r11 fO fR lo_ lr
  generalize (((((((((((((w3_.setCell ⟨bO, 11, none⟩ (.slice (some ⟨g, 0, none⟩) n n)).setCell ⟨bR, 0, none⟩ (.int .i64 a0)).setCell ⟨bR, 1, none⟩ (.int .i64 a1)).setCell ⟨bR, 2, none⟩ (.int .i64 a2)).setCell ⟨bR, 3, none⟩ (.int .i64 a3)).setCell ⟨bR, 4, none⟩ (.int .i64 a4)).setCell ⟨bR, 5, none⟩ (.int .i64 a5)).setCell ⟨bR, 6, none⟩ (.int .i64 a6)).setCell ⟨bR, 7, none⟩ (.int .i64 a7)).setCell ⟨bR, 8, none⟩ (.int .i64 a8)).setCell ⟨bR, 9, none⟩ (.int .i64 a9)).setCell ⟨bR, 10, none⟩ (.int .i64 a10)).setCell ⟨bR, 11, none⟩ (.slice (some ⟨g, 0, none⟩) n n)) = WF at *
  obtain ⟨k0, k1, k2, k3, k4, k5, k6, k7, k8, k9, k10, k11⟩ := And.intro (R3.out.cell (j := 0) rfl) (And.intro (R3.out.cell (j := 1) rfl) (And.intro (R3.out.cell (j := 2) rfl) (And.intro (R3.out.cell (j := 3) rfl) (And.intro (R3.out.cell (j := 4) rfl) (And.intro (R3.out.cell (j := 5) rfl) (And.intro (R3.out.cell (j := 6) rfl) (And.intro (R3.out.cell (j := 7) rfl) (And.intro (R3.out.cell (j := 8) rfl) (And.intro (R3.out.cell (j := 9) rfl) (And.intro (R3.out.cell (j := 10) rfl) (R3.out.cell (j := 11) rfl)))))))))))
  exact bodyPost_ret (v := .agg #[.int .i64 a0, .int .i64 a1, .int .i64 a2, .int .i64 a3, .int .i64 a4, .int .i64 a5, .int .i64 a6, .int .i64 a7, .int .i64 a8, .int .i64 a9, .int .i64 a10, .slice (some ⟨g, 0, none⟩) n n]) (by simp [results, Tryz.results65, go_sem, k0, k1, k2, k3, k4, k5, k6, k7, k8, k9, k10, k11]) rfl ⟨g, rfl, by have := N13.out.lo_; omega, N13.out.v, N13.out.own, U3.out⟩
end Go.Proofs.YtlkmhmiamdbhcabGreat

namespace Go.Proofs.YtlkmhmiamdbhcabGreat
set_option maxRecDepth 100000
open Go.RowKit
theorem info117 : (Tryz.prog.info? 117).map (fun i => (i.zero, i.size, i.bytes)) = some (some (.agg #[.int .i64 0, .int .i64 0, .int .i64 0, .int .i64 0, .int .i64 0, .int .i64 0, .int .i64 0, .int .i64 0, .int .i64 0, .int .i64 0, .int .i64 0, .slice none 0 0]), 12, 112) := by kernel_rfl
theorem Hi.mono {lo hi : Nat} {a b : World} (h : Hi lo a b) (k : lo ≤ hi) : Hi hi a b := ⟨h.size, fun j h1 h2 => h.block j (Nat.le_trans k h1) h2⟩
theorem Hi.putF {lo g : Nat} {a w : World} (h : Hi lo a w) (hg : g < lo) (o : Nat) (f : Nat → Int) : ∀ s : Nat, Hi lo a (Go.Proofs.YtlkmhmiamdbhcabGreat.putF w g o f s)
  | 0 => h
  | s + 1 => (Hi.putF h hg o f s).set hg
/-- The world with twelve cells laid. -/
def putD (w : World) (b o : Nat) (d : Don) (s : Value) : World := (putF w b o (d.nums.getD · 0) 11).setCell ⟨b, o + 11, none⟩ s
theorem putD_other (w : World) (b o : Nat) (d : Don) (s : Value) (b' o' : Nat) (h : b ≠ b' ∨ o' < o ∨ o + 12 ≤ o') : (putD w b o d s).cell? ⟨b', o', none⟩ = w.cell? ⟨b', o', none⟩ := by
  unfold putD; rw [World.cell?_setCell_other _ _ _ _ (addr_ne (by omega)), putF_other w b o _ b' o' 11 (by omega)]
theorem putD_frozen (w : World) (b o : Nat) (d : Don) (s : Value) (a : Addr) : (putD w b o d s).frozen? a = w.frozen? a := by
  unfold putD
  have := putF_frozen w b o (d.nums.getD · 0) a 11
  simpa [go_sem] using this
theorem putD_size (w : World) (b o : Nat) (d : Don) (s : Value) : (putD w b o d s).heap.size = w.heap.size := by
  unfold putD
  have := putF_size w b o (d.nums.getD · 0) 11
  simpa using this
theorem putD_num {w : World} {b o : Nat} {d : Don} {s : Value} (h : ∀ j, j < 12 → ∃ v, w.cell? ⟨b, o + j, none⟩ = some v) (j : Nat) (hj : j < 11) : (putD w b o d s).cell? ⟨b, o + j, none⟩ = some (.int .i64 (d.nums.getD j 0)) := by
  unfold putD; rw [World.cell?_setCell_other _ _ _ _ (addr_ne (by omega))]
  exact putF_at w b o _ 11 (fun j hj => h j (by omega)) j hj
theorem putD_end {w : World} {b o : Nat} {d : Don} {s : Value} (h : ∀ j, j < 12 → ∃ v, w.cell? ⟨b, o + j, none⟩ = some v) : (putD w b o d s).cell? ⟨b, o + 11, none⟩ = some s := by
  unfold putD; obtain ⟨v, hv⟩ := h 11 (by omega)
  exact World.cell?_setCell_same _ _ _ ((putF_other w b o _ b (o + 11) 11 (by omega)).trans hv)
theorem Up.putD {a w : World} {b : Nat} (h : Up a w) (hb : a.heap.size ≤ b) (o : Nat) (d : Don) (s : Value) : Up a (Go.Proofs.YtlkmhmiamdbhcabGreat.putD w b o d s) := (h.putF hb o _ 11).setCell hb _
theorem Hi.putD {lo b : Nat} {a w : World} (h : Hi lo a w) (hb : b < lo) (o : Nat) (d : Don) (s : Value) : Hi lo a (Go.Proofs.YtlkmhmiamdbhcabGreat.putD w b o d s) := (h.putF hb o _ 11).set hb
/-- What was done, of the call's own: its cells, and its list in a block from lo on. -/
def DonF (w : World) (lo b o : Nat) (d : Don) : Prop :=
  ∃ g n, (w.cell? ⟨b, o, none⟩ = some (.int .i64 d.it.ev.t) ∧ w.cell? ⟨b, o + 1, none⟩ = some (.int .i64 d.it.ev.to) ∧ w.cell? ⟨b, o + 2, none⟩ = some (.int .i64 d.it.ev.fr) ∧ w.cell? ⟨b, o + 3, none⟩ = some (.int .i64 d.it.ev.sq) ∧ w.cell? ⟨b, o + 4, none⟩ = some (.int .i64 d.it.ev.kd) ∧ w.cell? ⟨b, o + 5, none⟩ = some (.int .i64 d.it.ev.dt) ∧ w.cell? ⟨b, o + 6, none⟩ = some (.int .i64 d.it.s) ∧ w.cell? ⟨b, o + 7, none⟩ = some (.int .i64 d.bf.s) ∧ w.cell? ⟨b, o + 8, none⟩ = some (.int .i64 d.bf.sq) ∧ w.cell? ⟨b, o + 9, none⟩ = some (.int .i64 d.bf.ct) ∧ w.cell? ⟨b, o + 10, none⟩ = some (.int .i64 d.s) ∧ w.cell? ⟨b, o + 11, none⟩ = some (.slice (some ⟨g, 0, none⟩) n n)) ∧ n ≤ 9223372036854775807 ∧ NewI w lo g n d.sent
theorem DonF.at_ {w : World} {lo b o : Nat} {d : Don} (h : DonF w lo b o d) : DonAt w b o d := by
  obtain ⟨g, n, hc, hn, hv⟩ := h
  exact ⟨_, n, n, hc, hn, hv.v⟩
theorem DonF.keep {w w' : World} {lo b o : Nat} {d : Don} (h : DonF w lo b o d) (k : ∀ j, j < 12 → w'.cell? ⟨b, o + j, none⟩ = w.cell? ⟨b, o + j, none⟩) (v : ∀ {g n : Nat} {xs : List Rec}, NewI w lo g n xs → NewI w' lo g n xs) : DonF w' lo b o d := by
  obtain ⟨g, n, ⟨h0, h1, h2, h3, h4, h5, h6, h7, h8, h9, h10, h11⟩, hn, hv⟩ := h
  exact ⟨g, n, ⟨(k 0 (by omega)).trans h0, (k 1 (by omega)).trans h1, (k 2 (by omega)).trans h2, (k 3 (by omega)).trans h3, (k 4 (by omega)).trans h4, (k 5 (by omega)).trans h5, (k 6 (by omega)).trans h6, (k 7 (by omega)).trans h7, (k 8 (by omega)).trans h8, (k 9 (by omega)).trans h9, (k 10 (by omega)).trans h10, (k 11 (by omega)).trans h11⟩, hn, v hv⟩
theorem DonF.up {w w' : World} {lo b o : Nat} {d : Don} (h : DonF w lo b o d) (u : Up w w') (hb : b < w.heap.size) : DonF w' lo b o d := h.keep (fun _ _ => u.cells _ _ hb) (fun x => x.up u)
/-- Rows of the call's own. -/
structure DonsF (w : World) (lo g n : Nat) (ds : List Don) : Prop where
  lo_ : lo ≤ g
  len : ds.length = n
  big : n ≤ 9223372036854775807
  lt : g < w.heap.size
  at_ : ∀ i, i < n → DonF w (g + 1) g (i * 12) (ds.getD i default)
  free : ∀ j, j < n * 12 → w.frozen? ⟨g, j, none⟩ = false
theorem DonsF.dons {w : World} {lo g n : Nat} {ds : List Don} (h : DonsF w lo g n ds) : Dons w (some ⟨g, 0, none⟩) n ds :=
  ⟨h.len, h.big, fun _ => ⟨g, 0, rfl, h.lt, fun i hi => by rw [Nat.zero_add]; exact (h.at_ i hi).at_⟩⟩
theorem DonsF.up {w w' : World} {lo g n : Nat} {ds : List Don} (h : DonsF w lo g n ds) (u : Up w w') : DonsF w' lo g n ds :=
  ⟨h.lo_, h.len, h.big, Nat.lt_of_lt_of_le h.lt u.size, fun i hi => (h.at_ i hi).up u h.lt, fun j hj => (u.frozens _ _ h.lt).trans (h.free j hj)⟩
theorem DonsF.hi {w w' : World} {lo g n : Nat} {ds : List Don} (h : DonsF w lo g n ds) (k : Hi lo w w') : DonsF w' lo g n ds :=
  ⟨h.lo_, h.len, h.big, Nat.lt_of_lt_of_le h.lt k.size, fun i hi => (h.at_ i hi).keep (fun _ _ => k.cell h.lo_ h.lt) (fun x => x.hi (k.mono (by have := h.lo_; omega))), fun j hj => (k.frozen h.lo_ h.lt).trans (h.free j hj)⟩
/-- The block g on the way: k of its n rows are laid. -/
structure PartD (w : World) (g n k : Nat) (ds : List Don) : Prop where
  lt : g < w.heap.size
  at_ : ∀ i, i < k → DonF w (g + 1) g (i * 12) (ds.getD i default)
  some_ : ∀ j, j < n * 12 → ∃ v, w.cell? ⟨g, j, none⟩ = some v
  free : ∀ j, j < n * 12 → w.frozen? ⟨g, j, none⟩ = false
theorem PartD.begin (w : World) (n : Nat) (t : TypeId) (ds : List Don) (z : Array Value) : PartD (w.alloc (.cells (madeCells z (n * 12)) t)) w.heap.size n 0 ds :=
  ⟨by simp, fun i hi => absurd hi (by omega), fun j hj => (made_cell w _ _ t j hj).1, fun j hj => (made_cell w _ _ t j hj).2⟩
theorem PartD.up {w w' : World} {g n k : Nat} {ds : List Don} (h : PartD w g n k ds) (u : Up w w') : PartD w' g n k ds :=
  ⟨Nat.lt_of_lt_of_le h.lt u.size, fun i hi => (h.at_ i hi).up u h.lt, fun j hj => by obtain ⟨v, hv⟩ := h.some_ j hj; exact ⟨v, (u.cells _ _ h.lt).trans hv⟩, fun j hj => (u.frozens _ _ h.lt).trans (h.free j hj)⟩
theorem putD_some {w : World} {g o : Nat} {d : Don} {s : Value} {b j : Nat} {v : Value} (h : w.cell? ⟨b, j, none⟩ = some v) : ∃ v, (putD w g o d s).cell? ⟨b, j, none⟩ = some v := by
  unfold putD
  have : ∀ q, ∃ v, (putF w g o (d.nums.getD · 0) q).cell? ⟨b, j, none⟩ = some v := fun q => by
    induction q with
    | zero => exact ⟨v, h⟩
    | succ q ih =>
      obtain ⟨v, hv⟩ := ih
      exact setCell_some hv
  obtain ⟨v, hv⟩ := this 11
  exact setCell_some hv
theorem PartD.put {w : World} {g n k g' n' : Nat} {ds : List Don} {d : Don} (h : PartD w g n k ds) (hd : ds.getD k default = d) (hk : k < n) (hn : n' ≤ 9223372036854775807) (ho : NewI w (g + 1) g' n' d.sent) :
    PartD (putD w g (k * 12) d (.slice (some ⟨g', 0, none⟩) n' n')) g n (k + 1) ds := by
  have HH : Hi (g + 1) w (putD w g (k * 12) d (.slice (some ⟨g', 0, none⟩) n' n')) := (Hi.refl _ _).putD (by omega) _ _ _
  refine ⟨by rw [putD_size]; exact h.lt, fun i hi => ?_, fun j hj => ?_, fun j hj => (putD_frozen _ _ _ _ _ _).trans (h.free j hj)⟩
  · by_cases hik : i = k
    · subst hik
      rw [hd]
      have hs : ∀ j, j < 12 → ∃ v, w.cell? ⟨g, i * 12 + j, none⟩ = some v := fun j hj => h.some_ _ (by omega)
      exact ⟨g', n', ⟨putD_num hs 0 (by omega), putD_num hs 1 (by omega), putD_num hs 2 (by omega), putD_num hs 3 (by omega), putD_num hs 4 (by omega), putD_num hs 5 (by omega), putD_num hs 6 (by omega), putD_num hs 7 (by omega), putD_num hs 8 (by omega), putD_num hs 9 (by omega), putD_num hs 10 (by omega), putD_end hs⟩, hn, ho.hi HH⟩
    · exact (h.at_ i (by omega)).keep (fun j hj => putD_other _ _ _ _ _ _ _ (by omega)) (fun x => x.hi HH)
  · obtain ⟨v, hv⟩ := h.some_ j hj
    exact putD_some hv
def NewDons (ds : List Don) (n : Nat) (w : World) (x : Ending) (w' : World) : Prop :=
  ∃ g, x = .returned (.slice (some ⟨g, 0, none⟩) n n) ∧ DonsF w' w.heap.size g n ds ∧ Up w w'
set_option maxHeartbeats 4000000 in
theorem toDonS_any (A : Option Addr) (n cap : Nat) (ds : List Don) (w : World) (hn : n ≤ 1048576) (hE : Dons w A n ds) (hS : SmallD ds) :
    Calls Tryz.prog 31 #[.slice A n cap] w (NewDons ds n w) := by
  obtain ⟨i0, hi, hz0, hz1, hz2⟩ := info_parts info117
  have hmk := fun W => run_make_rowN (P := Tryz.prog) 42 117 i0 _ Tryz.underlying42 hi hz0 .i64 .i64 n n (Nat.le_refl _) (by rw [hz2]; omega) (by omega) W
  rw [hz1] at hmk
  have HE := Lib.hid hE
  have LE := Lib.hid hE.1
  have SM := Lib.hid hS
  have CL := Lib.hid (fun r A n c W a b => toDon_any r A n c W a b)
  clear hE hi hz0 hz1 hz2 hS
  go_enter Tryz.func31, Tryz.ntmps31
  go_wp2
  generalize hg : w.heap.size = g
  have HG := Lib.hid (Nat.le_of_eq hg)
  go_loopw [4] (fun i wr => (∃ k : Nat, k ≤ n ∧ i = .int .i64 k ∧ PartD wr g n k ds) ∧ Up w wr) (fun i _ => n - (intOf i).toNat)
  case atStart =>
    refine ⟨⟨0, by omega, rfl, ?_⟩, (Up.refl _).alloc _⟩; subst hg
    exact PartD.begin w n _ ds _
  case round =>
    obtain ⟨⟨k, hk, rfl, hp⟩, ur⟩ := hrel
    have HP := Lib.hid hp
    have UR := Lib.hid ur
    clear hp
    by_cases hlt : k < n
    · obtain ⟨b, off, hA, hb, hc⟩ := (HE.out.up ur).2.2 (by omega)
      subst hA
      have a0 := hc k hlt
      clear hc ur
      have sm := SM.out k (by rw [LE.out]; exact hlt)
      have cl := CL.out (ds.getD k default)
      generalize hpk : ds.getD k default = p at a0 cl sm
      have HE' := Lib.hid hpk
      clear hpk; obtain ⟨A3, n3, c3, ⟨p0, p1, p2, p3, p4, p5, p6, p7, p8, p9, p10, p11⟩, hn3, he3⟩ := a0
      have hn3' : n3 ≤ 1048576 := by rw [← he3.1]; exact sm
      have cl2 := cl A3 n3 c3 wr (by omega) he3
      obtain ⟨⟨⟨e0, e1, e2, e3, e4, e5⟩, e6⟩, ⟨e7, e8, e9⟩, e10, px⟩ := p; unfold NewDon at cl2; unfold Don.v at cl2; dsimp only at p0 p1 p2 p3 p4 p5 p6 p7 p8 p9 p10 p11 cl2
      have C := Lib.hid cl2
      clear cl cl2 he3 sm
      have hgl : g < wr.heap.size := HP.out.lt
      have i4 : (k : Int) < n := by omega
      have i5 : IntKind.i64.wrap ((k : Int) + 1) = (k : Int) + 1 := IntWalk.i64_in _ (by omega)
      go_wp2_with fail
      refine C.out.mono ?_; rintro x wA ⟨g', rfl, hg', hv', ho', uA⟩
      have P := HP.out.up uA
      have NI := Lib.hid (show NewI wA (g + 1) g' n3 px from ⟨by omega, hv', ho'⟩)
      have UA := Lib.hid (UR.out.trans uA)
      obtain ⟨v0, c0⟩ := P.some_ (k * 12) (by omega); obtain ⟨v1, c1⟩ := P.some_ (k * 12 + 1) (by omega); obtain ⟨v2, c2⟩ := P.some_ (k * 12 + 2) (by omega); obtain ⟨v3, c3⟩ := P.some_ (k * 12 + 3) (by omega); obtain ⟨v4, c4⟩ := P.some_ (k * 12 + 4) (by omega); obtain ⟨v5, c5⟩ := P.some_ (k * 12 + 5) (by omega); obtain ⟨v6, c6⟩ := P.some_ (k * 12 + 6) (by omega); obtain ⟨v7, c7⟩ := P.some_ (k * 12 + 7) (by omega); obtain ⟨v8, c8⟩ := P.some_ (k * 12 + 8) (by omega); obtain ⟨v9, c9⟩ := P.some_ (k * 12 + 9) (by omega); obtain ⟨v10, c10⟩ := P.some_ (k * 12 + 10) (by omega); obtain ⟨v11, c11⟩ := P.some_ (k * 12 + 11) (by omega)
      have f0 := P.free (k * 12) (by omega)
      have f1 := P.free (k * 12 + 1) (by omega)
      have f2 := P.free (k * 12 + 2) (by omega)
      have f3 := P.free (k * 12 + 3) (by omega)
      have f4 := P.free (k * 12 + 4) (by omega)
      have f5 := P.free (k * 12 + 5) (by omega)
      have f6 := P.free (k * 12 + 6) (by omega)
      have f7 := P.free (k * 12 + 7) (by omega)
      have f8 := P.free (k * 12 + 8) (by omega)
      have f9 := P.free (k * 12 + 9) (by omega)
      have f10 := P.free (k * 12 + 10) (by omega)
      have f11 := P.free (k * 12 + 11) (by omega)
      have HP2 := Lib.hid P
      clear P p0 p1 p2 p3 p4 p5 p6 p7 p8 p9 p10 p11 ho' hv' uA hg'; go_wp2
      go_roundw
      case rel =>
        have hq := HP2.out.put HE'.out hlt hn3 NI.out
        have hu := UA.out.putD (b := g) HG.out (k * 12) ⟨⟨⟨e0, e1, e2, e3, e4, e5⟩, e6⟩, ⟨e7, e8, e9⟩, e10, px⟩ (.slice (some ⟨g', 0, none⟩) n3 n3)
        unfold putD at hq hu; simp only [putF, Don.nums, Nat.add_zero, List.getD_cons_zero, List.getD_cons_succ] at hq hu
        exact ⟨⟨k + 1, by omega, by first | rfl | go_num, hq⟩, hu⟩
      case measure => (simp [intOf]; try omega)
    · have hkn : k = n := by omega
      have i4 : ¬ (k : Int) < n := by omega
      clear ur; go_wp2; go_ret; refine ⟨g, rfl, ⟨by omega, LE.out, by omega, HP.out.lt, fun i hi => HP.out.at_ i (by omega), HP.out.free⟩, UR.out⟩
end Go.Proofs.YtlkmhmiamdbhcabGreat

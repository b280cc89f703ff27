/-
  What impl.HstOk returns, in one sentence: whether the model is one and the host is one; for every model and host that lie in memory.
  What toHstDone returns, in one sentence: the same over a new list; for all that lies in memory.
-/
import Derived.Test.YtjdoealcmokakaaGreatDLEhok02
import Derived.Test.YtjdoealcmokakaaGreatDLEhok25
import Derived.Test.YtjdoealcmokakaaGreatDLEhok29
namespace Go.Proofs.YtjdoealcmokakaaGreat
set_option maxRecDepth 100000
open Go.RowKit
set_option maxHeartbeats 4000000 in
theorem implHstOk_any (A : Option Addr) (n c : Nat) (B : Option Addr) (k d : Nat) (m : Mdl) (comp w0 w1 w2 ids : Int) (Ad : Option Addr) (nd cd : Nat) (Aw : Option Addr) (nw cw : Nat) (Aa : Option Addr) (na ca : Nat) (Ak : Option Addr) (nk ck : Nat) (ds : List Don) (ws vs : List Rec) (ks : List Kep) (w : World) (hM : MdlV w A n B k m) (hD : Dons w Ad nd ds) (hW : Recs w Aw nw ws) (hA : Recs w Aa na vs) (hK : Keps w Ak nk ks) (hl : nd ≤ 1048576 ∧ nw ≤ 1048576 ∧ na ≤ 1048576 ∧ nk ≤ 1048576) (hS : SmallD ds) :
    Calls Tryz.prog 11 #[.agg #[.slice A n c, .slice B k d, .int .i64 m.til], .int .i64 comp, .agg #[.int .i64 w0, .int .i64 w1, .int .i64 w2, .int .i64 ids, .slice Ad nd cd, .slice Aw nw cw, .slice Aa na ca, .slice Ak nk ck]] w fun x w' => x = .returned (.bool (mdlB m && hostB m comp ⟨⟨w0, w1, w2⟩, ids, ds, ws, vs, ks⟩)) ∧ Up w w' := by
  have CH := Lib.hid (fun mb W (u : Up w W) (hm : mdlB m = true) (hMa : Mach W mb m) => hosts_any mb m comp w0 w1 w2 ids Ad nd cd Aw nw cw Aa na ca Ak nk ck ds ws vs ks W hMa hm (mdlB_few hm).2 (hD.up u) (hW.up u) (hA.up u) (hK.up u) hl hS)
  have CN := Lib.hid (fun W (u : Up w W) => newMachine_any A n c B k d m W (hM.up u))
  have X2 := Lib.hid (Blk.new (w.alloc (.cells #[.slice A n c, .slice B k d, .int .i64 m.til] 39)) #[.int .i64 w0, .int .i64 w1, .int .i64 w2, .int .i64 ids, .slice Ad nd cd, .slice Aw nw cw, .slice Aa na ca, .slice Ak nk ck] 46)
  simp only [World.size_alloc] at X2
  have U := Lib.hid (((Up.refl w).alloc (.cells #[.slice A n c, .slice B k d, .int .i64 m.til] 39)).alloc (.cells #[.int .i64 w0, .int .i64 w1, .int .i64 w2, .int .i64 ids, .slice Ad nd cd, .slice Aw nw cw, .slice Aa na ca, .slice Ak nk ck] 46))
  clear hM hD hW hA hK hl hS
  generalize hostB m comp ⟨⟨w0, w1, w2⟩, ids, ds, ws, vs, ks⟩ = hb at CH ⊢
  generalize hmb : mdlB m = g
  have HG := Lib.hid hmb
  clear hmb
  go_enter Tryz.func11, Tryz.ntmps11
  go_wp2_with fail
  refine (CN.out _ U.out).mono ?_; rintro x wN ⟨u1, ⟨hg, rfl⟩ | ⟨hg, bm, rfl, hb0, hMa⟩⟩
  · obtain rfl : g = false := HG.out.symm.trans hg
    have U1 := Lib.hid ((U.out.trans u1).alloc (.cells #[.map none, .int .i64 0, .int .i64 0] 84))
    clear u1 CH CN; go_wp2; go_ret
    exact ⟨rfl, U1.out⟩
  · obtain rfl : g = true := HG.out.symm.trans hg
    have CHm := Lib.hid (fun W (u : Up w W) (u' : Up wN W) => CH.out bm W u hg (hMa.up u'))
    have U1 := Lib.hid ((U.out.trans u1).alloc (.cells #[.map (some bm), .int .i64 m.rules.length, .int .i64 m.til] 84))
    have X2 := Lib.hid ((X2.out.up u1).alloc (.cells #[.map (some bm), .int .i64 m.rules.length, .int .i64 m.til] 84))
    clear u1 hb0 hMa hg CH CN
    have z0 := X2.out.cell (j := 0) rfl
    have z1 := X2.out.cell (j := 1) rfl
    have z2 := X2.out.cell (j := 2) rfl
    have z3 := X2.out.cell (j := 3) rfl
    have z4 := X2.out.cell (j := 4) rfl
    have z5 := X2.out.cell (j := 5) rfl
    have z6 := X2.out.cell (j := 6) rfl
    have z7 := X2.out.cell (j := 7) rfl
    have lz := X2.out.lt
    go_wp2_with fail
    refine (CHm.out _ U1.out ((Up.refl _).alloc _)).mono ?_; rintro x w2 ⟨rfl, u2⟩
    have U2 := Lib.hid (U1.out.trans u2)
    clear u2; go_wp2; go_ret
    exact ⟨ret_bool (by simp), U2.out⟩
end Go.Proofs.YtjdoealcmokakaaGreat

namespace Go.Proofs.YtjdoealcmokakaaGreat
set_option maxRecDepth 100000
open Go.RowKit
/-- What was done over a new list of what was sent. -/
def NewDon (d : Don) (n : Nat) (w : World) (x : Ending) (w' : World) : Prop :=
  ∃ g, x = .returned (d.v (.slice (some ⟨g, 0, none⟩) n n)) ∧ w.heap.size ≤ g ∧ Recs w' (some ⟨g, 0, none⟩) n d.sent ∧ IntsOwn w' g (n * 7) ∧ Up w w'
set_option maxHeartbeats 800000 in
theorem toDon_any (a : Don) (A : Option Addr) (n c : Nat) (w : World) (hn : n ≤ 1048576) (hE : Recs w A n a.sent) : Calls Tryz.prog 75 #[a.v (.slice A n c)] w (NewDon a n w) := by
  have c0 := fun W => toItR_any a.it W
  have c1 := fun W => toCst_any a.bf W
  have C2 := Lib.hid (fun W (u : Up w W) => toI_any A n c a.sent W hn (hE.up u))
  unfold Don.v NewDon; unfold Don.v; obtain ⟨⟨⟨a0, a1, a2, a3, a4, a5⟩, a6⟩, ⟨a7, a8, a9⟩, a10, ax⟩ := a; unfold Rec.v at c0; unfold Cst.v at c1; dsimp only at c0 c1 C2 ⊢
  have C0 := Lib.hid c0
  have C1 := Lib.hid c1
  clear c0 c1 hE
  have X := Lib.hid (((Blk.new w #[.int .i64 a0, .int .i64 a1, .int .i64 a2, .int .i64 a3, .int .i64 a4, .int .i64 a5, .int .i64 a6, .int .i64 a7, .int .i64 a8, .int .i64 a9, .int .i64 a10, .slice A n c] 118).alloc (.cells #[.int .i64 0, .int .i64 0, .int .i64 0, .int .i64 0, .int .i64 0, .int .i64 0, .int .i64 0, .int .i64 0, .int .i64 0, .int .i64 0, .int .i64 0, .slice none 0 0] 125)).alloc (.cells #[.int .i64 0, .int .i64 0, .int .i64 0, .int .i64 0, .int .i64 0, .int .i64 0, .int .i64 0, .int .i64 0, .int .i64 0, .int .i64 0, .int .i64 0, .slice none 0 0] 125))
  have R := Lib.hid ((Blk.new (w.alloc (.cells #[.int .i64 a0, .int .i64 a1, .int .i64 a2, .int .i64 a3, .int .i64 a4, .int .i64 a5, .int .i64 a6, .int .i64 a7, .int .i64 a8, .int .i64 a9, .int .i64 a10, .slice A n c] 118)) #[.int .i64 0, .int .i64 0, .int .i64 0, .int .i64 0, .int .i64 0, .int .i64 0, .int .i64 0, .int .i64 0, .int .i64 0, .int .i64 0, .int .i64 0, .slice none 0 0] 125).alloc (.cells #[.int .i64 0, .int .i64 0, .int .i64 0, .int .i64 0, .int .i64 0, .int .i64 0, .int .i64 0, .int .i64 0, .int .i64 0, .int .i64 0, .int .i64 0, .slice none 0 0] 125))
  have O := Lib.hid (Blk.new ((w.alloc (.cells #[.int .i64 a0, .int .i64 a1, .int .i64 a2, .int .i64 a3, .int .i64 a4, .int .i64 a5, .int .i64 a6, .int .i64 a7, .int .i64 a8, .int .i64 a9, .int .i64 a10, .slice A n c] 118)).alloc (.cells #[.int .i64 0, .int .i64 0, .int .i64 0, .int .i64 0, .int .i64 0, .int .i64 0, .int .i64 0, .int .i64 0, .int .i64 0, .int .i64 0, .int .i64 0, .slice none 0 0] 125)) #[.int .i64 0, .int .i64 0, .int .i64 0, .int .i64 0, .int .i64 0, .int .i64 0, .int .i64 0, .int .i64 0, .int .i64 0, .int .i64 0, .int .i64 0, .slice none 0 0] 125)
  simp only [World.size_alloc] at R O
  have U := Lib.hid ((((Up.refl w).alloc (.cells #[.int .i64 a0, .int .i64 a1, .int .i64 a2, .int .i64 a3, .int .i64 a4, .int .i64 a5, .int .i64 a6, .int .i64 a7, .int .i64 a8, .int .i64 a9, .int .i64 a10, .slice A n c] 118)).alloc (.cells #[.int .i64 0, .int .i64 0, .int .i64 0, .int .i64 0, .int .i64 0, .int .i64 0, .int .i64 0, .int .i64 0, .int .i64 0, .int .i64 0, .int .i64 0, .slice none 0 0] 125)).alloc (.cells #[.int .i64 0, .int .i64 0, .int .i64 0, .int .i64 0, .int .i64 0, .int .i64 0, .int .i64 0, .int .i64 0, .int .i64 0, .int .i64 0, .int .i64 0, .slice none 0 0] 125))
  have le_ : w.heap.size + 3 ≤ (((w.alloc (.cells #[.int .i64 a0, .int .i64 a1, .int .i64 a2, .int .i64 a3, .int .i64 a4, .int .i64 a5, .int .i64 a6, .int .i64 a7, .int .i64 a8, .int .i64 a9, .int .i64 a10, .slice A n c] 118)).alloc (.cells #[.int .i64 0, .int .i64 0, .int .i64 0, .int .i64 0, .int .i64 0, .int .i64 0, .int .i64 0, .int .i64 0, .int .i64 0, .int .i64 0, .int .i64 0, .slice none 0 0] 125)).alloc (.cells #[.int .i64 0, .int .i64 0, .int .i64 0, .int .i64 0, .int .i64 0, .int .i64 0, .int .i64 0, .int .i64 0, .int .i64 0, .int .i64 0, .int .i64 0, .slice none 0 0] 125)).heap.size := by simp
  go_enter Tryz.func75, Tryz.ntmps75
  go_wp2_with fail
  generalize ((w.alloc (.cells #[.int .i64 a0, .int .i64 a1, .int .i64 a2, .int .i64 a3, .int .i64 a4, .int .i64 a5, .int .i64 a6, .int .i64 a7, .int .i64 a8, .int .i64 a9, .int .i64 a10, .slice A n c] 118)).alloc (.cells #[.int .i64 0, .int .i64 0, .int .i64 0, .int .i64 0, .int .i64 0, .int .i64 0, .int .i64 0, .int .i64 0, .int .i64 0, .int .i64 0, .int .i64 0, .slice none 0 0] 125)).alloc (.cells #[.int .i64 0, .int .i64 0, .int .i64 0, .int .i64 0, .int .i64 0, .int .i64 0, .int .i64 0, .int .i64 0, .int .i64 0, .int .i64 0, .int .i64 0, .slice none 0 0] 125) = W at *
  generalize hbO : w.heap.size + 1 + 1 = bO at *
  generalize hbR : w.heap.size + 1 = bR at *
  generalize hbX : w.heap.size = bX at *
  have n1 : bX ≠ bR := by omega
  have n2 : bX ≠ bO := by omega
  have n3 : bR ≠ bO := by omega
  have n4 : bO ≠ bX := by omega
  have n5 : bO ≠ bR := by omega
  have n6 : bR ≠ bX := by omega
  have LT := Lib.hid (show w.heap.size ≤ bR ∧ w.heap.size ≤ bO ∧ bR < bX + 3 ∧ bO < bX + 3 by omega)
  clear hbO hbR; refine (C0.out _).mono ?_; rintro x w1_ ⟨rfl, u⟩
  have U := Lib.hid (U.out.trans u)
  have X := Lib.hid (X.out.up u)
  have R := Lib.hid (R.out.up u)
  have O := Lib.hid (O.out.up u)
  have le_ : bX + 3 ≤ w1_.heap.size := Nat.le_trans le_ u.size
  clear u
  have O2 := Lib.hid (Blk.cast (arr2 := #[.int .i64 a0, .int .i64 a1, .int .i64 a2, .int .i64 a3, .int .i64 a4, .int .i64 a5, .int .i64 a6, .int .i64 0, .int .i64 0, .int .i64 0, .int .i64 0, .slice none 0 0]) (((((((O.out.set 0 (.int .i64 a0)).set 1 (.int .i64 a1)).set 2 (.int .i64 a2)).set 3 (.int .i64 a3)).set 4 (.int .i64 a4)).set 5 (.int .i64 a5)).set 6 (.int .i64 a6)) (by simp))
  have R2 := Lib.hid (((((((R.out.far (b' := bO) 0 (.int .i64 a0) n3).far (b' := bO) 1 (.int .i64 a1) n3).far (b' := bO) 2 (.int .i64 a2) n3).far (b' := bO) 3 (.int .i64 a3) n3).far (b' := bO) 4 (.int .i64 a4) n3).far (b' := bO) 5 (.int .i64 a5) n3).far (b' := bO) 6 (.int .i64 a6) n3)
  have X2 := Lib.hid (((((((X.out.far (b' := bO) 0 (.int .i64 a0) n2).far (b' := bO) 1 (.int .i64 a1) n2).far (b' := bO) 2 (.int .i64 a2) n2).far (b' := bO) 3 (.int .i64 a3) n2).far (b' := bO) 4 (.int .i64 a4) n2).far (b' := bO) 5 (.int .i64 a5) n2).far (b' := bO) 6 (.int .i64 a6) n2)
  have U2 := Lib.hid (((((((U.out.setCell (p := ⟨bO, 0, none⟩) (LT.out.2.1) (.int .i64 a0)).setCell (p := ⟨bO, 1, none⟩) (LT.out.2.1) (.int .i64 a1)).setCell (p := ⟨bO, 2, none⟩) (LT.out.2.1) (.int .i64 a2)).setCell (p := ⟨bO, 3, none⟩) (LT.out.2.1) (.int .i64 a3)).setCell (p := ⟨bO, 4, none⟩) (LT.out.2.1) (.int .i64 a4)).setCell (p := ⟨bO, 5, none⟩) (LT.out.2.1) (.int .i64 a5)).setCell (p := ⟨bO, 6, none⟩) (LT.out.2.1) (.int .i64 a6))
  have HS2 := Lib.hid ((((((((Hi.refl (bX + 3) w1_).set (b := bO) (o := 0) (u := .int .i64 a0) LT.out.2.2.2).set (b := bO) (o := 1) (u := .int .i64 a1) LT.out.2.2.2).set (b := bO) (o := 2) (u := .int .i64 a2) LT.out.2.2.2).set (b := bO) (o := 3) (u := .int .i64 a3) LT.out.2.2.2).set (b := bO) (o := 4) (u := .int .i64 a4) LT.out.2.2.2).set (b := bO) (o := 5) (u := .int .i64 a5) LT.out.2.2.2).set (b := bO) (o := 6) (u := .int .i64 a6) LT.out.2.2.2)
  have o0 := O.out.cell (j := 0) rfl
  have o1 := O.out.cell (j := 1) rfl
  have o2 := O.out.cell (j := 2) rfl
  have o3 := O.out.cell (j := 3) rfl
  have o4 := O.out.cell (j := 4) rfl
  have o5 := O.out.cell (j := 5) rfl
  have o6 := O.out.cell (j := 6) rfl
  have o7 := O.out.cell (j := 7) rfl
  have o8 := O.out.cell (j := 8) rfl
  have o9 := O.out.cell (j := 9) rfl
  have o10 := O.out.cell (j := 10) rfl
  have o11 := O.out.cell (j := 11) rfl
  have fO := O.out.frozen
  have lo_ := O.out.lt
  have x7 := X.out.cell (j := 7) rfl
  have x8 := X.out.cell (j := 8) rfl
  have x9 := X.out.cell (j := 9) rfl
  have lx := X.out.lt
  have le2 : bX + 3 ≤ ((((((((w1_.setCell ⟨bO, 0, none⟩ (.int .i64 a0)).setCell ⟨bO, 1, none⟩ (.int .i64 a1)).setCell ⟨bO, 2, none⟩ (.int .i64 a2)).setCell ⟨bO, 3, none⟩ (.int .i64 a3)).setCell ⟨bO, 4, none⟩ (.int .i64 a4)).setCell ⟨bO, 5, none⟩ (.int .i64 a5)).setCell ⟨bO, 6, none⟩ (.int .i64 a6))).heap.size := by simpa using le_
  clear le_
  go_wp2_with fail
  generalize (((((((w1_.setCell ⟨bO, 0, none⟩ (.int .i64 a0)).setCell ⟨bO, 1, none⟩ (.int .i64 a1)).setCell ⟨bO, 2, none⟩ (.int .i64 a2)).setCell ⟨bO, 3, none⟩ (.int .i64 a3)).setCell ⟨bO, 4, none⟩ (.int .i64 a4)).setCell ⟨bO, 5, none⟩ (.int .i64 a5)).setCell ⟨bO, 6, none⟩ (.int .i64 a6)) = V0 at *
  have le_ := le2
  have O := O2
  have R := R2
  have X := X2
  have U := U2
  clear le2 O2 R2 X2 U2 HS2 fO lo_ lx x7 x8 x9 o0 o1 o2 o3 o4 o5 o6 o7 o8 o9 o10 o11; refine (C1.out _).mono ?_; rintro x w2_ ⟨rfl, u⟩
  have U := Lib.hid (U.out.trans u)
  have X := Lib.hid (X.out.up u)
  have R := Lib.hid (R.out.up u)
  have O := Lib.hid (O.out.up u)
  have le_ : bX + 3 ≤ w2_.heap.size := Nat.le_trans le_ u.size
  clear u
  have O2 := Lib.hid (Blk.cast (arr2 := #[.int .i64 a0, .int .i64 a1, .int .i64 a2, .int .i64 a3, .int .i64 a4, .int .i64 a5, .int .i64 a6, .int .i64 a7, .int .i64 a8, .int .i64 a9, .int .i64 a10, .slice none 0 0]) ((((O.out.set 7 (.int .i64 a7)).set 8 (.int .i64 a8)).set 9 (.int .i64 a9)).set 10 (.int .i64 a10)) (by simp))
  have R2 := Lib.hid ((((R.out.far (b' := bO) 7 (.int .i64 a7) n3).far (b' := bO) 8 (.int .i64 a8) n3).far (b' := bO) 9 (.int .i64 a9) n3).far (b' := bO) 10 (.int .i64 a10) n3)
  have X2 := Lib.hid ((((X.out.far (b' := bO) 7 (.int .i64 a7) n2).far (b' := bO) 8 (.int .i64 a8) n2).far (b' := bO) 9 (.int .i64 a9) n2).far (b' := bO) 10 (.int .i64 a10) n2)
  have U2 := Lib.hid ((((U.out.setCell (p := ⟨bO, 7, none⟩) (LT.out.2.1) (.int .i64 a7)).setCell (p := ⟨bO, 8, none⟩) (LT.out.2.1) (.int .i64 a8)).setCell (p := ⟨bO, 9, none⟩) (LT.out.2.1) (.int .i64 a9)).setCell (p := ⟨bO, 10, none⟩) (LT.out.2.1) (.int .i64 a10))
  have HS2 := Lib.hid (((((Hi.refl (bX + 3) w2_).set (b := bO) (o := 7) (u := .int .i64 a7) LT.out.2.2.2).set (b := bO) (o := 8) (u := .int .i64 a8) LT.out.2.2.2).set (b := bO) (o := 9) (u := .int .i64 a9) LT.out.2.2.2).set (b := bO) (o := 10) (u := .int .i64 a10) LT.out.2.2.2)
  have o0 := O.out.cell (j := 0) rfl
  have o1 := O.out.cell (j := 1) rfl
  have o2 := O.out.cell (j := 2) rfl
  have o3 := O.out.cell (j := 3) rfl
  have o4 := O.out.cell (j := 4) rfl
  have o5 := O.out.cell (j := 5) rfl
  have o6 := O.out.cell (j := 6) rfl
  have o7 := O.out.cell (j := 7) rfl
  have o8 := O.out.cell (j := 8) rfl
  have o9 := O.out.cell (j := 9) rfl
  have o10 := O.out.cell (j := 10) rfl
  have o11 := O.out.cell (j := 11) rfl
  have fO := O.out.frozen
  have lo_ := O.out.lt
  have x10 := X.out.cell (j := 10) rfl
  have x11 := X.out.cell (j := 11) rfl
  have lx := X.out.lt
  have le2 : bX + 3 ≤ (((((w2_.setCell ⟨bO, 7, none⟩ (.int .i64 a7)).setCell ⟨bO, 8, none⟩ (.int .i64 a8)).setCell ⟨bO, 9, none⟩ (.int .i64 a9)).setCell ⟨bO, 10, none⟩ (.int .i64 a10))).heap.size := by simpa using le_
  clear le_
  go_wp2_with fail
  generalize ((((w2_.setCell ⟨bO, 7, none⟩ (.int .i64 a7)).setCell ⟨bO, 8, none⟩ (.int .i64 a8)).setCell ⟨bO, 9, none⟩ (.int .i64 a9)).setCell ⟨bO, 10, none⟩ (.int .i64 a10)) = V1 at *
  have le_ := le2
  have O := O2
  have R := R2
  have X := X2
  have U := U2
  clear le2 O2 R2 X2 U2 HS2 fO lo_ lx x10 x11 o0 o1 o2 o3 o4 o5 o6 o7 o8 o9 o10 o11
  have le_pre := le_
  refine (C2.out _ U.out).mono ?_; rintro x w3_ ⟨g, rfl, hg, hv, ho, u⟩
  have U := Lib.hid (U.out.trans u)
  have X := Lib.hid (X.out.up u)
  have R := Lib.hid (R.out.up u)
  have O := Lib.hid (O.out.up u)
  have le_ : bX + 3 ≤ w3_.heap.size := Nat.le_trans le_ u.size
  have N1 := Lib.hid (show NewI w3_ (bX + 3) g n ax from ⟨Nat.le_trans le_pre hg, hv, ho⟩)
  clear hg hv ho le_pre; clear u
  have O2 := Lib.hid (Blk.cast (arr2 := #[.int .i64 a0, .int .i64 a1, .int .i64 a2, .int .i64 a3, .int .i64 a4, .int .i64 a5, .int .i64 a6, .int .i64 a7, .int .i64 a8, .int .i64 a9, .int .i64 a10, .slice (some ⟨g, 0, none⟩) n n]) (O.out.set 11 (.slice (some ⟨g, 0, none⟩) n n)) (by simp))
  have R2 := Lib.hid (R.out.far (b' := bO) 11 (.slice (some ⟨g, 0, none⟩) n n) n3)
  have X2 := Lib.hid (X.out.far (b' := bO) 11 (.slice (some ⟨g, 0, none⟩) n n) n2)
  have U2 := Lib.hid (U.out.setCell (p := ⟨bO, 11, none⟩) (LT.out.2.1) (.slice (some ⟨g, 0, none⟩) n n))
  have HS2 := Lib.hid ((Hi.refl (bX + 3) w3_).set (b := bO) (o := 11) (u := .slice (some ⟨g, 0, none⟩) n n) LT.out.2.2.2)
  have N12 := Lib.hid (N1.out.hi HS2.out)
  have R3 := Lib.hid (Blk.cast (arr2 := #[.int .i64 a0, .int .i64 a1, .int .i64 a2, .int .i64 a3, .int .i64 a4, .int .i64 a5, .int .i64 a6, .int .i64 a7, .int .i64 a8, .int .i64 a9, .int .i64 a10, .slice (some ⟨g, 0, none⟩) n n]) ((((((((((((R2.out.set 0 (.int .i64 a0)).set 1 (.int .i64 a1)).set 2 (.int .i64 a2)).set 3 (.int .i64 a3)).set 4 (.int .i64 a4)).set 5 (.int .i64 a5)).set 6 (.int .i64 a6)).set 7 (.int .i64 a7)).set 8 (.int .i64 a8)).set 9 (.int .i64 a9)).set 10 (.int .i64 a10)).set 11 (.slice (some ⟨g, 0, none⟩) n n)) (by simp))
  have U3 := Lib.hid ((((((((((((U2.out.setCell (p := ⟨bR, 0, none⟩) (LT.out.1) (.int .i64 a0)).setCell (p := ⟨bR, 1, none⟩) (LT.out.1) (.int .i64 a1)).setCell (p := ⟨bR, 2, none⟩) (LT.out.1) (.int .i64 a2)).setCell (p := ⟨bR, 3, none⟩) (LT.out.1) (.int .i64 a3)).setCell (p := ⟨bR, 4, none⟩) (LT.out.1) (.int .i64 a4)).setCell (p := ⟨bR, 5, none⟩) (LT.out.1) (.int .i64 a5)).setCell (p := ⟨bR, 6, none⟩) (LT.out.1) (.int .i64 a6)).setCell (p := ⟨bR, 7, none⟩) (LT.out.1) (.int .i64 a7)).setCell (p := ⟨bR, 8, none⟩) (LT.out.1) (.int .i64 a8)).setCell (p := ⟨bR, 9, none⟩) (LT.out.1) (.int .i64 a9)).setCell (p := ⟨bR, 10, none⟩) (LT.out.1) (.int .i64 a10)).setCell (p := ⟨bR, 11, none⟩) (LT.out.1) (.slice (some ⟨g, 0, none⟩) n n))
  have HS3 := Lib.hid (((((((((((((Hi.refl (bX + 3) (w3_.setCell ⟨bO, 11, none⟩ (.slice (some ⟨g, 0, none⟩) n n))).set (b := bR) (o := 0) (u := .int .i64 a0) LT.out.2.2.1).set (b := bR) (o := 1) (u := .int .i64 a1) LT.out.2.2.1).set (b := bR) (o := 2) (u := .int .i64 a2) LT.out.2.2.1).set (b := bR) (o := 3) (u := .int .i64 a3) LT.out.2.2.1).set (b := bR) (o := 4) (u := .int .i64 a4) LT.out.2.2.1).set (b := bR) (o := 5) (u := .int .i64 a5) LT.out.2.2.1).set (b := bR) (o := 6) (u := .int .i64 a6) LT.out.2.2.1).set (b := bR) (o := 7) (u := .int .i64 a7) LT.out.2.2.1).set (b := bR) (o := 8) (u := .int .i64 a8) LT.out.2.2.1).set (b := bR) (o := 9) (u := .int .i64 a9) LT.out.2.2.1).set (b := bR) (o := 10) (u := .int .i64 a10) LT.out.2.2.1).set (b := bR) (o := 11) (u := .slice (some ⟨g, 0, none⟩) n n) LT.out.2.2.1)
  have N13 := Lib.hid (N12.out.hi HS3.out)
  have o0 := O.out.cell (j := 0) rfl
  have o1 := O.out.cell (j := 1) rfl
  have o2 := O.out.cell (j := 2) rfl
  have o3 := O.out.cell (j := 3) rfl
  have o4 := O.out.cell (j := 4) rfl
  have o5 := O.out.cell (j := 5) rfl
  have o6 := O.out.cell (j := 6) rfl
  have o7 := O.out.cell (j := 7) rfl
  have o8 := O.out.cell (j := 8) rfl
  have o9 := O.out.cell (j := 9) rfl
  have o10 := O.out.cell (j := 10) rfl
  have o11 := O.out.cell (j := 11) rfl
  have fO := O.out.frozen
  have lo_ := O.out.lt
  have r0 := R.out.cell (j := 0) rfl
  have r1 := R.out.cell (j := 1) rfl
  have r2 := R.out.cell (j := 2) rfl
  have r3 := R.out.cell (j := 3) rfl
  have r4 := R.out.cell (j := 4) rfl
  have r5 := R.out.cell (j := 5) rfl
  have r6 := R.out.cell (j := 6) rfl
  have r7 := R.out.cell (j := 7) rfl
  have r8 := R.out.cell (j := 8) rfl
  have r9 := R.out.cell (j := 9) rfl
  have r10 := R.out.cell (j := 10) rfl
  have r11 := R.out.cell (j := 11) rfl
  have fR := R.out.frozen
  have lr := R.out.lt
  go_wp2; clear o0 r0 o1 r1 o2 r2 o3 r3 o4 r4 o5 r5 o6 r6 o7 r7 o8 r8 o9 r9 o10 r10 o11 r11 fO fR lo_ lr
  generalize (((((((((((((w3_.setCell ⟨bO, 11, none⟩ (.slice (some ⟨g, 0, none⟩) n n)).setCell ⟨bR, 0, none⟩ (.int .i64 a0)).setCell ⟨bR, 1, none⟩ (.int .i64 a1)).setCell ⟨bR, 2, none⟩ (.int .i64 a2)).setCell ⟨bR, 3, none⟩ (.int .i64 a3)).setCell ⟨bR, 4, none⟩ (.int .i64 a4)).setCell ⟨bR, 5, none⟩ (.int .i64 a5)).setCell ⟨bR, 6, none⟩ (.int .i64 a6)).setCell ⟨bR, 7, none⟩ (.int .i64 a7)).setCell ⟨bR, 8, none⟩ (.int .i64 a8)).setCell ⟨bR, 9, none⟩ (.int .i64 a9)).setCell ⟨bR, 10, none⟩ (.int .i64 a10)).setCell ⟨bR, 11, none⟩ (.slice (some ⟨g, 0, none⟩) n n)) = WF at *
  obtain ⟨k0, k1, k2, k3, k4, k5, k6, k7, k8, k9, k10, k11⟩ := And.intro (R3.out.cell (j := 0) rfl) (And.intro (R3.out.cell (j := 1) rfl) (And.intro (R3.out.cell (j := 2) rfl) (And.intro (R3.out.cell (j := 3) rfl) (And.intro (R3.out.cell (j := 4) rfl) (And.intro (R3.out.cell (j := 5) rfl) (And.intro (R3.out.cell (j := 6) rfl) (And.intro (R3.out.cell (j := 7) rfl) (And.intro (R3.out.cell (j := 8) rfl) (And.intro (R3.out.cell (j := 9) rfl) (And.intro (R3.out.cell (j := 10) rfl) (R3.out.cell (j := 11) rfl)))))))))))
  exact bodyPost_ret (v := .agg #[.int .i64 a0, .int .i64 a1, .int .i64 a2, .int .i64 a3, .int .i64 a4, .int .i64 a5, .int .i64 a6, .int .i64 a7, .int .i64 a8, .int .i64 a9, .int .i64 a10, .slice (some ⟨g, 0, none⟩) n n]) (by simp [results, Tryz.results75, go_sem, k0, k1, k2, k3, k4, k5, k6, k7, k8, k9, k10, k11]) rfl ⟨g, rfl, by have := N13.out.lo_; omega, N13.out.v, N13.out.own, U3.out⟩
end Go.Proofs.YtjdoealcmokakaaGreat

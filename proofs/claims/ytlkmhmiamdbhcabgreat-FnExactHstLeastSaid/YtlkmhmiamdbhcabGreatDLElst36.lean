/-
  What toHstState returns, in one sentence: the same host, all over new rows; for every host that lies in memory.
  What szHstItemS, szHstKeepS, szHstDone, szHstDoneS and szHstState return, in one sentence: -1 or what is left, and then each list is short; for all that lie in memory.
-/
import Derived.Test.YtlkmhmiamdbhcabGreatDLElst08
import Derived.Test.YtlkmhmiamdbhcabGreatDLElst26
namespace Go.Proofs.YtlkmhmiamdbhcabGreat
set_option maxRecDepth 100000
open Go.RowKit
/-- Its lists are short. -/
structure ShortH (h : Hst) (nd nw na nk : Nat) : Prop where
  d : nd ≤ 1048576
  small : SmallD h.done
  w : nw ≤ 1048576
  a : na ≤ 1048576
  k : nk ≤ 1048576
/-- A host of the call's own. -/
def NewHst (h : Hst) (nd nw na nk : Nat) (w : World) (x : Ending) (w' : World) : Prop :=
  ∃ gd gw ga gk, x = .returned (h.v (.slice (some ⟨gd, 0, none⟩) nd nd) (.slice (some ⟨gw, 0, none⟩) nw nw) (.slice (some ⟨ga, 0, none⟩) na na) (.slice (some ⟨gk, 0, none⟩) nk nk)) ∧ DonsF w' w.heap.size gd nd h.done ∧ NewI w' w.heap.size gw nw h.wait ∧ NewI w' w.heap.size ga na h.anti ∧ NewK w' w.heap.size gk nk h.keep ∧ Up w w'
set_option maxHeartbeats 800000 in
theorem toHst_any (h : Hst) (Ad : Option Addr) (nd cd : Nat) (Aw : Option Addr) (nw cw : Nat) (Aa : Option Addr) (na ca : Nat) (Ak : Option Addr) (nk ck : Nat) (w : World) (hV : HstV w Ad nd Aw nw Aa na Ak nk h) (hS : ShortH h nd nw na nk) : Calls Tryz.prog 9 #[h.v (.slice Ad nd cd) (.slice Aw nw cw) (.slice Aa na ca) (.slice Ak nk ck)] w (NewHst h nd nw na nk w) := by
  have c0 := fun W => toCst_any h.now W
  have C1 := Lib.hid (fun W (u : Up w W) => toDonS_any Ad nd cd h.done W hS.d (hV.done.up u) hS.small)
  have C2 := Lib.hid (fun W (u : Up w W) => toI_any Aw nw cw h.wait W hS.w (hV.wait.up u))
  have C3 := Lib.hid (fun W (u : Up w W) => toI_any Aa na ca h.anti W hS.a (hV.anti.up u))
  have C4 := Lib.hid (fun W (u : Up w W) => toKeps_any Ak nk ck h.keep W hS.k (hV.keep.up u))
  unfold NewDons at C1; unfold Hst.v NewHst; unfold Hst.v; obtain ⟨⟨a0, a1, a2⟩, a3, hd_, hw_, ha_, hk_⟩ := h; unfold Cst.v at c0; dsimp only at c0 C1 C2 C3 C4 ⊢
  have C0 := Lib.hid c0
  clear c0 hV hS
  have X := Lib.hid (((Blk.new w #[.int .i64 a0, .int .i64 a1, .int .i64 a2, .int .i64 a3, .slice Ad nd cd, .slice Aw nw cw, .slice Aa na ca, .slice Ak nk ck] 32).alloc (.cells #[.int .i64 0, .int .i64 0, .int .i64 0, .int .i64 0, .slice none 0 0, .slice none 0 0, .slice none 0 0, .slice none 0 0] 46)).alloc (.cells #[.int .i64 0, .int .i64 0, .int .i64 0, .int .i64 0, .slice none 0 0, .slice none 0 0, .slice none 0 0, .slice none 0 0] 46))
  have R := Lib.hid ((Blk.new (w.alloc (.cells #[.int .i64 a0, .int .i64 a1, .int .i64 a2, .int .i64 a3, .slice Ad nd cd, .slice Aw nw cw, .slice Aa na ca, .slice Ak nk ck] 32)) #[.int .i64 0, .int .i64 0, .int .i64 0, .int .i64 0, .slice none 0 0, .slice none 0 0, .slice none 0 0, .slice none 0 0] 46).alloc (.cells #[.int .i64 0, .int .i64 0, .int .i64 0, .int .i64 0, .slice none 0 0, .slice none 0 0, .slice none 0 0, .slice none 0 0] 46))
  have O := Lib.hid (Blk.new ((w.alloc (.cells #[.int .i64 a0, .int .i64 a1, .int .i64 a2, .int .i64 a3, .slice Ad nd cd, .slice Aw nw cw, .slice Aa na ca, .slice Ak nk ck] 32)).alloc (.cells #[.int .i64 0, .int .i64 0, .int .i64 0, .int .i64 0, .slice none 0 0, .slice none 0 0, .slice none 0 0, .slice none 0 0] 46)) #[.int .i64 0, .int .i64 0, .int .i64 0, .int .i64 0, .slice none 0 0, .slice none 0 0, .slice none 0 0, .slice none 0 0] 46)
  simp only [World.size_alloc] at R O
  have U := Lib.hid ((((Up.refl w).alloc (.cells #[.int .i64 a0, .int .i64 a1, .int .i64 a2, .int .i64 a3, .slice Ad nd cd, .slice Aw nw cw, .slice Aa na ca, .slice Ak nk ck] 32)).alloc (.cells #[.int .i64 0, .int .i64 0, .int .i64 0, .int .i64 0, .slice none 0 0, .slice none 0 0, .slice none 0 0, .slice none 0 0] 46)).alloc (.cells #[.int .i64 0, .int .i64 0, .int .i64 0, .int .i64 0, .slice none 0 0, .slice none 0 0, .slice none 0 0, .slice none 0 0] 46))
  have le_ : w.heap.size + 3 ≤ (((w.alloc (.cells #[.int .i64 a0, .int .i64 a1, .int .i64 a2, .int .i64 a3, .slice Ad nd cd, .slice Aw nw cw, .slice Aa na ca, .slice Ak nk ck] 32)).alloc (.cells #[.int .i64 0, .int .i64 0, .int .i64 0, .int .i64 0, .slice none 0 0, .slice none 0 0, .slice none 0 0, .slice none 0 0] 46)).alloc (.cells #[.int .i64 0, .int .i64 0, .int .i64 0, .int .i64 0, .slice none 0 0, .slice none 0 0, .slice none 0 0, .slice none 0 0] 46)).heap.size := by simp
  go_enter Tryz.func9, Tryz.ntmps9
  go_wp2_with fail
  generalize ((w.alloc (.cells #[.int .i64 a0, .int .i64 a1, .int .i64 a2, .int .i64 a3, .slice Ad nd cd, .slice Aw nw cw, .slice Aa na ca, .slice Ak nk ck] 32)).alloc (.cells #[.int .i64 0, .int .i64 0, .int .i64 0, .int .i64 0, .slice none 0 0, .slice none 0 0, .slice none 0 0, .slice none 0 0] 46)).alloc (.cells #[.int .i64 0, .int .i64 0, .int .i64 0, .int .i64 0, .slice none 0 0, .slice none 0 0, .slice none 0 0, .slice none 0 0] 46) = W at *
  generalize hbO : w.heap.size + 1 + 1 = bO at *
  generalize hbR : w.heap.size + 1 = bR at *
  generalize hbX : w.heap.size = bX at *
  have n1 : bX ≠ bR := by omega
  have n2 : bX ≠ bO := by omega
  have n3 : bR ≠ bO := by omega
  have n4 : bO ≠ bX := by omega
  have n5 : bO ≠ bR := by omega
  have n6 : bR ≠ bX := by omega
  have LT := Lib.hid (show w.heap.size ≤ bR ∧ w.heap.size ≤ bO ∧ bR < bX + 3 ∧ bO < bX + 3 by omega)
  clear hbO hbR; refine (C0.out _).mono ?_; rintro x w1_ ⟨rfl, u⟩
  have U := Lib.hid (U.out.trans u)
  have X := Lib.hid (X.out.up u)
  have R := Lib.hid (R.out.up u)
  have O := Lib.hid (O.out.up u)
  have le_ : bX + 3 ≤ w1_.heap.size := Nat.le_trans le_ u.size
  clear u
  have O2 := Lib.hid (Blk.cast (arr2 := #[.int .i64 a0, .int .i64 a1, .int .i64 a2, .int .i64 a3, .slice none 0 0, .slice none 0 0, .slice none 0 0, .slice none 0 0]) ((((O.out.set 0 (.int .i64 a0)).set 1 (.int .i64 a1)).set 2 (.int .i64 a2)).set 3 (.int .i64 a3)) (by simp))
  have R2 := Lib.hid ((((R.out.far (b' := bO) 0 (.int .i64 a0) n3).far (b' := bO) 1 (.int .i64 a1) n3).far (b' := bO) 2 (.int .i64 a2) n3).far (b' := bO) 3 (.int .i64 a3) n3)
  have X2 := Lib.hid ((((X.out.far (b' := bO) 0 (.int .i64 a0) n2).far (b' := bO) 1 (.int .i64 a1) n2).far (b' := bO) 2 (.int .i64 a2) n2).far (b' := bO) 3 (.int .i64 a3) n2)
  have U2 := Lib.hid ((((U.out.setCell (p := ⟨bO, 0, none⟩) (LT.out.2.1) (.int .i64 a0)).setCell (p := ⟨bO, 1, none⟩) (LT.out.2.1) (.int .i64 a1)).setCell (p := ⟨bO, 2, none⟩) (LT.out.2.1) (.int .i64 a2)).setCell (p := ⟨bO, 3, none⟩) (LT.out.2.1) (.int .i64 a3))
  have HS2 := Lib.hid (((((Hi.refl (bX + 3) w1_).set (b := bO) (o := 0) (u := .int .i64 a0) LT.out.2.2.2).set (b := bO) (o := 1) (u := .int .i64 a1) LT.out.2.2.2).set (b := bO) (o := 2) (u := .int .i64 a2) LT.out.2.2.2).set (b := bO) (o := 3) (u := .int .i64 a3) LT.out.2.2.2)
  have o0 := O.out.cell (j := 0) rfl
  have o1 := O.out.cell (j := 1) rfl
  have o2 := O.out.cell (j := 2) rfl
  have o3 := O.out.cell (j := 3) rfl
  have o4 := O.out.cell (j := 4) rfl
  have o5 := O.out.cell (j := 5) rfl
  have o6 := O.out.cell (j := 6) rfl
  have o7 := O.out.cell (j := 7) rfl
  have fO := O.out.frozen
  have lo_ := O.out.lt
  have x3 := X.out.cell (j := 3) rfl
  have x4 := X.out.cell (j := 4) rfl
  have lx := X.out.lt
  have le2 : bX + 3 ≤ (((((w1_.setCell ⟨bO, 0, none⟩ (.int .i64 a0)).setCell ⟨bO, 1, none⟩ (.int .i64 a1)).setCell ⟨bO, 2, none⟩ (.int .i64 a2)).setCell ⟨bO, 3, none⟩ (.int .i64 a3))).heap.size := by simpa using le_
  clear le_
  go_wp2_with fail
  generalize ((((w1_.setCell ⟨bO, 0, none⟩ (.int .i64 a0)).setCell ⟨bO, 1, none⟩ (.int .i64 a1)).setCell ⟨bO, 2, none⟩ (.int .i64 a2)).setCell ⟨bO, 3, none⟩ (.int .i64 a3)) = V0 at *
  have le_ := le2
  have O := O2
  have R := R2
  have X := X2
  have U := U2
  clear le2 O2 R2 X2 U2 HS2 fO lo_ lx x3 x4 o0 o1 o2 o3 o4 o5 o6 o7
  have le_pre := le_
  refine (C1.out _ U.out).mono ?_; rintro x w2_ ⟨gd, rfl, hv, u⟩
  have U := Lib.hid (U.out.trans u)
  have X := Lib.hid (X.out.up u)
  have R := Lib.hid (R.out.up u)
  have O := Lib.hid (O.out.up u)
  have le_ : bX + 3 ≤ w2_.heap.size := Nat.le_trans le_ u.size
  have N1 := Lib.hid (show DonsF w2_ (bX + 3) gd nd hd_ from ⟨Nat.le_trans le_pre hv.lo_, hv.len, hv.big, hv.lt, hv.at_, hv.free⟩)
  clear hv le_pre; clear u
  have O2 := Lib.hid (Blk.cast (arr2 := #[.int .i64 a0, .int .i64 a1, .int .i64 a2, .int .i64 a3, .slice (some ⟨gd, 0, none⟩) nd nd, .slice none 0 0, .slice none 0 0, .slice none 0 0]) (O.out.set 4 (.slice (some ⟨gd, 0, none⟩) nd nd)) (by simp))
  have R2 := Lib.hid (R.out.far (b' := bO) 4 (.slice (some ⟨gd, 0, none⟩) nd nd) n3)
  have X2 := Lib.hid (X.out.far (b' := bO) 4 (.slice (some ⟨gd, 0, none⟩) nd nd) n2)
  have U2 := Lib.hid (U.out.setCell (p := ⟨bO, 4, none⟩) (LT.out.2.1) (.slice (some ⟨gd, 0, none⟩) nd nd))
  have HS2 := Lib.hid ((Hi.refl (bX + 3) w2_).set (b := bO) (o := 4) (u := .slice (some ⟨gd, 0, none⟩) nd nd) LT.out.2.2.2)
  have N12 := Lib.hid (N1.out.hi HS2.out)
  have o0 := O.out.cell (j := 0) rfl
  have o1 := O.out.cell (j := 1) rfl
  have o2 := O.out.cell (j := 2) rfl
  have o3 := O.out.cell (j := 3) rfl
  have o4 := O.out.cell (j := 4) rfl
  have o5 := O.out.cell (j := 5) rfl
  have o6 := O.out.cell (j := 6) rfl
  have o7 := O.out.cell (j := 7) rfl
  have fO := O.out.frozen
  have lo_ := O.out.lt
  have x5 := X.out.cell (j := 5) rfl
  have lx := X.out.lt
  have le2 : bX + 3 ≤ ((w2_.setCell ⟨bO, 4, none⟩ (.slice (some ⟨gd, 0, none⟩) nd nd))).heap.size := by simpa using le_
  clear le_
  go_wp2_with fail
  generalize (w2_.setCell ⟨bO, 4, none⟩ (.slice (some ⟨gd, 0, none⟩) nd nd)) = V1 at *
  have le_ := le2
  have O := O2
  have R := R2
  have X := X2
  have U := U2
  have N1 := N12
  clear le2 O2 R2 X2 U2 HS2 fO lo_ lx x5 o0 o1 o2 o3 o4 o5 o6 o7 N12
  have le_pre := le_
  refine (C2.out _ U.out).mono ?_; rintro x w3_ ⟨gw, rfl, hg, hv, ho, u⟩
  have U := Lib.hid (U.out.trans u)
  have X := Lib.hid (X.out.up u)
  have R := Lib.hid (R.out.up u)
  have O := Lib.hid (O.out.up u)
  have le_ : bX + 3 ≤ w3_.heap.size := Nat.le_trans le_ u.size
  have N1 := Lib.hid (N1.out.up u)
  have N2 := Lib.hid (show NewI w3_ (bX + 3) gw nw hw_ from ⟨Nat.le_trans le_pre hg, hv, ho⟩)
  clear hg hv ho le_pre; clear u
  have O2 := Lib.hid (Blk.cast (arr2 := #[.int .i64 a0, .int .i64 a1, .int .i64 a2, .int .i64 a3, .slice (some ⟨gd, 0, none⟩) nd nd, .slice (some ⟨gw, 0, none⟩) nw nw, .slice none 0 0, .slice none 0 0]) (O.out.set 5 (.slice (some ⟨gw, 0, none⟩) nw nw)) (by simp))
  have R2 := Lib.hid (R.out.far (b' := bO) 5 (.slice (some ⟨gw, 0, none⟩) nw nw) n3)
  have X2 := Lib.hid (X.out.far (b' := bO) 5 (.slice (some ⟨gw, 0, none⟩) nw nw) n2)
  have U2 := Lib.hid (U.out.setCell (p := ⟨bO, 5, none⟩) (LT.out.2.1) (.slice (some ⟨gw, 0, none⟩) nw nw))
  have HS2 := Lib.hid ((Hi.refl (bX + 3) w3_).set (b := bO) (o := 5) (u := .slice (some ⟨gw, 0, none⟩) nw nw) LT.out.2.2.2)
  have N12 := Lib.hid (N1.out.hi HS2.out)
  have N22 := Lib.hid (N2.out.hi HS2.out)
  have o0 := O.out.cell (j := 0) rfl
  have o1 := O.out.cell (j := 1) rfl
  have o2 := O.out.cell (j := 2) rfl
  have o3 := O.out.cell (j := 3) rfl
  have o4 := O.out.cell (j := 4) rfl
  have o5 := O.out.cell (j := 5) rfl
  have o6 := O.out.cell (j := 6) rfl
  have o7 := O.out.cell (j := 7) rfl
  have fO := O.out.frozen
  have lo_ := O.out.lt
  have x6 := X.out.cell (j := 6) rfl
  have lx := X.out.lt
  have le2 : bX + 3 ≤ ((w3_.setCell ⟨bO, 5, none⟩ (.slice (some ⟨gw, 0, none⟩) nw nw))).heap.size := by simpa using le_
  clear le_
  go_wp2_with fail
  generalize (w3_.setCell ⟨bO, 5, none⟩ (.slice (some ⟨gw, 0, none⟩) nw nw)) = V2 at *
  have le_ := le2
  have O := O2
  have R := R2
  have X := X2
  have U := U2
  have N1 := N12
  have N2 := N22
  clear le2 O2 R2 X2 U2 HS2 fO lo_ lx x6 o0 o1 o2 o3 o4 o5 o6 o7 N12 N22
  have le_pre := le_
  refine (C3.out _ U.out).mono ?_; rintro x w4_ ⟨ga, rfl, hg, hv, ho, u⟩
  have U := Lib.hid (U.out.trans u)
  have X := Lib.hid (X.out.up u)
  have R := Lib.hid (R.out.up u)
  have O := Lib.hid (O.out.up u)
  have le_ : bX + 3 ≤ w4_.heap.size := Nat.le_trans le_ u.size
  have N1 := Lib.hid (N1.out.up u)
  have N2 := Lib.hid (N2.out.up u)
  have N3 := Lib.hid (show NewI w4_ (bX + 3) ga na ha_ from ⟨Nat.le_trans le_pre hg, hv, ho⟩)
  clear hg hv ho le_pre; clear u
  have O2 := Lib.hid (Blk.cast (arr2 := #[.int .i64 a0, .int .i64 a1, .int .i64 a2, .int .i64 a3, .slice (some ⟨gd, 0, none⟩) nd nd, .slice (some ⟨gw, 0, none⟩) nw nw, .slice (some ⟨ga, 0, none⟩) na na, .slice none 0 0]) (O.out.set 6 (.slice (some ⟨ga, 0, none⟩) na na)) (by simp))
  have R2 := Lib.hid (R.out.far (b' := bO) 6 (.slice (some ⟨ga, 0, none⟩) na na) n3)
  have X2 := Lib.hid (X.out.far (b' := bO) 6 (.slice (some ⟨ga, 0, none⟩) na na) n2)
  have U2 := Lib.hid (U.out.setCell (p := ⟨bO, 6, none⟩) (LT.out.2.1) (.slice (some ⟨ga, 0, none⟩) na na))
  have HS2 := Lib.hid ((Hi.refl (bX + 3) w4_).set (b := bO) (o := 6) (u := .slice (some ⟨ga, 0, none⟩) na na) LT.out.2.2.2)
  have N12 := Lib.hid (N1.out.hi HS2.out)
  have N22 := Lib.hid (N2.out.hi HS2.out)
  have N32 := Lib.hid (N3.out.hi HS2.out)
  have o0 := O.out.cell (j := 0) rfl
  have o1 := O.out.cell (j := 1) rfl
  have o2 := O.out.cell (j := 2) rfl
  have o3 := O.out.cell (j := 3) rfl
  have o4 := O.out.cell (j := 4) rfl
  have o5 := O.out.cell (j := 5) rfl
  have o6 := O.out.cell (j := 6) rfl
  have o7 := O.out.cell (j := 7) rfl
  have fO := O.out.frozen
  have lo_ := O.out.lt
  have x7 := X.out.cell (j := 7) rfl
  have lx := X.out.lt
  have le2 : bX + 3 ≤ ((w4_.setCell ⟨bO, 6, none⟩ (.slice (some ⟨ga, 0, none⟩) na na))).heap.size := by simpa using le_
  clear le_
  go_wp2_with fail
  generalize (w4_.setCell ⟨bO, 6, none⟩ (.slice (some ⟨ga, 0, none⟩) na na)) = V3 at *
  have le_ := le2
  have O := O2
  have R := R2
  have X := X2
  have U := U2
  have N1 := N12
  have N2 := N22
  have N3 := N32
  clear le2 O2 R2 X2 U2 HS2 fO lo_ lx x7 o0 o1 o2 o3 o4 o5 o6 o7 N12 N22 N32
  have le_pre := le_
  refine (C4.out _ U.out).mono ?_; rintro x w5_ ⟨gk, rfl, hg, hv, ho, u⟩
  have U := Lib.hid (U.out.trans u)
  have X := Lib.hid (X.out.up u)
  have R := Lib.hid (R.out.up u)
  have O := Lib.hid (O.out.up u)
  have le_ : bX + 3 ≤ w5_.heap.size := Nat.le_trans le_ u.size
  have N1 := Lib.hid (N1.out.up u)
  have N2 := Lib.hid (N2.out.up u)
  have N3 := Lib.hid (N3.out.up u)
  have N4 := Lib.hid (show NewK w5_ (bX + 3) gk nk hk_ from ⟨Nat.le_trans le_pre hg, hv, ho⟩)
  clear hg hv ho le_pre; clear u
  have O2 := Lib.hid (Blk.cast (arr2 := #[.int .i64 a0, .int .i64 a1, .int .i64 a2, .int .i64 a3, .slice (some ⟨gd, 0, none⟩) nd nd, .slice (some ⟨gw, 0, none⟩) nw nw, .slice (some ⟨ga, 0, none⟩) na na, .slice (some ⟨gk, 0, none⟩) nk nk]) (O.out.set 7 (.slice (some ⟨gk, 0, none⟩) nk nk)) (by simp))
  have R2 := Lib.hid (R.out.far (b' := bO) 7 (.slice (some ⟨gk, 0, none⟩) nk nk) n3)
  have X2 := Lib.hid (X.out.far (b' := bO) 7 (.slice (some ⟨gk, 0, none⟩) nk nk) n2)
  have U2 := Lib.hid (U.out.setCell (p := ⟨bO, 7, none⟩) (LT.out.2.1) (.slice (some ⟨gk, 0, none⟩) nk nk))
  have HS2 := Lib.hid ((Hi.refl (bX + 3) w5_).set (b := bO) (o := 7) (u := .slice (some ⟨gk, 0, none⟩) nk nk) LT.out.2.2.2)
  have N12 := Lib.hid (N1.out.hi HS2.out)
  have N22 := Lib.hid (N2.out.hi HS2.out)
  have N32 := Lib.hid (N3.out.hi HS2.out)
  have N42 := Lib.hid (N4.out.hi HS2.out)
  have R3 := Lib.hid (Blk.cast (arr2 := #[.int .i64 a0, .int .i64 a1, .int .i64 a2, .int .i64 a3, .slice (some ⟨gd, 0, none⟩) nd nd, .slice (some ⟨gw, 0, none⟩) nw nw, .slice (some ⟨ga, 0, none⟩) na na, .slice (some ⟨gk, 0, none⟩) nk nk]) ((((((((R2.out.set 0 (.int .i64 a0)).set 1 (.int .i64 a1)).set 2 (.int .i64 a2)).set 3 (.int .i64 a3)).set 4 (.slice (some ⟨gd, 0, none⟩) nd nd)).set 5 (.slice (some ⟨gw, 0, none⟩) nw nw)).set 6 (.slice (some ⟨ga, 0, none⟩) na na)).set 7 (.slice (some ⟨gk, 0, none⟩) nk nk)) (by simp))
  have U3 := Lib.hid ((((((((U2.out.setCell (p := ⟨bR, 0, none⟩) (LT.out.1) (.int .i64 a0)).setCell (p := ⟨bR, 1, none⟩) (LT.out.1) (.int .i64 a1)).setCell (p := ⟨bR, 2, none⟩) (LT.out.1) (.int .i64 a2)).setCell (p := ⟨bR, 3, none⟩) (LT.out.1) (.int .i64 a3)).setCell (p := ⟨bR, 4, none⟩) (LT.out.1) (.slice (some ⟨gd, 0, none⟩) nd nd)).setCell (p := ⟨bR, 5, none⟩) (LT.out.1) (.slice (some ⟨gw, 0, none⟩) nw nw)).setCell (p := ⟨bR, 6, none⟩) (LT.out.1) (.slice (some ⟨ga, 0, none⟩) na na)).setCell (p := ⟨bR, 7, none⟩) (LT.out.1) (.slice (some ⟨gk, 0, none⟩) nk nk))
  have HS3 := Lib.hid (((((((((Hi.refl (bX + 3) (w5_.setCell ⟨bO, 7, none⟩ (.slice (some ⟨gk, 0, none⟩) nk nk))).set (b := bR) (o := 0) (u := .int .i64 a0) LT.out.2.2.1).set (b := bR) (o := 1) (u := .int .i64 a1) LT.out.2.2.1).set (b := bR) (o := 2) (u := .int .i64 a2) LT.out.2.2.1).set (b := bR) (o := 3) (u := .int .i64 a3) LT.out.2.2.1).set (b := bR) (o := 4) (u := .slice (some ⟨gd, 0, none⟩) nd nd) LT.out.2.2.1).set (b := bR) (o := 5) (u := .slice (some ⟨gw, 0, none⟩) nw nw) LT.out.2.2.1).set (b := bR) (o := 6) (u := .slice (some ⟨ga, 0, none⟩) na na) LT.out.2.2.1).set (b := bR) (o := 7) (u := .slice (some ⟨gk, 0, none⟩) nk nk) LT.out.2.2.1)
  have N13 := Lib.hid (N12.out.hi HS3.out)
  have N23 := Lib.hid (N22.out.hi HS3.out)
  have N33 := Lib.hid (N32.out.hi HS3.out)
  have N43 := Lib.hid (N42.out.hi HS3.out)
  have o0 := O.out.cell (j := 0) rfl
  have o1 := O.out.cell (j := 1) rfl
  have o2 := O.out.cell (j := 2) rfl
  have o3 := O.out.cell (j := 3) rfl
  have o4 := O.out.cell (j := 4) rfl
  have o5 := O.out.cell (j := 5) rfl
  have o6 := O.out.cell (j := 6) rfl
  have o7 := O.out.cell (j := 7) rfl
  have fO := O.out.frozen
  have lo_ := O.out.lt
  have r0 := R.out.cell (j := 0) rfl
  have r1 := R.out.cell (j := 1) rfl
  have r2 := R.out.cell (j := 2) rfl
  have r3 := R.out.cell (j := 3) rfl
  have r4 := R.out.cell (j := 4) rfl
  have r5 := R.out.cell (j := 5) rfl
  have r6 := R.out.cell (j := 6) rfl
  have r7 := R.out.cell (j := 7) rfl
  have fR := R.out.frozen
  have lr := R.out.lt
  go_wp2; clear o0 r0 o1 r1 o2 r2 o3 r3 o4 r4 o5 r5 o6 r6 o7 r7 fO fR lo_ lr
  generalize (((((((((w5_.setCell ⟨bO, 7, none⟩ (.slice (some ⟨gk, 0, none⟩) nk nk)).setCell ⟨bR, 0, none⟩ (.int .i64 a0)).setCell ⟨bR, 1, none⟩ (.int .i64 a1)).setCell ⟨bR, 2, none⟩ (.int .i64 a2)).setCell ⟨bR, 3, none⟩ (.int .i64 a3)).setCell ⟨bR, 4, none⟩ (.slice (some ⟨gd, 0, none⟩) nd nd)).setCell ⟨bR, 5, none⟩ (.slice (some ⟨gw, 0, none⟩) nw nw)).setCell ⟨bR, 6, none⟩ (.slice (some ⟨ga, 0, none⟩) na na)).setCell ⟨bR, 7, none⟩ (.slice (some ⟨gk, 0, none⟩) nk nk)) = WF at *
  obtain ⟨k0, k1, k2, k3, k4, k5, k6, k7⟩ := And.intro (R3.out.cell (j := 0) rfl) (And.intro (R3.out.cell (j := 1) rfl) (And.intro (R3.out.cell (j := 2) rfl) (And.intro (R3.out.cell (j := 3) rfl) (And.intro (R3.out.cell (j := 4) rfl) (And.intro (R3.out.cell (j := 5) rfl) (And.intro (R3.out.cell (j := 6) rfl) (R3.out.cell (j := 7) rfl)))))))
  exact bodyPost_ret (v := .agg #[.int .i64 a0, .int .i64 a1, .int .i64 a2, .int .i64 a3, .slice (some ⟨gd, 0, none⟩) nd nd, .slice (some ⟨gw, 0, none⟩) nw nw, .slice (some ⟨ga, 0, none⟩) na na, .slice (some ⟨gk, 0, none⟩) nk nk]) (by simp [results, Tryz.results9, go_sem, k0, k1, k2, k3, k4, k5, k6, k7]) rfl ⟨gd, gw, ga, gk, rfl, ⟨by have := N13.out.lo_; omega, N13.out.len, N13.out.big, N13.out.lt, N13.out.at_, N13.out.free⟩, ⟨by have := N23.out.lo_; omega, N23.out.v, N23.out.own⟩, ⟨by have := N33.out.lo_; omega, N33.out.v, N33.out.own⟩, ⟨by have := N43.out.lo_; omega, N43.out.v, N43.out.own⟩, U3.out⟩
end Go.Proofs.YtlkmhmiamdbhcabGreat

namespace Go.Proofs.YtlkmhmiamdbhcabGreat
set_option maxRecDepth 100000
open Go.RowKit
theorem szI_any (A : Option Addr) (n cap : Nat) (left : Int) (w : World) (h0 : 0 ≤ left) (h1 : left ≤ 1048576) (hn : n ≤ 9223372036854775807) :
    Calls Tryz.prog 24 #[.slice A n cap, .int .i64 left] w fun x w' => x = .returned (.int .i64 (if left < n then -1 else left - n)) ∧ w = w' := by
  have hwrap := IntWalk.i64_in (left - n) (by omega)
  by_cases h : left < n
  · have j1 : left - (n : Int) < 0 := by omega
    go_enter Tryz.func24, Tryz.ntmps24
    go_wp2; go_ret
    exact ⟨by first | rfl | (rw [if_pos h]; rfl), rfl⟩
  · have j1 : ¬ left - (n : Int) < 0 := by omega
    go_enter Tryz.func24, Tryz.ntmps24
    go_wp2; go_ret
    exact ⟨by first | rfl | (rw [if_neg h]; rfl), rfl⟩
theorem szKeps_any (A : Option Addr) (n cap : Nat) (left : Int) (w : World) (h0 : 0 ≤ left) (h1 : left ≤ 1048576) (hn : n ≤ 9223372036854775807) :
    Calls Tryz.prog 25 #[.slice A n cap, .int .i64 left] w fun x w' => x = .returned (.int .i64 (if left < n then -1 else left - n)) ∧ w = w' := by
  have hwrap := IntWalk.i64_in (left - n) (by omega)
  by_cases h : left < n
  · have j1 : left - (n : Int) < 0 := by omega
    go_enter Tryz.func25, Tryz.ntmps25
    go_wp2; go_ret
    exact ⟨by first | rfl | (rw [if_pos h]; rfl), rfl⟩
  · have j1 : ¬ left - (n : Int) < 0 := by omega
    go_enter Tryz.func25, Tryz.ntmps25
    go_wp2; go_ret
    exact ⟨by first | rfl | (rw [if_neg h]; rfl), rfl⟩
structure ShortD (rs : List Don) : Prop where
  few : rs.length ≤ 1048576
  small : SmallD rs
theorem szDon_any (r : Don) (A : Option Addr) (n c : Nat) (left : Int) (w : World) (h0 : 0 ≤ left) (h1 : left ≤ 1048576) (hn : n ≤ 9223372036854775807) (hE : Recs w A n r.sent) :
    Calls Tryz.prog 56 #[r.v (.slice A n c), .int .i64 left] w (Sized (r.sent.length ≤ 1048576) left w) := by
  have CL := Lib.hid (fun W => szI_any A n c left W h0 (by omega) hn)
  have LE := Lib.hid hE.1
  obtain ⟨⟨⟨e0, e1, e2, e3, e4, e5⟩, e6⟩, ⟨e7, e8, e9⟩, e10, es⟩ := r; clear hE; unfold Don.v; dsimp only
  by_cases h : left < n
  · have j1 : (-1 : Int) < 0 := by omega
    have C2 := Lib.hid (if_pos h ▸ CL.out)
    clear CL
    go_enter Tryz.func56, Tryz.ntmps56
    go_wp2_with fail
    refine (C2.out _).mono ?_; rintro x w1 ⟨rfl, rfl⟩; go_wp2; go_ret
    exact ⟨-1, rfl, .inl rfl, (Up.refl _).alloc _⟩
  · have j1 : ¬ left - n < 0 := by omega
    have C2 := Lib.hid (if_neg h ▸ CL.out)
    have PP := Lib.hid (show es.length ≤ 1048576 by rw [LE.out]; omega)
    clear CL
    go_enter Tryz.func56, Tryz.ntmps56
    go_wp2_with fail
    refine (C2.out _).mono ?_; rintro x w1 ⟨rfl, rfl⟩; go_wp2; go_ret
    exact ⟨left - n, rfl, .inr ⟨by omega, by omega, PP.out⟩, (Up.refl _).alloc _⟩
set_option maxHeartbeats 2000000 in
theorem szDons_any (A : Option Addr) (n c : Nat) (rs : List Don) (left : Int) (w : World) (h0 : 0 ≤ left) (h1 : left ≤ 1048576) (hR : Dons w A n rs) :
    Calls Tryz.prog 23 #[.slice A n c, .int .i64 left] w (Sized (ShortD rs) left w) := by
  have hbig := hR.2.1
  have HR := Lib.hid hR
  have LR := Lib.hid hR.1
  have CL := Lib.hid (fun r A n c l W a b hn hE => szDon_any r A n c l W a b hn hE)
  clear hR
  have i9 : IntKind.i64.wrap (left - (n : Int)) = left - n := IntWalk.i64_in _ (by omega)
  go_enter Tryz.func23, Tryz.ntmps23
  by_cases h : left < n
  · have j1 : left - n < 0 := by omega
    go_wp2; go_ret
    exact ⟨-1, rfl, .inl rfl, Up.refl _⟩
  · have j1 : ¬ left - n < 0 := by omega
    go_wp2
    go_loopw [1, 5] (fun s i wr => (∃ (l : Int) (k : Nat), k ≤ n ∧ s = .int .i64 l ∧ i = .int .i64 k ∧ 0 ≤ l ∧ l ≤ left ∧ Hid (∀ j, j < k → (rs.getD j default).sent.length ≤ 1048576)) ∧ Up w wr) (fun _ i _ => n - (intOf i).toNat)
    case atStart => exact ⟨⟨left - n, 0, by omega, rfl, rfl, by omega, by omega, Lib.hid (fun j hj => absurd hj (by omega))⟩, Up.refl _⟩
    case round =>
      obtain ⟨⟨l, k, hk, rfl, rfl, hl0, hl1, SM⟩, ur⟩ := hrel
      have UR := Lib.hid ur
      by_cases hlt : k < n
      · obtain ⟨b, off, hA, hb, hc⟩ := (HR.out.up ur).2.2 (by omega)
        subst hA
        have a0 := hc k hlt
        clear hc ur
        have cl := fun A n c W => CL.out (rs.getD k default) A n c l W hl0 (by omega)
        have SK := Lib.hid (fun (h : (rs.getD k default).sent.length ≤ 1048576) j (hj : j < k + 1) => (show (rs.getD j default).sent.length ≤ 1048576 from if e : j = k then e ▸ h else SM.out j (by omega)))
        generalize rs.getD k default = p at a0 cl SK
        obtain ⟨A3, n3, c3, ⟨p0, p1, p2, p3, p4, p5, p6, p7, p8, p9, p10, p11⟩, hn3, he3⟩ := a0
        have cl2 := fun W (u : Up wr W) => cl A3 n3 c3 W hn3 (he3.up u)
        obtain ⟨⟨⟨e0, e1, e2, e3, e4, e5⟩, e6⟩, ⟨e7, e8, e9⟩, e10, es⟩ := p; unfold Don.v at cl2; dsimp only at p0 p1 p2 p3 p4 p5 p6 p7 p8 p9 p10 p11 cl2 SK
        have C := Lib.hid cl2
        clear cl cl2 he3
        have i4 : (k : Int) < n := by omega
        have i5 : IntKind.i64.wrap ((k : Int) + 1) = (k : Int) + 1 := IntWalk.i64_in _ (by omega)
        go_wp2_with fail
        refine (C.out _ (Up.refl _)).mono ?_; rintro x w1 ⟨z, rfl, hz, u1⟩
        have U1 := Lib.hid (UR.out.trans u1)
        clear u1
        rcases hz with rfl | ⟨z0, z1, hp⟩
        · go_wp2
          go_ret
          exact ⟨-1, rfl, .inl rfl, U1.out⟩
        · have S2 := Lib.hid (SK.out hp)
          have j3 : ¬ z < 0 := by omega
          clear hp; go_wp2
          go_roundw
          case rel => exact ⟨⟨z, k + 1, by omega, rfl, by first | rfl | go_num, by omega, by omega, S2⟩, U1.out⟩
          case measure => (simp [intOf]; try omega)
      · have i4 : ¬ (k : Int) < n := by omega
        clear ur; go_wp2; go_ret
        exact ⟨l, rfl, .inr ⟨by omega, by omega, ⟨by rw [LR.out]; omega, fun j hj => SM.out j (by have := LR.out; omega)⟩⟩, UR.out⟩
set_option maxHeartbeats 4000000 in
theorem szHst_any (h : Hst) (Ad : Option Addr) (nd cd : Nat) (Aw : Option Addr) (nw cw : Nat) (Aa : Option Addr) (na ca : Nat) (Ak : Option Addr) (nk ck : Nat) (left : Int) (w : World) (h0 : 0 ≤ left) (h1 : left ≤ 1048576) (hV : HstV w Ad nd Aw nw Aa na Ak nk h) :
    Calls Tryz.prog 6 #[h.v (.slice Ad nd cd) (.slice Aw nw cw) (.slice Aa na ca) (.slice Ak nk ck), .int .i64 left] w (Sized (ShortH h nd nw na nk) left w) := by
  have C0 := Lib.hid (fun l W (u : Up w W) a b => szDons_any Ad nd cd h.done l W a b (hV.done.up u))
  have LD := Lib.hid hV.done.1
  have bw := hV.bw
  have ba := hV.ba
  have bk := hV.bk
  obtain ⟨⟨a0, a1, a2⟩, a3, hd_, hw_, ha_, hk_⟩ := h; unfold Hst.v; dsimp only at C0 LD ⊢
  have X := Lib.hid (Blk.new w #[.int .i64 a0, .int .i64 a1, .int .i64 a2, .int .i64 a3, .slice Ad nd cd, .slice Aw nw cw, .slice Aa na ca, .slice Ak nk ck] 32)
  have U := Lib.hid ((Up.refl w).alloc (.cells #[.int .i64 a0, .int .i64 a1, .int .i64 a2, .int .i64 a3, .slice Ad nd cd, .slice Aw nw cw, .slice Aa na ca, .slice Ak nk ck] 32))
  have jm : (-1 : Int) < 0 := by omega
  clear hV
  go_enter Tryz.func6, Tryz.ntmps6
  go_wp2_with fail
  generalize w.alloc (.cells #[.int .i64 a0, .int .i64 a1, .int .i64 a2, .int .i64 a3, .slice Ad nd cd, .slice Aw nw cw, .slice Aa na ca, .slice Ak nk ck] 32) = W at *
  generalize hb : w.heap.size = b0 at *
  clear hb; refine (C0.out _ _ U.out h0 h1).mono ?_; rintro x w1 ⟨z, rfl, hz, u⟩
  have U := Lib.hid (U.out.trans u)
  have X := Lib.hid (X.out.up u)
  clear u
  rcases hz with rfl | ⟨z0, z1, hp⟩
  · go_wp2
    go_ret
    exact ⟨-1, rfl, .inl rfl, U.out⟩
  · have HP := Lib.hid hp
    have hfew : nd ≤ 1048576 := by have := hp.few; rw [LD.out] at this; exact this
    clear hp
    have j0 : ¬ z < 0 := by omega
    have x5 := X.out.cell (j := 5) rfl
    have lx := X.out.lt
    by_cases gW : z < nw
    · have e : (if z < (nw : Int) then (-1 : Int) else z - nw) = -1 := if_pos gW
      have CC := szI_any Aw nw cw z w1 (by omega) (by omega) (by omega)
      rw [e] at CC
      have CC := Lib.hid CC
      go_wp2_with fail
      refine CC.out.mono ?_; rintro x w2 ⟨rfl, rfl⟩; go_wp2; go_ret
      exact ⟨-1, rfl, .inl rfl, U.out⟩
    · have e : (if z < (nw : Int) then (-1 : Int) else z - nw) = z - nw := if_neg gW
      have CC := szI_any Aw nw cw z w1 (by omega) (by omega) (by omega)
      rw [e] at CC; obtain ⟨zW, hqW⟩ : ∃ q, z - (nw : Int) = q := ⟨_, rfl⟩; rw [hqW] at CC
      have CC := Lib.hid CC
      have jW : ¬ zW < 0 := by omega
      have bW : zW ≤ 1048576 := by omega
      have HQW := Lib.hid hqW
      clear hqW e
      go_wp2_with fail
      refine CC.out.mono ?_; rintro x w2 ⟨rfl, rfl⟩; clear x5 lx CC
      have x6 := X.out.cell (j := 6) rfl
      have lx := X.out.lt
      by_cases gA : zW < na
      · have e : (if zW < (na : Int) then (-1 : Int) else zW - na) = -1 := if_pos gA
        have CC := szI_any Aa na ca zW w1 (by omega) (by omega) (by omega)
        rw [e] at CC
        have CC := Lib.hid CC
        go_wp2_with fail
        refine CC.out.mono ?_; rintro x w2 ⟨rfl, rfl⟩; go_wp2; go_ret
        exact ⟨-1, rfl, .inl rfl, U.out⟩
      · have e : (if zW < (na : Int) then (-1 : Int) else zW - na) = zW - na := if_neg gA
        have CC := szI_any Aa na ca zW w1 (by omega) (by omega) (by omega)
        rw [e] at CC; obtain ⟨zA, hqA⟩ : ∃ q, zW - (na : Int) = q := ⟨_, rfl⟩; rw [hqA] at CC
        have CC := Lib.hid CC
        have jA : ¬ zA < 0 := by omega
        have bA : zA ≤ 1048576 := by omega
        have HQA := Lib.hid hqA
        clear hqA e
        go_wp2_with fail
        refine CC.out.mono ?_; rintro x w2 ⟨rfl, rfl⟩; clear x6 lx CC
        have x7 := X.out.cell (j := 7) rfl
        have lx := X.out.lt
        by_cases gK : zA < nk
        · have e : (if zA < (nk : Int) then (-1 : Int) else zA - nk) = -1 := if_pos gK
          have CC := szKeps_any Ak nk ck zA w1 (by omega) (by omega) (by omega)
          rw [e] at CC
          have CC := Lib.hid CC
          go_wp2_with fail
          refine CC.out.mono ?_; rintro x w2 ⟨rfl, rfl⟩; go_wp2; go_ret
          exact ⟨-1, rfl, .inl rfl, U.out⟩
        · have e : (if zA < (nk : Int) then (-1 : Int) else zA - nk) = zA - nk := if_neg gK
          have CC := szKeps_any Ak nk ck zA w1 (by omega) (by omega) (by omega)
          rw [e] at CC; obtain ⟨zK, hqK⟩ : ∃ q, zA - (nk : Int) = q := ⟨_, rfl⟩; rw [hqK] at CC
          have CC := Lib.hid CC
          have jK : ¬ zK < 0 := by omega
          have bK : zK ≤ 1048576 := by omega
          have HQK := Lib.hid hqK
          clear hqK e
          go_wp2_with fail
          refine CC.out.mono ?_; rintro x w2 ⟨rfl, rfl⟩; clear x7 lx CC; go_wp2; go_ret
          have := HQW.out
          have := HQA.out
          have := HQK.out
          exact ⟨zK, rfl, .inr ⟨by omega, by omega, ⟨hfew, fun i hi => HP.out.small i hi, by omega, by omega, by omega⟩⟩, U.out⟩
end Go.Proofs.YtlkmhmiamdbhcabGreat

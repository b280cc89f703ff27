/-
  What toIntS and toCmbHost return, in one sentence: the same over new rows; for all that lie in memory.
  What toCmbHostS returns, in one sentence: the same hosts over new rows; for every list that lies in memory.
-/
import Derived.Test.YtklldniapombiaaDLEcbsf02
import Derived.Test.YtklldniapombiaaDLEcbsf03
import Derived.Test.YtklldniapombiaaDLEcbsf06
import Derived.Test.YtklldniapombiaaDLEcbsf09
import Derived.Test.YtklldniapombiaaDLEcbsf12
namespace Go.Proofs.Ytklldniapombiaa
set_option maxRecDepth 100000
open Go.RowKit
/-- Blocks from lo on stay as they are. -/
structure Hib (lo : Nat) (w w2 : World) : Prop where
  size : w.heap.size ≤ w2.heap.size
  block : ∀ k, lo ≤ k → k < w.heap.size → w2.heap[k]? = w.heap[k]?
theorem Hib.refl (lo : Nat) (w : World) : Hib lo w w := ⟨Nat.le_refl _, fun _ _ _ => rfl⟩
theorem Hib.set {lo b o : Nat} {a w : World} {u : Value} (h : Hib lo a w) (hb : b < lo) : Hib lo a (w.setCell ⟨b, o, none⟩ u) :=
  ⟨by simpa using h.size, fun k h1 h2 => (Below.heap_setCell w ⟨b, o, none⟩ u k (by dsimp only; omega)).trans (h.block k h1 h2)⟩
theorem Hib.cell {lo b o : Nat} {a w : World} (h : Hib lo a w) (h1 : lo ≤ b) (h2 : b < a.heap.size) : w.cell? ⟨b, o, none⟩ = a.cell? ⟨b, o, none⟩ := World.cell?_of_block (w := a) (a := ⟨b, o, none⟩) (h.block b h1 h2)
theorem Hib.frozen {lo b o : Nat} {a w : World} (h : Hib lo a w) (h1 : lo ≤ b) (h2 : b < a.heap.size) : w.frozen? ⟨b, o, none⟩ = a.frozen? ⟨b, o, none⟩ := by
  unfold World.frozen?; dsimp only; rw [h.block b h1 h2]
theorem IntsOwn.hib {lo g N : Nat} {w w2 : World} (h : IntsOwn w g N) (k : Hib lo w w2) (hg : lo ≤ g) : IntsOwn w2 g N :=
  ⟨Nat.lt_of_lt_of_le h.1 k.size, fun j hj => by
    obtain ⟨⟨z, hz⟩, hf⟩ := h.2 j hj
    exact ⟨⟨z, (k.cell hg h.1).trans hz⟩, (k.frozen hg h.1).trans hf⟩⟩
theorem Blk.castb {w : World} {b e : Nat} {arr arr2 : Array Value} (h : Blk w b e arr) (k : arr = arr2) : Blk w b e arr2 := k ▸ h
/-- A list of items in a row of the call's own. -/
structure NwR (w : World) (lo g n : Nat) (xs : List Rec) : Prop where
  lo_ : lo ≤ g
  v : Recs w (some ⟨g, 0, none⟩) n xs
  own : IntsOwn w g (n * 7)
theorem NwR.up {w w2 : World} {lo g n : Nat} {xs : List Rec} (h : NwR w lo g n xs) (u : Up w w2) : NwR w2 lo g n xs := ⟨h.lo_, h.v.up u, h.own.up u⟩
theorem NwR.hib {w w2 : World} {lo g n : Nat} {xs : List Rec} (h : NwR w lo g n xs) (k : Hib lo w w2) : NwR w2 lo g n xs :=
  ⟨h.lo_, ⟨h.v.1, fun hn => by
    obtain ⟨b, off, hA, hb, hc⟩ := h.v.2 hn
    have : b = g := by injection hA with e; injection e with e; exact e.symm
    subst this
    exact ⟨b, off, hA, Nat.lt_of_lt_of_le hb k.size, fun i hi => (hc i hi).keep fun j => k.cell h.lo_ hb⟩⟩, h.own.hib k h.lo_⟩
theorem Hib.mono {lo hi : Nat} {a b : World} (h : Hib lo a b) (k : lo ≤ hi) : Hib hi a b := ⟨h.size, fun j h1 h2 => h.block j (Nat.le_trans k h1) h2⟩
/-- A row of numbers of the call's own. -/
structure NwN (w : World) (lo g n : Nat) (xs : List Int) : Prop where
  lo_ : lo ≤ g
  v : Nms w (some ⟨g, 0, none⟩) n xs
  own : IntsOwn w g (n * 1)
theorem NwN.up {w w2 : World} {lo g n : Nat} {xs : List Int} (h : NwN w lo g n xs) (u : Up w w2) : NwN w2 lo g n xs := ⟨h.lo_, h.v.up u, h.own.up u⟩
theorem NwN.hib {w w2 : World} {lo g n : Nat} {xs : List Int} (h : NwN w lo g n xs) (k : Hib lo w w2) : NwN w2 lo g n xs :=
  ⟨h.lo_, ⟨h.v.1, fun hn => by
    obtain ⟨b, off, hA, hb, hc⟩ := h.v.2 hn
    have : b = g := by injection hA with e; injection e with e; exact e.symm
    subst this
    exact ⟨b, off, hA, Nat.lt_of_lt_of_le hb k.size, fun i hi => (k.cell h.lo_ hb).trans (hc i hi)⟩⟩, h.own.hib k h.lo_⟩
/-- Events of the call's own. -/
structure NwE (w : World) (lo g n : Nat) (xs : List Evt) : Prop where
  lo_ : lo ≤ g
  own : Own w g n xs
theorem NwE.up {w w2 : World} {lo g n : Nat} {xs : List Evt} (h : NwE w lo g n xs) (u : Up w w2) : NwE w2 lo g n xs := ⟨h.lo_, h.own.up' u⟩
theorem NwE.hib {w w2 : World} {lo g n : Nat} {xs : List Evt} (h : NwE w lo g n xs) (k : Hib lo w w2) : NwE w2 lo g n xs :=
  ⟨h.lo_, h.own.1, Nat.lt_of_lt_of_le h.own.2.1 k.size, fun i hi => by
    obtain ⟨h0, h1, h2, h3, h4, h5⟩ := h.own.2.2.1 i hi
    have c := fun o => k.cell (o := o) h.lo_ h.own.2.1
    exact ⟨(c _).trans h0, (c _).trans h1, (c _).trans h2, (c _).trans h3, (c _).trans h4, (c _).trans h5⟩, fun j hj => (k.frozen h.lo_ h.own.2.1).trans (h.own.2.2.2 j hj)⟩
theorem NwE.evs {w : World} {lo g n : Nat} {xs : List Evt} (h : NwE w lo g n xs) : Evs w (some ⟨g, 0, none⟩) n xs := h.own.evs'
theorem info3 : (Try.prog.info? 3).map (fun i => (i.zero, i.size, i.bytes)) = some (some (.int .i64 0), 1, 8) := by kernel_rfl
set_option maxHeartbeats 2000000 in
theorem toN_any (A : Option Addr) (n cap : Nat) (xs : List Int) (w : World) (hn : n ≤ 1048576) (hE : Nms w A n xs) :
    Calls Try.prog 162 #[.slice A n cap] w fun x w' => ∃ g, x = .returned (.slice (some ⟨g, 0, none⟩) n n) ∧ NwN w' w.heap.size g n xs ∧ Up w w' := by
  obtain ⟨i0, hi, hz0, hz1, hz2⟩ := info_parts info3
  have hmk := fun W => run_make_rowN (P := Try.prog) 84 3 i0 _ Try.underlying84 hi hz0 .i64 .i64 n n (Nat.le_refl _) (by rw [hz2]; omega) (by omega) W
  rw [hz1] at hmk
  have HE := Lib.hid hE
  have LE := Lib.hid hE.1
  clear hE hi hz0 hz1 hz2
  go_enter Try.func162, Try.ntmps162
  go_wp2
  generalize hg : w.heap.size = g
  have HG := Lib.hid (Nat.le_of_eq hg)
  go_loopw [4] (fun i wr => (∃ k : Nat, k ≤ n ∧ i = .int .i64 k ∧ RowsTo wr g n 1 k (fun i _ => xs.getD i 0)) ∧ Up w wr) (fun i _ => n - (intOf i).toNat)
  case atStart =>
    refine ⟨⟨0, by omega, rfl, ?_⟩, by first | exact (Up.refl _).alloc _ | (simpa using (Up.refl w).alloc _)⟩; subst hg
    have := RowsTo.start w n 1 #[.int .i64 0] 3 (fun i _ => xs.getD i 0) (fun j hj => by
      obtain rfl : j = 0 := by simp at hj; omega
      rfl) (by simp)
    first | exact this | simpa using this
  case round =>
    obtain ⟨⟨k, hk, rfl, hp⟩, ur⟩ := hrel
    have UR := Lib.hid ur
    by_cases hlt : k < n
    · obtain ⟨b, off, hA, hb, hc⟩ := (HE.out.up ur).2 (by omega)
      subst hA
      have a0 := hc k hlt
      clear hc ur
      have SX := Lib.hid (hp.step hlt (fun _ => xs.getD k 0) (fun j _ => rfl))
      have UX := Lib.hid ((UR.out.putF HG.out (k * 1) (fun _ => xs.getD k 0) 1))
      obtain ⟨⟨v0, c0⟩, f0⟩ := hp.1.2 k (by omega)
      have hgl := hp.1.1
      clear hp
      have i4 : (k : Int) < n := by omega
      have i5 : IntKind.i64.wrap ((k : Int) + 1) = (k : Int) + 1 := IntWalk.i64_in _ (by omega)
      generalize xs.getD k 0 = p at a0 SX UX
      simp only [putF, Nat.add_zero, Nat.mul_one] at SX UX; go_wp2
      go_roundw
      case rel => exact ⟨⟨k + 1, by omega, by first | rfl | go_num, SX.out⟩, UX.out⟩
      case measure => (simp [intOf]; try omega)
    · obtain rfl : k = n := by omega
      have i4 : ¬ (k : Int) < k := by omega
      have HP := Lib.hid hp
      clear hp ur; go_wp2; go_ret
      exact ⟨g, rfl, ⟨by have := HG.out; omega, ⟨LE.out, fun _ => ⟨g, 0, rfl, HP.out.1.1, fun i hi => by
        have h := HP.out.2 i hi 0 (by omega)
        rw [Nat.zero_add]
        simpa using h⟩⟩, HP.out.1⟩, UR.out⟩
/-- A host over new rows. -/
def NewCh (h : Ch) (n k : Nat) (w : World) (x : Ending) (w' : World) : Prop :=
  ∃ g g2, x = .returned (.agg #[.int .i64 h.now.s, .int .i64 h.now.sq, .int .i64 h.now.ct, .slice (some ⟨g, 0, none⟩) n n, .slice (some ⟨g2, 0, none⟩) k k]) ∧ NwE w' w.heap.size g n h.wait ∧ NwN w' w.heap.size g2 k h.ins ∧ Up w w'
set_option maxHeartbeats 800000 in
theorem toCh_any (h : Ch) (A : Option Addr) (n c : Nat) (B : Option Addr) (k d : Nat) (w : World) (hn : n ≤ 1048576) (hk : k ≤ 1048576) (hE : Evs w A n h.wait) (hN : Nms w B k h.ins) : Calls Try.prog 114 #[.agg #[.int .i64 h.now.s, .int .i64 h.now.sq, .int .i64 h.now.ct, .slice A n c, .slice B k d]] w (NewCh h n k w) := by
  have c0 := fun W => toCst_any h.now W
  have C1 := Lib.hid (fun W (u : Up w W) => toS_any A n c h.wait W (by omega) (hE.up u))
  have C2 := Lib.hid (fun W (u : Up w W) => toN_any B k d h.ins W hk (hN.up u))
  unfold NewCh; unfold NewEvs at C1; obtain ⟨⟨a0, a1, a2⟩, hw_, hi_⟩ := h; unfold Cst.v at c0; dsimp only at c0 C1 C2 ⊢
  have C0 := Lib.hid c0
  clear c0 hE hN
  have X := Lib.hid (((Blk.new w #[.int .i64 a0, .int .i64 a1, .int .i64 a2, .slice A n c, .slice B k d] 154).alloc (.cells #[.int .i64 0, .int .i64 0, .int .i64 0, .slice none 0 0, .slice none 0 0] 86)).alloc (.cells #[.int .i64 0, .int .i64 0, .int .i64 0, .slice none 0 0, .slice none 0 0] 86))
  have R := Lib.hid ((Blk.new (w.alloc (.cells #[.int .i64 a0, .int .i64 a1, .int .i64 a2, .slice A n c, .slice B k d] 154)) #[.int .i64 0, .int .i64 0, .int .i64 0, .slice none 0 0, .slice none 0 0] 86).alloc (.cells #[.int .i64 0, .int .i64 0, .int .i64 0, .slice none 0 0, .slice none 0 0] 86))
  have O := Lib.hid (Blk.new ((w.alloc (.cells #[.int .i64 a0, .int .i64 a1, .int .i64 a2, .slice A n c, .slice B k d] 154)).alloc (.cells #[.int .i64 0, .int .i64 0, .int .i64 0, .slice none 0 0, .slice none 0 0] 86)) #[.int .i64 0, .int .i64 0, .int .i64 0, .slice none 0 0, .slice none 0 0] 86)
  simp only [World.size_alloc] at R O
  have U := Lib.hid ((((Up.refl w).alloc (.cells #[.int .i64 a0, .int .i64 a1, .int .i64 a2, .slice A n c, .slice B k d] 154)).alloc (.cells #[.int .i64 0, .int .i64 0, .int .i64 0, .slice none 0 0, .slice none 0 0] 86)).alloc (.cells #[.int .i64 0, .int .i64 0, .int .i64 0, .slice none 0 0, .slice none 0 0] 86))
  have le_ : w.heap.size + 3 ≤ (((w.alloc (.cells #[.int .i64 a0, .int .i64 a1, .int .i64 a2, .slice A n c, .slice B k d] 154)).alloc (.cells #[.int .i64 0, .int .i64 0, .int .i64 0, .slice none 0 0, .slice none 0 0] 86)).alloc (.cells #[.int .i64 0, .int .i64 0, .int .i64 0, .slice none 0 0, .slice none 0 0] 86)).heap.size := by simp
  go_enter Try.func114, Try.ntmps114
  go_wp2_with fail
  generalize ((w.alloc (.cells #[.int .i64 a0, .int .i64 a1, .int .i64 a2, .slice A n c, .slice B k d] 154)).alloc (.cells #[.int .i64 0, .int .i64 0, .int .i64 0, .slice none 0 0, .slice none 0 0] 86)).alloc (.cells #[.int .i64 0, .int .i64 0, .int .i64 0, .slice none 0 0, .slice none 0 0] 86) = W at *
  generalize hbO : w.heap.size + 1 + 1 = bO at *
  generalize hbR : w.heap.size + 1 = bR at *
  generalize hbX : w.heap.size = bX at *
  have n1 : bX ≠ bR := by omega
  have n2 : bX ≠ bO := by omega
  have n3 : bR ≠ bO := by omega
  have n4 : bO ≠ bX := by omega
  have n5 : bO ≠ bR := by omega
  have n6 : bR ≠ bX := by omega
  have LT := Lib.hid (show w.heap.size ≤ bR ∧ w.heap.size ≤ bO ∧ bR < bX + 3 ∧ bO < bX + 3 by omega)
  clear hbO hbR; refine (C0.out _).mono ?_; rintro x w1_ ⟨rfl, u⟩
  have U := Lib.hid (U.out.trans u)
  have X := Lib.hid (X.out.up u)
  have R := Lib.hid (R.out.up u)
  have O := Lib.hid (O.out.up u)
  have le_ : bX + 3 ≤ w1_.heap.size := Nat.le_trans le_ u.size
  clear u
  have O2 := Lib.hid (Blk.castb (arr2 := #[.int .i64 a0, .int .i64 a1, .int .i64 a2, .slice none 0 0, .slice none 0 0]) (((O.out.set 0 (.int .i64 a0)).set 1 (.int .i64 a1)).set 2 (.int .i64 a2)) (by simp))
  have R2 := Lib.hid (((R.out.far (b' := bO) 0 (.int .i64 a0) n3).far (b' := bO) 1 (.int .i64 a1) n3).far (b' := bO) 2 (.int .i64 a2) n3)
  have X2 := Lib.hid (((X.out.far (b' := bO) 0 (.int .i64 a0) n2).far (b' := bO) 1 (.int .i64 a1) n2).far (b' := bO) 2 (.int .i64 a2) n2)
  have U2 := Lib.hid (((U.out.setCell (p := ⟨bO, 0, none⟩) (LT.out.2.1) (.int .i64 a0)).setCell (p := ⟨bO, 1, none⟩) (LT.out.2.1) (.int .i64 a1)).setCell (p := ⟨bO, 2, none⟩) (LT.out.2.1) (.int .i64 a2))
  have HS2 := Lib.hid ((((Hib.refl (bX + 3) w1_).set (b := bO) (o := 0) (u := .int .i64 a0) LT.out.2.2.2).set (b := bO) (o := 1) (u := .int .i64 a1) LT.out.2.2.2).set (b := bO) (o := 2) (u := .int .i64 a2) LT.out.2.2.2)
  have o0 := O.out.cell (j := 0) rfl
  have o1 := O.out.cell (j := 1) rfl
  have o2 := O.out.cell (j := 2) rfl
  have o3 := O.out.cell (j := 3) rfl
  have o4 := O.out.cell (j := 4) rfl
  have fO := O.out.frozen
  have lo_ := O.out.lt
  have x3 := X.out.cell (j := 3) rfl
  have lx := X.out.lt
  have le2 : bX + 3 ≤ ((((w1_.setCell ⟨bO, 0, none⟩ (.int .i64 a0)).setCell ⟨bO, 1, none⟩ (.int .i64 a1)).setCell ⟨bO, 2, none⟩ (.int .i64 a2))).heap.size := by simpa using le_
  clear le_
  go_wp2_with fail
  generalize (((w1_.setCell ⟨bO, 0, none⟩ (.int .i64 a0)).setCell ⟨bO, 1, none⟩ (.int .i64 a1)).setCell ⟨bO, 2, none⟩ (.int .i64 a2)) = V0 at *
  have le_ := le2
  have O := O2
  have R := R2
  have X := X2
  have U := U2
  clear le2 O2 R2 X2 U2 HS2 fO lo_ lx x3 o0 o1 o2 o3 o4
  have le_pre := le_
  refine (C1.out _ U.out).mono ?_; rintro x w2_ ⟨g, rfl, hg, ho, u⟩
  have U := Lib.hid (U.out.trans u)
  have X := Lib.hid (X.out.up u)
  have R := Lib.hid (R.out.up u)
  have O := Lib.hid (O.out.up u)
  have le_ : bX + 3 ≤ w2_.heap.size := Nat.le_trans le_ u.size
  have N1 := Lib.hid (show NwE w2_ (bX + 3) g n hw_ from ⟨Nat.le_trans le_pre hg, ho⟩)
  clear hg ho le_pre; clear u
  have O2 := Lib.hid (Blk.castb (arr2 := #[.int .i64 a0, .int .i64 a1, .int .i64 a2, .slice (some ⟨g, 0, none⟩) n n, .slice none 0 0]) (O.out.set 3 (.slice (some ⟨g, 0, none⟩) n n)) (by simp))
  have R2 := Lib.hid (R.out.far (b' := bO) 3 (.slice (some ⟨g, 0, none⟩) n n) n3)
  have X2 := Lib.hid (X.out.far (b' := bO) 3 (.slice (some ⟨g, 0, none⟩) n n) n2)
  have U2 := Lib.hid (U.out.setCell (p := ⟨bO, 3, none⟩) (LT.out.2.1) (.slice (some ⟨g, 0, none⟩) n n))
  have HS2 := Lib.hid ((Hib.refl (bX + 3) w2_).set (b := bO) (o := 3) (u := .slice (some ⟨g, 0, none⟩) n n) LT.out.2.2.2)
  have N12 := Lib.hid (N1.out.hib HS2.out)
  have o0 := O.out.cell (j := 0) rfl
  have o1 := O.out.cell (j := 1) rfl
  have o2 := O.out.cell (j := 2) rfl
  have o3 := O.out.cell (j := 3) rfl
  have o4 := O.out.cell (j := 4) rfl
  have fO := O.out.frozen
  have lo_ := O.out.lt
  have x4 := X.out.cell (j := 4) rfl
  have lx := X.out.lt
  have le2 : bX + 3 ≤ ((w2_.setCell ⟨bO, 3, none⟩ (.slice (some ⟨g, 0, none⟩) n n))).heap.size := by simpa using le_
  clear le_
  go_wp2_with fail
  generalize (w2_.setCell ⟨bO, 3, none⟩ (.slice (some ⟨g, 0, none⟩) n n)) = V1 at *
  have le_ := le2
  have O := O2
  have R := R2
  have X := X2
  have U := U2
  have N1 := N12
  clear le2 O2 R2 X2 U2 HS2 fO lo_ lx x4 o0 o1 o2 o3 o4 N12
  have le_pre := le_
  refine (C2.out _ U.out).mono ?_; rintro x w3_ ⟨g2, rfl, hv, u⟩
  have U := Lib.hid (U.out.trans u)
  have X := Lib.hid (X.out.up u)
  have R := Lib.hid (R.out.up u)
  have O := Lib.hid (O.out.up u)
  have le_ : bX + 3 ≤ w3_.heap.size := Nat.le_trans le_ u.size
  have N1 := Lib.hid (N1.out.up u)
  have N2 := Lib.hid (show NwN w3_ (bX + 3) g2 k hi_ from ⟨Nat.le_trans le_pre hv.lo_, hv.v, hv.own⟩)
  clear hv le_pre; clear u
  have O2 := Lib.hid (Blk.castb (arr2 := #[.int .i64 a0, .int .i64 a1, .int .i64 a2, .slice (some ⟨g, 0, none⟩) n n, .slice (some ⟨g2, 0, none⟩) k k]) (O.out.set 4 (.slice (some ⟨g2, 0, none⟩) k k)) (by simp))
  have R2 := Lib.hid (R.out.far (b' := bO) 4 (.slice (some ⟨g2, 0, none⟩) k k) n3)
  have X2 := Lib.hid (X.out.far (b' := bO) 4 (.slice (some ⟨g2, 0, none⟩) k k) n2)
  have U2 := Lib.hid (U.out.setCell (p := ⟨bO, 4, none⟩) (LT.out.2.1) (.slice (some ⟨g2, 0, none⟩) k k))
  have HS2 := Lib.hid ((Hib.refl (bX + 3) w3_).set (b := bO) (o := 4) (u := .slice (some ⟨g2, 0, none⟩) k k) LT.out.2.2.2)
  have N12 := Lib.hid (N1.out.hib HS2.out)
  have N22 := Lib.hid (N2.out.hib HS2.out)
  have R3 := Lib.hid (Blk.castb (arr2 := #[.int .i64 a0, .int .i64 a1, .int .i64 a2, .slice (some ⟨g, 0, none⟩) n n, .slice (some ⟨g2, 0, none⟩) k k]) (((((R2.out.set 0 (.int .i64 a0)).set 1 (.int .i64 a1)).set 2 (.int .i64 a2)).set 3 (.slice (some ⟨g, 0, none⟩) n n)).set 4 (.slice (some ⟨g2, 0, none⟩) k k)) (by simp))
  have U3 := Lib.hid (((((U2.out.setCell (p := ⟨bR, 0, none⟩) (LT.out.1) (.int .i64 a0)).setCell (p := ⟨bR, 1, none⟩) (LT.out.1) (.int .i64 a1)).setCell (p := ⟨bR, 2, none⟩) (LT.out.1) (.int .i64 a2)).setCell (p := ⟨bR, 3, none⟩) (LT.out.1) (.slice (some ⟨g, 0, none⟩) n n)).setCell (p := ⟨bR, 4, none⟩) (LT.out.1) (.slice (some ⟨g2, 0, none⟩) k k))
  have HS3 := Lib.hid ((((((Hib.refl (bX + 3) (w3_.setCell ⟨bO, 4, none⟩ (.slice (some ⟨g2, 0, none⟩) k k))).set (b := bR) (o := 0) (u := .int .i64 a0) LT.out.2.2.1).set (b := bR) (o := 1) (u := .int .i64 a1) LT.out.2.2.1).set (b := bR) (o := 2) (u := .int .i64 a2) LT.out.2.2.1).set (b := bR) (o := 3) (u := .slice (some ⟨g, 0, none⟩) n n) LT.out.2.2.1).set (b := bR) (o := 4) (u := .slice (some ⟨g2, 0, none⟩) k k) LT.out.2.2.1)
  have N13 := Lib.hid (N12.out.hib HS3.out)
  have N23 := Lib.hid (N22.out.hib HS3.out)
  have o0 := O.out.cell (j := 0) rfl
  have o1 := O.out.cell (j := 1) rfl
  have o2 := O.out.cell (j := 2) rfl
  have o3 := O.out.cell (j := 3) rfl
  have o4 := O.out.cell (j := 4) rfl
  have fO := O.out.frozen
  have lo_ := O.out.lt
  have r0 := R.out.cell (j := 0) rfl
  have r1 := R.out.cell (j := 1) rfl
  have r2 := R.out.cell (j := 2) rfl
  have r3 := R.out.cell (j := 3) rfl
  have r4 := R.out.cell (j := 4) rfl
  have fR := R.out.frozen
  have lr := R.out.lt
  go_wp2; clear o0 r0 o1 r1 o2 r2 o3 r3 o4 r4 fO fR lo_ lr
  generalize ((((((w3_.setCell ⟨bO, 4, none⟩ (.slice (some ⟨g2, 0, none⟩) k k)).setCell ⟨bR, 0, none⟩ (.int .i64 a0)).setCell ⟨bR, 1, none⟩ (.int .i64 a1)).setCell ⟨bR, 2, none⟩ (.int .i64 a2)).setCell ⟨bR, 3, none⟩ (.slice (some ⟨g, 0, none⟩) n n)).setCell ⟨bR, 4, none⟩ (.slice (some ⟨g2, 0, none⟩) k k)) = WF at *
  obtain ⟨k0, k1, k2, k3, k4⟩ := And.intro (R3.out.cell (j := 0) rfl) (And.intro (R3.out.cell (j := 1) rfl) (And.intro (R3.out.cell (j := 2) rfl) (And.intro (R3.out.cell (j := 3) rfl) (R3.out.cell (j := 4) rfl))))
  exact bodyPost_ret (v := .agg #[.int .i64 a0, .int .i64 a1, .int .i64 a2, .slice (some ⟨g, 0, none⟩) n n, .slice (some ⟨g2, 0, none⟩) k k]) (by simp [results, Try.results114, go_sem, k0, k1, k2, k3, k4]) rfl ⟨g, g2, rfl, ⟨by have := N13.out.lo_; omega, N13.out.own⟩, ⟨by have := N23.out.lo_; omega, N23.out.v, N23.out.own⟩, U3.out⟩
end Go.Proofs.Ytklldniapombiaa

namespace Go.Proofs.Ytklldniapombiaa
set_option maxRecDepth 100000
open Go.RowKit
/-- A host of the call's own: its cells, and its lists in blocks from lo on. -/
def ChF (w : World) (lo b o : Nat) (h : Ch) : Prop :=
  ∃ g n g2 k, (w.cell? ⟨b, o, none⟩ = some (.int .i64 h.now.s) ∧ w.cell? ⟨b, o + 1, none⟩ = some (.int .i64 h.now.sq) ∧ w.cell? ⟨b, o + 2, none⟩ = some (.int .i64 h.now.ct) ∧ w.cell? ⟨b, o + 3, none⟩ = some (.slice (some ⟨g, 0, none⟩) n n) ∧ w.cell? ⟨b, o + 4, none⟩ = some (.slice (some ⟨g2, 0, none⟩) k k)) ∧ (n ≤ 1048576 ∧ k ≤ 1048576) ∧ NwE w lo g n h.wait ∧ NwN w lo g2 k h.ins
theorem ChF.at_ {w : World} {lo b o : Nat} {h : Ch} (f : ChF w lo b o h) : ChAt w b o h := by
  obtain ⟨g, n, g2, k, hc, ⟨hn, hk⟩, he, hi⟩ := f
  exact ⟨_, n, n, _, k, k, hc, ⟨he.evs, hn⟩, hi.v, hk⟩
theorem ChF.keep {w w' : World} {lo b o : Nat} {h : Ch} (f : ChF w lo b o h) (c : ∀ j, j < 5 → w'.cell? ⟨b, o + j, none⟩ = w.cell? ⟨b, o + j, none⟩) (v1 : ∀ {g n : Nat} {xs : List Evt}, NwE w lo g n xs → NwE w' lo g n xs) (v2 : ∀ {g n : Nat} {xs : List Int}, NwN w lo g n xs → NwN w' lo g n xs) : ChF w' lo b o h := by
  obtain ⟨g, n, g2, k, ⟨h0, h1, h2, h3, h4⟩, hb, he, hi⟩ := f
  exact ⟨g, n, g2, k, ⟨(c 0 (by omega)).trans h0, (c 1 (by omega)).trans h1, (c 2 (by omega)).trans h2, (c 3 (by omega)).trans h3, (c 4 (by omega)).trans h4⟩, hb, v1 he, v2 hi⟩
theorem ChF.up {w w' : World} {lo b o : Nat} {h : Ch} (f : ChF w lo b o h) (u : Up w w') (hb : b < w.heap.size) : ChF w' lo b o h := f.keep (fun _ _ => u.cells _ _ hb) (fun x => x.up u) (fun x => x.up u)
/-- Hosts of the call's own. -/
structure ChsF (w : World) (lo g n : Nat) (hs : List Ch) : Prop where
  lo_ : lo ≤ g
  len : hs.length = n
  lt : g < w.heap.size
  at_ : ∀ i, i < n → ChF w (g + 1) g (i * 5) (hs.getD i default)
  free : ∀ j, j < n * 5 → w.frozen? ⟨g, j, none⟩ = false
theorem ChsF.chs {w : World} {lo g n : Nat} {hs : List Ch} (h : ChsF w lo g n hs) : Chs w (some ⟨g, 0, none⟩) n hs :=
  ⟨h.len, fun _ => ⟨g, 0, rfl, h.lt, fun i hi => by rw [Nat.zero_add]; exact (h.at_ i hi).at_⟩⟩
theorem ChsF.up {w w' : World} {lo g n : Nat} {hs : List Ch} (h : ChsF w lo g n hs) (u : Up w w') : ChsF w' lo g n hs :=
  ⟨h.lo_, h.len, Nat.lt_of_lt_of_le h.lt u.size, fun i hi => (h.at_ i hi).up u h.lt, fun j hj => (u.frozens _ _ h.lt).trans (h.free j hj)⟩
theorem ChsF.hib {w w' : World} {lo g n : Nat} {hs : List Ch} (h : ChsF w lo g n hs) (k : Hib lo w w') : ChsF w' lo g n hs :=
  ⟨h.lo_, h.len, Nat.lt_of_lt_of_le h.lt k.size, fun i hi => (h.at_ i hi).keep (fun _ _ => k.cell h.lo_ h.lt) (fun x => x.hib (k.mono (by have := h.lo_; omega))) (fun x => x.hib (k.mono (by have := h.lo_; omega))), fun j hj => (k.frozen h.lo_ h.lt).trans (h.free j hj)⟩
/-- The world with five cells laid. -/
def putC (w : World) (b o : Nat) (c : Cst) (s t : Value) : World := ((((w.setCell ⟨b, o, none⟩ (.int .i64 c.s)).setCell ⟨b, o + 1, none⟩ (.int .i64 c.sq)).setCell ⟨b, o + 2, none⟩ (.int .i64 c.ct)).setCell ⟨b, o + 3, none⟩ s).setCell ⟨b, o + 4, none⟩ t
theorem putC_other (w : World) (b o : Nat) (c : Cst) (s t : Value) (b' o' : Nat) (h : b ≠ b' ∨ o' < o ∨ o + 5 ≤ o') : (putC w b o c s t).cell? ⟨b', o', none⟩ = w.cell? ⟨b', o', none⟩ := by
  unfold putC; rw [World.cell?_setCell_other _ _ _ _ (addr_ne (by omega)), World.cell?_setCell_other _ _ _ _ (addr_ne (by omega)), World.cell?_setCell_other _ _ _ _ (addr_ne (by omega)), World.cell?_setCell_other _ _ _ _ (addr_ne (by omega)), World.cell?_setCell_other _ _ _ _ (addr_ne (by omega))]
theorem putC_frozen (w : World) (b o : Nat) (c : Cst) (s t : Value) (a : Addr) : (putC w b o c s t).frozen? a = w.frozen? a := by
  unfold putC; simp [go_sem]
theorem putC_size (w : World) (b o : Nat) (c : Cst) (s t : Value) : (putC w b o c s t).heap.size = w.heap.size := by
  unfold putC; simp
theorem putC_some {w : World} {g o : Nat} {c : Cst} {s t : Value} {b j : Nat} {v : Value} (h : w.cell? ⟨b, j, none⟩ = some v) : ∃ v, (putC w g o c s t).cell? ⟨b, j, none⟩ = some v := by
  unfold putC; obtain ⟨v1, h1⟩ := setCell_some (p := ⟨g, o, none⟩) (u := .int .i64 c.s) h; obtain ⟨v2, h2⟩ := setCell_some (p := ⟨g, o + 1, none⟩) (u := .int .i64 c.sq) h1; obtain ⟨v3, h3⟩ := setCell_some (p := ⟨g, o + 2, none⟩) (u := .int .i64 c.ct) h2; obtain ⟨v4, h4⟩ := setCell_some (p := ⟨g, o + 3, none⟩) (u := s) h3
  exact setCell_some h4
theorem putC_at {w : World} {b o : Nat} {c : Cst} {s t : Value} (h : ∀ j, j < 5 → ∃ v, w.cell? ⟨b, o + j, none⟩ = some v) :
    (putC w b o c s t).cell? ⟨b, o, none⟩ = some (.int .i64 c.s) ∧ (putC w b o c s t).cell? ⟨b, o + 1, none⟩ = some (.int .i64 c.sq) ∧ (putC w b o c s t).cell? ⟨b, o + 2, none⟩ = some (.int .i64 c.ct) ∧ (putC w b o c s t).cell? ⟨b, o + 3, none⟩ = some s ∧ (putC w b o c s t).cell? ⟨b, o + 4, none⟩ = some t := by
  obtain ⟨v0, h0⟩ := h 0 (by omega); obtain ⟨v1, h1⟩ := h 1 (by omega); obtain ⟨v2, h2⟩ := h 2 (by omega); obtain ⟨v3, h3⟩ := h 3 (by omega); obtain ⟨v4, h4⟩ := h 4 (by omega)
  have n : ∀ {x y : Nat}, x ≠ y → (⟨b, x, none⟩ : Addr) ≠ ⟨b, y, none⟩ := fun e => addr_ne (.inr e)
  have ot : ∀ (W : World) {x y : Nat} (u : Value), x ≠ y → (W.setCell ⟨b, x, none⟩ u).cell? ⟨b, y, none⟩ = W.cell? ⟨b, y, none⟩ := fun W _ _ u e => World.cell?_setCell_other W _ _ u (n e)
  unfold putC; refine ⟨?_, ?_, ?_, ?_, ?_⟩
  · rw [ot _ _ (by omega), ot _ _ (by omega), ot _ _ (by omega), ot _ _ (by omega)]
    exact World.cell?_setCell_same _ _ _ h0
  · rw [ot _ _ (by omega), ot _ _ (by omega), ot _ _ (by omega)]
    exact World.cell?_setCell_same _ _ _ ((ot _ _ (by omega)).trans h1)
  · rw [ot _ _ (by omega), ot _ _ (by omega)]
    exact World.cell?_setCell_same _ _ _ ((ot _ _ (by omega)).trans ((ot _ _ (by omega)).trans h2))
  · rw [ot _ _ (by omega)]
    exact World.cell?_setCell_same _ _ _ ((ot _ _ (by omega)).trans ((ot _ _ (by omega)).trans ((ot _ _ (by omega)).trans h3)))
  · exact World.cell?_setCell_same _ _ _ ((ot _ _ (by omega)).trans ((ot _ _ (by omega)).trans ((ot _ _ (by omega)).trans ((ot _ _ (by omega)).trans h4))))
theorem Up.putC {a w : World} {b : Nat} (h : Up a w) (hb : a.heap.size ≤ b) (o : Nat) (c : Cst) (s t : Value) : Up a (Go.Proofs.Ytklldniapombiaa.putC w b o c s t) := ((((h.setCell hb _).setCell hb _).setCell hb _).setCell hb _).setCell hb _
theorem Hib.putC {lo b : Nat} {a w : World} (h : Hib lo a w) (hb : b < lo) (o : Nat) (c : Cst) (s t : Value) : Hib lo a (Go.Proofs.Ytklldniapombiaa.putC w b o c s t) := ((((h.set hb).set hb).set hb).set hb).set hb
/-- The block g on the way: k of its n rows are laid. -/
structure PartC (w : World) (g n k : Nat) (hs : List Ch) : Prop where
  lt : g < w.heap.size
  at_ : ∀ i, i < k → ChF w (g + 1) g (i * 5) (hs.getD i default)
  some_ : ∀ j, j < n * 5 → ∃ v, w.cell? ⟨g, j, none⟩ = some v
  free : ∀ j, j < n * 5 → w.frozen? ⟨g, j, none⟩ = false
theorem PartC.begin (w : World) (n : Nat) (t : TypeId) (hs : List Ch) (z : Array Value) : PartC (w.alloc (.cells (madeCells z (n * 5)) t)) w.heap.size n 0 hs :=
  ⟨by simp, fun i hi => absurd hi (by omega), fun j hj => (made_cell w _ _ t j hj).1, fun j hj => (made_cell w _ _ t j hj).2⟩
theorem PartC.up {w w' : World} {g n k : Nat} {hs : List Ch} (h : PartC w g n k hs) (u : Up w w') : PartC w' g n k hs :=
  ⟨Nat.lt_of_lt_of_le h.lt u.size, fun i hi => (h.at_ i hi).up u h.lt, fun j hj => by obtain ⟨v, hv⟩ := h.some_ j hj; exact ⟨v, (u.cells _ _ h.lt).trans hv⟩, fun j hj => (u.frozens _ _ h.lt).trans (h.free j hj)⟩
theorem PartC.put {w : World} {g n k g1 n1 g2 n2 : Nat} {hs : List Ch} {d : Ch} (h : PartC w g n k hs) (hd : hs.getD k default = d) (hk : k < n) (hn : n1 ≤ 1048576 ∧ n2 ≤ 1048576) (he : NwE w (g + 1) g1 n1 d.wait) (hi_ : NwN w (g + 1) g2 n2 d.ins) :
    PartC (putC w g (k * 5) d.now (.slice (some ⟨g1, 0, none⟩) n1 n1) (.slice (some ⟨g2, 0, none⟩) n2 n2)) g n (k + 1) hs := by
  have HH : Hib (g + 1) w (putC w g (k * 5) d.now (.slice (some ⟨g1, 0, none⟩) n1 n1) (.slice (some ⟨g2, 0, none⟩) n2 n2)) := (Hib.refl _ _).putC (by omega) _ _ _ _
  refine ⟨by rw [putC_size]; exact h.lt, fun i hi => ?_, fun j hj => ?_, fun j hj => (putC_frozen _ _ _ _ _ _ _).trans (h.free j hj)⟩
  · by_cases hik : i = k
    · subst hik
      rw [hd]
      exact ⟨g1, n1, g2, n2, putC_at (fun j hj => h.some_ _ (by omega)), hn, he.hib HH, hi_.hib HH⟩
    · exact (h.at_ i (by omega)).keep (fun j hj => putC_other _ _ _ _ _ _ _ _ (by omega)) (fun x => x.hib HH) (fun x => x.hib HH)
  · obtain ⟨v, hv⟩ := h.some_ j hj
    exact putC_some hv
def NewChs (hs : List Ch) (n : Nat) (w : World) (x : Ending) (w' : World) : Prop :=
  ∃ g, x = .returned (.slice (some ⟨g, 0, none⟩) n n) ∧ ChsF w' w.heap.size g n hs ∧ Up w w'
theorem info86 : (Try.prog.info? 86).map (fun i => (i.zero, i.size, i.bytes)) = some (some (.agg #[.int .i64 0, .int .i64 0, .int .i64 0, .slice none 0 0, .slice none 0 0]), 5, 72) := by kernel_rfl
set_option maxHeartbeats 4000000 in
theorem toChs_any (A : Option Addr) (n cap : Nat) (hs : List Ch) (w : World) (hn : n ≤ 1048576) (hE : Chs w A n hs) :
    Calls Try.prog 58 #[.slice A n cap] w (NewChs hs n w) := by
  obtain ⟨i0, hi, hz0, hz1, hz2⟩ := info_parts info86
  have hmk := fun W => run_make_rowN (P := Try.prog) 38 86 i0 _ Try.underlying38 hi hz0 .i64 .i64 n n (Nat.le_refl _) (by rw [hz2]; omega) (by omega) W
  rw [hz1] at hmk
  have HE := Lib.hid hE
  have LE := Lib.hid hE.1
  have CL := Lib.hid (fun h A n c B k d W a b e f => toCh_any h A n c B k d W a b e f)
  clear hE hi hz0 hz1 hz2
  go_enter Try.func58, Try.ntmps58
  go_wp2
  generalize hg : w.heap.size = g
  have HG := Lib.hid (Nat.le_of_eq hg)
  go_loopw [4] (fun i wr => (∃ k : Nat, k ≤ n ∧ i = .int .i64 k ∧ PartC wr g n k hs) ∧ Up w wr) (fun i _ => n - (intOf i).toNat)
  case atStart =>
    refine ⟨⟨0, by omega, rfl, ?_⟩, (Up.refl _).alloc _⟩; subst hg
    exact PartC.begin w n _ hs _
  case round =>
    obtain ⟨⟨k, hk, rfl, hp⟩, ur⟩ := hrel
    have HP := Lib.hid hp
    have UR := Lib.hid ur
    clear hp
    by_cases hlt : k < n
    · obtain ⟨b, off, hA, hb, hc⟩ := (HE.out.up ur).2 (by omega)
      subst hA
      have a0 := hc k hlt
      clear hc ur
      have cl := CL.out (hs.getD k default)
      generalize hpk : hs.getD k default = p at a0 cl
      have HE2 := Lib.hid hpk
      clear hpk; obtain ⟨A3, n3, c3, A4, n4, c4, ⟨p0, p1, p2, p3, p4⟩, ⟨h5, h6⟩, h7, h8⟩ := a0
      have cl2 := cl A3 n3 c3 A4 n4 c4 wr h6 h8 h5 h7
      unfold NewCh at cl2; obtain ⟨⟨e0, e1, e2⟩, pw, px⟩ := p; dsimp only at p0 p1 p2 p3 p4 cl2
      have C := Lib.hid cl2
      clear cl cl2 h5 h7
      have hgl : g < wr.heap.size := HP.out.lt
      have i4 : (k : Int) < n := by omega
      have i5 : IntKind.i64.wrap ((k : Int) + 1) = (k : Int) + 1 := IntWalk.i64_in _ (by omega)
      go_wp2_with fail
      refine C.out.mono ?_; rintro x wA ⟨g1, g2, rfl, he', hi', uA⟩
      have P := HP.out.up uA
      have NE := Lib.hid (show NwE wA (g + 1) g1 n3 pw from ⟨by have := he'.lo_; omega, he'.own⟩)
      have NI := Lib.hid (show NwN wA (g + 1) g2 n4 px from ⟨by have := hi'.lo_; omega, hi'.v, hi'.own⟩)
      have UA := Lib.hid (UR.out.trans uA)
      obtain ⟨v0, c0⟩ := P.some_ (k * 5) (by omega); obtain ⟨v1, c1⟩ := P.some_ (k * 5 + 1) (by omega); obtain ⟨v2, c2⟩ := P.some_ (k * 5 + 2) (by omega); obtain ⟨v3, c5⟩ := P.some_ (k * 5 + 3) (by omega); obtain ⟨v4, c6⟩ := P.some_ (k * 5 + 4) (by omega)
      have f0 := P.free (k * 5) (by omega)
      have f1 := P.free (k * 5 + 1) (by omega)
      have f2 := P.free (k * 5 + 2) (by omega)
      have f3 := P.free (k * 5 + 3) (by omega)
      have f4 := P.free (k * 5 + 4) (by omega)
      have HP2 := Lib.hid P
      clear P p0 p1 p2 p3 p4 he' hi' uA; go_wp2
      go_roundw
      case rel =>
        have hq := HP2.out.put HE2.out hlt ⟨h6, h8⟩ NE.out NI.out
        have hu := UA.out.putC (b := g) HG.out (k * 5) ⟨e0, e1, e2⟩ (.slice (some ⟨g1, 0, none⟩) n3 n3) (.slice (some ⟨g2, 0, none⟩) n4 n4)
        unfold putC at hq hu
        exact ⟨⟨k + 1, by omega, by first | rfl | go_num, hq⟩, hu⟩
      case measure => (simp [intOf]; try omega)
    · have hkn : k = n := by omega
      have i4 : ¬ (k : Int) < n := by omega
      clear ur; go_wp2; go_ret; refine ⟨g, rfl, ⟨by omega, LE.out, HP.out.lt, fun i hi => HP.out.at_ i (by omega), HP.out.free⟩, UR.out⟩
end Go.Proofs.Ytklldniapombiaa

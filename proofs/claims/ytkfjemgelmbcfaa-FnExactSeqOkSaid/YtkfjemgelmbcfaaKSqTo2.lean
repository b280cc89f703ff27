/-
  What szSeqState and toSeqState return, in one sentence: -1, or what is left, and then each list is short; a copy in new memory; for every simulator that lies in memory.
-/
import Derived.Test.YtkfjemgelmbcfaaKSqTo
namespace Go.Proofs.Ytkfjemgelmbcfaa
set_option maxRecDepth 100000
open Go.RowKit

structure ShortSq (nc nw nl : Nat) : Prop where
  c : nc ≤ 1048576
  w : nw ≤ 1048576
  l : nl ≤ 1048576

set_option maxHeartbeats 1000000 in
theorem szSq_any (Ac : Option Addr) (nc cc : Nat) (Aw : Option Addr) (nw cw : Nat) (Al : Option Addr) (nl cl : Nat) (left : Int) (w : World) (h0 : 0 ≤ left) (h1 : left ≤ 1048576) (bc : nc ≤ 9223372036854775807) (bw : nw ≤ 9223372036854775807) (bl : nl ≤ 9223372036854775807) :
    Calls Try.prog 46 #[.agg #[.slice Ac nc cc, .slice Aw nw cw, .slice Al nl cl], .int .i64 left] w (Sized (ShortSq nc nw nl) left w) := by
  have C1 := Lib.hid (fun l W a b => szC_any Ac nc cc l W a b bc)
  have C2 := Lib.hid (fun l W a b => sz_any Aw nw cw l W a b bw)
  have C3 := Lib.hid (fun l W a b => szR_any Al nl cl l W a b bl)
  have BX := Lib.hid (Box3.new w (.slice Ac nc cc) (.slice Aw nw cw) (.slice Al nl cl) 79)
  have U1 := Lib.hid ((Up.refl w).alloc (.cells #[.slice Ac nc cc, .slice Aw nw cw, .slice Al nl cl] 79))
  have jm : (-1 : Int) < 0 := by omega
  go_enter Try.func46, Try.ntmps46
  go_wp2_with fail
  generalize w.alloc (.cells #[.slice Ac nc cc, .slice Aw nw cw, .slice Al nl cl] 79) = W at *
  obtain ⟨q0, q1, q2⟩ := And.intro BX.out.c0 (And.intro BX.out.c1 BX.out.c2)
  refine (C1.out left _ h0 h1).mono ?_
  rintro x w1 ⟨rfl, rfl⟩
  by_cases i1 : left < nc
  · rw [if_pos i1]
    go_wp2
    go_ret
    exact ⟨-1, rfl, .inl rfl, U1.out⟩
  · rw [if_neg i1]
    have j1 : ¬ left - nc < 0 := by omega
    generalize hl1 : left - (nc : Int) = l1 at j1 ⊢
    have k1 : 0 ≤ l1 ∧ l1 ≤ 1048576 ∧ l1 ≤ left := by omega
    go_wp2_with fail
    refine (C2.out l1 _ k1.1 (by omega)).mono ?_
    rintro x w1 ⟨rfl, rfl⟩
    by_cases i2 : l1 < nw
    · rw [if_pos i2]
      go_wp2
      go_ret
      exact ⟨-1, rfl, .inl rfl, U1.out⟩
    · rw [if_neg i2]
      have j2 : ¬ l1 - nw < 0 := by omega
      generalize hl2 : l1 - (nw : Int) = l2 at j2 ⊢
      have k2 : 0 ≤ l2 ∧ l2 ≤ 1048576 ∧ l2 ≤ left := by omega
      go_wp2_with fail
      refine (C3.out l2 _ k2.1 k2.2.1).mono ?_
      rintro x w1 ⟨rfl, rfl⟩
      by_cases i3 : l2 < nl
      · rw [if_pos i3]
        go_wp2
        go_ret
        exact ⟨-1, rfl, .inl rfl, U1.out⟩
      · rw [if_neg i3]
        have j3 : ¬ l2 - nl < 0 := by omega
        generalize hl3 : l2 - (nl : Int) = l3 at j3 ⊢
        have k3 : 0 ≤ l3 ∧ l3 ≤ left := by omega
        have SS := Lib.hid (show ShortSq nc nw nl from ⟨by omega, by omega, by omega⟩)
        go_wp2
        go_ret
        exact ⟨l3, rfl, .inr ⟨k3.1, k3.2, SS.out⟩, U1.out⟩

/-- A block of three of the call's own. -/
structure Ow3 (w : World) (b : Nat) (x y z : Value) : Prop where
  box : Box3 w b x y z
  fr : ∀ j, w.frozen? ⟨b, j, none⟩ = false
theorem Ow3.new (w : World) (x y z : Value) (t : TypeId) : Ow3 (w.alloc (.cells #[x, y, z] t)) w.heap.size x y z := ⟨Box3.new _ _ _ _ _, free_new _ _ _⟩
theorem Ow3.up {w w' : World} {b : Nat} {x y z : Value} (h : Ow3 w b x y z) (u : Up w w') : Ow3 w' b x y z := ⟨h.box.up u, fun j => (u.frozens _ _ h.box.lt).trans (h.fr j)⟩
theorem Ow3.mv {w w' : World} {b g : Nat} {x y z : Value} (h : Ow3 w b x y z) (m : Mv g w w') (hne : b ≠ g) : Ow3 w' b x y z :=
  ⟨⟨Nat.lt_of_lt_of_le h.box.lt m.size, (m.cells _ _ h.box.lt hne).trans h.box.c0, (m.cells _ _ h.box.lt hne).trans h.box.c1, (m.cells _ _ h.box.lt hne).trans h.box.c2⟩, fun j => (m.frozens _ _ h.box.lt hne).trans (h.fr j)⟩
theorem Ow3.set0 {w : World} {b : Nat} {x y z : Value} (h : Ow3 w b x y z) (v : Value) : Ow3 (w.setCell ⟨b, 0, none⟩ v) b v y z :=
  ⟨⟨by simpa using h.box.lt, World.cell?_setCell_same _ _ _ h.box.c0, (World.cell?_setCell_other _ _ _ _ (addr_ne (by omega))).trans h.box.c1, (World.cell?_setCell_other _ _ _ _ (addr_ne (by omega))).trans h.box.c2⟩, fun j => by have := h.fr j; simpa [go_sem] using this⟩
theorem Ow3.set1 {w : World} {b : Nat} {x y z : Value} (h : Ow3 w b x y z) (v : Value) : Ow3 (w.setCell ⟨b, 1, none⟩ v) b x v z :=
  ⟨⟨by simpa using h.box.lt, (World.cell?_setCell_other _ _ _ _ (addr_ne (by omega))).trans h.box.c0, World.cell?_setCell_same _ _ _ h.box.c1, (World.cell?_setCell_other _ _ _ _ (addr_ne (by omega))).trans h.box.c2⟩, fun j => by have := h.fr j; simpa [go_sem] using this⟩
theorem Ow3.set2 {w : World} {b : Nat} {x y z : Value} (h : Ow3 w b x y z) (v : Value) : Ow3 (w.setCell ⟨b, 2, none⟩ v) b x y v :=
  ⟨⟨by simpa using h.box.lt, (World.cell?_setCell_other _ _ _ _ (addr_ne (by omega))).trans h.box.c0, (World.cell?_setCell_other _ _ _ _ (addr_ne (by omega))).trans h.box.c1, World.cell?_setCell_same _ _ _ h.box.c2⟩, fun j => by have := h.fr j; simpa [go_sem] using this⟩
theorem Csts.mv {w w' : World} {A : Option Addr} {n g : Nat} {xs : List Cst} (h : Csts w A n xs) (m : Mv g w w') (hne : ∀ b off, A = some ⟨b, off, none⟩ → b ≠ g) : Csts w' A n xs :=
  ⟨h.1, fun hn => by
    obtain ⟨b, off, hA, hb, hc⟩ := h.2 hn
    obtain ⟨_, _, _⟩ := hc 0 hn
    exact ⟨b, off, hA, Nat.lt_of_lt_of_le hb m.size, fun i hi => (hc i hi).keep fun j => m.cells b j hb (hne b off hA)⟩⟩
theorem Recs.mv {w w' : World} {A : Option Addr} {n g : Nat} {xs : List Rec} (h : Recs w A n xs) (m : Mv g w w') (hne : ∀ b off, A = some ⟨b, off, none⟩ → b ≠ g) : Recs w' A n xs :=
  ⟨h.1, fun hn => by
    obtain ⟨b, off, hA, hb, hc⟩ := h.2 hn
    exact ⟨b, off, hA, Nat.lt_of_lt_of_le hb m.size, fun i hi => (hc i hi).keep fun j => m.cells b j hb (hne b off hA)⟩⟩
theorem ne_some {g b : Nat} (h : g ≠ b) : ∀ b' off, (some ⟨g, 0, none⟩ : Option Addr) = some ⟨b', off, none⟩ → b' ≠ b := fun b' off e => by
  injection e with e
  injection e with e _ _
  omega

set_option maxHeartbeats 4000000 in
theorem toSq_any (Ac : Option Addr) (nc cc : Nat) (Aw : Option Addr) (nw cw : Nat) (Al : Option Addr) (nl cl : Nat) (s : Sq) (w : World) (hS : ShortSq nc nw nl) (hV : SqV w Ac nc Aw nw Al nl s) :
    Calls Try.prog 48 #[.agg #[.slice Ac nc cc, .slice Aw nw cw, .slice Al nl cl]] w fun x w' => ∃ g1 g2 g3, x = .returned (.agg #[.slice (some ⟨g1, 0, none⟩) nc nc, .slice (some ⟨g2, 0, none⟩) nw nw, .slice (some ⟨g3, 0, none⟩) nl nl]) ∧ SqV w' (some ⟨g1, 0, none⟩) nc (some ⟨g2, 0, none⟩) nw (some ⟨g3, 0, none⟩) nl s ∧ Up w w' := by
  have C1 := Lib.hid (fun W (u : Up w W) => toC_any Ac nc cc s.comps W hS.c (hV.comps.up u))
  have C2 := Lib.hid (fun W (u : Up w W) => toS_any Aw nw cw s.wait W (by have := hS.w; omega) (hV.wait.up u))
  have C3 := Lib.hid (fun W (u : Up w W) => toR_any Al nl cl s.log W hS.l (hV.log.up u))
  clear hS hV
  have BX := Lib.hid ((Box3.new w (.slice Ac nc cc) (.slice Aw nw cw) (.slice Al nl cl) 79).up (((Up.refl _).alloc (.cells #[.slice none 0 0, .slice none 0 0, .slice none 0 0] 72)).alloc (.cells #[.slice none 0 0, .slice none 0 0, .slice none 0 0] 72)))
  have O1 := Lib.hid ((Ow3.new (w.alloc (.cells #[.slice Ac nc cc, .slice Aw nw cw, .slice Al nl cl] 79)) (.slice none 0 0) (.slice none 0 0) (.slice none 0 0) 72).up ((Up.refl _).alloc (.cells #[.slice none 0 0, .slice none 0 0, .slice none 0 0] 72)))
  have O2 := Lib.hid (Ow3.new ((w.alloc (.cells #[.slice Ac nc cc, .slice Aw nw cw, .slice Al nl cl] 79)).alloc (.cells #[.slice none 0 0, .slice none 0 0, .slice none 0 0] 72)) (.slice none 0 0) (.slice none 0 0) (.slice none 0 0) 72)
  simp only [World.size_alloc] at O1 O2
  have UA := Lib.hid ((((Up.refl w).alloc (.cells #[.slice Ac nc cc, .slice Aw nw cw, .slice Al nl cl] 79)).alloc (.cells #[.slice none 0 0, .slice none 0 0, .slice none 0 0] 72)).alloc (.cells #[.slice none 0 0, .slice none 0 0, .slice none 0 0] 72))
  go_enter Try.func48, Try.ntmps48
  go_wp2_with fail
  generalize ((w.alloc (.cells #[.slice Ac nc cc, .slice Aw nw cw, .slice Al nl cl] 79)).alloc (.cells #[.slice none 0 0, .slice none 0 0, .slice none 0 0] 72)).alloc (.cells #[.slice none 0 0, .slice none 0 0, .slice none 0 0] 72) = W at *
  generalize hb2 : w.heap.size + 1 + 1 = b2 at *
  generalize hb1 : w.heap.size + 1 = b1 at *
  generalize hb0 : w.heap.size = b0 at *
  have lb : b0 < b1 ∧ b1 < b2 := by omega
  have l2 := O2.out.box.lt
  refine (C1.out _ UA.out).mono ?_
  rintro x w1 ⟨g1, rfl, hg1, v1, u1⟩
  have n1 : g1 ≠ b1 ∧ g1 ≠ b2 := by omega
  have BX := Lib.hid (BX.out.up u1)
  have O1 := Lib.hid (O1.out.up u1)
  have O2 := Lib.hid (O2.out.up u1)
  have UA := Lib.hid (UA.out.trans u1)
  have V1 := Lib.hid v1
  have m1 := (Mv.refl b2 w1).setCell (o := 0) (.slice (some ⟨g1, 0, none⟩) nc nc)
  have V1' := Lib.hid (V1.out.mv m1 (ne_some n1.2))
  have O1' := Lib.hid (O1.out.mv m1 (by omega))
  have O2' := Lib.hid (O2.out.set0 (.slice (some ⟨g1, 0, none⟩) nc nc))
  have UA' := Lib.hid (UA.out.setCell (p := ⟨b2, 0, none⟩) (by dsimp only; omega) (.slice (some ⟨g1, 0, none⟩) nc nc))
  have BX' := Lib.hid (show Box3 (w1.setCell ⟨b2, 0, none⟩ (.slice (some ⟨g1, 0, none⟩) nc nc)) b0 _ _ _ from BX.out.keep m1.size (fun o => m1.cells b0 o BX.out.lt (by omega)))
  obtain ⟨p0, p1, p2⟩ := And.intro BX'.out.c0 (And.intro BX'.out.c1 BX'.out.c2)
  have f2 := O2.out.fr
  have e0 := O2.out.box.c0
  clear u1 v1 m1 hg1
  go_wp2_with fail
  generalize w1.setCell ⟨b2, 0, none⟩ (.slice (some ⟨g1, 0, none⟩) nc nc) = S1 at *
  have l2 := O2'.out.box.lt
  refine (C2.out _ UA'.out).mono ?_
  rintro x w2 ⟨g2, rfl, hg2, o2, u2⟩
  have n2 : g2 ≠ b1 ∧ g2 ≠ b2 := by omega
  clear V1 O1 O2 BX UA p0 p1 p2 f2 e0
  have BX := Lib.hid (BX'.out.up u2)
  have O1 := Lib.hid (O1'.out.up u2)
  have O2 := Lib.hid (O2'.out.up u2)
  have UA := Lib.hid (UA'.out.trans u2)
  have V1 := Lib.hid (V1'.out.up u2)
  have V2 := Lib.hid o2.evs'
  clear V1' O1' O2' UA' BX' u2 o2 hg2
  have m1 := (Mv.refl b2 w2).setCell (o := 1) (.slice (some ⟨g2, 0, none⟩) nw nw)
  have V1' := Lib.hid (V1.out.mv m1 (ne_some n1.2))
  have V2' := Lib.hid (V2.out.mv m1 (ne_some n2.2))
  have O1' := Lib.hid (O1.out.mv m1 (by omega))
  have O2' := Lib.hid (O2.out.set1 (.slice (some ⟨g2, 0, none⟩) nw nw))
  have UA' := Lib.hid (UA.out.setCell (p := ⟨b2, 1, none⟩) (by dsimp only; omega) (.slice (some ⟨g2, 0, none⟩) nw nw))
  have BX' := Lib.hid (show Box3 (w2.setCell ⟨b2, 1, none⟩ (.slice (some ⟨g2, 0, none⟩) nw nw)) b0 _ _ _ from BX.out.keep m1.size (fun o => m1.cells b0 o BX.out.lt (by omega)))
  obtain ⟨p0, p1, p2⟩ := And.intro BX'.out.c0 (And.intro BX'.out.c1 BX'.out.c2)
  have f2 := O2.out.fr
  have e0 := O2.out.box.c1
  clear m1
  go_wp2_with fail
  generalize w2.setCell ⟨b2, 1, none⟩ (.slice (some ⟨g2, 0, none⟩) nw nw) = S2 at *
  have l2 := O2'.out.box.lt
  refine (C3.out _ UA'.out).mono ?_
  rintro x w3 ⟨g3, rfl, hg3, v3, u3⟩
  have n3 : g3 ≠ b1 ∧ g3 ≠ b2 := by omega
  clear V1 V2 O1 O2 BX UA p0 p1 p2 f2 e0
  have O1 := Lib.hid (O1'.out.up u3)
  have O2 := Lib.hid (O2'.out.up u3)
  have UA := Lib.hid (UA'.out.trans u3)
  have V1 := Lib.hid (V1'.out.up u3)
  have V2 := Lib.hid (V2'.out.up u3)
  have V3 := Lib.hid v3
  clear V1' V2' O1' O2' UA' BX' u3 v3 hg3
  have m1 := (Mv.refl b2 w3).setCell (o := 2) (.slice (some ⟨g3, 0, none⟩) nl nl)
  have V1' := Lib.hid (V1.out.mv m1 (ne_some n1.2))
  have V2' := Lib.hid (V2.out.mv m1 (ne_some n2.2))
  have V3' := Lib.hid (V3.out.mv m1 (ne_some n3.2))
  have O1' := Lib.hid (O1.out.mv m1 (by omega))
  have O2' := Lib.hid (O2.out.set2 (.slice (some ⟨g3, 0, none⟩) nl nl))
  have UA' := Lib.hid (UA.out.setCell (p := ⟨b2, 2, none⟩) (by dsimp only; omega) (.slice (some ⟨g3, 0, none⟩) nl nl))
  obtain ⟨p0, p1, p2⟩ := And.intro O2'.out.box.c0 (And.intro O2'.out.box.c1 O2'.out.box.c2)
  have f2 := O2.out.fr
  have e0 := O2.out.box.c2
  have f1 := O1'.out.fr
  obtain ⟨r0, r1, r2⟩ := And.intro O1'.out.box.c0 (And.intro O1'.out.box.c1 O1'.out.box.c2)
  have O3 := Lib.hid (((O1'.out.set0 (.slice (some ⟨g1, 0, none⟩) nc nc)).set1 (.slice (some ⟨g2, 0, none⟩) nw nw)).set2 (.slice (some ⟨g3, 0, none⟩) nl nl))
  obtain ⟨k0, k1, k2⟩ := And.intro O3.out.box.c0 (And.intro O3.out.box.c1 O3.out.box.c2)
  have m3 := (((Mv.refl b1 (w3.setCell ⟨b2, 2, none⟩ (.slice (some ⟨g3, 0, none⟩) nl nl))).setCell (o := 0) (.slice (some ⟨g1, 0, none⟩) nc nc)).setCell (o := 1) (.slice (some ⟨g2, 0, none⟩) nw nw)).setCell (o := 2) (.slice (some ⟨g3, 0, none⟩) nl nl)
  have VE := Lib.hid (show SqV _ (some ⟨g1, 0, none⟩) nc (some ⟨g2, 0, none⟩) nw (some ⟨g3, 0, none⟩) nl s from ⟨V1'.out.mv m3 (ne_some n1.1), V2'.out.mv m3 (ne_some n2.1), V3'.out.mv m3 (ne_some n3.1)⟩)
  have near : ∀ j, w.heap.size ≤ (⟨b1, j, none⟩ : Addr).block := fun j => by dsimp only; omega
  have UE := Lib.hid (((UA'.out.setCell (near 0) (.slice (some ⟨g1, 0, none⟩) nc nc)).setCell (near 1) (.slice (some ⟨g2, 0, none⟩) nw nw)).setCell (near 2) (.slice (some ⟨g3, 0, none⟩) nl nl))
  clear m1 m3 V1 V2 V3 V1' V2' V3' O1 O2 O1' O2' O3 UA UA'
  go_wp2
  exact bodyPost_ret (v := .agg #[.slice (some ⟨g1, 0, none⟩) nc nc, .slice (some ⟨g2, 0, none⟩) nw nw, .slice (some ⟨g3, 0, none⟩) nl nl]) (by simp [results, Try.results48, go_sem, k0, k1, k2]) rfl ⟨g1, g2, g3, rfl, VE.out, UE.out⟩

end Go.Proofs.Ytkfjemgelmbcfaa

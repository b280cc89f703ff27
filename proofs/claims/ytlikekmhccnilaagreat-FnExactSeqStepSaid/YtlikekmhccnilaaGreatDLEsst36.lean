/-
  What szSeqState and toSeqState return, in one sentence: -1, or what is left, and then each list is short; a copy in new memory; for every simulator that lies in memory.
  Which records and which pending events are valid, in one sentence: two functions on numbers; no condition is made.
  What eventsOf, every and records return, in one sentence: the records' events in a new slice, and whether all are as they ought to be; for every list that lies in memory.
-/
import Derived.Test.YtlikekmhccnilaaGreatDLEsst02
import Derived.Test.YtlikekmhccnilaaGreatDLEsst14
import Derived.Test.YtlikekmhccnilaaGreatDLEsst22
import Derived.Test.YtlikekmhccnilaaGreatDLEsst25
namespace Go.Proofs.YtlikekmhccnilaaGreat
set_option maxRecDepth 100000
open Go.RowKit
structure ShortSq (nc nw nl : Nat) : Prop where
  c : nc ≤ 1048576
  w : nw ≤ 1048576
  l : nl ≤ 1048576
/-- A block of three of the call's own. -/
structure Ow3 (w : World) (b : Nat) (x y z : Value) : Prop where
  box : Box3 w b x y z
  fr : ∀ j, w.frozen? ⟨b, j, none⟩ = false
theorem Ow3.new (w : World) (x y z : Value) (t : TypeId) : Ow3 (w.alloc (.cells #[x, y, z] t)) w.heap.size x y z := ⟨Box3.new _ _ _ _ _, free_new _ _ _⟩
theorem Ow3.up {w w' : World} {b : Nat} {x y z : Value} (h : Ow3 w b x y z) (u : Up w w') : Ow3 w' b x y z := ⟨h.box.up u, fun j => (u.frozens _ _ h.box.lt).trans (h.fr j)⟩
theorem Ow3.mv {w w' : World} {b g : Nat} {x y z : Value} (h : Ow3 w b x y z) (m : Mv g w w') (hne : b ≠ g) : Ow3 w' b x y z :=
  ⟨⟨Nat.lt_of_lt_of_le h.box.lt m.size, (m.cells _ _ h.box.lt hne).trans h.box.c0, (m.cells _ _ h.box.lt hne).trans h.box.c1, (m.cells _ _ h.box.lt hne).trans h.box.c2⟩, fun j => (m.frozens _ _ h.box.lt hne).trans (h.fr j)⟩
theorem Ow3.set0 {w : World} {b : Nat} {x y z : Value} (h : Ow3 w b x y z) (v : Value) : Ow3 (w.setCell ⟨b, 0, none⟩ v) b v y z :=
  ⟨⟨by simpa using h.box.lt, World.cell?_setCell_same _ _ _ h.box.c0, (World.cell?_setCell_other _ _ _ _ (addr_ne (by omega))).trans h.box.c1, (World.cell?_setCell_other _ _ _ _ (addr_ne (by omega))).trans h.box.c2⟩, fun j => by have := h.fr j; simpa [go_sem] using this⟩
theorem Ow3.set1 {w : World} {b : Nat} {x y z : Value} (h : Ow3 w b x y z) (v : Value) : Ow3 (w.setCell ⟨b, 1, none⟩ v) b x v z :=
  ⟨⟨by simpa using h.box.lt, (World.cell?_setCell_other _ _ _ _ (addr_ne (by omega))).trans h.box.c0, World.cell?_setCell_same _ _ _ h.box.c1, (World.cell?_setCell_other _ _ _ _ (addr_ne (by omega))).trans h.box.c2⟩, fun j => by have := h.fr j; simpa [go_sem] using this⟩
theorem Ow3.set2 {w : World} {b : Nat} {x y z : Value} (h : Ow3 w b x y z) (v : Value) : Ow3 (w.setCell ⟨b, 2, none⟩ v) b x y v :=
  ⟨⟨by simpa using h.box.lt, (World.cell?_setCell_other _ _ _ _ (addr_ne (by omega))).trans h.box.c0, (World.cell?_setCell_other _ _ _ _ (addr_ne (by omega))).trans h.box.c1, World.cell?_setCell_same _ _ _ h.box.c2⟩, fun j => by have := h.fr j; simpa [go_sem] using this⟩
theorem Own.ints6 {w : World} {g n : Nat} {es : List Evt} (ho : Own w g n es) : IntsOwn w g (n * 6) := ⟨ho.2.1, fun j hj => by
  obtain ⟨c0, c1, c2, c3, c4, c5⟩ := ho.2.2.1 (j / 6) (by omega); refine ⟨?_, ho.2.2.2 j hj⟩
  have e : j % 6 = 0 ∨ j % 6 = 1 ∨ j % 6 = 2 ∨ j % 6 = 3 ∨ j % 6 = 4 ∨ j % 6 = 5 := by omega
  rcases e with e | e | e | e | e | e
  · exact ⟨_, by rw [show j = j / 6 * 6 by omega]; exact c0⟩
  · exact ⟨_, by rw [show j = j / 6 * 6 + 1 by omega]; exact c1⟩
  · exact ⟨_, by rw [show j = j / 6 * 6 + 2 by omega]; exact c2⟩
  · exact ⟨_, by rw [show j = j / 6 * 6 + 3 by omega]; exact c3⟩
  · exact ⟨_, by rw [show j = j / 6 * 6 + 4 by omega]; exact c4⟩
  · exact ⟨_, by rw [show j = j / 6 * 6 + 5 by omega]; exact c5⟩⟩
theorem Csts.mv {w w' : World} {A : Option Addr} {n g : Nat} {xs : List Cst} (h : Csts w A n xs) (m : Mv g w w') (hne : ∀ b off, A = some ⟨b, off, none⟩ → b ≠ g) : Csts w' A n xs :=
  ⟨h.1, fun hn => by
    obtain ⟨b, off, hA, hb, hc⟩ := h.2 hn; obtain ⟨_, _, _⟩ := hc 0 hn
    exact ⟨b, off, hA, Nat.lt_of_lt_of_le hb m.size, fun i hi => (hc i hi).keep fun j => m.cells b j hb (hne b off hA)⟩⟩
theorem Recs.mv {w w' : World} {A : Option Addr} {n g : Nat} {xs : List Rec} (h : Recs w A n xs) (m : Mv g w w') (hne : ∀ b off, A = some ⟨b, off, none⟩ → b ≠ g) : Recs w' A n xs :=
  ⟨h.1, fun hn => by
    obtain ⟨b, off, hA, hb, hc⟩ := h.2 hn
    exact ⟨b, off, hA, Nat.lt_of_lt_of_le hb m.size, fun i hi => (hc i hi).keep fun j => m.cells b j hb (hne b off hA)⟩⟩
theorem ne_some {g b : Nat} (h : g ≠ b) : ∀ b' off, (some ⟨g, 0, none⟩ : Option Addr) = some ⟨b', off, none⟩ → b' ≠ b := fun b' off e => by
  injection e with e
  injection e with e _ _
  omega
set_option maxHeartbeats 4000000 in
theorem toSq_own (Ac : Option Addr) (nc cc : Nat) (Aw : Option Addr) (nw cw : Nat) (Al : Option Addr) (nl cl : Nat) (s : Sq) (w : World) (hS : ShortSq nc nw nl) (hV : SqV w Ac nc Aw nw Al nl s) :
    Calls Tryz.prog 15 #[.agg #[.slice Ac nc cc, .slice Aw nw cw, .slice Al nl cl]] w fun x w' => ∃ g1 g2 g3, x = .returned (.agg #[.slice (some ⟨g1, 0, none⟩) nc nc, .slice (some ⟨g2, 0, none⟩) nw nw, .slice (some ⟨g3, 0, none⟩) nl nl]) ∧ SqV w' (some ⟨g1, 0, none⟩) nc (some ⟨g2, 0, none⟩) nw (some ⟨g3, 0, none⟩) nl s ∧ (IntsOwn w' g1 (nc * 3) ∧ IntsOwn w' g2 (nw * 6) ∧ IntsOwn w' g3 (nl * 7) ∧ w.heap.size ≤ g1 ∧ g1 < g2 ∧ g2 < g3) ∧ Up w w' := by
  have C1 := Lib.hid (fun W (u : Up w W) => toC_any Ac nc cc s.comps W hS.c (hV.comps.up u))
  have C2 := Lib.hid (fun W (u : Up w W) => toS_any Aw nw cw s.wait W (by have := hS.w; omega) (hV.wait.up u))
  have C3 := Lib.hid (fun W (u : Up w W) => toR_any Al nl cl s.log W hS.l (hV.log.up u))
  clear hS hV
  have BX := Lib.hid ((Box3.new w (.slice Ac nc cc) (.slice Aw nw cw) (.slice Al nl cl) 29).up (((Up.refl _).alloc (.cells #[.slice none 0 0, .slice none 0 0, .slice none 0 0] 36)).alloc (.cells #[.slice none 0 0, .slice none 0 0, .slice none 0 0] 36)))
  have O1 := Lib.hid ((Ow3.new (w.alloc (.cells #[.slice Ac nc cc, .slice Aw nw cw, .slice Al nl cl] 29)) (.slice none 0 0) (.slice none 0 0) (.slice none 0 0) 36).up ((Up.refl _).alloc (.cells #[.slice none 0 0, .slice none 0 0, .slice none 0 0] 36)))
  have O2 := Lib.hid (Ow3.new ((w.alloc (.cells #[.slice Ac nc cc, .slice Aw nw cw, .slice Al nl cl] 29)).alloc (.cells #[.slice none 0 0, .slice none 0 0, .slice none 0 0] 36)) (.slice none 0 0) (.slice none 0 0) (.slice none 0 0) 36)
  simp only [World.size_alloc] at O1 O2
  have UA := Lib.hid ((((Up.refl w).alloc (.cells #[.slice Ac nc cc, .slice Aw nw cw, .slice Al nl cl] 29)).alloc (.cells #[.slice none 0 0, .slice none 0 0, .slice none 0 0] 36)).alloc (.cells #[.slice none 0 0, .slice none 0 0, .slice none 0 0] 36))
  go_enter Tryz.func15, Tryz.ntmps15
  go_wp2_with fail
  generalize ((w.alloc (.cells #[.slice Ac nc cc, .slice Aw nw cw, .slice Al nl cl] 29)).alloc (.cells #[.slice none 0 0, .slice none 0 0, .slice none 0 0] 36)).alloc (.cells #[.slice none 0 0, .slice none 0 0, .slice none 0 0] 36) = W at *
  generalize hb2 : w.heap.size + 1 + 1 = b2 at *
  generalize hb1 : w.heap.size + 1 = b1 at *
  generalize hb0 : w.heap.size = b0 at *
  have lb : b0 < b1 ∧ b1 < b2 := by omega
  have l2 := O2.out.box.lt
  refine (C1.out _ UA.out).mono ?_; rintro x w1 ⟨g1, rfl, hg1, v1, i1, u1⟩
  have B1g : b0 ≤ g1 := by omega
  have I1 := Lib.hid i1
  clear i1
  have n1 : g1 ≠ b1 ∧ g1 ≠ b2 := by omega
  have BX := Lib.hid (BX.out.up u1)
  have O1 := Lib.hid (O1.out.up u1)
  have O2 := Lib.hid (O2.out.up u1)
  have UA := Lib.hid (UA.out.trans u1)
  have V1 := Lib.hid v1
  have m1 := (Mv.refl b2 w1).setCell (o := 0) (.slice (some ⟨g1, 0, none⟩) nc nc)
  have V1' := Lib.hid (V1.out.mv m1 (ne_some n1.2))
  have I1' := Lib.hid (I1.out.mv m1 n1.2)
  have O1' := Lib.hid (O1.out.mv m1 (by omega))
  have O2' := Lib.hid (O2.out.set0 (.slice (some ⟨g1, 0, none⟩) nc nc))
  have UA' := Lib.hid (UA.out.setCell (p := ⟨b2, 0, none⟩) (by dsimp only; omega) (.slice (some ⟨g1, 0, none⟩) nc nc))
  have BX' := Lib.hid (show Box3 (w1.setCell ⟨b2, 0, none⟩ (.slice (some ⟨g1, 0, none⟩) nc nc)) b0 _ _ _ from BX.out.keep m1.size (fun o => m1.cells b0 o BX.out.lt (by omega)))
  obtain ⟨p0, p1, p2⟩ := And.intro BX'.out.c0 (And.intro BX'.out.c1 BX'.out.c2)
  have f2 := O2.out.fr
  have e0 := O2.out.box.c0
  clear u1 v1 m1 hg1
  go_wp2_with fail
  generalize w1.setCell ⟨b2, 0, none⟩ (.slice (some ⟨g1, 0, none⟩) nc nc) = S1 at *
  have l2 := O2'.out.box.lt
  refine (C2.out _ UA'.out).mono ?_; rintro x w2 ⟨g2, rfl, hg2, o2, u2⟩
  have B2g : g1 < g2 := by have := I1'.out.1; omega
  have I1 := Lib.hid (I1'.out.up u2)
  have I2 := Lib.hid o2.ints6
  clear I1'
  have n2 : g2 ≠ b1 ∧ g2 ≠ b2 := by omega
  clear V1 O1 O2 BX UA p0 p1 p2 f2 e0
  have BX := Lib.hid (BX'.out.up u2)
  have O1 := Lib.hid (O1'.out.up u2)
  have O2 := Lib.hid (O2'.out.up u2)
  have UA := Lib.hid (UA'.out.trans u2)
  have V1 := Lib.hid (V1'.out.up u2)
  have V2 := Lib.hid o2.evs'
  clear V1' O1' O2' UA' BX' u2 o2 hg2
  have m1 := (Mv.refl b2 w2).setCell (o := 1) (.slice (some ⟨g2, 0, none⟩) nw nw)
  have V1' := Lib.hid (V1.out.mv m1 (ne_some n1.2))
  have V2' := Lib.hid (V2.out.mv m1 (ne_some n2.2))
  have I1' := Lib.hid (I1.out.mv m1 n1.2)
  have I2' := Lib.hid (I2.out.mv m1 n2.2)
  have O1' := Lib.hid (O1.out.mv m1 (by omega))
  have O2' := Lib.hid (O2.out.set1 (.slice (some ⟨g2, 0, none⟩) nw nw))
  have UA' := Lib.hid (UA.out.setCell (p := ⟨b2, 1, none⟩) (by dsimp only; omega) (.slice (some ⟨g2, 0, none⟩) nw nw))
  have BX' := Lib.hid (show Box3 (w2.setCell ⟨b2, 1, none⟩ (.slice (some ⟨g2, 0, none⟩) nw nw)) b0 _ _ _ from BX.out.keep m1.size (fun o => m1.cells b0 o BX.out.lt (by omega)))
  obtain ⟨p0, p1, p2⟩ := And.intro BX'.out.c0 (And.intro BX'.out.c1 BX'.out.c2)
  have f2 := O2.out.fr
  have e0 := O2.out.box.c1
  clear m1
  go_wp2_with fail
  generalize w2.setCell ⟨b2, 1, none⟩ (.slice (some ⟨g2, 0, none⟩) nw nw) = S2 at *
  have l2 := O2'.out.box.lt
  refine (C3.out _ UA'.out).mono ?_; rintro x w3 ⟨g3, rfl, hg3, v3, i3, u3⟩
  have B3g : g2 < g3 := by have := I2'.out.1; omega
  have I1 := Lib.hid (I1'.out.up u3)
  have I2 := Lib.hid (I2'.out.up u3)
  have I3 := Lib.hid i3
  clear I1' I2' i3
  have n3 : g3 ≠ b1 ∧ g3 ≠ b2 := by omega
  clear V1 V2 O1 O2 BX UA p0 p1 p2 f2 e0
  have O1 := Lib.hid (O1'.out.up u3)
  have O2 := Lib.hid (O2'.out.up u3)
  have UA := Lib.hid (UA'.out.trans u3)
  have V1 := Lib.hid (V1'.out.up u3)
  have V2 := Lib.hid (V2'.out.up u3)
  have V3 := Lib.hid v3
  clear V1' V2' O1' O2' UA' BX' u3 v3 hg3
  have m1 := (Mv.refl b2 w3).setCell (o := 2) (.slice (some ⟨g3, 0, none⟩) nl nl)
  have V1' := Lib.hid (V1.out.mv m1 (ne_some n1.2))
  have V2' := Lib.hid (V2.out.mv m1 (ne_some n2.2))
  have V3' := Lib.hid (V3.out.mv m1 (ne_some n3.2))
  have I1' := Lib.hid (I1.out.mv m1 n1.2)
  have I2' := Lib.hid (I2.out.mv m1 n2.2)
  have I3' := Lib.hid (I3.out.mv m1 n3.2)
  have O1' := Lib.hid (O1.out.mv m1 (by omega))
  have O2' := Lib.hid (O2.out.set2 (.slice (some ⟨g3, 0, none⟩) nl nl))
  have UA' := Lib.hid (UA.out.setCell (p := ⟨b2, 2, none⟩) (by dsimp only; omega) (.slice (some ⟨g3, 0, none⟩) nl nl))
  obtain ⟨p0, p1, p2⟩ := And.intro O2'.out.box.c0 (And.intro O2'.out.box.c1 O2'.out.box.c2)
  have f2 := O2.out.fr
  have e0 := O2.out.box.c2
  have f1 := O1'.out.fr
  obtain ⟨r0, r1, r2⟩ := And.intro O1'.out.box.c0 (And.intro O1'.out.box.c1 O1'.out.box.c2)
  have O3 := Lib.hid (((O1'.out.set0 (.slice (some ⟨g1, 0, none⟩) nc nc)).set1 (.slice (some ⟨g2, 0, none⟩) nw nw)).set2 (.slice (some ⟨g3, 0, none⟩) nl nl))
  obtain ⟨k0, k1, k2⟩ := And.intro O3.out.box.c0 (And.intro O3.out.box.c1 O3.out.box.c2)
  have m3 := (((Mv.refl b1 (w3.setCell ⟨b2, 2, none⟩ (.slice (some ⟨g3, 0, none⟩) nl nl))).setCell (o := 0) (.slice (some ⟨g1, 0, none⟩) nc nc)).setCell (o := 1) (.slice (some ⟨g2, 0, none⟩) nw nw)).setCell (o := 2) (.slice (some ⟨g3, 0, none⟩) nl nl)
  have VE := Lib.hid (show SqV _ (some ⟨g1, 0, none⟩) nc (some ⟨g2, 0, none⟩) nw (some ⟨g3, 0, none⟩) nl s from ⟨V1'.out.mv m3 (ne_some n1.1), V2'.out.mv m3 (ne_some n2.1), V3'.out.mv m3 (ne_some n3.1)⟩)
  have IE := Lib.hid (And.intro (I1'.out.mv m3 n1.1) (And.intro (I2'.out.mv m3 n2.1) (And.intro (I3'.out.mv m3 n3.1) (show w.heap.size ≤ g1 ∧ g1 < g2 ∧ g2 < g3 by omega))))
  have near : ∀ j, w.heap.size ≤ (⟨b1, j, none⟩ : Addr).block := fun j => by dsimp only; omega
  have UE := Lib.hid (((UA'.out.setCell (near 0) (.slice (some ⟨g1, 0, none⟩) nc nc)).setCell (near 1) (.slice (some ⟨g2, 0, none⟩) nw nw)).setCell (near 2) (.slice (some ⟨g3, 0, none⟩) nl nl))
  clear m1 m3 V1 V2 V3 V1' V2' V3' O1 O2 O1' O2' O3 UA UA' I1 I2 I3 I1' I2' I3'; go_wp2
  exact bodyPost_ret (v := .agg #[.slice (some ⟨g1, 0, none⟩) nc nc, .slice (some ⟨g2, 0, none⟩) nw nw, .slice (some ⟨g3, 0, none⟩) nl nl]) (by simp [results, Tryz.results15, go_sem, k0, k1, k2]) rfl ⟨g1, g2, g3, rfl, VE.out, IE.out, UE.out⟩
end Go.Proofs.YtlikekmhccnilaaGreat

namespace Go.Proofs.YtlikekmhccnilaaGreat
set_option maxRecDepth 100000
open Go.RowKit
/-- Is a record one, among so many components? -/
def recB (many : Int) (r : Rec) : Bool := okB r.ev many && inB r.s 0 96
/-- May an event be pending, among so many components and up to that end? -/
def takB (many til : Int) (e : Evt) : Bool := okB e many && decide (e.t ≤ til)
end Go.Proofs.YtlikekmhccnilaaGreat

namespace Go.Proofs.YtlikekmhccnilaaGreat
set_option maxRecDepth 100000
open Go.RowKit
theorem cells_new (w : World) (xs : Array Value) (t : TypeId) (j : Nat) : (w.alloc (.cells xs t)).cell? ⟨w.heap.size, j, none⟩ = xs[j]? := by
  rw [cell_of_row _ _ j _ _ _ (heap_alloc_new _ _)]
theorem records_any (mp : Option Nat) (many til : Int) (r : Rec) (w : World) :
    Calls Tryz.prog 162 #[.agg #[.map mp, .int .i64 many, .int .i64 til], r.v] w fun z w' => z = .returned (.bool (recB many r)) ∧ Up w w' := by
  unfold recB
  have OC := Lib.hid (fun W => implOk_any r.ev many W)
  generalize okB r.ev many = b at OC ⊢
  obtain ⟨⟨et, eto, efr, esq, ekd, edt⟩, s⟩ := r
  have X3 := Lib.hid ((Box3.new w (.map mp) (.int .i64 many) (.int .i64 til) 113).up ((Up.refl _).alloc (.cells #[.int .i64 et, .int .i64 eto, .int .i64 efr, .int .i64 esq, .int .i64 ekd, .int .i64 edt, .int .i64 s] 132)))
  have c6 := cells_new (w.alloc (.cells #[.map mp, .int .i64 many, .int .i64 til] 113)) #[.int .i64 et, .int .i64 eto, .int .i64 efr, .int .i64 esq, .int .i64 ekd, .int .i64 edt, .int .i64 s] 132 6
  simp only [World.size_alloc] at c6
  have c6 : ((w.alloc (.cells #[.map mp, .int .i64 many, .int .i64 til] 113)).alloc (.cells #[.int .i64 et, .int .i64 eto, .int .i64 efr, .int .i64 esq, .int .i64 ekd, .int .i64 edt, .int .i64 s] 132)).cell? ⟨w.heap.size + 1, 6, none⟩ = some (.int .i64 s) := c6
  have UA := Lib.hid (((Up.refl w).alloc (.cells #[.map mp, .int .i64 many, .int .i64 til] 113)).alloc (.cells #[.int .i64 et, .int .i64 eto, .int .i64 efr, .int .i64 esq, .int .i64 ekd, .int .i64 edt, .int .i64 s] 132))
  unfold Rec.v; unfold Evt.v at OC; dsimp only at OC ⊢
  go_enter Tryz.func162, Tryz.ntmps162
  go_wp2_with fail
  have hs1 : w.heap.size + 1 < ((w.alloc (.cells #[.map mp, .int .i64 many, .int .i64 til] 113)).alloc (.cells #[.int .i64 et, .int .i64 eto, .int .i64 efr, .int .i64 esq, .int .i64 ekd, .int .i64 edt, .int .i64 s] 132)).heap.size := by simp
  generalize (w.alloc (.cells #[.map mp, .int .i64 many, .int .i64 til] 113)).alloc (.cells #[.int .i64 et, .int .i64 eto, .int .i64 efr, .int .i64 esq, .int .i64 ekd, .int .i64 edt, .int .i64 s] 132) = W at *
  refine (OC.out _).mono ?_; rintro v w1 ⟨rfl, u1⟩
  have c6 := (u1.cells _ _ hs1).trans c6
  have U := Lib.hid (UA.out.trans u1)
  have X3 := Lib.hid (X3.out.up u1)
  obtain ⟨b0, b1, b2⟩ := And.intro X3.out.c0 (And.intro X3.out.c1 X3.out.c2); clear u1
  cases b
  · go_wp2
    go_ret
    exact ⟨rfl, U.out⟩
  · go_wp2_with (go_at_call 180; refine (within_any _ _ _ _).mono ?_; rintro e w' ⟨rfl, rfl⟩)
    go_ret
    exact ⟨ret_bool (by simp), U.out⟩
set_option maxHeartbeats 2000000 in
theorem eventsOf_any (A : Option Addr) (n cap : Nat) (xs : List Rec) (w : World) (hn : n ≤ 1048576) (hE : Recs w A n xs) :
    Calls Tryz.prog 156 #[.slice A n cap] w fun x w' => ∃ g, x = .returned (.slice (some ⟨g, 0, none⟩) n n) ∧ w.heap.size ≤ g ∧ Evs w' (some ⟨g, 0, none⟩) n (xs.map (·.ev)) ∧ Up w w' := by
  obtain ⟨i0, hi, hz0, hz1, hz2⟩ := info_parts info130
  have hmk := fun W => run_make_rowN (P := Tryz.prog) 33 130 i0 _ Tryz.underlying33 hi hz0 .i64 .i64 n n (Nat.le_refl _) (by rw [hz2]; omega) (by omega) W
  rw [hz1] at hmk
  have HE := Lib.hid hE
  have LE := Lib.hid hE.1
  clear hE hi hz0 hz1 hz2
  go_enter Tryz.func156, Tryz.ntmps156
  go_wp2
  generalize hg : w.heap.size = g
  have HG := Lib.hid (Nat.le_of_eq hg)
  go_loopw [11] (fun i wr => (∃ k : Nat, k ≤ n ∧ i = .int .i64 k ∧ RowsTo wr g n 6 k (fun i j => (xs.getD i default).ev.l.getD j 0)) ∧ Up w wr) (fun i _ => n - (intOf i).toNat)
  case atStart =>
    refine ⟨⟨0, by omega, rfl, ?_⟩, (Up.refl _).alloc _⟩; subst hg
    exact RowsTo.start w n 6 #[.int .i64 0, .int .i64 0, .int .i64 0, .int .i64 0, .int .i64 0, .int .i64 0] 130 _ (fun j hj => by
      have h : j = 0 ∨ j = 1 ∨ j = 2 ∨ j = 3 ∨ j = 4 ∨ j = 5 := by simp at hj; omega
      rcases h with rfl | rfl | rfl | rfl | rfl | rfl <;> rfl) (by simp)
  case round =>
    obtain ⟨⟨k, hk, rfl, hp⟩, ur⟩ := hrel
    have HP := Lib.hid hp
    have UR := Lib.hid ur
    by_cases hlt : k < n
    · obtain ⟨b, off, hA, hb, hc⟩ := HE.out.2 (by omega)
      subst hA
      have a0 := (hc k hlt).up ur hb
      have hb' : b < wr.heap.size := by have := ur.size; omega
      clear hc hp ur
      have SX := Lib.hid (fun W (h : RowsTo W g n 6 k (fun i j => (xs.getD i default).ev.l.getD j 0)) => h.step hlt ((xs.getD k default).ev.l.getD · 0) (fun j _ => rfl))
      generalize xs.getD k default = p at a0 SX
      unfold RecAt at a0; obtain ⟨p0, p1, p2, p3, p4, p5, p6⟩ := a0; obtain ⟨⟨pt, pto, pfr, psq, pkd, pdt⟩, ps⟩ := p; dsimp only at p0 p1 p2 p3 p4 p5 p6 SX
      have i4 : (k : Int) < n := by omega
      have ua := (Up.refl wr).alloc (.cells #[.int .i64 pt, .int .i64 pto, .int .i64 pfr, .int .i64 psq, .int .i64 pkd, .int .i64 pdt, .int .i64 ps] 132)
      have P := HP.out.up ua
      obtain ⟨⟨⟨v0, c0⟩, f0⟩, ⟨⟨v1, c1⟩, f1⟩, ⟨⟨v2, c2⟩, f2⟩, ⟨⟨v3, c3⟩, f3⟩, ⟨⟨v4, c4⟩, f4⟩, ⟨⟨v5, c5⟩, f5⟩⟩ := And.intro (P.1.2 (k * 6) (by omega)) (And.intro (P.1.2 (k * 6 + 1) (by omega)) (And.intro (P.1.2 (k * 6 + 2) (by omega)) (And.intro (P.1.2 (k * 6 + 3) (by omega)) (And.intro (P.1.2 (k * 6 + 4) (by omega)) (P.1.2 (k * 6 + 5) (by omega))))))
      have NX := Lib.hid (SX.out _ P)
      have UX := Lib.hid (((UR.out.trans ua).putF HG.out (k * 6) (([pt, pto, pfr, psq, pkd, pdt] : List Int).getD · 0) 6))
      simp only [putF, Evt.l, Nat.add_zero, List.getD_cons_zero, List.getD_cons_succ] at NX UX
      have hgl := P.1.1
      clear P SX ua
      go_wp2_with fail
      go_roundw
      case rel => exact ⟨⟨k + 1, by omega, by go_num, NX.out⟩, UX.out⟩
      case measure => simp [intOf]; omega
    · obtain rfl : k = n := by omega
      have i4 : ¬ (k : Int) < k := by omega
      clear hp ur; go_wp2; go_ret; refine ⟨g, rfl, by have := HG.out; omega, ⟨by rw [List.length_map]; exact LE.out, fun _ => ⟨g, 0, rfl, HP.out.1.1, fun i hi => ?_⟩⟩, UR.out⟩
      have h := HP.out.2 i hi
      have e : (xs.map (·.ev)).getD i default = (xs.getD i default).ev := by simp [List.getD, show i < xs.length by rw [LE.out]; exact hi]
      rw [e, Nat.zero_add]
      exact ⟨h 0 (by omega), h 1 (by omega), h 2 (by omega), h 3 (by omega), h 4 (by omega), h 5 (by omega)⟩
set_option maxHeartbeats 2000000 in
theorem everyC_any (A : Option Addr) (n cap : Nat) (xs : List Cst)  (w : World) (hn : n ≤ 1048576) (hE : Csts w A n xs) :
    Calls Tryz.prog 157 #[.slice A n cap, .func (.func 158) #[] #[]] w fun x w' => x = .returned (.bool (xs.all (cstB))) ∧ Up w w' := by
  have AD := Lib.hid (fun k h => all_drop (f := cstB) (d := default) xs k h)
  have AE := Lib.hid (fun k h => all_end (f := cstB) xs k h)
  have CL := Lib.hid (fun x W => implCst_any x W)
  have HE := Lib.hid hE
  have LE := Lib.hid hE.1
  have H0 := Lib.hid (show (xs.drop 0).all (cstB) = xs.all (cstB) from rfl)
  generalize xs.all (cstB) = res at H0 ⊢
  clear hE
  go_enter Tryz.func157, Tryz.ntmps157
  go_wp2
  go_loopw [9] (fun i wr => (∃ k : Nat, k ≤ n ∧ i = .int .i64 k ∧ Hid ((xs.drop k).all (cstB) = res)) ∧ Up w wr) (fun i _ => n - (intOf i).toNat)
  case atStart => exact ⟨⟨0, by omega, rfl, H0⟩, Up.refl _⟩
  case round =>
    obtain ⟨⟨k, hk, rfl, HR⟩, ur⟩ := hrel
    by_cases hlt : k < n
    · obtain ⟨b, off, hA, hb, hc⟩ := HE.out.2 (by omega)
      subst hA
      have a0 := (hc k hlt).up ur hb
      have hb' : b < wr.heap.size := by have := ur.size; omega
      clear hc
      have S := AD.out k (by rw [LE.out]; exact hlt)
      have cl := CL.out (xs.getD k default)
      generalize xs.getD k default = p at a0 S cl
      generalize hfp : (cstB) p = r at S cl
      have S' := Lib.hid S
      clear S hfp; unfold CstAt at a0; unfold Cst.v at cl; obtain ⟨p0, p1, p2⟩ := a0
      have C := Lib.hid cl
      clear cl
      have i4 : (k : Int) < n := by omega
      have UR := Lib.hid ur
      clear ur
      go_wp2_with fail
      refine (C.out _).mono ?_; rintro x wA ⟨rfl, uA⟩
      have UN := Lib.hid ((UR.out.alloc _).trans uA)
      clear uA
      cases r
      · have HF := Lib.hid (show res = false by rw [← HR.out, S'.out]; rfl)
        go_wp2; go_ret
        exact ⟨ret_bool HF.out.symm, UN.out⟩
      · have HN := Lib.hid (show (xs.drop (k + 1)).all (cstB) = res by rw [← HR.out, S'.out]; rfl)
        go_wp2
        go_roundw
        case rel => exact ⟨⟨k + 1, by omega, by go_num, HN⟩, UN.out⟩
        case measure => simp [intOf]; omega
    · obtain rfl : k = n := by omega
      have i4 : ¬ (k : Int) < k := by omega
      have HT := Lib.hid (show res = true by rw [← HR.out]; exact AE.out k (by rw [LE.out]; omega))
      have UR := Lib.hid ur
      clear ur; go_wp2; go_ret
      exact ⟨ret_bool HT.out.symm, UR.out⟩
set_option maxHeartbeats 2000000 in
theorem everyE_any (A : Option Addr) (n cap : Nat) (xs : List Evt) (mp : Option Nat) (many til : Int) (w : World) (hn : n ≤ 1048576) (hE : Evs w A n xs) :
    Calls Tryz.prog 159 #[.slice A n cap, .func (.func 160) #[.agg #[.map mp, .int .i64 many, .int .i64 til]] #[]] w fun x w' => x = .returned (.bool (xs.all (takB many til))) ∧ Up w w' := by
  have AD := Lib.hid (fun k h => all_drop (f := takB many til) (d := default) xs k h)
  have AE := Lib.hid (fun k h => all_end (f := takB many til) xs k h)
  have CL := Lib.hid (fun x W => (show Calls Tryz.prog 160 #[.agg #[.map mp, .int .i64 many, .int .i64 til], x.v] W fun z w' => z = .returned (.bool (takB many til x)) ∧ Up W w' from takes_any (.agg #[.map mp, .int .i64 many, .int .i64 til]) many til x mp rfl W))
  have HE := Lib.hid hE
  have LE := Lib.hid hE.1
  have H0 := Lib.hid (show (xs.drop 0).all (takB many til) = xs.all (takB many til) from rfl)
  generalize xs.all (takB many til) = res at H0 ⊢
  clear hE
  go_enter Tryz.func159, Tryz.ntmps159
  go_wp2
  go_loopw [9] (fun i wr => (∃ k : Nat, k ≤ n ∧ i = .int .i64 k ∧ Hid ((xs.drop k).all (takB many til) = res)) ∧ Up w wr) (fun i _ => n - (intOf i).toNat)
  case atStart => exact ⟨⟨0, by omega, rfl, H0⟩, Up.refl _⟩
  case round =>
    obtain ⟨⟨k, hk, rfl, HR⟩, ur⟩ := hrel
    by_cases hlt : k < n
    · obtain ⟨b, off, hA, hb, hc⟩ := HE.out.2 (by omega)
      subst hA
      have a0 := (hc k hlt).up ur hb
      have hb' : b < wr.heap.size := by have := ur.size; omega
      clear hc
      have S := AD.out k (by rw [LE.out]; exact hlt)
      have cl := CL.out (xs.getD k default)
      generalize xs.getD k default = p at a0 S cl
      generalize hfp : (takB many til) p = r at S cl
      have S' := Lib.hid S
      clear S hfp; unfold EvAt at a0; unfold Evt.v at cl; obtain ⟨p0, p1, p2, p3, p4, p5⟩ := a0
      have C := Lib.hid cl
      clear cl
      have i4 : (k : Int) < n := by omega
      have UR := Lib.hid ur
      clear ur
      go_wp2_with fail
      refine (C.out _).mono ?_; rintro x wA ⟨rfl, uA⟩
      have UN := Lib.hid ((UR.out.alloc _).trans uA)
      clear uA
      cases r
      · have HF := Lib.hid (show res = false by rw [← HR.out, S'.out]; rfl)
        go_wp2; go_ret
        exact ⟨ret_bool HF.out.symm, UN.out⟩
      · have HN := Lib.hid (show (xs.drop (k + 1)).all (takB many til) = res by rw [← HR.out, S'.out]; rfl)
        go_wp2
        go_roundw
        case rel => exact ⟨⟨k + 1, by omega, by go_num, HN⟩, UN.out⟩
        case measure => simp [intOf]; omega
    · obtain rfl : k = n := by omega
      have i4 : ¬ (k : Int) < k := by omega
      have HT := Lib.hid (show res = true by rw [← HR.out]; exact AE.out k (by rw [LE.out]; omega))
      have UR := Lib.hid ur
      clear ur; go_wp2; go_ret
      exact ⟨ret_bool HT.out.symm, UR.out⟩
set_option maxHeartbeats 2000000 in
theorem everyR_any (A : Option Addr) (n cap : Nat) (xs : List Rec) (mp : Option Nat) (many til : Int) (w : World) (hn : n ≤ 1048576) (hE : Recs w A n xs) :
    Calls Tryz.prog 161 #[.slice A n cap, .func (.func 162) #[.agg #[.map mp, .int .i64 many, .int .i64 til]] #[]] w fun x w' => x = .returned (.bool (xs.all (recB many))) ∧ Up w w' := by
  have AD := Lib.hid (fun k h => all_drop (f := recB many) (d := default) xs k h)
  have AE := Lib.hid (fun k h => all_end (f := recB many) xs k h)
  have CL := Lib.hid (fun x W => records_any mp many til x W)
  have HE := Lib.hid hE
  have LE := Lib.hid hE.1
  have H0 := Lib.hid (show (xs.drop 0).all (recB many) = xs.all (recB many) from rfl)
  generalize xs.all (recB many) = res at H0 ⊢
  clear hE
  go_enter Tryz.func161, Tryz.ntmps161
  go_wp2
  go_loopw [9] (fun i wr => (∃ k : Nat, k ≤ n ∧ i = .int .i64 k ∧ Hid ((xs.drop k).all (recB many) = res)) ∧ Up w wr) (fun i _ => n - (intOf i).toNat)
  case atStart => exact ⟨⟨0, by omega, rfl, H0⟩, Up.refl _⟩
  case round =>
    obtain ⟨⟨k, hk, rfl, HR⟩, ur⟩ := hrel
    by_cases hlt : k < n
    · obtain ⟨b, off, hA, hb, hc⟩ := HE.out.2 (by omega)
      subst hA
      have a0 := (hc k hlt).up ur hb
      have hb' : b < wr.heap.size := by have := ur.size; omega
      clear hc
      have S := AD.out k (by rw [LE.out]; exact hlt)
      have cl := CL.out (xs.getD k default)
      generalize xs.getD k default = p at a0 S cl
      generalize hfp : (recB many) p = r at S cl
      have S' := Lib.hid S
      clear S hfp; unfold RecAt at a0; unfold Rec.v at cl; obtain ⟨p0, p1, p2, p3, p4, p5, p6⟩ := a0
      have C := Lib.hid cl
      clear cl
      have i4 : (k : Int) < n := by omega
      have UR := Lib.hid ur
      clear ur
      go_wp2_with fail
      refine (C.out _).mono ?_; rintro x wA ⟨rfl, uA⟩
      have UN := Lib.hid ((UR.out.alloc _).trans uA)
      clear uA
      cases r
      · have HF := Lib.hid (show res = false by rw [← HR.out, S'.out]; rfl)
        go_wp2; go_ret
        exact ⟨ret_bool HF.out.symm, UN.out⟩
      · have HN := Lib.hid (show (xs.drop (k + 1)).all (recB many) = res by rw [← HR.out, S'.out]; rfl)
        go_wp2
        go_roundw
        case rel => exact ⟨⟨k + 1, by omega, by go_num, HN⟩, UN.out⟩
        case measure => simp [intOf]; omega
    · obtain rfl : k = n := by omega
      have i4 : ¬ (k : Int) < k := by omega
      have HT := Lib.hid (show res = true by rw [← HR.out]; exact AE.out k (by rw [LE.out]; omega))
      have UR := Lib.hid ur
      clear ur; go_wp2; go_ret
      exact ⟨ret_bool HT.out.symm, UR.out⟩
end Go.Proofs.YtlikekmhccnilaaGreat

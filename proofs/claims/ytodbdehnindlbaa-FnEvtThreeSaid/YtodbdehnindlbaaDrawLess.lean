/-
  What DrawEvtLess gives, in one sentence: two events of six numbers of 64 bits, with new blocks alone; for every code that lies in memory.
-/
import Derived.Test.YtodbdehnindlbaaDrawOk
import Derived.RegionTactic
import Derived.ChangeAlike
import Derived.BigRegion
namespace Go.Proofs.Ytodbdehnindlbaa
open Go.RowKit

theorem tm97 (x : Int) : -97 < x.tmod 97 ∧ x.tmod 97 < 97 := by
  rcases Int.le_total 0 x with h | h
  · rw [Int.tmod_eq_emod_of_nonneg h]
    omega
  · have e : x.tmod 97 = -((-x).tmod 97) := by rw [Int.neg_tmod]; omega
    rw [e, Int.tmod_eq_emod_of_nonneg (by omega)]
    omega
theorem Box.put {w : World} {b : Nat} {e0 e : Evt} (h : Box w b e0) : Box (putEv w b 0 e) b e := by
  obtain ⟨a0, a1, a2, a3, a4, a5⟩ := putEv_at (e := e) h.somes
  exact ⟨by rw [putEv_size]; exact h.lt, a0, a1, a2, a3, a4, a5, (putEv_frozen _ _ _ _ _).trans h.f0, (putEv_frozen _ _ _ _ _).trans h.f1, (putEv_frozen _ _ _ _ _).trans h.f2, (putEv_frozen _ _ _ _ _).trans h.f3, (putEv_frozen _ _ _ _ _).trans h.f4, (putEv_frozen _ _ _ _ _).trans h.f5⟩
theorem Box.putFar {w : World} {b b' : Nat} {e0 e : Evt} (h : Box w b e0) (hb : b' ≠ b) : Box (putEv w b' 0 e) b e0 :=
  h.keep (Nat.le_of_eq (putEv_size _ _ _ _).symm) (fun _ => putEv_other _ _ _ _ _ _ (.inl hb)) (fun _ => putEv_frozen _ _ _ _ _)
theorem setCell_off {w : World} {b o o' : Nat} {u : Value} (h : o ≠ o') : (w.setCell ⟨b, o, none⟩ u).cell? ⟨b, o', none⟩ = w.cell? ⟨b, o', none⟩ := World.cell?_setCell_other _ _ _ _ (addr_ne (.inr h))
theorem Box.set0 {w : World} {b : Nat} {z0 z1 z2 z3 z4 z5 : Int} (h : Box w b ⟨z0, z1, z2, z3, z4, z5⟩) (z : Int) : Box (w.setCell ⟨b, 0, none⟩ (.int .i64 z)) b ⟨z, z1, z2, z3, z4, z5⟩ :=
  ⟨by simpa using h.lt, World.cell?_setCell_same _ _ _ h.c0, (setCell_off (by omega)).trans h.c1, (setCell_off (by omega)).trans h.c2, (setCell_off (by omega)).trans h.c3, (setCell_off (by omega)).trans h.c4, (setCell_off (by omega)).trans h.c5,
    by simpa [go_sem] using h.f0, by simpa [go_sem] using h.f1, by simpa [go_sem] using h.f2, by simpa [go_sem] using h.f3, by simpa [go_sem] using h.f4, by simpa [go_sem] using h.f5⟩
theorem Box.set1 {w : World} {b : Nat} {z0 z1 z2 z3 z4 z5 : Int} (h : Box w b ⟨z0, z1, z2, z3, z4, z5⟩) (z : Int) : Box (w.setCell ⟨b, 1, none⟩ (.int .i64 z)) b ⟨z0, z, z2, z3, z4, z5⟩ :=
  ⟨by simpa using h.lt, (setCell_off (by omega)).trans h.c0, World.cell?_setCell_same _ _ _ h.c1, (setCell_off (by omega)).trans h.c2, (setCell_off (by omega)).trans h.c3, (setCell_off (by omega)).trans h.c4, (setCell_off (by omega)).trans h.c5,
    by simpa [go_sem] using h.f0, by simpa [go_sem] using h.f1, by simpa [go_sem] using h.f2, by simpa [go_sem] using h.f3, by simpa [go_sem] using h.f4, by simpa [go_sem] using h.f5⟩
theorem Box.set5 {w : World} {b : Nat} {z0 z1 z2 z3 z4 z5 : Int} (h : Box w b ⟨z0, z1, z2, z3, z4, z5⟩) (z : Int) : Box (w.setCell ⟨b, 5, none⟩ (.int .i64 z)) b ⟨z0, z1, z2, z3, z4, z⟩ :=
  ⟨by simpa using h.lt, (setCell_off (by omega)).trans h.c0, (setCell_off (by omega)).trans h.c1, (setCell_off (by omega)).trans h.c2, (setCell_off (by omega)).trans h.c3, (setCell_off (by omega)).trans h.c4, World.cell?_setCell_same _ _ _ h.c5,
    by simpa [go_sem] using h.f0, by simpa [go_sem] using h.f1, by simpa [go_sem] using h.f2, by simpa [go_sem] using h.f3, by simpa [go_sem] using h.f4, by simpa [go_sem] using h.f5⟩

/-- What DrawEvtLess gives. -/
def DrawnLess (w : World) (x : Ending) (w' : World) : Prop :=
  ∃ a b : Evt, x = .returned (.tuple #[a.v, b.v]) ∧ a.ok ∧ b.ok ∧ Up w w'

set_option maxHeartbeats 8000000 in
theorem drawLess_any (A : Option Addr) (n cap : Nat) (w : World) (hc : n ≤ cap) (hmax : cap ≤ 9223372036854775807) (hB : Bys w A n w.heap.size) :
    Calls Try.prog 18 #[.slice A n cap] w (DrawnLess w) := by
  have HB := Lib.hid hB
  clear hB
  go_enter Try.func18, Try.ntmps18
  go_wp2_with fail
  have U0 := Lib.hid (((Up.refl w).alloc (.cells #[.int .i64 0, .int .i64 0, .int .i64 0, .int .i64 0, .int .i64 0, .int .i64 0] 24)).alloc (.cells #[.int .i64 0, .int .i64 0, .int .i64 0, .int .i64 0, .int .i64 0, .int .i64 0] 24))
  have B0 := Lib.hid ((Box.new w ⟨0, 0, 0, 0, 0, 0⟩ 24).alloc (.cells #[.int .i64 0, .int .i64 0, .int .i64 0, .int .i64 0, .int .i64 0, .int .i64 0] 24))
  have D0 := Lib.hid (show Box ((w.alloc (.cells #[.int .i64 0, .int .i64 0, .int .i64 0, .int .i64 0, .int .i64 0, .int .i64 0] 24)).alloc (.cells #[.int .i64 0, .int .i64 0, .int .i64 0, .int .i64 0, .int .i64 0, .int .i64 0] 24)) (w.heap.size + 1) ⟨0, 0, 0, 0, 0, 0⟩ from by simpa using Box.new (w.alloc (.cells #[.int .i64 0, .int .i64 0, .int .i64 0, .int .i64 0, .int .i64 0, .int .i64 0] 24)) ⟨0, 0, 0, 0, 0, 0⟩ 24)
  have HB0 : Bys ((w.alloc (.cells #[.int .i64 0, .int .i64 0, .int .i64 0, .int .i64 0, .int .i64 0, .int .i64 0] 24)).alloc (.cells #[.int .i64 0, .int .i64 0, .int .i64 0, .int .i64 0, .int .i64 0, .int .i64 0] 24)) A n ((w.alloc (.cells #[.int .i64 0, .int .i64 0, .int .i64 0, .int .i64 0, .int .i64 0, .int .i64 0] 24)).alloc (.cells #[.int .i64 0, .int .i64 0, .int .i64 0, .int .i64 0, .int .i64 0, .int .i64 0] 24)).heap.size := fun h0 => by
    obtain ⟨b, off, hA, hb, hcc⟩ := HB.out.keep (fun b o hb => U0.out.cells b o hb) h0
    exact ⟨b, off, hA, by simp; omega, hcc⟩
  refine (open_any A n cap _ hc hmax HB0).mono ?_
  rintro x w1 ⟨g, rfl, hg, r1, u1⟩
  have hg' : w.heap.size + 2 ≤ g := by simpa using hg
  have q0 : w.heap.size ≠ g := by omega
  have q1 : w.heap.size + 1 ≠ g := by omega
  have g1 : g < w1.heap.size := by obtain ⟨_, _, _, _, _, _, _, _, h, _⟩ := r1; exact h
  have R1 := Lib.hid r1
  have U1 := Lib.hid (U0.out.trans u1)
  have B1 := Lib.hid (B0.out.up u1)
  have D1 := Lib.hid (D0.out.up u1)
  have G := Lib.hid (show w.heap.size ≤ g by omega)
  clear hg r1 u1 HB0 U0 B0 D0
  go_wp2_with fail
  refine (evt_any g 0 4 0 _ (by omega) (by omega) ⟨by omega, by omega⟩ (by omega) R1.out).mono ?_
  intro x w2 dk
  obtain ⟨z0, z1, z2, z3, z4, z5, rfl, ok, ⟨dz1, dz2⟩, r2, m2⟩ := dk.cases
  have OA := Lib.hid ok
  have g2 : g < w2.heap.size := by obtain ⟨_, _, _, _, _, _, _, _, h, _⟩ := r2; exact h
  have R2 := Lib.hid r2
  have U2 := Lib.hid (m2.up U1.out G.out)
  have B2 := Lib.hid (B1.out.mv m2 q0)
  have D2 := Lib.hid (D1.out.mv m2 q1)
  have E2 := Lib.hid (Box.new w2 ⟨z0, z1, z2, z3, z4, z5⟩ 24)
  clear dk ok r2 m2 R1 U1 B1 D1
  have q2 : w2.heap.size ≠ g := by omega
  go_wp2_with fail
  refine (evt_any g (0 + 20) 4 0 _ (by omega) (by omega) ⟨by omega, by omega⟩ (by omega) (R2.out.alloc _)).mono ?_
  intro x w3 dk
  obtain ⟨y0, y1, y2, y3, y4, y5, rfl, ok, _, r3, m3⟩ := dk.cases
  have OB := Lib.hid ok
  have g3 : g < w3.heap.size := by obtain ⟨_, _, _, _, _, _, _, _, h, _⟩ := r3; exact h
  have R3 := Lib.hid r3
  have U3 := Lib.hid (m3.up (U2.out.alloc _) G.out)
  have B3 := Lib.hid ((B2.out.alloc _).mv m3 q0)
  have D3 := Lib.hid ((D2.out.alloc _).mv m3 q1)
  have E3 := Lib.hid (E2.out.mv m3 q2)
  have F3 := Lib.hid (Box.new w3 ⟨y0, y1, y2, y3, y4, y5⟩ 24)
  have s23 : w2.heap.size + 1 ≤ w3.heap.size := by have := m3.size; simpa using this
  have s02 : w.heap.size + 2 ≤ w2.heap.size := by omega
  clear dk ok r3 m3 R2 U2 B2 D2 E2
  have q3 : w3.heap.size ≠ g := by omega
  go_wp2_with fail
  refine (pick_any g (0 + 20 + 20) 4 _ ⟨by omega, by omega⟩ (by omega) (R3.out.alloc _)).mono ?_
  intro x w4 pk
  obtain ⟨v4, rfl, a4, b4, c4, r4, m4⟩ := pk.cases (by omega)
  have d4 : v4 = 0 ∨ v4 = 1 ∨ v4 = 2 ∨ v4 = 3 := by omega
  have U4 := Lib.hid (m4.up (U3.out.alloc _) G.out)
  have B4 := Lib.hid ((B3.out.alloc _).mv m4 q0)
  have D4 := Lib.hid ((D3.out.alloc _).mv m4 q1)
  have E4 := Lib.hid ((E3.out.alloc _).mv m4 q2)
  have F4 := Lib.hid (F3.out.mv m4 q3)
  clear pk r4 m4 c4 R3 U3 B3 D3 E3 F3
  have ne1 : w.heap.size ≠ w.heap.size + 1 := by omega
  have ne2 : w.heap.size ≠ w2.heap.size := by omega
  have ne3 : w.heap.size ≠ w3.heap.size := by omega
  have ne4 : w.heap.size + 1 ≠ w2.heap.size := by omega
  have ne5 : w.heap.size + 1 ≠ w3.heap.size := by omega
  have ne6 : w2.heap.size ≠ w3.heap.size := by omega
  have L3 := Lib.hid (show w.heap.size ≤ w3.heap.size by omega)
  rcases d4 with rfl | rfl | rfl | rfl
  · obtain ⟨⟨a0, a1, a2, a3, a4, a5⟩, -⟩ := E4.out.mk6
    obtain ⟨⟨b0, b1, b2, b3, b4, b5⟩, ⟨f0, f1, f2, f3, f4, f5⟩⟩ := F4.out.mk6
    go_wp2
    clear a0 a1 a2 a3 a4 a5 b0 b1 b2 b3 b4 b5 f0 f1 f2 f3 f4 f5
    have BW' := B4.out.putFar (b' := w3.heap.size) (e := ⟨z0, z1, z2, z3, z4, z5⟩) ne3.symm
    have DW' := D4.out.putFar (b' := w3.heap.size) (e := ⟨z0, z1, z2, z3, z4, z5⟩) ne5.symm
    have EW' := E4.out.putFar (b' := w3.heap.size) (e := ⟨z0, z1, z2, z3, z4, z5⟩) ne6.symm
    have FW' := F4.out.put (e := ⟨z0, z1, z2, z3, z4, z5⟩)
    have UW' := U4.out.putEv (b := w3.heap.size) (o := 0) (e := ⟨z0, z1, z2, z3, z4, z5⟩) L3.out
    unfold putEv at BW' DW' EW' FW' UW'
    simp only [Nat.zero_add] at BW' DW' EW' FW' UW'
    generalize ((((((w4.setCell ⟨w3.heap.size, 0, none⟩ (.int .i64 z0)).setCell ⟨w3.heap.size, 1, none⟩ (.int .i64 z1)).setCell ⟨w3.heap.size, 2, none⟩ (.int .i64 z2)).setCell ⟨w3.heap.size, 3, none⟩ (.int .i64 z3)).setCell ⟨w3.heap.size, 4, none⟩ (.int .i64 z4)).setCell ⟨w3.heap.size, 5, none⟩ (.int .i64 z5)) = V at BW' DW' EW' FW' UW' ⊢
    have tb := tm97 (z5 + 1)
    generalize (z5 + 1).tmod 97 = zt at tb ⊢
    have BX := BW'.setFar (p := ⟨w3.heap.size, 5, none⟩) ne3.symm (.int .i64 zt)
    have DX := DW'.setFar (p := ⟨w3.heap.size, 5, none⟩) ne5.symm (.int .i64 zt)
    have EX := EW'.setFar (p := ⟨w3.heap.size, 5, none⟩) ne6.symm (.int .i64 zt)
    have FX := FW'.set5 zt
    have UX := UW'.setCell (p := ⟨w3.heap.size, 5, none⟩) L3.out (.int .i64 zt)
    clear BW' DW' EW' FW' UW'
    generalize V.setCell ⟨w3.heap.size, 5, none⟩ (.int .i64 zt) = W at BX DX EX FX UX ⊢
    have BW := Lib.hid BX
    have DW := Lib.hid DX
    have EW := Lib.hid EX
    have FW := Lib.hid FX
    have UW := Lib.hid UX
    clear BX DX EX FX UX
    have EP := (BW.out.put (e := ⟨z0, z1, z2, z3, z4, z5⟩)).putFar (b' := w.heap.size + 1) (e := ⟨z0, z1, z2, z3, z4, zt⟩) (by omega)
    have EQ := (DW.out.putFar (b' := w.heap.size) (e := ⟨z0, z1, z2, z3, z4, z5⟩) (by omega)).put (e := ⟨z0, z1, z2, z3, z4, zt⟩)
    have UE := Lib.hid (((UW.out.putEv (b := w.heap.size) (o := 0) (e := ⟨z0, z1, z2, z3, z4, z5⟩) (Nat.le_refl _)).putEv (b := w.heap.size + 1) (o := 0) (e := ⟨z0, z1, z2, z3, z4, zt⟩) (by omega)).drew)
    unfold putEv at EP EQ UE
    simp only [Nat.zero_add] at EP EQ
    obtain ⟨⟨k0, k1, k2, k3, k4, k5⟩, -⟩ := EP.mk6
    obtain ⟨⟨j0, j1, j2, j3, j4, j5⟩, -⟩ := EQ.mk6
    clear EP EQ
    obtain ⟨a0, a1, a2, a3, a4, a5⟩ := EW.out.mk6.1
    obtain ⟨b0, b1, b2, b3, b4, b5⟩ := FW.out.mk6.1
    obtain ⟨⟨p0, p1, p2, p3, p4, p5⟩, ⟨f0, f1, f2, f3, f4, f5⟩⟩ := BW.out.mk6
    obtain ⟨⟨r0, r1, r2, r3, r4, r5⟩, ⟨h0, h1, h2, h3, h4, h5⟩⟩ := DW.out.mk6
    go_region
    go_wp2
    exact bodyPost_ret (v := .tuple #[.agg #[.int .i64 z0, .int .i64 z1, .int .i64 z2, .int .i64 z3, .int .i64 z4, .int .i64 z5], .agg #[.int .i64 (z0), .int .i64 (z1), .int .i64 (z2), .int .i64 (z3), .int .i64 (z4), .int .i64 (zt)]]) (by simp [results, Try.results18, go_sem, k0, k1, k2, k3, k4, k5, j0, j1, j2, j3, j4, j5]) rfl
      ⟨⟨z0, z1, z2, z3, z4, z5⟩, ⟨z0, z1, z2, z3, z4, zt⟩, rfl, OA.out, ⟨OA.out.1, OA.out.2.1, OA.out.2.2.1, OA.out.2.2.2.1, OA.out.2.2.2.2.1, by dsimp only [I64]; omega⟩, UE.out⟩
  · obtain ⟨⟨a0, a1, a2, a3, a4, a5⟩, -⟩ := E4.out.mk6
    obtain ⟨⟨b0, b1, b2, b3, b4, b5⟩, ⟨f0, f1, f2, f3, f4, f5⟩⟩ := F4.out.mk6
    go_wp2
    clear a0 a1 a2 a3 a4 a5 b0 b1 b2 b3 b4 b5 f0 f1 f2 f3 f4 f5
    have BW' := (B4.out.setFar (p := ⟨w3.heap.size, 0, none⟩) ne3.symm (.int .i64 z0)).setFar (p := ⟨w3.heap.size, 1, none⟩) ne3.symm (.int .i64 z1)
    have DW' := (D4.out.setFar (p := ⟨w3.heap.size, 0, none⟩) ne5.symm (.int .i64 z0)).setFar (p := ⟨w3.heap.size, 1, none⟩) ne5.symm (.int .i64 z1)
    have EW' := (E4.out.setFar (p := ⟨w3.heap.size, 0, none⟩) ne6.symm (.int .i64 z0)).setFar (p := ⟨w3.heap.size, 1, none⟩) ne6.symm (.int .i64 z1)
    have FW' := (F4.out.set0 z0).set1 z1
    have UW' := (U4.out.setCell (p := ⟨w3.heap.size, 0, none⟩) L3.out (.int .i64 z0)).setCell (p := ⟨w3.heap.size, 1, none⟩) L3.out (.int .i64 z1)
    generalize (w4.setCell ⟨w3.heap.size, 0, none⟩ (.int .i64 z0)).setCell ⟨w3.heap.size, 1, none⟩ (.int .i64 z1) = W at BW' DW' EW' FW' UW' ⊢
    have BW := Lib.hid BW'
    have DW := Lib.hid DW'
    have EW := Lib.hid EW'
    have FW := Lib.hid FW'
    have UW := Lib.hid UW'
    clear BW' DW' EW' FW' UW'
    have EP := (BW.out.put (e := ⟨z0, z1, z2, z3, z4, z5⟩)).putFar (b' := w.heap.size + 1) (e := ⟨z0, z1, y2, y3, y4, y5⟩) (by omega)
    have EQ := (DW.out.putFar (b' := w.heap.size) (e := ⟨z0, z1, z2, z3, z4, z5⟩) (by omega)).put (e := ⟨z0, z1, y2, y3, y4, y5⟩)
    have UE := Lib.hid (((UW.out.putEv (b := w.heap.size) (o := 0) (e := ⟨z0, z1, z2, z3, z4, z5⟩) (Nat.le_refl _)).putEv (b := w.heap.size + 1) (o := 0) (e := ⟨z0, z1, y2, y3, y4, y5⟩) (by omega)).drew)
    unfold putEv at EP EQ UE
    simp only [Nat.zero_add] at EP EQ
    obtain ⟨⟨k0, k1, k2, k3, k4, k5⟩, -⟩ := EP.mk6
    obtain ⟨⟨j0, j1, j2, j3, j4, j5⟩, -⟩ := EQ.mk6
    clear EP EQ
    obtain ⟨a0, a1, a2, a3, a4, a5⟩ := EW.out.mk6.1
    obtain ⟨b0, b1, b2, b3, b4, b5⟩ := FW.out.mk6.1
    obtain ⟨⟨p0, p1, p2, p3, p4, p5⟩, ⟨f0, f1, f2, f3, f4, f5⟩⟩ := BW.out.mk6
    obtain ⟨⟨r0, r1, r2, r3, r4, r5⟩, ⟨h0, h1, h2, h3, h4, h5⟩⟩ := DW.out.mk6
    go_region
    go_wp2
    exact bodyPost_ret (v := .tuple #[.agg #[.int .i64 z0, .int .i64 z1, .int .i64 z2, .int .i64 z3, .int .i64 z4, .int .i64 z5], .agg #[.int .i64 (z0), .int .i64 (z1), .int .i64 (y2), .int .i64 (y3), .int .i64 (y4), .int .i64 (y5)]]) (by simp [results, Try.results18, go_sem, k0, k1, k2, k3, k4, k5, j0, j1, j2, j3, j4, j5]) rfl
      ⟨⟨z0, z1, z2, z3, z4, z5⟩, ⟨z0, z1, y2, y3, y4, y5⟩, rfl, OA.out, ⟨OA.out.1, OA.out.2.1, OB.out.2.2⟩, UE.out⟩
  · obtain ⟨⟨a0, a1, a2, a3, a4, a5⟩, -⟩ := E4.out.mk6
    obtain ⟨⟨b0, b1, b2, b3, b4, b5⟩, ⟨f0, f1, f2, f3, f4, f5⟩⟩ := F4.out.mk6
    go_wp2
    clear a0 a1 a2 a3 a4 a5 b0 b1 b2 b3 b4 b5 f0 f1 f2 f3 f4 f5
    have BW' := B4.out.putFar (b' := w3.heap.size) (e := ⟨z0, z1, z2, z3, z4, z5⟩) ne3.symm
    have DW' := D4.out.putFar (b' := w3.heap.size) (e := ⟨z0, z1, z2, z3, z4, z5⟩) ne5.symm
    have EW' := E4.out.putFar (b' := w3.heap.size) (e := ⟨z0, z1, z2, z3, z4, z5⟩) ne6.symm
    have FW' := F4.out.put (e := ⟨z0, z1, z2, z3, z4, z5⟩)
    have UW' := U4.out.putEv (b := w3.heap.size) (o := 0) (e := ⟨z0, z1, z2, z3, z4, z5⟩) L3.out
    unfold putEv at BW' DW' EW' FW' UW'
    simp only [Nat.zero_add] at BW' DW' EW' FW' UW'
    generalize ((((((w4.setCell ⟨w3.heap.size, 0, none⟩ (.int .i64 z0)).setCell ⟨w3.heap.size, 1, none⟩ (.int .i64 z1)).setCell ⟨w3.heap.size, 2, none⟩ (.int .i64 z2)).setCell ⟨w3.heap.size, 3, none⟩ (.int .i64 z3)).setCell ⟨w3.heap.size, 4, none⟩ (.int .i64 z4)).setCell ⟨w3.heap.size, 5, none⟩ (.int .i64 z5)) = V at BW' DW' EW' FW' UW' ⊢
    have BW := Lib.hid BW'
    have DW := Lib.hid DW'
    have EW := Lib.hid EW'
    have FW := Lib.hid FW'
    have UW := Lib.hid UW'
    clear BW' DW' EW' FW' UW'
    have EP := (BW.out.put (e := ⟨z0, z1, z2, z3, z4, z5⟩)).putFar (b' := w.heap.size + 1) (e := ⟨z0, z1, z2, z3, z4, z5⟩) (by omega)
    have EQ := (DW.out.putFar (b' := w.heap.size) (e := ⟨z0, z1, z2, z3, z4, z5⟩) (by omega)).put (e := ⟨z0, z1, z2, z3, z4, z5⟩)
    have UE := Lib.hid (((UW.out.putEv (b := w.heap.size) (o := 0) (e := ⟨z0, z1, z2, z3, z4, z5⟩) (Nat.le_refl _)).putEv (b := w.heap.size + 1) (o := 0) (e := ⟨z0, z1, z2, z3, z4, z5⟩) (by omega)).drew)
    unfold putEv at EP EQ UE
    simp only [Nat.zero_add] at EP EQ
    obtain ⟨⟨k0, k1, k2, k3, k4, k5⟩, -⟩ := EP.mk6
    obtain ⟨⟨j0, j1, j2, j3, j4, j5⟩, -⟩ := EQ.mk6
    clear EP EQ
    obtain ⟨a0, a1, a2, a3, a4, a5⟩ := EW.out.mk6.1
    obtain ⟨b0, b1, b2, b3, b4, b5⟩ := FW.out.mk6.1
    obtain ⟨⟨p0, p1, p2, p3, p4, p5⟩, ⟨f0, f1, f2, f3, f4, f5⟩⟩ := BW.out.mk6
    obtain ⟨⟨r0, r1, r2, r3, r4, r5⟩, ⟨h0, h1, h2, h3, h4, h5⟩⟩ := DW.out.mk6
    go_region
    go_wp2
    exact bodyPost_ret (v := .tuple #[.agg #[.int .i64 z0, .int .i64 z1, .int .i64 z2, .int .i64 z3, .int .i64 z4, .int .i64 z5], .agg #[.int .i64 (z0), .int .i64 (z1), .int .i64 (z2), .int .i64 (z3), .int .i64 (z4), .int .i64 (z5)]]) (by simp [results, Try.results18, go_sem, k0, k1, k2, k3, k4, k5, j0, j1, j2, j3, j4, j5]) rfl
      ⟨⟨z0, z1, z2, z3, z4, z5⟩, ⟨z0, z1, z2, z3, z4, z5⟩, rfl, OA.out, OA.out, UE.out⟩
  · go_wp2
    have BW := B4
    have DW := D4
    have EW := E4
    have FW := F4
    have UW := U4
    clear B4 D4 E4 F4 U4
    have EP := (BW.out.put (e := ⟨z0, z1, z2, z3, z4, z5⟩)).putFar (b' := w.heap.size + 1) (e := ⟨y0, y1, y2, y3, y4, y5⟩) (by omega)
    have EQ := (DW.out.putFar (b' := w.heap.size) (e := ⟨z0, z1, z2, z3, z4, z5⟩) (by omega)).put (e := ⟨y0, y1, y2, y3, y4, y5⟩)
    have UE := Lib.hid (((UW.out.putEv (b := w.heap.size) (o := 0) (e := ⟨z0, z1, z2, z3, z4, z5⟩) (Nat.le_refl _)).putEv (b := w.heap.size + 1) (o := 0) (e := ⟨y0, y1, y2, y3, y4, y5⟩) (by omega)).drew)
    unfold putEv at EP EQ UE
    simp only [Nat.zero_add] at EP EQ
    obtain ⟨⟨k0, k1, k2, k3, k4, k5⟩, -⟩ := EP.mk6
    obtain ⟨⟨j0, j1, j2, j3, j4, j5⟩, -⟩ := EQ.mk6
    clear EP EQ
    obtain ⟨a0, a1, a2, a3, a4, a5⟩ := EW.out.mk6.1
    obtain ⟨b0, b1, b2, b3, b4, b5⟩ := FW.out.mk6.1
    obtain ⟨⟨p0, p1, p2, p3, p4, p5⟩, ⟨f0, f1, f2, f3, f4, f5⟩⟩ := BW.out.mk6
    obtain ⟨⟨r0, r1, r2, r3, r4, r5⟩, ⟨h0, h1, h2, h3, h4, h5⟩⟩ := DW.out.mk6
    go_region
    go_wp2
    exact bodyPost_ret (v := .tuple #[.agg #[.int .i64 z0, .int .i64 z1, .int .i64 z2, .int .i64 z3, .int .i64 z4, .int .i64 z5], .agg #[.int .i64 (y0), .int .i64 (y1), .int .i64 (y2), .int .i64 (y3), .int .i64 (y4), .int .i64 (y5)]]) (by simp [results, Try.results18, go_sem, k0, k1, k2, k3, k4, k5, j0, j1, j2, j3, j4, j5]) rfl
      ⟨⟨z0, z1, z2, z3, z4, z5⟩, ⟨y0, y1, y2, y3, y4, y5⟩, rfl, OA.out, OB.out, UE.out⟩

end Go.Proofs.Ytodbdehnindlbaa

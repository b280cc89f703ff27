/-
  What DrawEvtOk gives, in one sentence: an event of six numbers of 64 bits and a small number of components, with new blocks alone; for every code that lies in memory.
-/
import Derived.Test.YtodbdehnindlbaaEvt
namespace Go.Proofs.Ytodbdehnindlbaa
open Go.RowKit

theorem Drawn.cases {g N : Nat} {w : World} {x : Ending} {w' : World} (h : Drawn g N w x w') :
    ∃ z0 z1 z2 z3 z4 z5 : Int, x = .returned (.agg #[.int .i64 z0, .int .i64 z1, .int .i64 z2, .int .i64 z3, .int .i64 z4, .int .i64 z5]) ∧ Evt.ok ⟨z0, z1, z2, z3, z4, z5⟩ ∧ (-2000000 ≤ z5 ∧ z5 ≤ 2000000) ∧ Rd w' g N ∧ Mv g w w' := by
  obtain ⟨⟨z0, z1, z2, z3, z4, z5⟩, hx, ⟨h1, h4⟩, h2, h3⟩ := h
  exact ⟨z0, z1, z2, z3, z4, z5, hx, h1, h4, h2, h3⟩

/-- What DrawEvtOk gives. -/
def DrawnOk (w : World) (x : Ending) (w' : World) : Prop :=
  ∃ (e : Evt) (many : Int), x = .returned (.tuple #[e.v, .int .i64 many]) ∧ e.ok ∧ -1 ≤ many ∧ many ≤ 5 ∧ Up w w'

set_option maxHeartbeats 8000000 in
theorem drawOk_any (A : Option Addr) (n cap : Nat) (w : World) (hc : n ≤ cap) (hmax : cap ≤ 9223372036854775807) (hB : Bys w A n w.heap.size) :
    Calls Try.prog 14 #[.slice A n cap] w (DrawnOk w) := by
  have HB := Lib.hid hB
  clear hB
  go_enter Try.func14, Try.ntmps14
  go_wp2_with fail
  have U0 := Lib.hid ((Up.refl w).alloc (.cells #[.int .i64 0, .int .i64 0, .int .i64 0, .int .i64 0, .int .i64 0, .int .i64 0] 24))
  have B0 := Lib.hid (Box.new w ⟨0, 0, 0, 0, 0, 0⟩ 24)
  have HB0 : Bys (w.alloc (.cells #[.int .i64 0, .int .i64 0, .int .i64 0, .int .i64 0, .int .i64 0, .int .i64 0] 24)) A n (w.alloc (.cells #[.int .i64 0, .int .i64 0, .int .i64 0, .int .i64 0, .int .i64 0, .int .i64 0] 24)).heap.size := fun h0 => by
    obtain ⟨b, off, hA, hb, hcc⟩ := HB.out.keep (fun b o hb => U0.out.cells b o hb) h0
    exact ⟨b, off, hA, by simp; omega, hcc⟩
  refine (open_any A n cap _ hc hmax HB0).mono ?_
  rintro x w1 ⟨g, rfl, hg, r1, u1⟩
  have hg' : w.heap.size + 1 ≤ g := by simpa using hg
  have q0 : w.heap.size ≠ g := by omega
  have g1 : g < w1.heap.size := by obtain ⟨_, _, _, _, _, _, _, _, h, _⟩ := r1; exact h
  have R1 := Lib.hid r1
  have U1 := Lib.hid (U0.out.trans u1)
  have B1 := Lib.hid (B0.out.up u1)
  have G := Lib.hid (show w.heap.size ≤ g by omega)
  clear hg r1 u1 HB0 U0 B0
  go_wp2_with fail
  refine (pick_any g 0 4 _ ⟨by omega, by omega⟩ (by omega) R1.out).mono ?_
  intro x w2 pk
  obtain ⟨v2, rfl, a2, b2, c2, r2, m2⟩ := pk.cases (by omega)
  have d2 : v2 ≤ 3 := by omega
  have R2 := Lib.hid r2
  have U2 := Lib.hid (m2.up U1.out G.out)
  have B2 := Lib.hid (B1.out.mv m2 q0)
  clear pk r2 m2 b2 c2 R1 U1 B1
  go_wp2_with fail
  refine (evt_any g (0 + 1) (1 + v2) 2 _ (by omega) (by omega) ⟨by omega, by omega⟩ (by omega) R2.out).mono ?_
  intro x w3 dk
  obtain ⟨z0, z1, z2, z3, z4, z5, rfl, ok, _, r3, m3⟩ := dk.cases
  have OK := Lib.hid ok
  have g3 : g < w3.heap.size := by obtain ⟨_, _, _, _, _, _, _, _, h, _⟩ := r3; exact h
  have R3 := Lib.hid r3
  have U3 := Lib.hid (m3.up U2.out G.out)
  have B3 := Lib.hid (B2.out.mv m3 q0)
  have C3 := Lib.hid (Box.new w3 ⟨z0, z1, z2, z3, z4, z5⟩ 24)
  clear dk ok r3 m3 R2 U2 B2
  have q3 : w3.heap.size ≠ g := by omega
  go_wp2_with fail
  refine (odd_any g (0 + 1 + 20) 12 _ ⟨by omega, by omega⟩ (by omega) (R3.out.alloc _)).mono ?_
  rintro x w4 ⟨bb, rfl, r4, m4⟩
  have g4 : g < w4.heap.size := by obtain ⟨_, _, _, _, _, _, _, _, h, _⟩ := r4; exact h
  have R4 := Lib.hid r4
  have U4 := Lib.hid (m4.up (U3.out.alloc _) G.out)
  have B4 := Lib.hid ((B3.out.alloc _).mv m4 q0)
  have C4 := Lib.hid (C3.out.mv m4 q3)
  clear r4 m4 R3 U3 B3 C3
  cases bb
  · obtain ⟨⟨e0, e1, e2, e3, e4, e5⟩, -⟩ := C4.out.mk6
    obtain ⟨⟨p0, p1, p2, p3, p4, p5⟩, ⟨y0, y1, y2, y3, y4, y5⟩⟩ := B4.out.mk6
    have E := putEv_at (e := ⟨z0, z1, z2, z3, z4, z5⟩) B4.out.somes
    unfold EvAt putEv at E
    simp only [Nat.zero_add] at E
    obtain ⟨k0, k1, k2, k3, k4, k5⟩ := E
    have UE := Lib.hid (U4.out.putEv (b := w.heap.size) (o := 0) (e := ⟨z0, z1, z2, z3, z4, z5⟩) (Nat.le_refl _))
    unfold putEv at UE
    go_wp2
    exact bodyPost_ret (v := .tuple #[.agg #[.int .i64 z0, .int .i64 z1, .int .i64 z2, .int .i64 z3, .int .i64 z4, .int .i64 z5], .int .i64 (1 + v2)]) (by simp [results, Try.results14, go_sem, k0, k1, k2, k3, k4, k5]) rfl
      ⟨⟨z0, z1, z2, z3, z4, z5⟩, 1 + v2, rfl, OK.out, by omega, by omega, UE.out⟩
  · go_wp2_with fail
    refine (pick_any g (0 + 1 + 20 + 1) 3 _ ⟨by omega, by omega⟩ (by omega) (R4.out.alloc _)).mono ?_
    intro x w5 pk
    obtain ⟨v5, rfl, a5, b5, c5, r5, m5⟩ := pk.cases (by omega)
    obtain ⟨t0, t1, t2⟩ := three_at m5 g4
    have U5 := Lib.hid (m5.up (U4.out.alloc _) G.out)
    have B5 := Lib.hid ((B4.out.alloc _).mv m5 q0)
    have C5 := Lib.hid ((C4.out.alloc _).mv m5 q3)
    have d5 : v5 = 0 ∨ v5 = 1 ∨ v5 = 2 := by omega
    obtain ⟨v6, a6, b6, hl6⟩ : ∃ v6 : Int, -1 ≤ v6 ∧ v6 ≤ 5 ∧ w5.cell? ⟨w4.heap.size, v5.toNat, none⟩ = some (.int .i64 v6) := by
      rcases d5 with rfl | rfl | rfl
      · exact ⟨_, by omega, by omega, t0⟩
      · exact ⟨_, by omega, by omega, t1⟩
      · exact ⟨_, by omega, by omega, t2⟩
    have l5 : v5 < 3 := by omega
    clear pk r5 m5 b5 c5 d5 t0 t1 t2 R4 U4 B4 C4
    obtain ⟨⟨e0, e1, e2, e3, e4, e5⟩, -⟩ := C5.out.mk6
    obtain ⟨⟨p0, p1, p2, p3, p4, p5⟩, ⟨y0, y1, y2, y3, y4, y5⟩⟩ := B5.out.mk6
    have E := putEv_at (e := ⟨z0, z1, z2, z3, z4, z5⟩) B5.out.somes
    unfold EvAt putEv at E
    simp only [Nat.zero_add] at E
    obtain ⟨k0, k1, k2, k3, k4, k5⟩ := E
    have UE := Lib.hid (U5.out.putEv (b := w.heap.size) (o := 0) (e := ⟨z0, z1, z2, z3, z4, z5⟩) (Nat.le_refl _))
    unfold putEv at UE
    go_wp2
    exact bodyPost_ret (v := .tuple #[.agg #[.int .i64 z0, .int .i64 z1, .int .i64 z2, .int .i64 z3, .int .i64 z4, .int .i64 z5], .int .i64 (v6)]) (by simp [results, Try.results14, go_sem, k0, k1, k2, k3, k4, k5]) rfl
      ⟨⟨z0, z1, z2, z3, z4, z5⟩, v6, rfl, OK.out, by omega, by omega, UE.out⟩

end Go.Proofs.Ytodbdehnindlbaa

/-
  What DrawEvtTake gives, in one sentence: a new slice of at most six events, and an event, with new blocks alone; for every code that lies in memory.
-/
import Derived.Test.YtodbdehnindlbaaDrawPut
import Derived.Test.YtodbdehnindlbaaMix
namespace Go.Proofs.Ytodbdehnindlbaa
open Go.RowKit

theorem Rd.drew {w : World} {g N : Nat} (h : Rd w g N) : Rd w.drew g N := h.up (Up.refl w).drew
theorem drawTake_end {w W : World} {es : List Evt} {e : Evt} {A : Option Addr} {c m : Nat} (hl : es.length = m) (h7 : m ≤ 7) (hc : m ≤ c) (hm : c ≤ 9223372036854775807)
    (hE : Evs W A m es) (ho : W.ownsRow (w.heap.size + 1) 24 6 (.slice A m c) m (flat es)) (u : Up w W) :
    DrawnPut w (.returned (.tuple #[.slice A m c, e.v])) (putEv W w.heap.size 0 e) := by
  subst hl
  have m : Mv w.heap.size W (putEv W w.heap.size 0 e) := ((((((Mv.refl w.heap.size W).setCell _).setCell _).setCell _).setCell _).setCell _).setCell _
  exact ⟨es, e, A, c, rfl, h7, hc, hm, hE.mv m (Evs.own_far ho (by omega)), own_mono (own_mv ho m (by omega)) (by omega), u.putEv (Nat.le_refl _)⟩

set_option maxRecDepth 100000 in
set_option maxHeartbeats 8000000 in
theorem drawTake_any (A : Option Addr) (n cap : Nat) (w : World) (hc : n ≤ cap) (hmax : cap ≤ 9223372036854775807) (hB : Bys w A n w.heap.size) :
    Calls Try.prog 28 #[.slice A n cap] w (DrawnPut w) := by
  have HB := Lib.hid hB
  clear hB
  go_enter Try.func28, Try.ntmps28
  go_wp2_with fail
  have U0 := Lib.hid ((Up.refl w).alloc (.cells #[.int .i64 0, .int .i64 0, .int .i64 0, .int .i64 0, .int .i64 0, .int .i64 0] 24))
  have B0 := Lib.hid (Box.new w ⟨0, 0, 0, 0, 0, 0⟩ 24)
  have HB0 : Bys (w.alloc (.cells #[.int .i64 0, .int .i64 0, .int .i64 0, .int .i64 0, .int .i64 0, .int .i64 0] 24)) A n (w.alloc (.cells #[.int .i64 0, .int .i64 0, .int .i64 0, .int .i64 0, .int .i64 0, .int .i64 0] 24)).heap.size := fun h0 => by
    obtain ⟨b, off, hA, hb, hcc⟩ := HB.out.keep (fun b o hb => U0.out.cells b o hb) h0
    exact ⟨b, off, hA, by simp; omega, hcc⟩
  refine (open_any A n cap _ hc hmax HB0).mono ?_
  rintro x w1 ⟨g, rfl, hg, r1, u1⟩
  have hg' : w.heap.size + 1 ≤ g := by simpa using hg
  have q0 : w.heap.size ≠ g := by omega
  have g1 := r1.lt
  have R1 := Lib.hid r1
  have U1 := Lib.hid (U0.out.trans u1)
  have B1 := Lib.hid (B0.out.up u1)
  have G := Lib.hid (show w.heap.size ≤ g by omega)
  clear hg r1 u1 HB0 U0 B0
  go_wp2_with fail
  refine (list_any g 0 _ (by omega) R1.out).mono ?_
  rintro x w2 ⟨es, hes, ⟨A2, c2, rfl, hc2, hm2, hE2, ho2⟩, r2, m2⟩
  have g2 := r2.lt
  have R2 := Lib.hid r2
  have U2 := Lib.hid (m2.up U1.out G.out)
  have B2 := Lib.hid (B1.out.mv m2 q0)
  have E2 := Lib.hid hE2
  have O2 := Lib.hid (own_mono ho2 (show g + 1 ≤ w1.heap.size by omega))
  clear r2 m2 hE2 ho2 R1 U1 B1
  generalize hm' : es.length = m at *
  have HM := Lib.hid hm'
  clear hm'
  by_cases h0 : 0 < m
  case neg =>
    have t0 : ¬ (0 : Int) < m := by omega
    go_wp2_with fail
    refine (evt_any g _ 4 0 _ (by omega) (by omega) ⟨by omega, by omega⟩ (by omega) R2.out).mono ?_
    intro x w3 dk
    obtain ⟨et, eto, efr, esq, ekd, edt, rfl, _, _, r3, m3⟩ := dk.cases
    have U3 := Lib.hid (m3.up U2.out G.out)
    have B3 := Lib.hid (B2.out.mv m3 q0)
    have E3 := Lib.hid (E2.out.mv m3 (Evs.own_far O2.out (by omega)))
    have O3 := Lib.hid (own_mono (own_mv O2.out m3 (by omega)) (show w.heap.size + 1 ≤ g + 1 by omega))
    clear dk r3 m3 R2 U2 B2 E2 O2
    obtain ⟨⟨p0, p1, p2, p3, p4, p5⟩, ⟨y0, y1, y2, y3, y4, y5⟩⟩ := B3.out.mk6
    have EE := putEv_at (e := ⟨et, eto, efr, esq, ekd, edt⟩) B3.out.somes
    unfold EvAt putEv at EE
    simp only [Nat.zero_add] at EE
    obtain ⟨k0, k1, k2, k3, k4, k5⟩ := EE
    go_wp2
    refine bodyPost_ret (v := .tuple #[.slice A2 m c2, .agg #[.int .i64 et, .int .i64 eto, .int .i64 efr, .int .i64 esq, .int .i64 ekd, .int .i64 edt]]) (by simp [results, Try.results28, go_sem, k0, k1, k2, k3, k4, k5]) rfl ?_
    exact drawTake_end (e := ⟨et, eto, efr, esq, ekd, edt⟩) HM.out (by omega) hc2 hm2 E3.out O3.out U3.out
  case pos =>
    have t0 : (0 : Int) < m := by omega
    go_wp2_with fail
    refine (pick_any g _ 3 _ ⟨by omega, by omega⟩ (by omega) R2.out).mono ?_
    intro x w3 pk
    obtain ⟨v3, rfl, a3, b3, c3, r3, m3⟩ := pk.cases (by omega)
    have R3 := Lib.hid r3
    have U3 := Lib.hid (m3.up U2.out G.out)
    have B3 := Lib.hid (B2.out.mv m3 q0)
    have E3 := Lib.hid (E2.out.mv m3 (Evs.own_far O2.out (by omega)))
    have O3 := Lib.hid (own_mono (own_mv O2.out m3 (by omega)) (show g + 1 ≤ g + 1 by omega))
    clear pk r3 m3 R2 U2 B2 E2 O2
    by_cases hv : 0 < v3
    · go_wp2_with fail
      refine region_mix [(0, true), (1, true), (2, true), (3, true), (4, true), (5, false), (8, true), (6, true), (7, false), (9, false)] (by kernel_rfl) (by kernel_rfl) ?_
      refine mix_take rfl (by rfl) ?_
      apply Exists.intro
      refine ⟨fun w1 => ?_, ?_⟩
      · go_simp
        try rfl
      go_simp
      refine mix_take rfl (by rfl) ?_
      apply Exists.intro
      refine ⟨fun w1 => ?_, ?_⟩
      · go_simp
        try rfl
      go_simp
      refine mix_take rfl (by rfl) ?_
      apply Exists.intro
      refine ⟨fun w1 => ?_, ?_⟩
      · go_simp
        try rfl
      go_simp
      refine mix_take rfl (by rfl) ?_
      apply Exists.intro
      refine ⟨fun w1 => ?_, ?_⟩
      · go_simp
        try rfl
      go_simp
      refine mix_take rfl (by rfl) ?_
      apply Exists.intro
      refine ⟨fun w1 => ?_, ?_⟩
      · go_simp
        try rfl
      go_simp
      refine mix_go rfl (by rfl) (fun K hK => ?_)
      go_simp
      refine (pick_any g _ (m : Nat) _ ⟨by omega, by omega⟩ (by omega) R3.out.drew).mono ?_
      intro x w4 pk
      obtain ⟨v4, rfl, a4, b4, c4, r4, m4⟩ := pk.cases (by omega)
      obtain ⟨k, rfl⟩ := Int.eq_ofNat_of_zero_le a4
      have hk : k < m := by omega
      refine hK _ _ ?_
      clear hK K
      have U4 := Lib.hid (m4.up U3.out.drew G.out)
      have B4 := Lib.hid ((B3.out.up (Up.refl w3).drew).mv m4 q0)
      have E4 := Lib.hid ((E3.out.up (Up.refl w3).drew).mv m4 (Evs.own_far O3.out (by omega)))
      have O4 := Lib.hid (own_mono (own_mv (own_up O3.out (Up.refl w3).drew) m4 (by omega)) (show w.heap.size + 1 ≤ g + 1 by omega))
      obtain ⟨b, off, hA, hb, hcc⟩ := E4.out.2 (by omega)
      have AX := hcc k hk
      generalize es.getD k default = y at AX
      obtain ⟨et, eto, efr, esq, ekd, edt⟩ := y
      unfold EvAt at AX
      dsimp only at AX
      obtain ⟨j0, j1, j2, j3, j4, j5⟩ := AX
      have l1 : (k : Int) < m := by omega
      have l0 : (0 : Int) ≤ k := by omega
      subst hA
      clear pk r4 m4 hcc a4 b4 c4
      obtain ⟨⟨p0, p1, p2, p3, p4, p5⟩, ⟨y0, y1, y2, y3, y4, y5⟩⟩ := B4.out.mk6
      go_simp
      refine mix_take rfl (by rfl) ?_
      apply Exists.intro
      refine ⟨fun w1 => ?_, ?_⟩
      · go_simp
        try rfl
      go_simp
      refine mix_take rfl (by rfl) ?_
      apply Exists.intro
      refine ⟨fun w1 => ?_, ?_⟩
      · go_simp
        try rfl
      go_simp
      refine mix_go rfl (by rfl) (fun K hK => ?_)
      go_simp
      refine hK _ _ ?_
      clear hK K
      go_simp
      refine mix_go rfl (by rfl) (fun K hK => ?_)
      go_simp
      refine hK _ _ ?_
      clear hK K
      go_simp
      refine mix_nil ?_
      obtain ⟨⟨p0, p1, p2, p3, p4, p5⟩, ⟨y0, y1, y2, y3, y4, y5⟩⟩ := B4.out.mk6
      have EE := putEv_at (e := ⟨et, eto, efr, esq, ekd, edt⟩) B4.out.somes
      unfold EvAt putEv at EE
      simp only [Nat.zero_add] at EE
      obtain ⟨k0, k1, k2, k3, k4, k5⟩ := EE
      go_wp2
      refine bodyPost_ret (v := .tuple #[.slice (some ⟨b, off, none⟩) m c2, .agg #[.int .i64 et, .int .i64 eto, .int .i64 efr, .int .i64 esq, .int .i64 ekd, .int .i64 edt]]) (by simp [results, Try.results28, go_sem, k0, k1, k2, k3, k4, k5]) rfl ?_
      exact drawTake_end (e := ⟨et, eto, efr, esq, ekd, edt⟩) HM.out (by omega) hc2 hm2 E4.out O4.out U4.out
    · have hv' : ¬ (0 : Int) < v3 := hv
      go_wp2_with fail
      refine (evt_any g _ 4 0 _ (by omega) (by omega) ⟨by omega, by omega⟩ (by omega) R3.out).mono ?_
      intro x w4 dk
      obtain ⟨et, eto, efr, esq, ekd, edt, rfl, _, _, r4, m4⟩ := dk.cases
      have U4 := Lib.hid (m4.up U3.out G.out)
      have B4 := Lib.hid (B3.out.mv m4 q0)
      have E4 := Lib.hid (E3.out.mv m4 (Evs.own_far O3.out (by omega)))
      have O4 := Lib.hid (own_mono (own_mv O3.out m4 (by omega)) (show w.heap.size + 1 ≤ g + 1 by omega))
      clear dk r4 m4 R3 U3 B3 E3 O3
      obtain ⟨⟨p0, p1, p2, p3, p4, p5⟩, ⟨y0, y1, y2, y3, y4, y5⟩⟩ := B4.out.mk6
      have EE := putEv_at (e := ⟨et, eto, efr, esq, ekd, edt⟩) B4.out.somes
      unfold EvAt putEv at EE
      simp only [Nat.zero_add] at EE
      obtain ⟨k0, k1, k2, k3, k4, k5⟩ := EE
      go_wp2
      refine bodyPost_ret (v := .tuple #[.slice A2 m c2, .agg #[.int .i64 et, .int .i64 eto, .int .i64 efr, .int .i64 esq, .int .i64 ekd, .int .i64 edt]]) (by simp [results, Try.results28, go_sem, k0, k1, k2, k3, k4, k5]) rfl ?_
      exact drawTake_end (e := ⟨et, eto, efr, esq, ekd, edt⟩) HM.out (by omega) hc2 hm2 E4.out O4.out U4.out

end Go.Proofs.Ytodbdehnindlbaa

/-
  What l20Evt gives, in one sentence: an event of six numbers of 64 bits, and the reader some steps further; for every reader and every number of components in bounds.
  What a drawn event is, in one sentence: six numbers of 64 bits in one aggregate, the reader further on; no condition is made.
  Regions walked by relations, one relation an operation, in one sentence: as region_rely, and operations that yield nothing (stores) may be among the first n.
-/
import Derived.Test.YtakmlfgkppekoaaDLRok03
import Derived.Test.YtakmlfgkppekoaaDLRok06
import Derived.Test.YtakmlfgkppekoaaDLRok08
namespace Go.Proofs.Ytakmlfgkppekoaa
set_option maxRecDepth 100000
open Go.RowKit
/-- What the drawing of an event gives. -/
def Drawn (g N : Nat) (w : World) (x : Ending) (w' : World) : Prop :=
  ∃ e : Evt, x = .returned e.v ∧ (e.ok ∧ -2000000 ≤ e.dt ∧ e.dt ≤ 2000000) ∧ Rd w' g N ∧ Mv g w w'
def Sm (n : Int) : Prop := -2000000 ≤ n ∧ n ≤ 2000000
theorem ok_mk {a b c d e f : Int} (ha : Sm a) (hb : Sm b) (hc : Sm c) (hd : Sm d) (he : Sm e) (hf : Sm f) : Evt.ok ⟨a, b, c, d, e, f⟩ := by
  unfold Sm at *; unfold Evt.ok I64; dsimp only
  omega
theorem Picked.cases {g N : Nat} {m : Int} {w : World} {x : Ending} {w' : World} (h : Picked g N m w x w') (hm : m ≤ 1000000) :
    ∃ v : Int, x = .returned (.int .i64 v) ∧ 0 ≤ v ∧ v ≤ 1000000 ∧ (v < m ∨ v = 0) ∧ Rd w' g (N + 1) ∧ Mv g w w' := by
  obtain ⟨v, hx, h0, h1, h2, h3⟩ := h
  exact ⟨v, hx, h0, by omega, h1, h2, h3⟩
/-- A new block of two numbers, looked up behind a pick. -/
theorem two_at {w w' : World} {g : Nat} {x y : Value} {t : TypeId} (m : Mv g (w.alloc (.cells #[x, y] t)) w') (hg : g < w.heap.size) :
    w'.cell? ⟨w.heap.size, 0, none⟩ = some x ∧ w'.cell? ⟨w.heap.size, 1, none⟩ = some y := by
  have hh := heap_alloc_new w (.cells #[x, y] t)
  have hl : w.heap.size < (w.alloc (.cells #[x, y] t)).heap.size := by simp
  exact ⟨(m.cells _ 0 hl (by omega)).trans (by rw [cell_of_row _ _ 0 _ _ _ hh]; rfl), (m.cells _ 1 hl (by omega)).trans (by rw [cell_of_row _ _ 1 _ _ _ hh]; rfl)⟩
theorem three_at {w w' : World} {g : Nat} {x y z : Value} {t : TypeId} (m : Mv g (w.alloc (.cells #[x, y, z] t)) w') (hg : g < w.heap.size) :
    w'.cell? ⟨w.heap.size, 0, none⟩ = some x ∧ w'.cell? ⟨w.heap.size, 1, none⟩ = some y ∧ w'.cell? ⟨w.heap.size, 2, none⟩ = some z := by
  have hh := heap_alloc_new w (.cells #[x, y, z] t)
  have hl : w.heap.size < (w.alloc (.cells #[x, y, z] t)).heap.size := by simp
  exact ⟨(m.cells _ 0 hl (by omega)).trans (by rw [cell_of_row _ _ 0 _ _ _ hh]; rfl), (m.cells _ 1 hl (by omega)).trans (by rw [cell_of_row _ _ 1 _ _ _ hh]; rfl), (m.cells _ 2 hl (by omega)).trans (by rw [cell_of_row _ _ 2 _ _ _ hh]; rfl)⟩
set_option maxHeartbeats 8000000 in
theorem evt_any (g N : Nat) (many n : Int) (w : World) (h1 : -10 ≤ many) (h2 : many ≤ 10) (hn : I64 n) (hN : N ≤ 900000) (hR : Rd w g N) :
    Calls Try.prog 87 #[.pointer (some ⟨g, 0, none⟩), .int .i64 many, .int .i64 n] w (Drawn g (N + 20) w) := by
  have hgw : g < w.heap.size := by obtain ⟨_, _, _, _, _, _, _, _, hg, _⟩ := hR; exact hg
  have R0 := Lib.hid hR
  have HN := Lib.hid hn
  clear hR hn
  go_enter Try.func87, Try.ntmps87
  go_wp2_with fail
  have R0' := Lib.hid (R0.out.alloc (.cells #[.int .i64 0, .int .i64 0, .int .i64 0, .int .i64 0, .int .i64 0, .int .i64 0] 45))
  have M0 := Lib.hid (Mv.refl g (w.alloc (.cells #[.int .i64 0, .int .i64 0, .int .i64 0, .int .i64 0, .int .i64 0, .int .i64 0] 45)))
  have B0 := Lib.hid (Box.new w ⟨0, 0, 0, 0, 0, 0⟩ 45)
  have W0 := Lib.hid ((Mv.refl g w).alloc (.cells #[.int .i64 0, .int .i64 0, .int .i64 0, .int .i64 0, .int .i64 0, .int .i64 0] 45))
  clear R0; refine (pick_any g (N + 0) 9 _ ⟨by omega, by omega⟩ (by omega) R0'.out).mono ?_; intro x w1 pk; obtain ⟨v1, rfl, a1, b1, c1, r1, m1⟩ := pk.cases (by omega)
  have R1 := Lib.hid r1
  have M1 := Lib.hid (M0.out.trans m1)
  clear pk r1 m1 c1 R0' M0
  go_wp2_with fail
  refine (pick_any g (N + 1) many _ ⟨by omega, by omega⟩ (by omega) R1.out).mono ?_; intro x w2 pk; obtain ⟨v2, rfl, a2, b2, c2, r2, m2⟩ := pk.cases (by omega)
  have R2 := Lib.hid r2
  have M2 := Lib.hid (M1.out.trans m2)
  clear pk r2 m2 c2 R1 M1
  go_wp2_with fail
  refine (pick_any g (N + 2) (many + 1) _ ⟨by omega, by omega⟩ (by omega) R2.out).mono ?_; intro x w3 pk; obtain ⟨v3, rfl, a3, b3, c3, r3, m3⟩ := pk.cases (by omega)
  have R3 := Lib.hid r3
  have M3 := Lib.hid (M2.out.trans m3)
  clear pk r3 m3 c3 R2 M2
  go_wp2_with fail
  refine (pick_any g (N + 3) 3 _ ⟨by omega, by omega⟩ (by omega) R3.out).mono ?_; intro x w4 pk; obtain ⟨v4, rfl, a4, b4, c4, r4, m4⟩ := pk.cases (by omega)
  have R4 := Lib.hid r4
  have M4 := Lib.hid (M3.out.trans m4)
  clear pk r4 m4 c4 R3 M3
  go_wp2_with fail
  refine (pick_any g (N + 4) 3 _ ⟨by omega, by omega⟩ (by omega) R4.out).mono ?_; intro x w5 pk; obtain ⟨v5, rfl, a5, b5, c5, r5, m5⟩ := pk.cases (by omega)
  have R5 := Lib.hid r5
  have M5 := Lib.hid (M4.out.trans m5)
  clear pk r5 m5 c5 R4 M4
  go_wp2_with fail
  refine (pick_any g (N + 5) 3 _ ⟨by omega, by omega⟩ (by omega) R5.out).mono ?_; intro x w6 pk; obtain ⟨v6, rfl, a6, b6, c6, r6, m6⟩ := pk.cases (by omega)
  have R6 := Lib.hid r6
  have M6 := Lib.hid (M5.out.trans m6)
  clear pk r6 m6 c6 R5 M5
  go_wp2_with fail
  refine (pick_any g (N + 6) 97 _ ⟨by omega, by omega⟩ (by omega) R6.out).mono ?_; intro x w7 pk; obtain ⟨v7, rfl, a7, b7, c7, r7, m7⟩ := pk.cases (by omega)
  have R7 := Lib.hid r7
  have M7 := Lib.hid (M6.out.trans m7)
  clear pk r7 m7 c7 R6 M6
  go_wp2_with fail
  have g7 : g < w7.heap.size := by have := M7.out.size; simp at this; omega
  refine (pick_any g (N + 7) 2 _ ⟨by omega, by omega⟩ (by omega) (R7.out.alloc _)).mono ?_; intro x w8 pk; obtain ⟨v8, rfl, a8, b8, c8, r8, m8⟩ := pk.cases (by omega); obtain ⟨t0, t1⟩ := two_at m8 g7
  have g8 : g < w8.heap.size := by have := m8.size; simp at this; omega
  have R8 := Lib.hid r8
  have M8 := Lib.hid ((M7.out.alloc _).trans m8)
  clear pk r8 m8 R7 M7
  have M8s : (w.alloc (.cells #[.int .i64 0, .int .i64 0, .int .i64 0, .int .i64 0, .int .i64 0, .int .i64 0] 45)).heap.size ≤ w8.heap.size := M8.out.size
  have M8t : w.heap.size + 1 ≤ w8.heap.size := by simpa using M8s
  have d8 : v8 = 0 ∨ v8 = 1 := by omega
  obtain ⟨v9, hv9a, hv9b, hl9⟩ : ∃ v9 : Int, 0 ≤ v9 ∧ v9 ≤ 1000000 ∧ w8.cell? ⟨w7.heap.size, v8.toNat, none⟩ = some (.int .i64 v9) := by
    rcases d8 with rfl | rfl
    · exact ⟨v6, a6, b6, t0⟩
    · exact ⟨v7, a7, b7, t1⟩
  have l8 : v8 < 2 := by omega
  clear d8 c8 t0 t1
  go_wp2_with fail
  have B1 := Lib.hid (Box.new w8 ⟨v1, v2, v3 - 1, v4, v5, v9⟩ 45)
  refine (odd_any g (N + 8) n _ HN.out (by omega) (R8.out.alloc _)).mono ?_; rintro x w9 ⟨bb, rfl, r9, m9⟩
  have g9 : g < w9.heap.size := by have := m9.size; simp at this; omega
  have B2 := Lib.hid (B1.out.mv m9 (by omega))
  have R9 := Lib.hid r9
  have M9 := Lib.hid ((M8.out.alloc _).trans m9)
  have B3 := Lib.hid (B0.out.mv M9.out (by omega))
  clear R8 M8 B1 r9 m9
  have q8 : w8.heap.size ≠ g := by omega
  have q0 : w.heap.size ≠ g := by omega
  have Q80 := Lib.hid (show w8.heap.size ≠ w.heap.size from by omega)
  have Q81 := Lib.hid M8s
  cases bb
  · obtain ⟨⟨e0, e1, e2, e3, e4, e5⟩, ⟨f0, f1, f2, f3, f4, f5⟩⟩ := B2.out.mk6
    obtain ⟨⟨p0, p1, p2, p3, p4, p5⟩, ⟨y0, y1, y2, y3, y4, y5⟩⟩ := B3.out.mk6
    have E := putEv_at (e := ⟨v1, v2, v3 - 1, v4, v5, v9⟩) B3.out.somes
    have RE := Lib.hid (R9.out.putEv (b := w.heap.size) (o := 0) (e := ⟨v1, v2, v3 - 1, v4, v5, v9⟩) (by omega))
    have ME := Lib.hid (W0.out.trans M9.out |>.putEv (b := w.heap.size) (o := 0) (e := ⟨v1, v2, v3 - 1, v4, v5, v9⟩) (Nat.le_refl _))
    unfold EvAt putEv at E; unfold putEv at RE ME; simp only [Nat.zero_add] at E; obtain ⟨k0, k1, k2, k3, k4, k5⟩ := E; go_wp2
    exact bodyPost_ret (v := .agg #[.int .i64 v1, .int .i64 v2, .int .i64 (v3 - 1), .int .i64 v4, .int .i64 v5, .int .i64 v9]) (by simp [results, Try.results87, go_sem, k0, k1, k2, k3, k4, k5]) rfl
      ⟨⟨v1, v2, v3 - 1, v4, v5, v9⟩, rfl, ⟨ok_mk ⟨by omega, by omega⟩ ⟨by omega, by omega⟩ ⟨by omega, by omega⟩ ⟨by omega, by omega⟩ ⟨by omega, by omega⟩ ⟨by omega, by omega⟩, by dsimp only; omega, by dsimp only; omega⟩, RE.out.mono (by omega), ME.out⟩
  · go_wp2_with fail
    refine (pick_any g (N + 9) 6 _ ⟨by omega, by omega⟩ (by omega) R9.out).mono ?_; intro x w10 pk; obtain ⟨v10, rfl, a10, b10, c10, r10, m10⟩ := pk.cases (by omega)
    have g10 : g < w10.heap.size := by have := m10.size; omega
    have B4 := Lib.hid (B2.out.mv m10 (by omega))
    have B5 := Lib.hid (B3.out.mv m10 (by omega))
    have R10 := Lib.hid r10
    have M10 := Lib.hid (M9.out.trans m10)
    clear pk r10 m10 R9 M9 B2 B3
    have d10 : v10 = 0 ∨ v10 = 1 ∨ v10 = 2 ∨ v10 = 3 ∨ v10 = 4 ∨ v10 = 5 := by omega
    clear c10 a10 b10
    rcases d10 with rfl | rfl | rfl | rfl | rfl | rfl
    · go_wp2_with fail
      refine (pick_any g (N + 10) 3 _ ⟨by omega, by omega⟩ (by omega) (R10.out.alloc _)).mono ?_; intro x w11 pk; obtain ⟨v11, rfl, a11, b11, c11, r11, m11⟩ := pk.cases (by omega); obtain ⟨t0, t1, t2⟩ := three_at m11 g10
      have g11 : g < w11.heap.size := by have := m11.size; simp at this; omega
      have B6 := Lib.hid ((B4.out.alloc _).mv m11 (by omega))
      have B7 := Lib.hid ((B5.out.alloc _).mv m11 (by omega))
      have R11 := Lib.hid r11
      have M11 := Lib.hid ((M10.out.alloc _).trans m11)
      clear pk r11 m11 R10 M10 B4 B5
      have d11 : v11 = 0 ∨ v11 = 1 ∨ v11 = 2 := by omega
      obtain ⟨v12, a12, b12, hl12⟩ : ∃ v12 : Int, -1000 ≤ v12 ∧ v12 ≤ 1000000 ∧ w11.cell? ⟨w10.heap.size, v11.toNat, none⟩ = some (.int .i64 v12) := by
        rcases d11 with rfl | rfl | rfl
        · exact ⟨_, by omega, by omega, t0⟩
        · exact ⟨_, by omega, by omega, t1⟩
        · exact ⟨_, by omega, by omega, t2⟩
      have l11 : v11 < 3 := by omega
      clear d11 c11 t0 t1 t2
      have B8 := Lib.hid (B7.out.setFar (p := ⟨w8.heap.size, 0, none⟩) Q80.out (.int .i64 v12))
      have R12 := Lib.hid (R11.out.setCell (p := ⟨w8.heap.size, 0, none⟩) g8 (.int .i64 v12))
      have M12 := Lib.hid (M11.out.setNew (p := ⟨w8.heap.size, 0, none⟩) Q81.out (.int .i64 v12))
      obtain ⟨⟨e0, e1, e2, e3, e4, e5⟩, ⟨f0, f1, f2, f3, f4, f5⟩⟩ := B6.out.mk6; obtain ⟨⟨p0, p1, p2, p3, p4, p5⟩, ⟨y0, y1, y2, y3, y4, y5⟩⟩ := B8.out.mk6
      have E := putEv_at (e := ⟨v12, v2, v3 - 1, v4, v5, v9⟩) B8.out.somes
      have RE := Lib.hid (R12.out.putEv (b := w.heap.size) (o := 0) (e := ⟨v12, v2, v3 - 1, v4, v5, v9⟩) (by omega))
      have ME := Lib.hid (W0.out.trans M12.out |>.putEv (b := w.heap.size) (o := 0) (e := ⟨v12, v2, v3 - 1, v4, v5, v9⟩) (Nat.le_refl _))
      unfold EvAt putEv at E; unfold putEv at RE ME; simp only [Nat.zero_add] at E; obtain ⟨k0, k1, k2, k3, k4, k5⟩ := E; go_wp2
      exact bodyPost_ret (v := .agg #[.int .i64 v12, .int .i64 v2, .int .i64 (v3 - 1), .int .i64 v4, .int .i64 v5, .int .i64 v9]) (by simp [results, Try.results87, go_sem, k0, k1, k2, k3, k4, k5]) rfl
        ⟨⟨v12, v2, v3 - 1, v4, v5, v9⟩, rfl, ⟨ok_mk ⟨by omega, by omega⟩ ⟨by omega, by omega⟩ ⟨by omega, by omega⟩ ⟨by omega, by omega⟩ ⟨by omega, by omega⟩ ⟨by omega, by omega⟩, by dsimp only; omega, by dsimp only; omega⟩, RE.out.mono (by omega), ME.out⟩
    · go_wp2_with fail
      refine (pick_any g (N + 10) 2 _ ⟨by omega, by omega⟩ (by omega) (R10.out.alloc _)).mono ?_; intro x w11 pk; obtain ⟨v11, rfl, a11, b11, c11, r11, m11⟩ := pk.cases (by omega); obtain ⟨t0, t1⟩ := two_at m11 g10
      have g11 : g < w11.heap.size := by have := m11.size; simp at this; omega
      have B6 := Lib.hid ((B4.out.alloc _).mv m11 (by omega))
      have B7 := Lib.hid ((B5.out.alloc _).mv m11 (by omega))
      have R11 := Lib.hid r11
      have M11 := Lib.hid ((M10.out.alloc _).trans m11)
      clear pk r11 m11 R10 M10 B4 B5
      have d11 : v11 = 0 ∨ v11 = 1 := by omega
      obtain ⟨v12, a12, b12, hl12⟩ : ∃ v12 : Int, -1000 ≤ v12 ∧ v12 ≤ 1000000 ∧ w11.cell? ⟨w10.heap.size, v11.toNat, none⟩ = some (.int .i64 v12) := by
        rcases d11 with rfl | rfl
        · exact ⟨_, by omega, by omega, t0⟩
        · exact ⟨_, by omega, by omega, t1⟩
      have l11 : v11 < 2 := by omega
      clear d11 c11 t0 t1
      have B8 := Lib.hid (B7.out.setFar (p := ⟨w8.heap.size, 1, none⟩) Q80.out (.int .i64 v12))
      have R12 := Lib.hid (R11.out.setCell (p := ⟨w8.heap.size, 1, none⟩) g8 (.int .i64 v12))
      have M12 := Lib.hid (M11.out.setNew (p := ⟨w8.heap.size, 1, none⟩) Q81.out (.int .i64 v12))
      obtain ⟨⟨e0, e1, e2, e3, e4, e5⟩, ⟨f0, f1, f2, f3, f4, f5⟩⟩ := B6.out.mk6; obtain ⟨⟨p0, p1, p2, p3, p4, p5⟩, ⟨y0, y1, y2, y3, y4, y5⟩⟩ := B8.out.mk6
      have E := putEv_at (e := ⟨v1, v12, v3 - 1, v4, v5, v9⟩) B8.out.somes
      have RE := Lib.hid (R12.out.putEv (b := w.heap.size) (o := 0) (e := ⟨v1, v12, v3 - 1, v4, v5, v9⟩) (by omega))
      have ME := Lib.hid (W0.out.trans M12.out |>.putEv (b := w.heap.size) (o := 0) (e := ⟨v1, v12, v3 - 1, v4, v5, v9⟩) (Nat.le_refl _))
      unfold EvAt putEv at E; unfold putEv at RE ME; simp only [Nat.zero_add] at E; obtain ⟨k0, k1, k2, k3, k4, k5⟩ := E; go_wp2
      exact bodyPost_ret (v := .agg #[.int .i64 v1, .int .i64 v12, .int .i64 (v3 - 1), .int .i64 v4, .int .i64 v5, .int .i64 v9]) (by simp [results, Try.results87, go_sem, k0, k1, k2, k3, k4, k5]) rfl
        ⟨⟨v1, v12, v3 - 1, v4, v5, v9⟩, rfl, ⟨ok_mk ⟨by omega, by omega⟩ ⟨by omega, by omega⟩ ⟨by omega, by omega⟩ ⟨by omega, by omega⟩ ⟨by omega, by omega⟩ ⟨by omega, by omega⟩, by dsimp only; omega, by dsimp only; omega⟩, RE.out.mono (by omega), ME.out⟩
    · go_wp2_with fail
      refine (pick_any g (N + 10) 2 _ ⟨by omega, by omega⟩ (by omega) (R10.out.alloc _)).mono ?_; intro x w11 pk; obtain ⟨v11, rfl, a11, b11, c11, r11, m11⟩ := pk.cases (by omega); obtain ⟨t0, t1⟩ := two_at m11 g10
      have g11 : g < w11.heap.size := by have := m11.size; simp at this; omega
      have B6 := Lib.hid ((B4.out.alloc _).mv m11 (by omega))
      have B7 := Lib.hid ((B5.out.alloc _).mv m11 (by omega))
      have R11 := Lib.hid r11
      have M11 := Lib.hid ((M10.out.alloc _).trans m11)
      clear pk r11 m11 R10 M10 B4 B5
      have d11 : v11 = 0 ∨ v11 = 1 := by omega
      obtain ⟨v12, a12, b12, hl12⟩ : ∃ v12 : Int, -1000 ≤ v12 ∧ v12 ≤ 1000000 ∧ w11.cell? ⟨w10.heap.size, v11.toNat, none⟩ = some (.int .i64 v12) := by
        rcases d11 with rfl | rfl
        · exact ⟨_, by omega, by omega, t0⟩
        · exact ⟨_, by omega, by omega, t1⟩
      have l11 : v11 < 2 := by omega
      clear d11 c11 t0 t1
      have B8 := Lib.hid (B7.out.setFar (p := ⟨w8.heap.size, 2, none⟩) Q80.out (.int .i64 v12))
      have R12 := Lib.hid (R11.out.setCell (p := ⟨w8.heap.size, 2, none⟩) g8 (.int .i64 v12))
      have M12 := Lib.hid (M11.out.setNew (p := ⟨w8.heap.size, 2, none⟩) Q81.out (.int .i64 v12))
      obtain ⟨⟨e0, e1, e2, e3, e4, e5⟩, ⟨f0, f1, f2, f3, f4, f5⟩⟩ := B6.out.mk6; obtain ⟨⟨p0, p1, p2, p3, p4, p5⟩, ⟨y0, y1, y2, y3, y4, y5⟩⟩ := B8.out.mk6
      have E := putEv_at (e := ⟨v1, v2, v12, v4, v5, v9⟩) B8.out.somes
      have RE := Lib.hid (R12.out.putEv (b := w.heap.size) (o := 0) (e := ⟨v1, v2, v12, v4, v5, v9⟩) (by omega))
      have ME := Lib.hid (W0.out.trans M12.out |>.putEv (b := w.heap.size) (o := 0) (e := ⟨v1, v2, v12, v4, v5, v9⟩) (Nat.le_refl _))
      unfold EvAt putEv at E; unfold putEv at RE ME; simp only [Nat.zero_add] at E; obtain ⟨k0, k1, k2, k3, k4, k5⟩ := E; go_wp2
      exact bodyPost_ret (v := .agg #[.int .i64 v1, .int .i64 v2, .int .i64 v12, .int .i64 v4, .int .i64 v5, .int .i64 v9]) (by simp [results, Try.results87, go_sem, k0, k1, k2, k3, k4, k5]) rfl
        ⟨⟨v1, v2, v12, v4, v5, v9⟩, rfl, ⟨ok_mk ⟨by omega, by omega⟩ ⟨by omega, by omega⟩ ⟨by omega, by omega⟩ ⟨by omega, by omega⟩ ⟨by omega, by omega⟩ ⟨by omega, by omega⟩, by dsimp only; omega, by dsimp only; omega⟩, RE.out.mono (by omega), ME.out⟩
    · go_wp2_with fail
      refine (pick_any g (N + 10) 2 _ ⟨by omega, by omega⟩ (by omega) (R10.out.alloc _)).mono ?_; intro x w11 pk; obtain ⟨v11, rfl, a11, b11, c11, r11, m11⟩ := pk.cases (by omega); obtain ⟨t0, t1⟩ := two_at m11 g10
      have g11 : g < w11.heap.size := by have := m11.size; simp at this; omega
      have B6 := Lib.hid ((B4.out.alloc _).mv m11 (by omega))
      have B7 := Lib.hid ((B5.out.alloc _).mv m11 (by omega))
      have R11 := Lib.hid r11
      have M11 := Lib.hid ((M10.out.alloc _).trans m11)
      clear pk r11 m11 R10 M10 B4 B5
      have d11 : v11 = 0 ∨ v11 = 1 := by omega
      obtain ⟨v12, a12, b12, hl12⟩ : ∃ v12 : Int, -1000 ≤ v12 ∧ v12 ≤ 1000000 ∧ w11.cell? ⟨w10.heap.size, v11.toNat, none⟩ = some (.int .i64 v12) := by
        rcases d11 with rfl | rfl
        · exact ⟨_, by omega, by omega, t0⟩
        · exact ⟨_, by omega, by omega, t1⟩
      have l11 : v11 < 2 := by omega
      clear d11 c11 t0 t1
      have B8 := Lib.hid (B7.out.setFar (p := ⟨w8.heap.size, 3, none⟩) Q80.out (.int .i64 v12))
      have R12 := Lib.hid (R11.out.setCell (p := ⟨w8.heap.size, 3, none⟩) g8 (.int .i64 v12))
      have M12 := Lib.hid (M11.out.setNew (p := ⟨w8.heap.size, 3, none⟩) Q81.out (.int .i64 v12))
      obtain ⟨⟨e0, e1, e2, e3, e4, e5⟩, ⟨f0, f1, f2, f3, f4, f5⟩⟩ := B6.out.mk6; obtain ⟨⟨p0, p1, p2, p3, p4, p5⟩, ⟨y0, y1, y2, y3, y4, y5⟩⟩ := B8.out.mk6
      have E := putEv_at (e := ⟨v1, v2, v3 - 1, v12, v5, v9⟩) B8.out.somes
      have RE := Lib.hid (R12.out.putEv (b := w.heap.size) (o := 0) (e := ⟨v1, v2, v3 - 1, v12, v5, v9⟩) (by omega))
      have ME := Lib.hid (W0.out.trans M12.out |>.putEv (b := w.heap.size) (o := 0) (e := ⟨v1, v2, v3 - 1, v12, v5, v9⟩) (Nat.le_refl _))
      unfold EvAt putEv at E; unfold putEv at RE ME; simp only [Nat.zero_add] at E; obtain ⟨k0, k1, k2, k3, k4, k5⟩ := E; go_wp2
      exact bodyPost_ret (v := .agg #[.int .i64 v1, .int .i64 v2, .int .i64 (v3 - 1), .int .i64 v12, .int .i64 v5, .int .i64 v9]) (by simp [results, Try.results87, go_sem, k0, k1, k2, k3, k4, k5]) rfl
        ⟨⟨v1, v2, v3 - 1, v12, v5, v9⟩, rfl, ⟨ok_mk ⟨by omega, by omega⟩ ⟨by omega, by omega⟩ ⟨by omega, by omega⟩ ⟨by omega, by omega⟩ ⟨by omega, by omega⟩ ⟨by omega, by omega⟩, by dsimp only; omega, by dsimp only; omega⟩, RE.out.mono (by omega), ME.out⟩
    · go_wp2_with fail
      refine (pick_any g (N + 10) 2 _ ⟨by omega, by omega⟩ (by omega) (R10.out.alloc _)).mono ?_; intro x w11 pk; obtain ⟨v11, rfl, a11, b11, c11, r11, m11⟩ := pk.cases (by omega); obtain ⟨t0, t1⟩ := two_at m11 g10
      have g11 : g < w11.heap.size := by have := m11.size; simp at this; omega
      have B6 := Lib.hid ((B4.out.alloc _).mv m11 (by omega))
      have B7 := Lib.hid ((B5.out.alloc _).mv m11 (by omega))
      have R11 := Lib.hid r11
      have M11 := Lib.hid ((M10.out.alloc _).trans m11)
      clear pk r11 m11 R10 M10 B4 B5
      have d11 : v11 = 0 ∨ v11 = 1 := by omega
      obtain ⟨v12, a12, b12, hl12⟩ : ∃ v12 : Int, -1000 ≤ v12 ∧ v12 ≤ 1000000 ∧ w11.cell? ⟨w10.heap.size, v11.toNat, none⟩ = some (.int .i64 v12) := by
        rcases d11 with rfl | rfl
        · exact ⟨_, by omega, by omega, t0⟩
        · exact ⟨_, by omega, by omega, t1⟩
      have l11 : v11 < 2 := by omega
      clear d11 c11 t0 t1
      have B8 := Lib.hid (B7.out.setFar (p := ⟨w8.heap.size, 4, none⟩) Q80.out (.int .i64 v12))
      have R12 := Lib.hid (R11.out.setCell (p := ⟨w8.heap.size, 4, none⟩) g8 (.int .i64 v12))
      have M12 := Lib.hid (M11.out.setNew (p := ⟨w8.heap.size, 4, none⟩) Q81.out (.int .i64 v12))
      obtain ⟨⟨e0, e1, e2, e3, e4, e5⟩, ⟨f0, f1, f2, f3, f4, f5⟩⟩ := B6.out.mk6; obtain ⟨⟨p0, p1, p2, p3, p4, p5⟩, ⟨y0, y1, y2, y3, y4, y5⟩⟩ := B8.out.mk6
      have E := putEv_at (e := ⟨v1, v2, v3 - 1, v4, v12, v9⟩) B8.out.somes
      have RE := Lib.hid (R12.out.putEv (b := w.heap.size) (o := 0) (e := ⟨v1, v2, v3 - 1, v4, v12, v9⟩) (by omega))
      have ME := Lib.hid (W0.out.trans M12.out |>.putEv (b := w.heap.size) (o := 0) (e := ⟨v1, v2, v3 - 1, v4, v12, v9⟩) (Nat.le_refl _))
      unfold EvAt putEv at E; unfold putEv at RE ME; simp only [Nat.zero_add] at E; obtain ⟨k0, k1, k2, k3, k4, k5⟩ := E; go_wp2
      exact bodyPost_ret (v := .agg #[.int .i64 v1, .int .i64 v2, .int .i64 (v3 - 1), .int .i64 v4, .int .i64 v12, .int .i64 v9]) (by simp [results, Try.results87, go_sem, k0, k1, k2, k3, k4, k5]) rfl
        ⟨⟨v1, v2, v3 - 1, v4, v12, v9⟩, rfl, ⟨ok_mk ⟨by omega, by omega⟩ ⟨by omega, by omega⟩ ⟨by omega, by omega⟩ ⟨by omega, by omega⟩ ⟨by omega, by omega⟩ ⟨by omega, by omega⟩, by dsimp only; omega, by dsimp only; omega⟩, RE.out.mono (by omega), ME.out⟩
    · go_wp2_with fail
      refine (pick_any g (N + 10) 2 _ ⟨by omega, by omega⟩ (by omega) (R10.out.alloc _)).mono ?_; intro x w11 pk; obtain ⟨v11, rfl, a11, b11, c11, r11, m11⟩ := pk.cases (by omega); obtain ⟨t0, t1⟩ := two_at m11 g10
      have g11 : g < w11.heap.size := by have := m11.size; simp at this; omega
      have B6 := Lib.hid ((B4.out.alloc _).mv m11 (by omega))
      have B7 := Lib.hid ((B5.out.alloc _).mv m11 (by omega))
      have R11 := Lib.hid r11
      have M11 := Lib.hid ((M10.out.alloc _).trans m11)
      clear pk r11 m11 R10 M10 B4 B5
      have d11 : v11 = 0 ∨ v11 = 1 := by omega
      obtain ⟨v12, a12, b12, hl12⟩ : ∃ v12 : Int, -1000 ≤ v12 ∧ v12 ≤ 1000000 ∧ w11.cell? ⟨w10.heap.size, v11.toNat, none⟩ = some (.int .i64 v12) := by
        rcases d11 with rfl | rfl
        · exact ⟨_, by omega, by omega, t0⟩
        · exact ⟨_, by omega, by omega, t1⟩
      have l11 : v11 < 2 := by omega
      clear d11 c11 t0 t1
      have B8 := Lib.hid (B7.out.setFar (p := ⟨w8.heap.size, 5, none⟩) Q80.out (.int .i64 v12))
      have R12 := Lib.hid (R11.out.setCell (p := ⟨w8.heap.size, 5, none⟩) g8 (.int .i64 v12))
      have M12 := Lib.hid (M11.out.setNew (p := ⟨w8.heap.size, 5, none⟩) Q81.out (.int .i64 v12))
      obtain ⟨⟨e0, e1, e2, e3, e4, e5⟩, ⟨f0, f1, f2, f3, f4, f5⟩⟩ := B6.out.mk6; obtain ⟨⟨p0, p1, p2, p3, p4, p5⟩, ⟨y0, y1, y2, y3, y4, y5⟩⟩ := B8.out.mk6
      have E := putEv_at (e := ⟨v1, v2, v3 - 1, v4, v5, v12⟩) B8.out.somes
      have RE := Lib.hid (R12.out.putEv (b := w.heap.size) (o := 0) (e := ⟨v1, v2, v3 - 1, v4, v5, v12⟩) (by omega))
      have ME := Lib.hid (W0.out.trans M12.out |>.putEv (b := w.heap.size) (o := 0) (e := ⟨v1, v2, v3 - 1, v4, v5, v12⟩) (Nat.le_refl _))
      unfold EvAt putEv at E; unfold putEv at RE ME; simp only [Nat.zero_add] at E; obtain ⟨k0, k1, k2, k3, k4, k5⟩ := E; go_wp2
      exact bodyPost_ret (v := .agg #[.int .i64 v1, .int .i64 v2, .int .i64 (v3 - 1), .int .i64 v4, .int .i64 v5, .int .i64 v12]) (by simp [results, Try.results87, go_sem, k0, k1, k2, k3, k4, k5]) rfl
        ⟨⟨v1, v2, v3 - 1, v4, v5, v12⟩, rfl, ⟨ok_mk ⟨by omega, by omega⟩ ⟨by omega, by omega⟩ ⟨by omega, by omega⟩ ⟨by omega, by omega⟩ ⟨by omega, by omega⟩ ⟨by omega, by omega⟩, by dsimp only; omega, by dsimp only; omega⟩, RE.out.mono (by omega), ME.out⟩
end Go.Proofs.Ytakmlfgkppekoaa

namespace Go.Proofs.Ytakmlfgkppekoaa
set_option maxRecDepth 100000
open Go.RowKit
theorem Drawn.cases {g N : Nat} {w : World} {x : Ending} {w' : World} (h : Drawn g N w x w') :
    ∃ z0 z1 z2 z3 z4 z5 : Int, x = .returned (.agg #[.int .i64 z0, .int .i64 z1, .int .i64 z2, .int .i64 z3, .int .i64 z4, .int .i64 z5]) ∧ Evt.ok ⟨z0, z1, z2, z3, z4, z5⟩ ∧ (-2000000 ≤ z5 ∧ z5 ≤ 2000000) ∧ Rd w' g N ∧ Mv g w w' := by
  obtain ⟨⟨z0, z1, z2, z3, z4, z5⟩, hx, ⟨h1, h4⟩, h2, h3⟩ := h
  exact ⟨z0, z1, z2, z3, z4, z5, hx, h1, h4, h2, h3⟩
end Go.Proofs.Ytakmlfgkppekoaa

namespace Go.Proofs.Ytakmlfgkppekoaa
set_option maxRecDepth 100000
open Go.RowKit
/-- What is known of an operation that has come up. -/
def Claim (ops : Array Oper) (aux : Nat → Nat) (R : Nat → Value → World → Prop) (i : Nat) (X : Nat → Value) (w : World) : Prop :=
  match (ops[i]?).bind (·.dst) with
  | some d => R i (X d) w
  | none => R i (X (dstAt ops (aux i))) w
def depI (o : Oper) : List Nat := (o.after.toList.filter (Region.binds .any)).map (·.on)
/-- What is asked of one operation. -/
def StepC (P : Program) (ops : Array Oper) (aux : Nat → Nat) (ds : List Nat) (a0 : Act) (G : Nat → World → Prop) (M : World → World → Prop) (R : Nat → Value → World → Prop) (Q : Exit → Act → World → Prop) (i : Nat) (o : Oper) : Prop :=
  ∀ X w k, G (k + 1) w → (∀ j ∈ depI o, Claim ops aux R j X w) →
    opW P o ⟨mixT a0.tmps ds X, a0.defers⟩ w (DoneR ⟨mixT a0.tmps ds X, a0.defers⟩ o.dst M (G k) (fun v w' => R i (if o.dst.isSome then v else X (dstAt ops (aux i))) w') w) Q
def StepsC (P : Program) (ops : Array Oper) (aux : Nat → Nat) (ds : List Nat) (a0 : Act) (G : Nat → World → Prop) (M : World → World → Prop) (R : Nat → Value → World → Prop) (Q : Exit → Act → World → Prop) : Nat → List Oper → Prop
  | _, [] => True
  | i, o :: r => StepC P ops aux ds a0 G M R Q i o ∧ StepsC P ops aux ds a0 G M R Q (i + 1) r
theorem StepsC.get {P : Program} {ops : Array Oper} {aux : Nat → Nat} {ds : List Nat} {a0 : Act} {G : Nat → World → Prop} {M : World → World → Prop} {R : Nat → Value → World → Prop} {Q : Exit → Act → World → Prop} :
    ∀ {l : List Oper} {s i : Nat} {o : Oper}, StepsC P ops aux ds a0 G M R Q s l → l[i]? = some o → StepC P ops aux ds a0 G M R Q (s + i) o
  | [], _, _, _, _, h => by simp at h
  | x :: r, s, 0, o, hs, h => by
    obtain rfl : x = o := by simpa using h
    exact hs.1
  | x :: r, s, i + 1, o, hs, h => by
    have := StepsC.get (s := s + 1) (i := i) hs.2 (by simpa using h)
    rwa [show s + 1 + i = s + (i + 1) by omega] at this
end Go.Proofs.Ytakmlfgkppekoaa

/-
  What DrawRecText gives, in one sentence: a record of small numbers, with new blocks alone; for every code that lies in memory.
  What tbOk returns, in one sentence: true; no condition is made.
-/
import Derived.Test.YtlkmhmiamdbhcaaDoorDLRec01
import Derived.Test.YtlkmhmiamdbhcaaDoorDLRec04
namespace Go.Proofs.YtlkmhmiamdbhcaaDoor
set_option maxRecDepth 100000
open Go.RowKit
def recV (e : Evt) (s : Int) : Value := .agg #[.int .i64 e.t, .int .i64 e.to, .int .i64 e.fr, .int .i64 e.sq, .int .i64 e.kd, .int .i64 e.dt, .int .i64 s]
theorem Blq.mv {w w' : World} {g b e : Nat} {arr : Array Value} (h : Blq w b e arr) (m : Mv g w w') (hb : b ≠ g) : Blq w' b e arr := (m.block b h.lt hb).trans h
theorem laid7 {w : World} {b e : Nat} {arr : Array Value} (h : Blq w b e arr) (hs : arr.size = 7) (v0 v1 v2 v3 v4 v5 v6 : Value) :
    (((((((w.setCell ⟨b, 0, none⟩ v0).setCell ⟨b, 1, none⟩ v1).setCell ⟨b, 2, none⟩ v2).setCell ⟨b, 3, none⟩ v3).setCell ⟨b, 4, none⟩ v4).setCell ⟨b, 5, none⟩ v5).setCell ⟨b, 6, none⟩ v6).cell? ⟨b, 0, none⟩ = some v0 ∧ (((((((w.setCell ⟨b, 0, none⟩ v0).setCell ⟨b, 1, none⟩ v1).setCell ⟨b, 2, none⟩ v2).setCell ⟨b, 3, none⟩ v3).setCell ⟨b, 4, none⟩ v4).setCell ⟨b, 5, none⟩ v5).setCell ⟨b, 6, none⟩ v6).cell? ⟨b, 1, none⟩ = some v1 ∧ (((((((w.setCell ⟨b, 0, none⟩ v0).setCell ⟨b, 1, none⟩ v1).setCell ⟨b, 2, none⟩ v2).setCell ⟨b, 3, none⟩ v3).setCell ⟨b, 4, none⟩ v4).setCell ⟨b, 5, none⟩ v5).setCell ⟨b, 6, none⟩ v6).cell? ⟨b, 2, none⟩ = some v2 ∧ (((((((w.setCell ⟨b, 0, none⟩ v0).setCell ⟨b, 1, none⟩ v1).setCell ⟨b, 2, none⟩ v2).setCell ⟨b, 3, none⟩ v3).setCell ⟨b, 4, none⟩ v4).setCell ⟨b, 5, none⟩ v5).setCell ⟨b, 6, none⟩ v6).cell? ⟨b, 3, none⟩ = some v3 ∧ (((((((w.setCell ⟨b, 0, none⟩ v0).setCell ⟨b, 1, none⟩ v1).setCell ⟨b, 2, none⟩ v2).setCell ⟨b, 3, none⟩ v3).setCell ⟨b, 4, none⟩ v4).setCell ⟨b, 5, none⟩ v5).setCell ⟨b, 6, none⟩ v6).cell? ⟨b, 4, none⟩ = some v4 ∧ (((((((w.setCell ⟨b, 0, none⟩ v0).setCell ⟨b, 1, none⟩ v1).setCell ⟨b, 2, none⟩ v2).setCell ⟨b, 3, none⟩ v3).setCell ⟨b, 4, none⟩ v4).setCell ⟨b, 5, none⟩ v5).setCell ⟨b, 6, none⟩ v6).cell? ⟨b, 5, none⟩ = some v5 ∧ (((((((w.setCell ⟨b, 0, none⟩ v0).setCell ⟨b, 1, none⟩ v1).setCell ⟨b, 2, none⟩ v2).setCell ⟨b, 3, none⟩ v3).setCell ⟨b, 4, none⟩ v4).setCell ⟨b, 5, none⟩ v5).setCell ⟨b, 6, none⟩ v6).cell? ⟨b, 6, none⟩ = some v6 := by
  have ne : ∀ k j, k ≠ j → (⟨b, k, none⟩ : Addr) ≠ ⟨b, j, none⟩ := fun k j hk => addr_ne (by omega)
  have sm : ∀ j, j < 7 → ∃ u, w.cell? ⟨b, j, none⟩ = some u := fun j hj => ⟨_, h.cell (j := j) (Array.getElem?_eq_getElem (by omega))⟩
  obtain ⟨u0, h0⟩ := sm 0 (by omega); obtain ⟨u1, h1⟩ := sm 1 (by omega); obtain ⟨u2, h2⟩ := sm 2 (by omega); obtain ⟨u3, h3⟩ := sm 3 (by omega); obtain ⟨u4, h4⟩ := sm 4 (by omega); obtain ⟨u5, h5⟩ := sm 5 (by omega); obtain ⟨u6, h6⟩ := sm 6 (by omega); refine ⟨?_, ?_, ?_, ?_, ?_, ?_, ?_⟩
  · rw [World.cell?_setCell_other _ _ _ _ (ne _ _ (by omega)), World.cell?_setCell_other _ _ _ _ (ne _ _ (by omega)), World.cell?_setCell_other _ _ _ _ (ne _ _ (by omega)), World.cell?_setCell_other _ _ _ _ (ne _ _ (by omega)), World.cell?_setCell_other _ _ _ _ (ne _ _ (by omega)), World.cell?_setCell_other _ _ _ _ (ne _ _ (by omega)), World.cell?_setCell_same _ _ _ (show _ = some u0 from ?_)]
    exact h0
  · rw [World.cell?_setCell_other _ _ _ _ (ne _ _ (by omega)), World.cell?_setCell_other _ _ _ _ (ne _ _ (by omega)), World.cell?_setCell_other _ _ _ _ (ne _ _ (by omega)), World.cell?_setCell_other _ _ _ _ (ne _ _ (by omega)), World.cell?_setCell_other _ _ _ _ (ne _ _ (by omega)), World.cell?_setCell_same _ _ _ (show _ = some u1 from ?_)]
    rw [World.cell?_setCell_other _ _ _ _ (ne _ _ (by omega)), h1]
  · rw [World.cell?_setCell_other _ _ _ _ (ne _ _ (by omega)), World.cell?_setCell_other _ _ _ _ (ne _ _ (by omega)), World.cell?_setCell_other _ _ _ _ (ne _ _ (by omega)), World.cell?_setCell_other _ _ _ _ (ne _ _ (by omega)), World.cell?_setCell_same _ _ _ (show _ = some u2 from ?_)]
    rw [World.cell?_setCell_other _ _ _ _ (ne _ _ (by omega)), World.cell?_setCell_other _ _ _ _ (ne _ _ (by omega)), h2]
  · rw [World.cell?_setCell_other _ _ _ _ (ne _ _ (by omega)), World.cell?_setCell_other _ _ _ _ (ne _ _ (by omega)), World.cell?_setCell_other _ _ _ _ (ne _ _ (by omega)), World.cell?_setCell_same _ _ _ (show _ = some u3 from ?_)]
    rw [World.cell?_setCell_other _ _ _ _ (ne _ _ (by omega)), World.cell?_setCell_other _ _ _ _ (ne _ _ (by omega)), World.cell?_setCell_other _ _ _ _ (ne _ _ (by omega)), h3]
  · rw [World.cell?_setCell_other _ _ _ _ (ne _ _ (by omega)), World.cell?_setCell_other _ _ _ _ (ne _ _ (by omega)), World.cell?_setCell_same _ _ _ (show _ = some u4 from ?_)]
    rw [World.cell?_setCell_other _ _ _ _ (ne _ _ (by omega)), World.cell?_setCell_other _ _ _ _ (ne _ _ (by omega)), World.cell?_setCell_other _ _ _ _ (ne _ _ (by omega)), World.cell?_setCell_other _ _ _ _ (ne _ _ (by omega)), h4]
  · rw [World.cell?_setCell_other _ _ _ _ (ne _ _ (by omega)), World.cell?_setCell_same _ _ _ (show _ = some u5 from ?_)]
    rw [World.cell?_setCell_other _ _ _ _ (ne _ _ (by omega)), World.cell?_setCell_other _ _ _ _ (ne _ _ (by omega)), World.cell?_setCell_other _ _ _ _ (ne _ _ (by omega)), World.cell?_setCell_other _ _ _ _ (ne _ _ (by omega)), World.cell?_setCell_other _ _ _ _ (ne _ _ (by omega)), h5]
  · rw [World.cell?_setCell_same _ _ _ (show _ = some u6 from ?_)]
    rw [World.cell?_setCell_other _ _ _ _ (ne _ _ (by omega)), World.cell?_setCell_other _ _ _ _ (ne _ _ (by omega)), World.cell?_setCell_other _ _ _ _ (ne _ _ (by omega)), World.cell?_setCell_other _ _ _ _ (ne _ _ (by omega)), World.cell?_setCell_other _ _ _ _ (ne _ _ (by omega)), World.cell?_setCell_other _ _ _ _ (ne _ _ (by omega)), h6]
/-- What DrawRecText gives. -/
def DrawnRec (w : World) (x : Ending) (w' : World) : Prop := ∃ (e : Evt) (s : Int), x = .returned (recV e s) ∧ e.ok ∧ (-1000000 ≤ s ∧ s ≤ 1000000) ∧ Up w w'
set_option maxHeartbeats 2000000 in
theorem drawRec_any (A : Option Addr) (n cap : Nat) (w : World) (hc : n ≤ cap) (hmax : cap ≤ 9223372036854775807) (hB : Bys w A n w.heap.size) :
    Calls Tryd.prog 20 #[.slice A n cap] w (DrawnRec w) := by
  have HB := Lib.hid hB
  clear hB
  have U0 := Lib.hid ((Up.refl w).alloc (.cells #[.int .i64 0, .int .i64 0, .int .i64 0, .int .i64 0, .int .i64 0, .int .i64 0, .int .i64 0] 39))
  have X0 := Lib.hid (Blq.new w #[.int .i64 0, .int .i64 0, .int .i64 0, .int .i64 0, .int .i64 0, .int .i64 0, .int .i64 0] 39)
  have HB0 : Bys (w.alloc (.cells #[.int .i64 0, .int .i64 0, .int .i64 0, .int .i64 0, .int .i64 0, .int .i64 0, .int .i64 0] 39)) A n (w.alloc (.cells #[.int .i64 0, .int .i64 0, .int .i64 0, .int .i64 0, .int .i64 0, .int .i64 0, .int .i64 0] 39)).heap.size := fun h0 => by
    obtain ⟨b, off, hA, hb, hcc⟩ := HB.out.keep (fun b o hb => U0.out.cells b o hb) h0
    exact ⟨b, off, hA, by simp; omega, hcc⟩
  have CO := Lib.hid (open_any A n cap _ hc hmax HB0)
  clear HB0
  go_enter Tryd.func20, Tryd.ntmps20
  go_wp2_with fail
  refine CO.out.mono ?_; rintro x w1 ⟨g, rfl, hg, r1, u1⟩
  have hg' : w.heap.size + 1 ≤ g := by simpa using hg
  have gl : g < w1.heap.size := r1.lt'
  have R1 := Lib.hid r1
  have U1 := Lib.hid (U0.out.trans u1)
  have X1 := Lib.hid (X0.out.up u1)
  clear hg r1 u1 U0 X0 CO HB
  go_wp2_with fail
  refine (evt_any g 0 4 5 _ (by omega) (by omega) ⟨by omega, by omega⟩ (by omega) R1.out).mono ?_; rintro x w2 ⟨⟨z0, z1, z2, z3, z4, z5⟩, rfl, ⟨ho, -⟩, r2, m2⟩; unfold Evt.v; dsimp only
  have OK := Lib.hid ho
  have R2 := Lib.hid r2
  have U2 := Lib.hid (m2.up U1.out (by omega))
  have X2 := Lib.hid (X1.out.mv m2 (by omega))
  clear ho r2 m2 R1 U1 X1
  go_wp2_with fail
  refine (pick_any g 20 97 _ ⟨by omega, by omega⟩ (by omega) R2.out).mono ?_; intro x w3 pk; obtain ⟨p, rfl, p0, p1, p2, r3, m3⟩ := pk.cases (by omega)
  have R3 := Lib.hid r3
  have g3 : g < w3.heap.size := r3.lt'
  have U3 := Lib.hid (m3.up U2.out (by omega))
  have X3 := Lib.hid (X2.out.mv m3 (by omega))
  clear pk r3 m3 R2 U2 X2
  go_wp2_with fail
  refine (pick_any g 21 6 _ ⟨by omega, by omega⟩ (by omega) ((R3.out.alloc _).alloc _)).mono ?_; intro x w4 pk; obtain ⟨q, rfl, q0, q1, q2, r4, m4⟩ := pk.cases (by omega)
  have U4 := Lib.hid (m4.up ((U3.out.alloc _).alloc _) (by omega))
  have X4 := Lib.hid (((X3.out.up ((Up.refl _).alloc _)).up ((Up.refl _).alloc _)).mv m4 (by omega))
  have A4 := Lib.hid (((Blq.new w3 #[.int .i64 p, .int .i64 (-1), .int .i64 97] 3).up ((Up.refl _).alloc (.cells #[.int .i64 0, .int .i64 0, .int .i64 0, .int .i64 0, .int .i64 1, .int .i64 2] 3))).mv m4 (by omega))
  have B4 := Lib.hid ((Blq.new (w3.alloc (.cells #[.int .i64 p, .int .i64 (-1), .int .i64 97] 3)) #[.int .i64 0, .int .i64 0, .int .i64 0, .int .i64 0, .int .i64 1, .int .i64 2] 3).mv m4 (by simp; omega))
  obtain ⟨t, s, t0, t1, hb, ha, s0, s1⟩ : ∃ t s : Int, 0 ≤ t ∧ t < 3 ∧ w4.cell? ⟨(w3.alloc (.cells #[.int .i64 p, .int .i64 (-1), .int .i64 97] 3)).heap.size, q.toNat, none⟩ = some (.int .i64 t) ∧ w4.cell? ⟨w3.heap.size, t.toNat, none⟩ = some (.int .i64 s) ∧ -1000000 ≤ s ∧ s ≤ 1000000 := by
    have hq : q = 0 ∨ q = 1 ∨ q = 2 ∨ q = 3 ∨ q = 4 ∨ q = 5 := by omega
    rcases hq with rfl | rfl | rfl | rfl | rfl | rfl
    · exact ⟨0, p, by omega, by omega, B4.out.cell (j := 0) rfl, A4.out.cell (j := 0) rfl, by omega, by omega⟩
    · exact ⟨0, p, by omega, by omega, B4.out.cell (j := 1) rfl, A4.out.cell (j := 0) rfl, by omega, by omega⟩
    · exact ⟨0, p, by omega, by omega, B4.out.cell (j := 2) rfl, A4.out.cell (j := 0) rfl, by omega, by omega⟩
    · exact ⟨0, p, by omega, by omega, B4.out.cell (j := 3) rfl, A4.out.cell (j := 0) rfl, by omega, by omega⟩
    · exact ⟨1, -1, by omega, by omega, B4.out.cell (j := 4) rfl, A4.out.cell (j := 1) rfl, by omega, by omega⟩
    · exact ⟨2, 97, by omega, by omega, B4.out.cell (j := 5) rfl, A4.out.cell (j := 2) rfl, by omega, by omega⟩
  have q3 : q < 6 := by omega
  simp only [World.size_alloc] at hb; clear pk r4 m4 q1 q2 A4 B4 U3 X3 R3; obtain ⟨k0, k1, k2, k3, k4, k5, k6⟩ := laid7 X4.out rfl (.int .i64 z0) (.int .i64 z1) (.int .i64 z2) (.int .i64 z3) (.int .i64 z4) (.int .i64 z5) (.int .i64 s)
  have UE := Lib.hid (show Up w (((((((w4.setCell ⟨w.heap.size, 0, none⟩ (.int .i64 z0)).setCell ⟨w.heap.size, 1, none⟩ (.int .i64 z1)).setCell ⟨w.heap.size, 2, none⟩ (.int .i64 z2)).setCell ⟨w.heap.size, 3, none⟩ (.int .i64 z3)).setCell ⟨w.heap.size, 4, none⟩ (.int .i64 z4)).setCell ⟨w.heap.size, 5, none⟩ (.int .i64 z5)).setCell ⟨w.heap.size, 6, none⟩ (.int .i64 s)) from ((((((U4.out.setCell (p := ⟨w.heap.size, 0, none⟩) (Nat.le_refl _) _).setCell (p := ⟨w.heap.size, 1, none⟩) (Nat.le_refl _) _).setCell (p := ⟨w.heap.size, 2, none⟩) (Nat.le_refl _) _).setCell (p := ⟨w.heap.size, 3, none⟩) (Nat.le_refl _) _).setCell (p := ⟨w.heap.size, 4, none⟩) (Nat.le_refl _) _).setCell (p := ⟨w.heap.size, 5, none⟩) (Nat.le_refl _) _).setCell (p := ⟨w.heap.size, 6, none⟩) (Nat.le_refl _) _)
  have bl := X4.out
  unfold Blq at bl
  have x0 := X4.out.cell (j := 0) rfl
  have x1 := X4.out.cell (j := 1) rfl
  have x2 := X4.out.cell (j := 2) rfl
  have x3 := X4.out.cell (j := 3) rfl
  have x4 := X4.out.cell (j := 4) rfl
  have x5 := X4.out.cell (j := 5) rfl
  have x6 := X4.out.cell (j := 6) rfl
  have ff : ∀ j, w4.frozen? ⟨w.heap.size, j, none⟩ = false := fun j => by unfold World.frozen?; rw [bl]; simp
  clear bl X4 U4; go_wp2
  exact bodyPost_ret (v := .agg #[.int .i64 z0, .int .i64 z1, .int .i64 z2, .int .i64 z3, .int .i64 z4, .int .i64 z5, .int .i64 s]) (by simp [results, Tryd.results20, go_sem, k0, k1, k2, k3, k4, k5, k6]) rfl ⟨⟨z0, z1, z2, z3, z4, z5⟩, s, rfl, OK.out, ⟨s0, s1⟩, UE.out⟩
end Go.Proofs.YtlkmhmiamdbhcaaDoor

namespace Go.Proofs.YtlkmhmiamdbhcaaDoor
set_option maxRecDepth 100000
open Go.RowKit
theorem tbOk_any (w : World) : Calls Tryd.prog 19 #[] w fun x w' => x = .returned (.bool true) ∧ Up w w' := by
  have c := fun W => implOk_any ⟨0, 0, -1, 0, 0, 0⟩ 1 W
  have e1 : okB ⟨0, 0, -1, 0, 0, 0⟩ 1 = true := by decide
  rw [e1] at c; clear e1; unfold Evt.v at c; dsimp only at c
  have H := Lib.hid c
  clear c
  go_enter Tryd.func19, Tryd.ntmps19
  go_wp2_with (go_at_call 31; refine (H.out _).mono ?_; rintro e w' ⟨rfl, hb⟩)
  go_ret
  exact ⟨rfl, hb⟩
end Go.Proofs.YtlkmhmiamdbhcaaDoor

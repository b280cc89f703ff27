/-
  What DrawHstNew gives, in one sentence: a model and a number, with new blocks alone; for every code that lies in memory.
-/
import Derived.Test.YtkfjemgelmbcfaaKDrawM
import Derived.Test.YtkfjemgelmbcfaaKMixH
namespace Go.Proofs.Ytkfjemgelmbcfaa
set_option maxRecDepth 100000
open Go.RowKit

/-- What DrawHstNew gives. -/
def DrawnHn (w : World) (x : Ending) (w' : World) : Prop :=
  ∃ (A : Option Addr) (n c : Nat) (B : Option Addr) (k d : Nat) (m : Mdl) (z : Int), x = .returned (.tuple #[.agg #[.slice A n c, .slice B k d, .int .i64 m.til], .int .i64 z]) ∧ MdlV w' A n B k m ∧ (n ≤ 32 ∧ n ≤ c ∧ c ≤ 9223372036854775807) ∧ (-1 ≤ z ∧ z ≤ (n : Int)) ∧ Up w w'

set_option maxHeartbeats 8000000 in
theorem drawHsn_any (A : Option Addr) (n cap : Nat) (w : World) (hc : n ≤ cap) (hmax : cap ≤ 9223372036854775807) (hB : Bys w A n w.heap.size) :
    Calls Try.prog 52 #[.slice A n cap] w (DrawnHn w) := by
  have HB := Lib.hid hB
  clear hB
  go_enter Try.func52, Try.ntmps52
  go_wp2_with fail
  have U0 := Lib.hid ((Up.refl w).alloc (.cells #[.slice none 0 0, .slice none 0 0, .int .i64 0] 26))
  have R2 := Lib.hid (Blk.new w #[.slice none 0 0, .slice none 0 0, .int .i64 0] 26)
  generalize hW0 : w.alloc (.cells #[.slice none 0 0, .slice none 0 0, .int .i64 0] 26) = W0 at *
  have hs0 : W0.heap.size = w.heap.size + 1 := by rw [← hW0]; simp
  have HB0 : Bys W0 A n W0.heap.size := fun h0 => by
    obtain ⟨b, off, hA, hb, hcc⟩ := HB.out.keep (fun b o hb => U0.out.cells b o hb) h0
    exact ⟨b, off, hA, by omega, hcc⟩
  clear hW0
  refine (open_any A n cap _ hc hmax HB0).mono ?_
  rintro x wO ⟨g, rfl, hg, r1, u1⟩
  have hgO := r1.lt
  have R1 := Lib.hid r1
  have U1 := Lib.hid (U0.out.trans u1)
  have R2 := Lib.hid (R2.out.up u1)
  have hOs : W0.heap.size ≤ wO.heap.size := u1.size
  clear u1 r1 HB0 U0 HB
  go_wp2_with fail
  refine (model_any g 0 9 _ ⟨by omega, by omega⟩ (by omega) R1.out).mono ?_
  rintro x w2 ⟨A, n, c, B, k, d, m, rfl, MV, ⟨hn, hnc, hcm⟩, _, _, _, r2, m2⟩
  have M2 := Lib.hid MV
  have MM2 := Lib.hid m2
  have hg2 := r2.lt
  have R2 := Lib.hid ((R2.out.mv m2 (by omega)).alloc (.cells #[.slice A n c, .slice B k d, .int .i64 m.til] 26))
  have M6 := Lib.hid (Blk.new w2 #[.slice A n c, .slice B k d, .int .i64 m.til] 26)
  have RR := Lib.hid (r2.alloc (.cells #[.slice A n c, .slice B k d, .int .i64 m.til] 26))
  have MG := Lib.hid ((Mv.refl g w2).alloc (.cells #[.slice A n c, .slice B k d, .int .i64 m.til] 26))
  have n6 : w2.heap.size ≠ g := by omega
  have hs2 : wO.heap.size ≤ w2.heap.size := m2.size
  have i5 : IntKind.i64.wrap ((n : Int) + 2) = (n : Int) + 2 := IntWalk.i64_in _ (by omega)
  clear MV m2 r2 R1
  go_wp2_with fail
  refine region_mixH (fun w1 => Blk w1 w2.heap.size 26 #[.slice A n c, .slice B k d, .int .i64 m.til]) [(0, true), (1, true), (2, true), (3, true), (4, true), (5, true), (6, false), (7, true), (8, false), (9, true)] (by kernel_rfl) (by kernel_rfl) M6.out ?_
  refine mixH_take rfl (by rfl) ?_
  apply Exists.intro
  refine ⟨fun w1 hS1 => ?_, ?_⟩
  · obtain ⟨m0, m1, m2⟩ := And.intro (hS1.cell (j := 0) rfl) (And.intro (hS1.cell (j := 1) rfl) (hS1.cell (j := 2) rfl))
    have lt6 := hS1.lt
    clear hS1
    go_simp
    try rfl
  go_simp
  refine mixH_take rfl (by rfl) ?_
  apply Exists.intro
  refine ⟨fun w1 hS1 => ?_, ?_⟩
  · clear hS1
    go_simp
    try rfl
  go_simp
  refine mixH_take rfl (by rfl) ?_
  apply Exists.intro
  refine ⟨fun w1 hS1 => ?_, ?_⟩
  · clear hS1
    go_simp
    try rfl
  go_simp
  refine mixH_take rfl (by rfl) ?_
  apply Exists.intro
  refine ⟨fun w1 hS1 => ?_, ?_⟩
  · obtain ⟨m0, m1, m2⟩ := And.intro (hS1.cell (j := 0) rfl) (And.intro (hS1.cell (j := 1) rfl) (hS1.cell (j := 2) rfl))
    have lt6 := hS1.lt
    clear hS1
    go_simp
    try rfl
  go_simp
  refine mixH_take rfl (by rfl) ?_
  apply Exists.intro
  refine ⟨fun w1 hS1 => ?_, ?_⟩
  · clear hS1
    go_simp
    try rfl
  go_simp
  refine mixH_take rfl (by rfl) ?_
  apply Exists.intro
  refine ⟨fun w1 hS1 => ?_, ?_⟩
  · clear hS1
    go_simp
    try rfl
  go_simp
  refine mixH_go rfl (by rfl) (fun K hK => ?_)
  go_simp
  refine (pick_any g 2010 ((n : Int) + 2) (w2.alloc (.cells #[.slice A n c, .slice B k d, .int .i64 m.til] 26)).drew ⟨by omega, by omega⟩ (by omega) (show Rd (w2.alloc (.cells #[.slice A n c, .slice B k d, .int .i64 m.til] 26)).drew g 2010 from RR.out.mono (by omega))).mono ?_
  rintro x w3 ⟨z, rfl, z0, z1, _, m3⟩
  have m3 : Mv g (w2.alloc (.cells #[.slice A n c, .slice B k d, .int .i64 m.til] 26)) w3 := (Mv.refl _ _).drew.trans m3
  refine hK _ _ (M6.out.mv m3 n6) ?_
  clear hK K
  have q2 := R2.out.mv m3 (by omega)
  obtain ⟨p20, p21, p22⟩ := And.intro (q2.cell (j := 0) rfl) (And.intro (q2.cell (j := 1) rfl) (q2.cell (j := 2) rfl))
  have f2 := q2.frozen
  have Q2 := Lib.hid (((q2.set 0 (.slice A n c)).set 1 (.slice B k d)).set 2 (.int .i64 m.til))
  have SM := Lib.hid ((Sml.of_mv MG.out (show g < wO.heap.size by omega)).trans (Sml.of_mv m3 (show g < wO.heap.size by omega)))
  have UM := Lib.hid (((MM2.out.trans MG.out).trans m3).up U1.out (by omega))
  have M7 := Lib.hid (M6.out.mv m3 n6)
  have zz0 : -1 ≤ z - 1 := by omega
  have zz1 : z - 1 ≤ (n : Int) := by omega
  have i7 : IntKind.i64.wrap (z - 1) = z - 1 := IntWalk.i64_in _ (by omega)
  clear q2 m3
  go_simp
  refine mixH_take rfl (by rfl) ?_
  apply Exists.intro
  refine ⟨fun w1 hS1 => ?_, ?_⟩
  · clear hS1
    go_simp
    try rfl
  go_simp
  refine mixH_go rfl (by rfl) (fun K hK => ?_)
  go_simp
  refine hK _ _ (((M7.out.far (b' := w.heap.size) 0 (.slice A n c) (by omega)).far (b' := w.heap.size) 1 (.slice B k d) (by omega)).far (b' := w.heap.size) 2 (.int .i64 m.til) (by omega)) ?_
  clear hK K
  have SM := Lib.hid (((SM.out.set (b := w.heap.size) (o := 0) (u := .slice A n c) (by omega)).set (b := w.heap.size) (o := 1) (u := .slice B k d) (by omega)).set (b := w.heap.size) (o := 2) (u := .int .i64 m.til) (by omega))
  have UM := Lib.hid (((UM.out.setCell (p := ⟨w.heap.size, 0, none⟩) (Nat.le_refl _) (.slice A n c)).setCell (p := ⟨w.heap.size, 1, none⟩) (Nat.le_refl _) (.slice B k d)).setCell (p := ⟨w.heap.size, 2, none⟩) (Nat.le_refl _) (.int .i64 m.til))
  clear p20 p21 p22 f2
  generalize ((w3.setCell ⟨w.heap.size, 0, none⟩ (.slice A n c)).setCell ⟨w.heap.size, 1, none⟩ (.slice B k d)).setCell ⟨w.heap.size, 2, none⟩ (.int .i64 m.til) = wA at *
  go_simp
  refine mixH_take rfl (by rfl) ?_
  apply Exists.intro
  refine ⟨fun w1 hS1 => ?_, ?_⟩
  · clear hS1
    go_simp
    try rfl
  go_simp
  refine mixH_nil ?_
  obtain ⟨k0, k1, k2⟩ := And.intro (Q2.out.cell (j := 0) rfl) (And.intro (Q2.out.cell (j := 1) rfl) (Q2.out.cell (j := 2) rfl))
  go_wp2
  exact bodyPost_ret (v := .tuple #[.agg #[.slice A n c, .slice B k d, .int .i64 m.til], .int .i64 (z - 1)]) (by simp [results, Try.results52, go_sem, k0, k1, k2]) rfl
    ⟨A, n, c, B, k, d, m, z - 1, rfl, M2.out _ SM.out, ⟨hn, hnc, hcm⟩, ⟨zz0, zz1⟩, UM.out⟩

end Go.Proofs.Ytkfjemgelmbcfaa

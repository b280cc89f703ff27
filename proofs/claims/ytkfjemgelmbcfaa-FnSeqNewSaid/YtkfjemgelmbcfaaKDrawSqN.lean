/-
  What DrawSeqNew returns, in one sentence: some model in memory, over new blocks; for every code.
-/
import Derived.Test.YtkfjemgelmbcfaaKDrawMdD
namespace Go.Proofs.Ytkfjemgelmbcfaa
set_option maxRecDepth 100000
open Go.RowKit

set_option maxHeartbeats 8000000 in
theorem drawSqN_any (A : Option Addr) (n cap : Nat) (w : World) (hc : n ≤ cap) (hmax : cap ≤ 9223372036854775807) (hB : Bys w A n w.heap.size) :
    Calls Try.prog 50 #[.slice A n cap] w (DrawnMd w) := by
  have HB := Lib.hid hB
  clear hB
  go_enter Try.func50, Try.ntmps50
  go_wp2_with fail
  have U0 := Lib.hid ((Up.refl w).alloc (.cells #[.slice none 0 0, .slice none 0 0, .int .i64 0] 26))
  have R2 := Lib.hid (Blk.new w #[.slice none 0 0, .slice none 0 0, .int .i64 0] 26)
  generalize hW0 : w.alloc (.cells #[.slice none 0 0, .slice none 0 0, .int .i64 0] 26) = W0 at *
  have hs0 : W0.heap.size = w.heap.size + 1 := by rw [← hW0]; simp
  have HB0 : Bys W0 A n W0.heap.size := fun h0 => by
    obtain ⟨b, off, hA, hb, hcc⟩ := HB.out.keep (fun b o hb => U0.out.cells b o hb) h0
    exact ⟨b, off, hA, by omega, hcc⟩
  clear hW0
  refine (open_any A n cap _ hc hmax HB0).mono ?_
  rintro x wO ⟨g, rfl, hg, r1, u1⟩
  have hgO := r1.lt
  have R1 := Lib.hid r1
  have U1 := Lib.hid (U0.out.trans u1)
  have R2 := Lib.hid (R2.out.up u1)
  have hOs : W0.heap.size ≤ wO.heap.size := u1.size
  clear u1 r1 HB0 U0 HB
  go_wp2_with fail
  refine (model_any g 0 6 _ ⟨by omega, by omega⟩ (by omega) R1.out).mono ?_
  rintro x w2 ⟨A, n, c, B, k, d, m, rfl, MV, ⟨hn, hnc, hcm⟩, _, _, _, r2, m2⟩
  have M2 := Lib.hid MV
  have R2 := Lib.hid (R2.out.mv m2 (by omega))
  have hs2 : wO.heap.size ≤ w2.heap.size := m2.size
  have UM := Lib.hid (show Up w w2 from m2.up U1.out (by omega))
  have SM := Lib.hid (Sml.of_up (lo := wO.heap.size) (Up.refl w2))
  clear MV m2 r2 R1
  obtain ⟨p20, p21, p22⟩ := And.intro (R2.out.cell (j := 0) rfl) (And.intro (R2.out.cell (j := 1) rfl) (R2.out.cell (j := 2) rfl))
  have f2 := R2.out.frozen
  go_wp2_with fail
  have Q2 := Lib.hid (((R2.out.set 0 (.slice A n c)).set 1 (.slice B k d)).set 2 (.int .i64 m.til))
  have SM := Lib.hid (((SM.out.set (b := w.heap.size) (o := 0) (u := .slice A n c) (by omega)).set (b := w.heap.size) (o := 1) (u := .slice B k d) (by omega)).set (b := w.heap.size) (o := 2) (u := .int .i64 m.til) (by omega))
  have UM := Lib.hid (((UM.out.setCell (p := ⟨w.heap.size, 0, none⟩) (Nat.le_refl _) (.slice A n c)).setCell (p := ⟨w.heap.size, 1, none⟩) (Nat.le_refl _) (.slice B k d)).setCell (p := ⟨w.heap.size, 2, none⟩) (Nat.le_refl _) (.int .i64 m.til))
  have k0 := Q2.out.cell (j := 0) rfl
  have k1 := Q2.out.cell (j := 1) rfl
  have k2 := Q2.out.cell (j := 2) rfl
  clear p20 p21 p22 f2
  exact bodyPost_ret (v := .agg #[.slice A n c, .slice B k d, .int .i64 m.til]) (by simp [results, Try.results50, go_sem, k0, k1, k2]) rfl
    ⟨A, n, c, B, k, d, m, rfl, M2.out _ SM.out, ⟨hn, hnc, hcm⟩, UM.out⟩

end Go.Proofs.Ytkfjemgelmbcfaa

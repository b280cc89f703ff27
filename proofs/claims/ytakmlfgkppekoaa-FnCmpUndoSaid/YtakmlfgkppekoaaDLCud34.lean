/-
  What FnCmpUndo returns, in one sentence: true, with new blocks alone; for every two codes.
-/
import Derived.Test.YtakmlfgkppekoaaDLCud22
import Derived.Test.YtakmlfgkppekoaaDLCud23
import Derived.Test.YtakmlfgkppekoaaDLCud27
import Derived.Test.YtakmlfgkppekoaaDLCud28
import Derived.Test.YtakmlfgkppekoaaDLCud29
import Derived.Test.YtakmlfgkppekoaaDLCud30
import Derived.Test.YtakmlfgkppekoaaDLCud33
namespace Go.Proofs.Ytakmlfgkppekoaa
set_option maxRecDepth 100000
open Go.RowKit
theorem eql_cst (a b : Cst) (w : World) : (binOp .eql 41 a.v b.v).run Try.prog w = .ok (.bool (eqD a b)) w := by
  have h := equalIn_cst a b w
  unfold Cst.v at h ⊢; rw [run_eql_struct, h]
  rfl
set_option maxHeartbeats 8000000 in
theorem walkCud {w : World} (A : Option Addr) (n cap : Nat) (hc : n ≤ cap) (hmax : cap ≤ 9223372036854775807) (hB : Bys w A n w.heap.size) (C : Option Addr) (n2 cap2 : Nat) (hc2 : n2 ≤ cap2) (hmax2 : cap2 ≤ 9223372036854775807) (hB2 : Bys w C n2 w.heap.size) :
    Calls Try.prog 9 #[.slice A n cap, .slice C n2 cap2] w fun x w' => x = .returned (.bool true) ∧ Up w w' := by
  have HB := Lib.hid hB
  have HB2 := Lib.hid hB2
  clear hB hB2
  by_cases h : 1048576 < n
  · have h' : (1048576 : Int) < n := by omega
    go_enter Try.func9, Try.ntmps9
    go_wp2; go_ret
    exact ⟨rfl, Up.refl _⟩
  have h' : ¬ (1048576 : Int) < n := by omega
  by_cases h2 : 1048576 < n2
  · have h2' : (1048576 : Int) < n2 := by omega
    go_enter Try.func9, Try.ntmps9
    go_wp2; go_ret
    exact ⟨rfl, Up.refl _⟩
  have h2' : ¬ (1048576 : Int) < n2 := by omega
  go_enter Try.func9, Try.ntmps9
  go_wp2_with fail
  refine (drawCud_any A n cap _ hc hmax HB.out).mono ?_; rintro x w1 ⟨Aa, na, ca, Ba, ka, da, m, ⟨ssa, sqa, sta⟩, ⟨eta, etoa, efra, esqa, ekda, edta⟩, rfl, MV, -, ⟨hct, -⟩, u1⟩
  have U1 := Lib.hid u1
  have UA := Lib.hid (Up.refl w1)
  clear u1 HB h h' hc hmax
  have CI := Lib.hid (fun W (u : Up w1 W) => implCud_any Aa na ca Ba ka da m ⟨ssa, sqa, sta⟩ (by dsimp only at hct ⊢; omega) ⟨eta, etoa, efra, esqa, ekda, edta⟩ W (MV.up u))
  have CS := Lib.hid (fun W (u : Up w1 W) => specUndo_any Aa na ca Ba ka da m ⟨ssa, sqa, sta⟩ (by dsimp only at hct ⊢; omega) ⟨eta, etoa, efra, esqa, ekda, edta⟩ W (MV.up u))
  have CD := Lib.hid (fun y W (u : Up w1 W) => implCmpDo_any Aa na ca Ba ka da m y ⟨eta, etoa, efra, esqa, ekda, edta⟩ W (MV.up u))
  have DU := Lib.hid (fun y h => may_of_undo (m := m) (c := ⟨ssa, sqa, sta⟩) (x := y) (e := ⟨eta, etoa, efra, esqa, ekda, edta⟩) (by dsimp only at hct ⊢; omega) h)
  generalize undoM m ⟨ssa, sqa, sta⟩ ⟨eta, etoa, efra, esqa, ekda, edta⟩ = o at CI CS DU
  unfold ImplDoPost at CD; unfold Cst.v Evt.v at CI CS; unfold Cst.v Evt.v; dsimp only at CI CS hct ⊢
  generalize htl : m.til = tila at *
  clear htl MV
  have GD := Lib.hid guard_cst
  have X5 := Lib.hid (((Blk.new w1 #[.slice Aa na ca, .slice Ba ka da, .int .i64 tila] 33).alloc (.cells #[.int .i64 ssa, .int .i64 sqa, .int .i64 sta] 41)).alloc (.cells #[.int .i64 eta, .int .i64 etoa, .int .i64 efra, .int .i64 esqa, .int .i64 ekda, .int .i64 edta] 45))
  have X6 := Lib.hid ((Blk.new (w1.alloc (.cells #[.slice Aa na ca, .slice Ba ka da, .int .i64 tila] 33)) #[.int .i64 ssa, .int .i64 sqa, .int .i64 sta] 41).alloc (.cells #[.int .i64 eta, .int .i64 etoa, .int .i64 efra, .int .i64 esqa, .int .i64 ekda, .int .i64 edta] 45))
  have X7 := Lib.hid (Blk.new ((w1.alloc (.cells #[.slice Aa na ca, .slice Ba ka da, .int .i64 tila] 33)).alloc (.cells #[.int .i64 ssa, .int .i64 sqa, .int .i64 sta] 41)) #[.int .i64 eta, .int .i64 etoa, .int .i64 efra, .int .i64 esqa, .int .i64 ekda, .int .i64 edta] 45)
  have UN := Lib.hid ((((Up.refl w1).alloc (.cells #[.slice Aa na ca, .slice Ba ka da, .int .i64 tila] 33)).alloc (.cells #[.int .i64 ssa, .int .i64 sqa, .int .i64 sta] 41)).alloc (.cells #[.int .i64 eta, .int .i64 etoa, .int .i64 efra, .int .i64 esqa, .int .i64 ekda, .int .i64 edta] 45))
  simp only [World.size_alloc] at X6 X7
  replace U1 := Lib.hid (U1.out.trans UN.out)
  replace UA := Lib.hid (UA.out.trans UN.out)
  clear UN; obtain ⟨m0, m1, m2⟩ := And.intro (X5.out.cell (j := 0) rfl) (And.intro (X5.out.cell (j := 1) rfl) (X5.out.cell (j := 2) rfl))
  have ml := X5.out.lt
  obtain ⟨s0, s1, s2⟩ := And.intro (X6.out.cell (j := 0) rfl) (And.intro (X6.out.cell (j := 1) rfl) (X6.out.cell (j := 2) rfl))
  have sl := X6.out.lt
  obtain ⟨v0, v1, v2⟩ := And.intro (X7.out.cell (j := 0) rfl) (And.intro (X7.out.cell (j := 1) rfl) (X7.out.cell (j := 2) rfl))
  have vl := X7.out.lt
  obtain ⟨v3, v4, v5⟩ := And.intro (X7.out.cell (j := 3) rfl) (And.intro (X7.out.cell (j := 4) rfl) (X7.out.cell (j := 5) rfl))
  have BY2 := Lib.hid (fun W (u : Up w W) => (show Bys W C n2 W.heap.size from fun h0 => by
    obtain ⟨b, off, hA, hb, hcc⟩ := HB2.out.keep (fun b o hb => u.cells b o (by omega)) h0
    exact ⟨b, off, hA, by have := u.size; omega, hcc⟩))
  clear HB2
  have EQB := Lib.hid (fun (y : Cst) W => eqD_refl y ▸ eql_cst y y W)
  unfold Cst.v at EQB
  have NEB := Lib.hid (fun (y : Cst) W => eqD_refl y ▸ neq_cst y y W)
  unfold Cst.v at NEB
  cases o with
  | some y =>
    obtain ⟨ys, yq, yc⟩ := y
    have DUY := Lib.hid (DU.out _ rfl)
    replace CD := Lib.hid (CD.out ⟨ys, yq, yc⟩)
    generalize doM m ⟨ys, yq, yc⟩ ⟨eta, etoa, efra, esqa, ekda, edta⟩ = dm at CD DUY
    obtain ⟨z1, L1⟩ := dm; obtain rfl : z1 = ⟨ssa, sqa, sta⟩ := DUY.out; clear DUY DU; unfold undoR at CI CS; unfold Cst.v at CI CS CD; unfold Evt.v at CD; dsimp only at CI CS CD
    have NE := Lib.hid (fun W => NEB.out ⟨ys, yq, yc⟩ W)
    have NE2 := Lib.hid (fun W => NEB.out ⟨ssa, sqa, sta⟩ W)
    dsimp only at NE NE2
    go_wp2_with fail
    generalize ((w1.alloc (.cells #[.slice Aa na ca, .slice Ba ka da, .int .i64 tila] 33)).alloc (.cells #[.int .i64 ssa, .int .i64 sqa, .int .i64 sta] 41)).alloc (.cells #[.int .i64 eta, .int .i64 etoa, .int .i64 efra, .int .i64 esqa, .int .i64 ekda, .int .i64 edta] 45) = Wa at *
    generalize w1.heap.size + 1 + 1 = x7 at *
    generalize w1.heap.size + 1 = x6 at *
    generalize w1.heap.size = x5 at *
    refine (CI.out _ UA.out).mono ?_; rintro x w2 ⟨rfl, u⟩
    replace UA := Lib.hid (UA.out.trans (u.alloc (.cells #[.int .i64 ys, .int .i64 yq, .int .i64 yc] 41)))
    replace U1 := Lib.hid (U1.out.trans (u.alloc (.cells #[.int .i64 ys, .int .i64 yq, .int .i64 yc] 41)))
    replace X5 := Lib.hid (X5.out.up (u.alloc (.cells #[.int .i64 ys, .int .i64 yq, .int .i64 yc] 41)))
    replace X6 := Lib.hid (X6.out.up (u.alloc (.cells #[.int .i64 ys, .int .i64 yq, .int .i64 yc] 41)))
    replace X7 := Lib.hid (X7.out.up (u.alloc (.cells #[.int .i64 ys, .int .i64 yq, .int .i64 yc] 41)))
    have X8 := Lib.hid (Blk.new w2 #[.int .i64 ys, .int .i64 yq, .int .i64 yc] 41)
    clear u; clear m0 m1 m2 ml s0 s1 s2 sl v0 v1 v2 v3 v4 v5 vl; obtain ⟨m0, m1, m2⟩ := And.intro (X5.out.cell (j := 0) rfl) (And.intro (X5.out.cell (j := 1) rfl) (X5.out.cell (j := 2) rfl))
    have ml := X5.out.lt
    obtain ⟨s0, s1, s2⟩ := And.intro (X6.out.cell (j := 0) rfl) (And.intro (X6.out.cell (j := 1) rfl) (X6.out.cell (j := 2) rfl))
    have sl := X6.out.lt
    obtain ⟨v0, v1, v2⟩ := And.intro (X7.out.cell (j := 0) rfl) (And.intro (X7.out.cell (j := 1) rfl) (X7.out.cell (j := 2) rfl))
    have vl := X7.out.lt
    obtain ⟨v3, v4, v5⟩ := And.intro (X7.out.cell (j := 3) rfl) (And.intro (X7.out.cell (j := 4) rfl) (X7.out.cell (j := 5) rfl))
    go_wp2_with fail
    refine (CS.out _ UA.out).mono ?_; rintro x w3 ⟨rfl, u⟩
    replace UA := Lib.hid (UA.out.trans (u.alloc (.cells #[.int .i64 ys, .int .i64 yq, .int .i64 yc] 41)))
    replace U1 := Lib.hid (U1.out.trans (u.alloc (.cells #[.int .i64 ys, .int .i64 yq, .int .i64 yc] 41)))
    replace X5 := Lib.hid (X5.out.up (u.alloc (.cells #[.int .i64 ys, .int .i64 yq, .int .i64 yc] 41)))
    replace X6 := Lib.hid (X6.out.up (u.alloc (.cells #[.int .i64 ys, .int .i64 yq, .int .i64 yc] 41)))
    replace X7 := Lib.hid (X7.out.up (u.alloc (.cells #[.int .i64 ys, .int .i64 yq, .int .i64 yc] 41)))
    replace X8 := Lib.hid (X8.out.up (u.alloc (.cells #[.int .i64 ys, .int .i64 yq, .int .i64 yc] 41)))
    have X10 := Lib.hid (Blk.new w3 #[.int .i64 ys, .int .i64 yq, .int .i64 yc] 41)
    clear u; clear m0 m1 m2 ml s0 s1 s2 sl v0 v1 v2 v3 v4 v5 vl; obtain ⟨a0, a1, a2⟩ := And.intro (X8.out.cell (j := 0) rfl) (And.intro (X8.out.cell (j := 1) rfl) (X8.out.cell (j := 2) rfl))
    have al := X8.out.lt
    obtain ⟨b0, b1, b2⟩ := And.intro (X10.out.cell (j := 0) rfl) (And.intro (X10.out.cell (j := 1) rfl) (X10.out.cell (j := 2) rfl))
    have bl := X10.out.lt
    have ne := NE.out
    have gd := GD.out
    have ne2 := NE2.out
    obtain ⟨m0, m1, m2⟩ := And.intro (X5.out.cell (j := 0) rfl) (And.intro (X5.out.cell (j := 1) rfl) (X5.out.cell (j := 2) rfl))
    have ml := X5.out.lt
    obtain ⟨s0, s1, s2⟩ := And.intro (X6.out.cell (j := 0) rfl) (And.intro (X6.out.cell (j := 1) rfl) (X6.out.cell (j := 2) rfl))
    have sl := X6.out.lt
    obtain ⟨v0, v1, v2⟩ := And.intro (X7.out.cell (j := 0) rfl) (And.intro (X7.out.cell (j := 1) rfl) (X7.out.cell (j := 2) rfl))
    have vl := X7.out.lt
    obtain ⟨v3, v4, v5⟩ := And.intro (X7.out.cell (j := 3) rfl) (And.intro (X7.out.cell (j := 4) rfl) (X7.out.cell (j := 5) rfl))
    go_wp2_with fail
    refine (CD.out _ UA.out).mono ?_; rintro x w4 ⟨vL, rfl, _, u⟩
    have X12 := Lib.hid (Blk.new w4 #[.int .i64 ssa, .int .i64 sqa, .int .i64 sta] 41)
    replace U1 := Lib.hid (U1.out.trans (u.alloc (.cells #[.int .i64 ssa, .int .i64 sqa, .int .i64 sta] 41)))
    replace X6 := Lib.hid (X6.out.up (u.alloc (.cells #[.int .i64 ssa, .int .i64 sqa, .int .i64 sta] 41)))
    clear u a0 a1 a2 al b0 b1 b2 bl m0 m1 m2 ml s0 s1 s2 sl v0 v1 v2 v3 v4 v5 vl UA CD CI CS; obtain ⟨s0, s1, s2⟩ := And.intro (X6.out.cell (j := 0) rfl) (And.intro (X6.out.cell (j := 1) rfl) (X6.out.cell (j := 2) rfl))
    have sl := X6.out.lt
    obtain ⟨t0, t1, t2⟩ := And.intro (X12.out.cell (j := 0) rfl) (And.intro (X12.out.cell (j := 1) rfl) (X12.out.cell (j := 2) rfl))
    have tl := X12.out.lt
    go_wp2_with fail
    refine (drawCD_any C n2 cap2 _ hc2 hmax2 (BY2.out _ U1.out)).mono ?_; rintro x wa ⟨Ab, nb, cb, Bb, kb, db, m2, ⟨ssb, sqb, stb⟩, ⟨etb, etob, efrb, esqb, ekdb, edtb⟩, rfl, MV, -, ⟨hctb, -⟩, u⟩
    replace U1 := Lib.hid (U1.out.trans u)
    have UB := Lib.hid (Up.refl wa)
    clear u BY2
    have NL := Lib.hid MV.rules.1
    have CD := Lib.hid (fun W (u : Up wa W) => implCmpDo_any Ab nb cb Bb kb db m2 ⟨ssb, sqb, stb⟩ ⟨etb, etob, efrb, esqb, ekdb, edtb⟩ W (MV.up u))
    have CM := Lib.hid (fun W (u : Up wa W) => specMdl_any Ab nb cb Bb kb db m2 W (MV.up u))
    have CC := Lib.hid (fun W => specCst_any ⟨ssb, sqb, stb⟩ W)
    have CE := Lib.hid (fun W => specOk_any ⟨etb, etob, efrb, esqb, ekdb, edtb⟩ nb W)
    have CR := Lib.hid (fun W (u : Up wa W) => specRok_any Ab nb cb Bb kb db m2 etob W (MV.up u))
    have CU := Lib.hid (fun y hy W (u : Up wa W) => implCud_any Ab nb cb Bb kb db m2 y hy ⟨etb, etob, efrb, esqb, ekdb, edtb⟩ W (MV.up u))
    have UM := Lib.hid (fun (h : mayB m2 ⟨ssb, sqb, stb⟩ ⟨etb, etob, efrb, esqb, ekdb, edtb⟩ = true) hr hq => undo_of_may (m := m2) (c := ⟨ssb, sqb, stb⟩) (e := ⟨etb, etob, efrb, esqb, ekdb, edtb⟩) (by dsimp only at hctb ⊢; omega) h hr hq)
    have MB := Lib.hid (show mayB m2 ⟨ssb, sqb, stb⟩ ⟨etb, etob, efrb, esqb, ekdb, edtb⟩ = (mdlB m2 && cstB ⟨ssb, sqb, stb⟩ && okB ⟨etb, etob, efrb, esqb, ekdb, edtb⟩ nb && decide (etb ≤ m2.til)) by unfold mayB; rw [MV.rules.1])
    have CB2 := Lib.hid (show (doM m2 ⟨ssb, sqb, stb⟩ ⟨etb, etob, efrb, esqb, ekdb, edtb⟩).1.ct ≤ 9223372036854775807 from by
      unfold doM
      split
      · rename_i hmay
        have hf := may_facts m2 ⟨ssb, sqb, stb⟩ ⟨etb, etob, efrb, esqb, ekdb, edtb⟩ (by dsimp only at hctb ⊢; omega) hmay
        have h1 := hf.ct
        rw [doM, if_pos hmay] at h1; rw [h1]; dsimp only at hctb ⊢
        omega
      · dsimp only
        omega)
    unfold ImplDoPost at CD
    generalize mayB m2 ⟨ssb, sqb, stb⟩ ⟨etb, etob, efrb, esqb, ekdb, edtb⟩ = may at UM MB
    generalize doM m2 ⟨ssb, sqb, stb⟩ ⟨etb, etob, efrb, esqb, ekdb, edtb⟩ = dm at CD UM CB2
    obtain ⟨⟨r0, r1, r2⟩, L1⟩ := dm
    generalize mdlB m2 = gm at *
    generalize cstB ⟨ssb, sqb, stb⟩ = gc at *
    generalize okB ⟨etb, etob, efrb, esqb, ekdb, edtb⟩ nb = ge at *
    generalize revOkV m2 etob = gr at *
    unfold Cst.v at CD CC; unfold Evt.v at CD CE; unfold Cst.v Evt.v; dsimp only at CD CC CE UM CB2 hctb ⊢
    have CU2 := Lib.hid (CU.out ⟨r0, r1, r2⟩ CB2.out)
    clear CU
    have UMR := Lib.hid (UM.out)
    clear UM MV
    generalize htl2 : m2.til = tilb at *
    clear htl2
    have Y5 := Lib.hid (((Blk.new wa #[.slice Ab nb cb, .slice Bb kb db, .int .i64 tilb] 33).alloc (.cells #[.int .i64 ssb, .int .i64 sqb, .int .i64 stb] 41)).alloc (.cells #[.int .i64 etb, .int .i64 etob, .int .i64 efrb, .int .i64 esqb, .int .i64 ekdb, .int .i64 edtb] 45))
    have Y6 := Lib.hid ((Blk.new (wa.alloc (.cells #[.slice Ab nb cb, .slice Bb kb db, .int .i64 tilb] 33)) #[.int .i64 ssb, .int .i64 sqb, .int .i64 stb] 41).alloc (.cells #[.int .i64 etb, .int .i64 etob, .int .i64 efrb, .int .i64 esqb, .int .i64 ekdb, .int .i64 edtb] 45))
    have Y7 := Lib.hid (Blk.new ((wa.alloc (.cells #[.slice Ab nb cb, .slice Bb kb db, .int .i64 tilb] 33)).alloc (.cells #[.int .i64 ssb, .int .i64 sqb, .int .i64 stb] 41)) #[.int .i64 etb, .int .i64 etob, .int .i64 efrb, .int .i64 esqb, .int .i64 ekdb, .int .i64 edtb] 45)
    have UN := Lib.hid ((((Up.refl wa).alloc (.cells #[.slice Ab nb cb, .slice Bb kb db, .int .i64 tilb] 33)).alloc (.cells #[.int .i64 ssb, .int .i64 sqb, .int .i64 stb] 41)).alloc (.cells #[.int .i64 etb, .int .i64 etob, .int .i64 efrb, .int .i64 esqb, .int .i64 ekdb, .int .i64 edtb] 45))
    simp only [World.size_alloc] at Y6 Y7
    replace U1 := Lib.hid (U1.out.trans UN.out)
    replace UB := Lib.hid (UB.out.trans UN.out)
    clear UN
    go_wp2_with fail
    generalize ((wa.alloc (.cells #[.slice Ab nb cb, .slice Bb kb db, .int .i64 tilb] 33)).alloc (.cells #[.int .i64 ssb, .int .i64 sqb, .int .i64 stb] 41)).alloc (.cells #[.int .i64 etb, .int .i64 etob, .int .i64 efrb, .int .i64 esqb, .int .i64 ekdb, .int .i64 edtb] 45) = Wb at *
    generalize wa.heap.size + 1 + 1 = y7 at *
    generalize wa.heap.size + 1 = y6 at *
    generalize wa.heap.size = y5 at *
    refine (CD.out _ UB.out).mono ?_; rintro x wc ⟨vL, rfl, _, u⟩
    have Y17 := Lib.hid (Blk.new wc #[.int .i64 r0, .int .i64 r1, .int .i64 r2] 41)
    replace U1 := Lib.hid (U1.out.trans (u.alloc (.cells #[.int .i64 r0, .int .i64 r1, .int .i64 r2] 41)))
    replace UB := Lib.hid (UB.out.trans (u.alloc (.cells #[.int .i64 r0, .int .i64 r1, .int .i64 r2] 41)))
    replace Y5 := Lib.hid (Y5.out.up (u.alloc (.cells #[.int .i64 r0, .int .i64 r1, .int .i64 r2] 41)))
    replace Y6 := Lib.hid (Y6.out.up (u.alloc (.cells #[.int .i64 r0, .int .i64 r1, .int .i64 r2] 41)))
    replace Y7 := Lib.hid (Y7.out.up (u.alloc (.cells #[.int .i64 r0, .int .i64 r1, .int .i64 r2] 41)))
    clear u CD; obtain ⟨m0, m1, m2⟩ := And.intro (Y5.out.cell (j := 0) rfl) (And.intro (Y5.out.cell (j := 1) rfl) (Y5.out.cell (j := 2) rfl))
    have ml := Y5.out.lt
    obtain ⟨s0, s1, s2⟩ := And.intro (Y6.out.cell (j := 0) rfl) (And.intro (Y6.out.cell (j := 1) rfl) (Y6.out.cell (j := 2) rfl))
    have sl := Y6.out.lt
    obtain ⟨v0, v1, v2⟩ := And.intro (Y7.out.cell (j := 0) rfl) (And.intro (Y7.out.cell (j := 1) rfl) (Y7.out.cell (j := 2) rfl))
    have vl := Y7.out.lt
    obtain ⟨v3, v4, v5⟩ := And.intro (Y7.out.cell (j := 3) rfl) (And.intro (Y7.out.cell (j := 4) rfl) (Y7.out.cell (j := 5) rfl)); obtain ⟨t0, t1, t2⟩ := And.intro (Y17.out.cell (j := 0) rfl) (And.intro (Y17.out.cell (j := 1) rfl) (Y17.out.cell (j := 2) rfl))
    have tl := Y17.out.lt
    go_wp2_with fail
    generalize wc.alloc (.cells #[.int .i64 r0, .int .i64 r1, .int .i64 r2] 41) = Wc at *
    generalize wc.heap.size = y17 at *
    refine (CM.out _ UB.out).mono ?_; rintro x wd ⟨rfl, u⟩
    replace U1 := Lib.hid (U1.out.trans u)
    replace UB := Lib.hid (UB.out.trans u)
    replace Y5 := Lib.hid (Y5.out.up u)
    replace Y6 := Lib.hid (Y6.out.up u)
    replace Y7 := Lib.hid (Y7.out.up u)
    replace Y17 := Lib.hid (Y17.out.up u)
    clear u m0 m1 m2 ml s0 s1 s2 sl v0 v1 v2 v3 v4 v5 vl t0 t1 t2 tl; obtain ⟨m0, m1, m2⟩ := And.intro (Y5.out.cell (j := 0) rfl) (And.intro (Y5.out.cell (j := 1) rfl) (Y5.out.cell (j := 2) rfl))
    have ml := Y5.out.lt
    obtain ⟨s0, s1, s2⟩ := And.intro (Y6.out.cell (j := 0) rfl) (And.intro (Y6.out.cell (j := 1) rfl) (Y6.out.cell (j := 2) rfl))
    have sl := Y6.out.lt
    obtain ⟨v0, v1, v2⟩ := And.intro (Y7.out.cell (j := 0) rfl) (And.intro (Y7.out.cell (j := 1) rfl) (Y7.out.cell (j := 2) rfl))
    have vl := Y7.out.lt
    obtain ⟨v3, v4, v5⟩ := And.intro (Y7.out.cell (j := 3) rfl) (And.intro (Y7.out.cell (j := 4) rfl) (Y7.out.cell (j := 5) rfl)); obtain ⟨t0, t1, t2⟩ := And.intro (Y17.out.cell (j := 0) rfl) (And.intro (Y17.out.cell (j := 1) rfl) (Y17.out.cell (j := 2) rfl))
    have tl := Y17.out.lt
    cases gm
    · go_wp2
      go_ret
      exact ⟨rfl, U1.out⟩
    · go_wp2_with fail
      refine (CC.out _).mono ?_; rintro x we ⟨rfl, u⟩
      replace U1 := Lib.hid (U1.out.trans u)
      replace UB := Lib.hid (UB.out.trans u)
      replace Y5 := Lib.hid (Y5.out.up u)
      replace Y6 := Lib.hid (Y6.out.up u)
      replace Y7 := Lib.hid (Y7.out.up u)
      replace Y17 := Lib.hid (Y17.out.up u)
      clear u m0 m1 m2 ml s0 s1 s2 sl v0 v1 v2 v3 v4 v5 vl t0 t1 t2 tl; obtain ⟨m0, m1, m2⟩ := And.intro (Y5.out.cell (j := 0) rfl) (And.intro (Y5.out.cell (j := 1) rfl) (Y5.out.cell (j := 2) rfl))
      have ml := Y5.out.lt
      obtain ⟨s0, s1, s2⟩ := And.intro (Y6.out.cell (j := 0) rfl) (And.intro (Y6.out.cell (j := 1) rfl) (Y6.out.cell (j := 2) rfl))
      have sl := Y6.out.lt
      obtain ⟨v0, v1, v2⟩ := And.intro (Y7.out.cell (j := 0) rfl) (And.intro (Y7.out.cell (j := 1) rfl) (Y7.out.cell (j := 2) rfl))
      have vl := Y7.out.lt
      obtain ⟨v3, v4, v5⟩ := And.intro (Y7.out.cell (j := 3) rfl) (And.intro (Y7.out.cell (j := 4) rfl) (Y7.out.cell (j := 5) rfl)); obtain ⟨t0, t1, t2⟩ := And.intro (Y17.out.cell (j := 0) rfl) (And.intro (Y17.out.cell (j := 1) rfl) (Y17.out.cell (j := 2) rfl))
      have tl := Y17.out.lt
      cases gc
      · go_wp2
        go_ret
        exact ⟨rfl, U1.out⟩
      · go_wp2_with fail
        refine (CE.out _).mono ?_; rintro x wf ⟨rfl, u⟩
        replace U1 := Lib.hid (U1.out.trans u)
        replace UB := Lib.hid (UB.out.trans u)
        replace Y5 := Lib.hid (Y5.out.up u)
        replace Y6 := Lib.hid (Y6.out.up u)
        replace Y7 := Lib.hid (Y7.out.up u)
        replace Y17 := Lib.hid (Y17.out.up u)
        clear u m0 m1 m2 ml s0 s1 s2 sl v0 v1 v2 v3 v4 v5 vl t0 t1 t2 tl; obtain ⟨m0, m1, m2⟩ := And.intro (Y5.out.cell (j := 0) rfl) (And.intro (Y5.out.cell (j := 1) rfl) (Y5.out.cell (j := 2) rfl))
        have ml := Y5.out.lt
        obtain ⟨s0, s1, s2⟩ := And.intro (Y6.out.cell (j := 0) rfl) (And.intro (Y6.out.cell (j := 1) rfl) (Y6.out.cell (j := 2) rfl))
        have sl := Y6.out.lt
        obtain ⟨v0, v1, v2⟩ := And.intro (Y7.out.cell (j := 0) rfl) (And.intro (Y7.out.cell (j := 1) rfl) (Y7.out.cell (j := 2) rfl))
        have vl := Y7.out.lt
        obtain ⟨v3, v4, v5⟩ := And.intro (Y7.out.cell (j := 3) rfl) (And.intro (Y7.out.cell (j := 4) rfl) (Y7.out.cell (j := 5) rfl)); obtain ⟨t0, t1, t2⟩ := And.intro (Y17.out.cell (j := 0) rfl) (And.intro (Y17.out.cell (j := 1) rfl) (Y17.out.cell (j := 2) rfl))
        have tl := Y17.out.lt
        cases ge
        · go_wp2
          go_ret
          exact ⟨rfl, U1.out⟩
        · by_cases ht : etb ≤ tilb
          · have ht' : ¬ tilb < etb := by omega
            have MY := Lib.hid (show may = true by rw [MB.out]; simp [ht])
            go_wp2_with fail
            refine (CR.out _ UB.out).mono ?_; rintro x wg ⟨rfl, u⟩
            replace U1 := Lib.hid (U1.out.trans u)
            replace UB := Lib.hid (UB.out.trans u)
            replace Y5 := Lib.hid (Y5.out.up u)
            replace Y6 := Lib.hid (Y6.out.up u)
            replace Y7 := Lib.hid (Y7.out.up u)
            replace Y17 := Lib.hid (Y17.out.up u)
            clear u m0 m1 m2 ml s0 s1 s2 sl v0 v1 v2 v3 v4 v5 vl t0 t1 t2 tl; obtain ⟨m0, m1, m2⟩ := And.intro (Y5.out.cell (j := 0) rfl) (And.intro (Y5.out.cell (j := 1) rfl) (Y5.out.cell (j := 2) rfl))
            have ml := Y5.out.lt
            obtain ⟨s0, s1, s2⟩ := And.intro (Y6.out.cell (j := 0) rfl) (And.intro (Y6.out.cell (j := 1) rfl) (Y6.out.cell (j := 2) rfl))
            have sl := Y6.out.lt
            obtain ⟨v0, v1, v2⟩ := And.intro (Y7.out.cell (j := 0) rfl) (And.intro (Y7.out.cell (j := 1) rfl) (Y7.out.cell (j := 2) rfl))
            have vl := Y7.out.lt
            obtain ⟨v3, v4, v5⟩ := And.intro (Y7.out.cell (j := 3) rfl) (And.intro (Y7.out.cell (j := 4) rfl) (Y7.out.cell (j := 5) rfl)); obtain ⟨t0, t1, t2⟩ := And.intro (Y17.out.cell (j := 0) rfl) (And.intro (Y17.out.cell (j := 1) rfl) (Y17.out.cell (j := 2) rfl))
            have tl := Y17.out.lt
            cases gr
            · go_wp2
              go_ret
              exact ⟨rfl, U1.out⟩
            · by_cases h12 : r1 = 12
              · have h12' : (r1 == 12) = true := by simp [h12]
                go_wp2; go_ret
                exact ⟨rfl, U1.out⟩
              · have h12' : (r1 == 12) = false := by simp [h12]
                have HU := Lib.hid (UMR.out MY.out (by first | rfl | trivial) h12)
                rw [HU.out] at CU2
                have eqb := EQB.out
                have gd := GD.out
                unfold undoR Cst.v Evt.v at CU2; dsimp only at CU2
                go_wp2_with fail
                refine (CU2.out _ UB.out).mono ?_; rintro x wh ⟨rfl, u⟩
                have Y19 := Lib.hid (Blk.new wh #[.int .i64 ssb, .int .i64 sqb, .int .i64 stb] 41)
                replace U1 := Lib.hid (U1.out.trans (u.alloc (.cells #[.int .i64 ssb, .int .i64 sqb, .int .i64 stb] 41)))
                replace Y6 := Lib.hid (Y6.out.up (u.alloc (.cells #[.int .i64 ssb, .int .i64 sqb, .int .i64 stb] 41)))
                clear u m0 m1 m2 ml s0 s1 s2 sl v0 v1 v2 v3 v4 v5 vl t0 t1 t2 tl; obtain ⟨s0, s1, s2⟩ := And.intro (Y6.out.cell (j := 0) rfl) (And.intro (Y6.out.cell (j := 1) rfl) (Y6.out.cell (j := 2) rfl))
                have sl := Y6.out.lt
                obtain ⟨t0, t1, t2⟩ := And.intro (Y19.out.cell (j := 0) rfl) (And.intro (Y19.out.cell (j := 1) rfl) (Y19.out.cell (j := 2) rfl))
                have tl := Y19.out.lt
                go_wp2; go_ret
                exact ⟨rfl, U1.out⟩
          · have ht' : tilb < etb := by omega
            go_wp2; go_ret
            exact ⟨rfl, U1.out⟩
  | none =>
    unfold undoR at CI CS; dsimp only at CI CS
    have NE := Lib.hid (fun W => NEB.out ⟨0, 0, 0⟩ W)
    dsimp only at NE; clear DU CD
    go_wp2_with fail
    generalize ((w1.alloc (.cells #[.slice Aa na ca, .slice Ba ka da, .int .i64 tila] 33)).alloc (.cells #[.int .i64 ssa, .int .i64 sqa, .int .i64 sta] 41)).alloc (.cells #[.int .i64 eta, .int .i64 etoa, .int .i64 efra, .int .i64 esqa, .int .i64 ekda, .int .i64 edta] 45) = Wa at *
    generalize w1.heap.size + 1 + 1 = x7 at *
    generalize w1.heap.size + 1 = x6 at *
    generalize w1.heap.size = x5 at *
    refine (CI.out _ UA.out).mono ?_; rintro x w2 ⟨rfl, u⟩
    replace UA := Lib.hid (UA.out.trans (u.alloc (.cells #[.int .i64 0, .int .i64 0, .int .i64 0] 41)))
    replace U1 := Lib.hid (U1.out.trans (u.alloc (.cells #[.int .i64 0, .int .i64 0, .int .i64 0] 41)))
    replace X5 := Lib.hid (X5.out.up (u.alloc (.cells #[.int .i64 0, .int .i64 0, .int .i64 0] 41)))
    replace X6 := Lib.hid (X6.out.up (u.alloc (.cells #[.int .i64 0, .int .i64 0, .int .i64 0] 41)))
    replace X7 := Lib.hid (X7.out.up (u.alloc (.cells #[.int .i64 0, .int .i64 0, .int .i64 0] 41)))
    have X8 := Lib.hid (Blk.new w2 #[.int .i64 0, .int .i64 0, .int .i64 0] 41)
    clear u; clear m0 m1 m2 ml s0 s1 s2 sl v0 v1 v2 v3 v4 v5 vl; obtain ⟨m0, m1, m2⟩ := And.intro (X5.out.cell (j := 0) rfl) (And.intro (X5.out.cell (j := 1) rfl) (X5.out.cell (j := 2) rfl))
    have ml := X5.out.lt
    obtain ⟨s0, s1, s2⟩ := And.intro (X6.out.cell (j := 0) rfl) (And.intro (X6.out.cell (j := 1) rfl) (X6.out.cell (j := 2) rfl))
    have sl := X6.out.lt
    obtain ⟨v0, v1, v2⟩ := And.intro (X7.out.cell (j := 0) rfl) (And.intro (X7.out.cell (j := 1) rfl) (X7.out.cell (j := 2) rfl))
    have vl := X7.out.lt
    obtain ⟨v3, v4, v5⟩ := And.intro (X7.out.cell (j := 3) rfl) (And.intro (X7.out.cell (j := 4) rfl) (X7.out.cell (j := 5) rfl))
    go_wp2_with fail
    refine (CS.out _ UA.out).mono ?_; rintro x w3 ⟨rfl, u⟩
    replace UA := Lib.hid (UA.out.trans (u.alloc (.cells #[.int .i64 0, .int .i64 0, .int .i64 0] 41)))
    replace U1 := Lib.hid (U1.out.trans (u.alloc (.cells #[.int .i64 0, .int .i64 0, .int .i64 0] 41)))
    replace X5 := Lib.hid (X5.out.up (u.alloc (.cells #[.int .i64 0, .int .i64 0, .int .i64 0] 41)))
    replace X6 := Lib.hid (X6.out.up (u.alloc (.cells #[.int .i64 0, .int .i64 0, .int .i64 0] 41)))
    replace X7 := Lib.hid (X7.out.up (u.alloc (.cells #[.int .i64 0, .int .i64 0, .int .i64 0] 41)))
    replace X8 := Lib.hid (X8.out.up (u.alloc (.cells #[.int .i64 0, .int .i64 0, .int .i64 0] 41)))
    have X10 := Lib.hid (Blk.new w3 #[.int .i64 0, .int .i64 0, .int .i64 0] 41)
    clear u; clear m0 m1 m2 ml s0 s1 s2 sl v0 v1 v2 v3 v4 v5 vl; obtain ⟨a0, a1, a2⟩ := And.intro (X8.out.cell (j := 0) rfl) (And.intro (X8.out.cell (j := 1) rfl) (X8.out.cell (j := 2) rfl))
    have al := X8.out.lt
    obtain ⟨b0, b1, b2⟩ := And.intro (X10.out.cell (j := 0) rfl) (And.intro (X10.out.cell (j := 1) rfl) (X10.out.cell (j := 2) rfl))
    have bl := X10.out.lt
    have ne := NE.out
    have gd := GD.out
    go_wp2_with fail
    refine (drawCD_any C n2 cap2 _ hc2 hmax2 (BY2.out _ U1.out)).mono ?_; rintro x wa ⟨Ab, nb, cb, Bb, kb, db, m2, ⟨ssb, sqb, stb⟩, ⟨etb, etob, efrb, esqb, ekdb, edtb⟩, rfl, MV, -, ⟨hctb, -⟩, u⟩
    replace U1 := Lib.hid (U1.out.trans u)
    have UB := Lib.hid (Up.refl wa)
    clear u BY2
    have NL := Lib.hid MV.rules.1
    have CD := Lib.hid (fun W (u : Up wa W) => implCmpDo_any Ab nb cb Bb kb db m2 ⟨ssb, sqb, stb⟩ ⟨etb, etob, efrb, esqb, ekdb, edtb⟩ W (MV.up u))
    have CM := Lib.hid (fun W (u : Up wa W) => specMdl_any Ab nb cb Bb kb db m2 W (MV.up u))
    have CC := Lib.hid (fun W => specCst_any ⟨ssb, sqb, stb⟩ W)
    have CE := Lib.hid (fun W => specOk_any ⟨etb, etob, efrb, esqb, ekdb, edtb⟩ nb W)
    have CR := Lib.hid (fun W (u : Up wa W) => specRok_any Ab nb cb Bb kb db m2 etob W (MV.up u))
    have CU := Lib.hid (fun y hy W (u : Up wa W) => implCud_any Ab nb cb Bb kb db m2 y hy ⟨etb, etob, efrb, esqb, ekdb, edtb⟩ W (MV.up u))
    have UM := Lib.hid (fun (h : mayB m2 ⟨ssb, sqb, stb⟩ ⟨etb, etob, efrb, esqb, ekdb, edtb⟩ = true) hr hq => undo_of_may (m := m2) (c := ⟨ssb, sqb, stb⟩) (e := ⟨etb, etob, efrb, esqb, ekdb, edtb⟩) (by dsimp only at hctb ⊢; omega) h hr hq)
    have MB := Lib.hid (show mayB m2 ⟨ssb, sqb, stb⟩ ⟨etb, etob, efrb, esqb, ekdb, edtb⟩ = (mdlB m2 && cstB ⟨ssb, sqb, stb⟩ && okB ⟨etb, etob, efrb, esqb, ekdb, edtb⟩ nb && decide (etb ≤ m2.til)) by unfold mayB; rw [MV.rules.1])
    have CB2 := Lib.hid (show (doM m2 ⟨ssb, sqb, stb⟩ ⟨etb, etob, efrb, esqb, ekdb, edtb⟩).1.ct ≤ 9223372036854775807 from by
      unfold doM
      split
      · rename_i hmay
        have hf := may_facts m2 ⟨ssb, sqb, stb⟩ ⟨etb, etob, efrb, esqb, ekdb, edtb⟩ (by dsimp only at hctb ⊢; omega) hmay
        have h1 := hf.ct
        rw [doM, if_pos hmay] at h1; rw [h1]; dsimp only at hctb ⊢
        omega
      · dsimp only
        omega)
    unfold ImplDoPost at CD
    generalize mayB m2 ⟨ssb, sqb, stb⟩ ⟨etb, etob, efrb, esqb, ekdb, edtb⟩ = may at UM MB
    generalize doM m2 ⟨ssb, sqb, stb⟩ ⟨etb, etob, efrb, esqb, ekdb, edtb⟩ = dm at CD UM CB2
    obtain ⟨⟨r0, r1, r2⟩, L1⟩ := dm
    generalize mdlB m2 = gm at *
    generalize cstB ⟨ssb, sqb, stb⟩ = gc at *
    generalize okB ⟨etb, etob, efrb, esqb, ekdb, edtb⟩ nb = ge at *
    generalize revOkV m2 etob = gr at *
    unfold Cst.v at CD CC; unfold Evt.v at CD CE; unfold Cst.v Evt.v; dsimp only at CD CC CE UM CB2 hctb ⊢
    have CU2 := Lib.hid (CU.out ⟨r0, r1, r2⟩ CB2.out)
    clear CU
    have UMR := Lib.hid (UM.out)
    clear UM MV
    generalize htl2 : m2.til = tilb at *
    clear htl2
    have Y5 := Lib.hid (((Blk.new wa #[.slice Ab nb cb, .slice Bb kb db, .int .i64 tilb] 33).alloc (.cells #[.int .i64 ssb, .int .i64 sqb, .int .i64 stb] 41)).alloc (.cells #[.int .i64 etb, .int .i64 etob, .int .i64 efrb, .int .i64 esqb, .int .i64 ekdb, .int .i64 edtb] 45))
    have Y6 := Lib.hid ((Blk.new (wa.alloc (.cells #[.slice Ab nb cb, .slice Bb kb db, .int .i64 tilb] 33)) #[.int .i64 ssb, .int .i64 sqb, .int .i64 stb] 41).alloc (.cells #[.int .i64 etb, .int .i64 etob, .int .i64 efrb, .int .i64 esqb, .int .i64 ekdb, .int .i64 edtb] 45))
    have Y7 := Lib.hid (Blk.new ((wa.alloc (.cells #[.slice Ab nb cb, .slice Bb kb db, .int .i64 tilb] 33)).alloc (.cells #[.int .i64 ssb, .int .i64 sqb, .int .i64 stb] 41)) #[.int .i64 etb, .int .i64 etob, .int .i64 efrb, .int .i64 esqb, .int .i64 ekdb, .int .i64 edtb] 45)
    have UN := Lib.hid ((((Up.refl wa).alloc (.cells #[.slice Ab nb cb, .slice Bb kb db, .int .i64 tilb] 33)).alloc (.cells #[.int .i64 ssb, .int .i64 sqb, .int .i64 stb] 41)).alloc (.cells #[.int .i64 etb, .int .i64 etob, .int .i64 efrb, .int .i64 esqb, .int .i64 ekdb, .int .i64 edtb] 45))
    simp only [World.size_alloc] at Y6 Y7
    replace U1 := Lib.hid (U1.out.trans UN.out)
    replace UB := Lib.hid (UB.out.trans UN.out)
    clear UN
    go_wp2_with fail
    generalize ((wa.alloc (.cells #[.slice Ab nb cb, .slice Bb kb db, .int .i64 tilb] 33)).alloc (.cells #[.int .i64 ssb, .int .i64 sqb, .int .i64 stb] 41)).alloc (.cells #[.int .i64 etb, .int .i64 etob, .int .i64 efrb, .int .i64 esqb, .int .i64 ekdb, .int .i64 edtb] 45) = Wb at *
    generalize wa.heap.size + 1 + 1 = y7 at *
    generalize wa.heap.size + 1 = y6 at *
    generalize wa.heap.size = y5 at *
    refine (CD.out _ UB.out).mono ?_; rintro x wc ⟨vL, rfl, _, u⟩
    have Y17 := Lib.hid (Blk.new wc #[.int .i64 r0, .int .i64 r1, .int .i64 r2] 41)
    replace U1 := Lib.hid (U1.out.trans (u.alloc (.cells #[.int .i64 r0, .int .i64 r1, .int .i64 r2] 41)))
    replace UB := Lib.hid (UB.out.trans (u.alloc (.cells #[.int .i64 r0, .int .i64 r1, .int .i64 r2] 41)))
    replace Y5 := Lib.hid (Y5.out.up (u.alloc (.cells #[.int .i64 r0, .int .i64 r1, .int .i64 r2] 41)))
    replace Y6 := Lib.hid (Y6.out.up (u.alloc (.cells #[.int .i64 r0, .int .i64 r1, .int .i64 r2] 41)))
    replace Y7 := Lib.hid (Y7.out.up (u.alloc (.cells #[.int .i64 r0, .int .i64 r1, .int .i64 r2] 41)))
    clear u CD; obtain ⟨m0, m1, m2⟩ := And.intro (Y5.out.cell (j := 0) rfl) (And.intro (Y5.out.cell (j := 1) rfl) (Y5.out.cell (j := 2) rfl))
    have ml := Y5.out.lt
    obtain ⟨s0, s1, s2⟩ := And.intro (Y6.out.cell (j := 0) rfl) (And.intro (Y6.out.cell (j := 1) rfl) (Y6.out.cell (j := 2) rfl))
    have sl := Y6.out.lt
    obtain ⟨v0, v1, v2⟩ := And.intro (Y7.out.cell (j := 0) rfl) (And.intro (Y7.out.cell (j := 1) rfl) (Y7.out.cell (j := 2) rfl))
    have vl := Y7.out.lt
    obtain ⟨v3, v4, v5⟩ := And.intro (Y7.out.cell (j := 3) rfl) (And.intro (Y7.out.cell (j := 4) rfl) (Y7.out.cell (j := 5) rfl)); obtain ⟨t0, t1, t2⟩ := And.intro (Y17.out.cell (j := 0) rfl) (And.intro (Y17.out.cell (j := 1) rfl) (Y17.out.cell (j := 2) rfl))
    have tl := Y17.out.lt
    go_wp2_with fail
    generalize wc.alloc (.cells #[.int .i64 r0, .int .i64 r1, .int .i64 r2] 41) = Wc at *
    generalize wc.heap.size = y17 at *
    refine (CM.out _ UB.out).mono ?_; rintro x wd ⟨rfl, u⟩
    replace U1 := Lib.hid (U1.out.trans u)
    replace UB := Lib.hid (UB.out.trans u)
    replace Y5 := Lib.hid (Y5.out.up u)
    replace Y6 := Lib.hid (Y6.out.up u)
    replace Y7 := Lib.hid (Y7.out.up u)
    replace Y17 := Lib.hid (Y17.out.up u)
    clear u m0 m1 m2 ml s0 s1 s2 sl v0 v1 v2 v3 v4 v5 vl t0 t1 t2 tl; obtain ⟨m0, m1, m2⟩ := And.intro (Y5.out.cell (j := 0) rfl) (And.intro (Y5.out.cell (j := 1) rfl) (Y5.out.cell (j := 2) rfl))
    have ml := Y5.out.lt
    obtain ⟨s0, s1, s2⟩ := And.intro (Y6.out.cell (j := 0) rfl) (And.intro (Y6.out.cell (j := 1) rfl) (Y6.out.cell (j := 2) rfl))
    have sl := Y6.out.lt
    obtain ⟨v0, v1, v2⟩ := And.intro (Y7.out.cell (j := 0) rfl) (And.intro (Y7.out.cell (j := 1) rfl) (Y7.out.cell (j := 2) rfl))
    have vl := Y7.out.lt
    obtain ⟨v3, v4, v5⟩ := And.intro (Y7.out.cell (j := 3) rfl) (And.intro (Y7.out.cell (j := 4) rfl) (Y7.out.cell (j := 5) rfl)); obtain ⟨t0, t1, t2⟩ := And.intro (Y17.out.cell (j := 0) rfl) (And.intro (Y17.out.cell (j := 1) rfl) (Y17.out.cell (j := 2) rfl))
    have tl := Y17.out.lt
    cases gm
    · go_wp2
      go_ret
      exact ⟨rfl, U1.out⟩
    · go_wp2_with fail
      refine (CC.out _).mono ?_; rintro x we ⟨rfl, u⟩
      replace U1 := Lib.hid (U1.out.trans u)
      replace UB := Lib.hid (UB.out.trans u)
      replace Y5 := Lib.hid (Y5.out.up u)
      replace Y6 := Lib.hid (Y6.out.up u)
      replace Y7 := Lib.hid (Y7.out.up u)
      replace Y17 := Lib.hid (Y17.out.up u)
      clear u m0 m1 m2 ml s0 s1 s2 sl v0 v1 v2 v3 v4 v5 vl t0 t1 t2 tl; obtain ⟨m0, m1, m2⟩ := And.intro (Y5.out.cell (j := 0) rfl) (And.intro (Y5.out.cell (j := 1) rfl) (Y5.out.cell (j := 2) rfl))
      have ml := Y5.out.lt
      obtain ⟨s0, s1, s2⟩ := And.intro (Y6.out.cell (j := 0) rfl) (And.intro (Y6.out.cell (j := 1) rfl) (Y6.out.cell (j := 2) rfl))
      have sl := Y6.out.lt
      obtain ⟨v0, v1, v2⟩ := And.intro (Y7.out.cell (j := 0) rfl) (And.intro (Y7.out.cell (j := 1) rfl) (Y7.out.cell (j := 2) rfl))
      have vl := Y7.out.lt
      obtain ⟨v3, v4, v5⟩ := And.intro (Y7.out.cell (j := 3) rfl) (And.intro (Y7.out.cell (j := 4) rfl) (Y7.out.cell (j := 5) rfl)); obtain ⟨t0, t1, t2⟩ := And.intro (Y17.out.cell (j := 0) rfl) (And.intro (Y17.out.cell (j := 1) rfl) (Y17.out.cell (j := 2) rfl))
      have tl := Y17.out.lt
      cases gc
      · go_wp2
        go_ret
        exact ⟨rfl, U1.out⟩
      · go_wp2_with fail
        refine (CE.out _).mono ?_; rintro x wf ⟨rfl, u⟩
        replace U1 := Lib.hid (U1.out.trans u)
        replace UB := Lib.hid (UB.out.trans u)
        replace Y5 := Lib.hid (Y5.out.up u)
        replace Y6 := Lib.hid (Y6.out.up u)
        replace Y7 := Lib.hid (Y7.out.up u)
        replace Y17 := Lib.hid (Y17.out.up u)
        clear u m0 m1 m2 ml s0 s1 s2 sl v0 v1 v2 v3 v4 v5 vl t0 t1 t2 tl; obtain ⟨m0, m1, m2⟩ := And.intro (Y5.out.cell (j := 0) rfl) (And.intro (Y5.out.cell (j := 1) rfl) (Y5.out.cell (j := 2) rfl))
        have ml := Y5.out.lt
        obtain ⟨s0, s1, s2⟩ := And.intro (Y6.out.cell (j := 0) rfl) (And.intro (Y6.out.cell (j := 1) rfl) (Y6.out.cell (j := 2) rfl))
        have sl := Y6.out.lt
        obtain ⟨v0, v1, v2⟩ := And.intro (Y7.out.cell (j := 0) rfl) (And.intro (Y7.out.cell (j := 1) rfl) (Y7.out.cell (j := 2) rfl))
        have vl := Y7.out.lt
        obtain ⟨v3, v4, v5⟩ := And.intro (Y7.out.cell (j := 3) rfl) (And.intro (Y7.out.cell (j := 4) rfl) (Y7.out.cell (j := 5) rfl)); obtain ⟨t0, t1, t2⟩ := And.intro (Y17.out.cell (j := 0) rfl) (And.intro (Y17.out.cell (j := 1) rfl) (Y17.out.cell (j := 2) rfl))
        have tl := Y17.out.lt
        cases ge
        · go_wp2
          go_ret
          exact ⟨rfl, U1.out⟩
        · by_cases ht : etb ≤ tilb
          · have ht' : ¬ tilb < etb := by omega
            have MY := Lib.hid (show may = true by rw [MB.out]; simp [ht])
            go_wp2_with fail
            refine (CR.out _ UB.out).mono ?_; rintro x wg ⟨rfl, u⟩
            replace U1 := Lib.hid (U1.out.trans u)
            replace UB := Lib.hid (UB.out.trans u)
            replace Y5 := Lib.hid (Y5.out.up u)
            replace Y6 := Lib.hid (Y6.out.up u)
            replace Y7 := Lib.hid (Y7.out.up u)
            replace Y17 := Lib.hid (Y17.out.up u)
            clear u m0 m1 m2 ml s0 s1 s2 sl v0 v1 v2 v3 v4 v5 vl t0 t1 t2 tl; obtain ⟨m0, m1, m2⟩ := And.intro (Y5.out.cell (j := 0) rfl) (And.intro (Y5.out.cell (j := 1) rfl) (Y5.out.cell (j := 2) rfl))
            have ml := Y5.out.lt
            obtain ⟨s0, s1, s2⟩ := And.intro (Y6.out.cell (j := 0) rfl) (And.intro (Y6.out.cell (j := 1) rfl) (Y6.out.cell (j := 2) rfl))
            have sl := Y6.out.lt
            obtain ⟨v0, v1, v2⟩ := And.intro (Y7.out.cell (j := 0) rfl) (And.intro (Y7.out.cell (j := 1) rfl) (Y7.out.cell (j := 2) rfl))
            have vl := Y7.out.lt
            obtain ⟨v3, v4, v5⟩ := And.intro (Y7.out.cell (j := 3) rfl) (And.intro (Y7.out.cell (j := 4) rfl) (Y7.out.cell (j := 5) rfl)); obtain ⟨t0, t1, t2⟩ := And.intro (Y17.out.cell (j := 0) rfl) (And.intro (Y17.out.cell (j := 1) rfl) (Y17.out.cell (j := 2) rfl))
            have tl := Y17.out.lt
            cases gr
            · go_wp2
              go_ret
              exact ⟨rfl, U1.out⟩
            · by_cases h12 : r1 = 12
              · have h12' : (r1 == 12) = true := by simp [h12]
                go_wp2; go_ret
                exact ⟨rfl, U1.out⟩
              · have h12' : (r1 == 12) = false := by simp [h12]
                have HU := Lib.hid (UMR.out MY.out (by first | rfl | trivial) h12)
                rw [HU.out] at CU2
                have eqb := EQB.out
                have gd := GD.out
                unfold undoR Cst.v Evt.v at CU2; dsimp only at CU2
                go_wp2_with fail
                refine (CU2.out _ UB.out).mono ?_; rintro x wh ⟨rfl, u⟩
                have Y19 := Lib.hid (Blk.new wh #[.int .i64 ssb, .int .i64 sqb, .int .i64 stb] 41)
                replace U1 := Lib.hid (U1.out.trans (u.alloc (.cells #[.int .i64 ssb, .int .i64 sqb, .int .i64 stb] 41)))
                replace Y6 := Lib.hid (Y6.out.up (u.alloc (.cells #[.int .i64 ssb, .int .i64 sqb, .int .i64 stb] 41)))
                clear u m0 m1 m2 ml s0 s1 s2 sl v0 v1 v2 v3 v4 v5 vl t0 t1 t2 tl; obtain ⟨s0, s1, s2⟩ := And.intro (Y6.out.cell (j := 0) rfl) (And.intro (Y6.out.cell (j := 1) rfl) (Y6.out.cell (j := 2) rfl))
                have sl := Y6.out.lt
                obtain ⟨t0, t1, t2⟩ := And.intro (Y19.out.cell (j := 0) rfl) (And.intro (Y19.out.cell (j := 1) rfl) (Y19.out.cell (j := 2) rfl))
                have tl := Y19.out.lt
                go_wp2; go_ret
                exact ⟨rfl, U1.out⟩
          · have ht' : tilb < etb := by omega
            go_wp2; go_ret
            exact ⟨rfl, U1.out⟩
end Go.Proofs.Ytakmlfgkppekoaa

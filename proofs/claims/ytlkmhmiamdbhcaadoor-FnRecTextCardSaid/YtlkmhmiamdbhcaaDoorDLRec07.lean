/-
  What DskText and RecText of the program return, in one sentence: the same texts as the reference's; for every kind, number and record.
  What FnRecText returns, in one sentence: true, with new blocks alone; for every two codes where the tables hold what the program's text lays.
  For every two codes the law FnRecText returns true and leaves its arguments and the table of formats as they were; the tables hold what the program's text lays.
-/
import Derived.Deep.RegionHeld3
import Derived.OrdersHeld
import Derived.ProofKit
import Derived.Test.YtlkmhmiamdbhcaaDoorCards
import Derived.Test.YtlkmhmiamdbhcaaDoorDLRec01
import Derived.Test.YtlkmhmiamdbhcaaDoorDLRec02
import Derived.Test.YtlkmhmiamdbhcaaDoorDLRec03
import Derived.Test.YtlkmhmiamdbhcaaDoorDLRec05
import Derived.Test.YtlkmhmiamdbhcaaDoorDLRec06
import Derived.WalkKit
namespace Go.Proofs.YtlkmhmiamdbhcaaDoor
set_option maxRecDepth 100000
open Go.RowKit
theorem cnt6 : Lib.countB (⟨([97, 116, 32, 35, 32, 116, 111, 32, 35, 32, 102, 114, 111, 109, 32, 35, 32, 107, 105, 110, 100, 32, 35, 32, 100, 97, 116, 97, 32, 35, 32, 116, 104, 101, 110, 32, 35] : List UInt8).toArray⟩ : ByteArray) ⟨#[35]⟩ = 6 := by kernel_rfl
theorem spl6 : (Lib.splitB ⟨#[35]⟩ 0 6 (⟨([97, 116, 32, 35, 32, 116, 111, 32, 35, 32, 102, 114, 111, 109, 32, 35, 32, 107, 105, 110, 100, 32, 35, 32, 100, 97, 116, 97, 32, 35, 32, 116, 104, 101, 110, 32, 35] : List UInt8).toArray⟩ : ByteArray)).map Value.string = ([97, 116, 32] :: [[32, 116, 111, 32], [32, 102, 114, 111, 109, 32], [32, 107, 105, 110, 100, 32], [32, 100, 97, 116, 97, 32], [32, 116, 104, 101, 110, 32], []]).map (fun p : List UInt8 => Value.string ⟨p.toArray⟩) := by kernel_rfl
set_option maxHeartbeats 2000000 in
theorem implRec_any (e : Evt) (s : Int) (w : World) (ht : Tabs w) : Calls Tryd.prog 16 #[.agg #[.int .i64 e.t, .int .i64 e.to, .int .i64 e.fr, .int .i64 e.sq, .int .i64 e.kd, .int .i64 e.dt, .int .i64 s]] w fun x w' => x = .returned (.string ⟨(recS e s).toArray⟩) ∧ Up w w' := by
  have CO := fun W => implOk_any e 4 W
  have R0 := Lib.hid (show (okB e 4 && inB s 0 96) = false → (⟨#[]⟩ : ByteArray) = ⟨(recS e s).toArray⟩ from fun h => by unfold recS; rw [h]; rfl)
  have R1 := Lib.hid (show (okB e 4 && inB s 0 96) = true → [97, 116, 32] ++ joinS [[32, 116, 111, 32], [32, 102, 114, 111, 109, 32], [32, 107, 105, 110, 100, 32], [32, 100, 97, 116, 97, 32], [32, 116, 104, 101, 110, 32], []] [e.t, e.to, e.fr, e.kd, e.dt, s] = recS e s from fun h => by unfold recS; rw [if_pos h]; simp [joinS])
  have BD := Lib.hid (show okB e 4 = true → e.t ≤ 999 ∧ e.to ≤ 999 ∧ e.fr ≤ 999 ∧ e.kd ≤ 999 ∧ e.dt ≤ 999 from fun h => by
    unfold okB at h; simp only [Bool.and_eq_true, inB_iff] at h
    omega)
  generalize recS e s = res at R0 R1 ⊢
  generalize okB e 4 = b1 at CO R0 R1 BD
  obtain ⟨a0, a1, a2, a3, a4, a5⟩ := e; unfold Evt.v at CO; dsimp only at CO R1 BD ⊢
  have CO := Lib.hid CO
  have HT := Lib.hid (fun W (u : Up w W) => ht.up u)
  have X := Lib.hid ((Blq.new w #[.int .i64 a0, .int .i64 a1, .int .i64 a2, .int .i64 a3, .int .i64 a4, .int .i64 a5, .int .i64 s] 39).up ((Up.refl _).alloc (.cells #[.int .i64 a0, .int .i64 a1, .int .i64 a2, .int .i64 a3, .int .i64 a4, .int .i64 a5] 37)))
  have Y := Lib.hid (Blq.new (w.alloc (.cells #[.int .i64 a0, .int .i64 a1, .int .i64 a2, .int .i64 a3, .int .i64 a4, .int .i64 a5, .int .i64 s] 39)) #[.int .i64 a0, .int .i64 a1, .int .i64 a2, .int .i64 a3, .int .i64 a4, .int .i64 a5] 37)
  simp only [World.size_alloc] at Y
  have U := Lib.hid (((Up.refl w).alloc (.cells #[.int .i64 a0, .int .i64 a1, .int .i64 a2, .int .i64 a3, .int .i64 a4, .int .i64 a5, .int .i64 s] 39)).alloc (.cells #[.int .i64 a0, .int .i64 a1, .int .i64 a2, .int .i64 a3, .int .i64 a4, .int .i64 a5] 37))
  go_enter Tryd.func16, Tryd.ntmps16
  go_wp2_with fail
  refine (CO.out _).mono ?_; rintro x w1 ⟨rfl, u1⟩
  have U1 := Lib.hid (U.out.trans u1)
  replace X := Lib.hid (X.out.up u1)
  replace Y := Lib.hid (Y.out.up u1)
  clear u1
  cases b1
  · go_wp2
    go_ret
    exact ⟨ret_str (R0.out (by first | trivial | rfl)), U1.out⟩
  · have x6 := X.out.cell (j := 6) rfl
    have lx := X.out.lt
    go_wp2_with fail
    refine (within_any s 0 96 _).mono ?_; rintro x w2 ⟨rfl, hww⟩; subst hww
    cases hs : inB s 0 96
    · have HR := Lib.hid (R0.out (by rw [hs]; rfl))
      clear hs; go_wp2; go_ret
      exact ⟨ret_str HR.out, U1.out⟩
    · have HR := Lib.hid (show (⟨([97, 116, 32] ++ joinS [[32, 116, 111, 32], [32, 102, 114, 111, 109, 32], [32, 107, 105, 110, 100, 32], [32, 100, 97, 116, 97, 32], [32, 116, 104, 101, 110, 32], []] [a0, a1, a2, a4, a5, s]).toArray⟩ : ByteArray) = ⟨res.toArray⟩ by rw [R1.out (by rw [hs]; rfl)])
      have hb := BD.out (by first | trivial | rfl)
      have hs2 : s ≤ 999 := by rw [inB_iff] at hs; omega
      have CL := Lib.hid (fun W (u : Up w W) q cc (hq : q < W.heap.size) (hN : ∀ i, i < 6 → W.cell? ⟨q, i, none⟩ = some (.int .i64 (([a0, a1, a2, a4, a5, s] : List Int).getD i 0))) => line_any (⟨([97, 116, 32, 35, 32, 116, 111, 32, 35, 32, 102, 114, 111, 109, 32, 35, 32, 107, 105, 110, 100, 32, 35, 32, 100, 97, 116, 97, 32, 35, 32, 116, 104, 101, 110, 32, 35] : List UInt8).toArray⟩ : ByteArray) 0 [97, 116, 32] [[32, 116, 111, 32], [32, 102, 114, 111, 109, 32], [32, 107, 105, 110, 100, 32], [32, 100, 97, 116, 97, 32], [32, 116, 104, 101, 110, 32], []] q 6 cc [a0, a1, a2, a4, a5, s] W (by decide) cnt6 spl6 (HT.out W u) rfl (by decide) (by decide) hq hN (by
        intro n hn; simp only [List.mem_cons, List.not_mem_nil, or_false] at hn
        rcases hn with rfl | rfl | rfl | rfl | rfl | rfl <;> omega) (by decide))
      generalize [97, 116, 32] ++ joinS [[32, 116, 111, 32], [32, 102, 114, 111, 109, 32], [32, 107, 105, 110, 100, 32], [32, 100, 97, 116, 97, 32], [32, 116, 104, 101, 110, 32], []] [a0, a1, a2, a4, a5, s] = rs at HR CL
      have f12 := (HT.out _ U1.out).fm 12 _ rfl
      have f13 := (HT.out _ U1.out).fm 13 _ rfl
      have lf := World.block_lt_of_cell? _ _ f12
      clear hs hb hs2 CO BD R0 R1
      have y0 := Y.out.cell (j := 0) rfl
      have y1 := Y.out.cell (j := 1) rfl
      have y2 := Y.out.cell (j := 2) rfl
      have y4 := Y.out.cell (j := 4) rfl
      have y5 := Y.out.cell (j := 5) rfl
      have ly := Y.out.lt
      go_wp2_with fail
      refine (CL.out _ (U1.out.alloc _) _ _ ?_ ?_).mono ?_
      · simp
      · intro i hi
        have hh := heap_alloc_new w1 (.cells #[.int .i64 a0, .int .i64 a1, .int .i64 a2, .int .i64 a4, .int .i64 a5, .int .i64 s] 3)
        rw [cell_of_row _ _ i _ _ _ hh]
        have h6 : i = 0 ∨ i = 1 ∨ i = 2 ∨ i = 3 ∨ i = 4 ∨ i = 5 := by omega
        rcases h6 with rfl | rfl | rfl | rfl | rfl | rfl <;> rfl
      · rintro x w3 ⟨rfl, u3⟩
        have U3 := Lib.hid ((U1.out.alloc _).trans u3)
        clear u3; go_wp2; go_ret
        exact ⟨ret_str HR.out, U3.out⟩
end Go.Proofs.YtlkmhmiamdbhcaaDoor

namespace Go.Proofs.YtlkmhmiamdbhcaaDoor
set_option maxRecDepth 100000
open Go.RowKit
theorem equalIn_rec2 (a b : Rec) (w : World) : (Op.equalIn 10000 39 a.v b.v).run Tryd.prog w = .ok (eqB a.ev b.ev && decide (a.s = b.s)) w := by
  obtain ⟨⟨z0, z1, z2, z3, z4, z5⟩, s⟩ := a; obtain ⟨⟨y0, y1, y2, y3, y4, y5⟩, s'⟩ := b
  have u3 := Tryd.underlying3
  have a3 := Tryd.isAgg3
  have s3 := Tryd.sizeOf3
  have hS : Tryd.prog.underlying 39 = some (.struct (Tryd.prog.fieldsOf 39)) := by kernel_rfl
  have hp : Tryd.prog.stoodInHeld 39 = false := by kernel_rfl
  have hE := equalIn_evt_f ⟨z0, z1, z2, z3, z4, z5⟩ ⟨y0, y1, y2, y3, y4, y5⟩ 9997 w
  unfold Evt.v at hE; rw [eqB_mk] at hE ⊢; unfold Rec.v; dsimp only at hE ⊢; rw [show (10000 : Nat) = 9999 + 1 from rfl, run_equalIn_agg w 9999 39 _ _ hS hp]; simp only [Program.fieldsOf, Tryd.underlying39]; go_simp
  by_cases h0 : z0 = y0 <;> by_cases h1 : z1 = y1 <;> by_cases h2 : z2 = y2 <;> by_cases h3 : z3 = y3 <;> by_cases h4 : z4 = y4 <;> by_cases h5 : z5 = y5 <;> by_cases h6 : s = s' <;> simp [h0, h1, h2, h3, h4, h5, h6]
theorem eql_rec (a b : Rec) (w : World) : (binOp .eql 39 a.v b.v).run Tryd.prog w = .ok (.bool (eqB a.ev b.ev && decide (a.s = b.s))) w := by
  have h := equalIn_rec2 a b w
  unfold Rec.v at h ⊢; rw [run_eql_struct, h]
  rfl
theorem guard_rec2 (op : BinOp) (x y : Operand) (xs ys : Array Value) (w : World) : (eqGuard op 39 x y (.agg xs) (.agg ys)).run Tryd.prog w = .ok () w :=
  run_eqGuard_agg w op 39 x y xs ys (by kernel_rfl)
theorem Bys.grow {w w' : World} {A : Option Addr} {n : Nat} (h : Bys w A n w.heap.size) (u : Up w w') : Bys w' A n w'.heap.size := fun h0 => by
  obtain ⟨b, off, hA, hb, hc⟩ := h.keep (fun b o hb => u.cells b o hb) h0
  exact ⟨b, off, hA, Nat.lt_of_lt_of_le hb u.size, hc⟩
set_option maxHeartbeats 1500000 in
theorem walkRec (A : Option Addr) (n cap : Nat) (hc : n ≤ cap) (hmax : cap ≤ 9223372036854775807) (w : World) (hB : Bys w A n w.heap.size) (A' : Option Addr) (n' cap' : Nat) (hc' : n' ≤ cap') (hmax' : cap' ≤ 9223372036854775807) (hB' : Bys w A' n' w.heap.size) (ht : Tabs w) :
    Calls Tryd.prog 7 #[.slice A n cap, .slice A' n' cap'] w fun x w' => x = .returned (.bool true) ∧ Up w w' := by
  have HB := Lib.hid hB
  have HB' := Lib.hid hB'
  have HT := Lib.hid ht
  clear hB hB' ht
  by_cases h : 1048576 < n
  · have h' : (1048576 : Int) < n := by omega
    go_enter Tryd.func7, Tryd.ntmps7
    go_wp2; go_ret
    exact ⟨rfl, Up.refl _⟩
  have h' : ¬ (1048576 : Int) < n := by omega
  by_cases h2 : 1048576 < n'
  · have h2' : (1048576 : Int) < n' := by omega
    go_enter Tryd.func7, Tryd.ntmps7
    go_wp2; go_ret
    exact ⟨rfl, Up.refl _⟩
  have h2' : ¬ (1048576 : Int) < n' := by omega
  go_enter Tryd.func7, Tryd.ntmps7
  go_wp2_with fail
  refine (drawRec_any A n cap _ hc hmax HB.out).mono ?_; rintro x w1 ⟨⟨a0, a1, a2, a3, a4, a5⟩, a6, rfl, -, -, u1⟩; unfold recV; dsimp only
  have U := Lib.hid (u1.alloc (.cells #[.int .i64 a0, .int .i64 a1, .int .i64 a2, .int .i64 a3, .int .i64 a4, .int .i64 a5, .int .i64 a6] 39))
  have X := Lib.hid (Blq.new w1 #[.int .i64 a0, .int .i64 a1, .int .i64 a2, .int .i64 a3, .int .i64 a4, .int .i64 a5, .int .i64 a6] 39)
  have lx := X.out.lt
  clear u1
  go_wp2_with fail
  refine (drawRec_any A' n' cap' _ hc' hmax' (HB'.out.grow U.out)).mono ?_; rintro x w2 ⟨⟨b0, b1, b2, b3, b4, b5⟩, b6, rfl, -, -, u1⟩; unfold recV; dsimp only
  replace U := Lib.hid ((U.out.trans u1).alloc (.cells #[.int .i64 b0, .int .i64 b1, .int .i64 b2, .int .i64 b3, .int .i64 b4, .int .i64 b5, .int .i64 b6] 39))
  replace X := Lib.hid ((X.out.up u1).up ((Up.refl _).alloc (.cells #[.int .i64 b0, .int .i64 b1, .int .i64 b2, .int .i64 b3, .int .i64 b4, .int .i64 b5, .int .i64 b6] 39)))
  have Y := Lib.hid (Blq.new w2 #[.int .i64 b0, .int .i64 b1, .int .i64 b2, .int .i64 b3, .int .i64 b4, .int .i64 b5, .int .i64 b6] 39)
  have sz := u1.size
  simp only [World.size_alloc] at sz
  have CA := Lib.hid (fun W (u : Up w W) => implRec_any ⟨a0, a1, a2, a3, a4, a5⟩ a6 W (HT.out.up u))
  have CB := Lib.hid (fun W (u : Up w W) => implRec_any ⟨b0, b1, b2, b3, b4, b5⟩ b6 W (HT.out.up u))
  have CS := Lib.hid (fun W => specRec_any ⟨a0, a1, a2, a3, a4, a5⟩ a6 W)
  have NA := Lib.hid (@recS_nil ⟨a0, a1, a2, a3, a4, a5⟩ a6)
  have NB := Lib.hid (@recS_nil ⟨b0, b1, b2, b3, b4, b5⟩ b6)
  have IF := Lib.hid (@recS_iff ⟨a0, a1, a2, a3, a4, a5⟩ ⟨b0, b1, b2, b3, b4, b5⟩ a6 b6)
  have EQ := Lib.hid (fun W => eql_rec ⟨⟨a0, a1, a2, b3, a4, a5⟩, a6⟩ ⟨⟨b0, b1, b2, b3, b4, b5⟩, b6⟩ W)
  have EB := Lib.hid (eqB_mk a0 a1 a2 b3 a4 a5 b0 b1 b2 b3 b4 b5)
  unfold Rec.v at EQ; dsimp only at CA CB CS IF EQ
  generalize (okB ⟨a0, a1, a2, a3, a4, a5⟩ 4 && inB a6 0 96) = ga at NA IF
  generalize (okB ⟨b0, b1, b2, b3, b4, b5⟩ 4 && inB b6 0 96) = gb at NB IF
  generalize recS ⟨a0, a1, a2, a3, a4, a5⟩ a6 = l at CA CS NA IF
  generalize recS ⟨b0, b1, b2, b3, b4, b5⟩ b6 = m at CB NB IF
  generalize eqB ⟨a0, a1, a2, b3, a4, a5⟩ ⟨b0, b1, b2, b3, b4, b5⟩ = eb at EQ EB
  clear u1
  have SELF := Lib.hid True.intro
  have x0 := X.out.cell (j := 0) rfl
  have x1 := X.out.cell (j := 1) rfl
  have x2 := X.out.cell (j := 2) rfl
  have x3 := X.out.cell (j := 3) rfl
  have x4 := X.out.cell (j := 4) rfl
  have x5 := X.out.cell (j := 5) rfl
  have x6 := X.out.cell (j := 6) rfl
  go_wp2_with fail
  refine (CA.out _ U.out).mono ?_; rintro x w3 ⟨rfl, u⟩
  replace U := Lib.hid (U.out.trans u)
  replace X := Lib.hid (X.out.up u)
  replace Y := Lib.hid (Y.out.up u)
  clear u x0 x1 x2 x3 x4 x5 x6
  have x0 := X.out.cell (j := 0) rfl
  have x1 := X.out.cell (j := 1) rfl
  have x2 := X.out.cell (j := 2) rfl
  have x3 := X.out.cell (j := 3) rfl
  have x4 := X.out.cell (j := 4) rfl
  have x5 := X.out.cell (j := 5) rfl
  have x6 := X.out.cell (j := 6) rfl
  go_wp2_with fail
  refine (CS.out _).mono ?_; rintro x w4 ⟨rfl, u⟩
  replace U := Lib.hid (U.out.trans u)
  replace X := Lib.hid (X.out.up u)
  replace Y := Lib.hid (Y.out.up u)
  clear u x0 x1 x2 x3 x4 x5 x6
  have y0 := Y.out.cell (j := 0) rfl
  have y1 := Y.out.cell (j := 1) rfl
  have y2 := Y.out.cell (j := 2) rfl
  have y3 := Y.out.cell (j := 3) rfl
  have y4 := Y.out.cell (j := 4) rfl
  have y5 := Y.out.cell (j := 5) rfl
  have y6 := Y.out.cell (j := 6) rfl
  go_wp2_with fail
  refine (CB.out _ U.out).mono ?_; rintro x w5 ⟨rfl, u⟩
  replace U := Lib.hid (U.out.trans u)
  replace X := Lib.hid (X.out.up u)
  replace Y := Lib.hid (Y.out.up u)
  clear u y0 y1 y2 y3 y4 y5 y6
  have x0 := X.out.cell (j := 0) rfl
  have x1 := X.out.cell (j := 1) rfl
  have x2 := X.out.cell (j := 2) rfl
  have x3 := X.out.cell (j := 3) rfl
  have x4 := X.out.cell (j := 4) rfl
  have x5 := X.out.cell (j := 5) rfl
  have x6 := X.out.cell (j := 6) rfl
  have y0 := Y.out.cell (j := 0) rfl
  have y1 := Y.out.cell (j := 1) rfl
  have y2 := Y.out.cell (j := 2) rfl
  have y3 := Y.out.cell (j := 3) rfl
  have y4 := Y.out.cell (j := 4) rfl
  have y5 := Y.out.cell (j := 5) rfl
  have y6 := Y.out.cell (j := 6) rfl
  have ly := Y.out.lt
  by_cases hl : l = []
  · have hle : l.isEmpty = true := by rw [hl]; rfl
    have U1 := U
    clear IF EQ EB NA NB hl
    go_wp2_with fail
    refine (CS.out _).mono ?_; rintro x w6 ⟨rfl, u⟩
    replace U := Lib.hid (U.out.trans u)
    clear u x0 x1 x2 x3 x4 x5 x6 y0 y1 y2 y3 y4 y5 y6
    go_wp2_with fail
    refine (tbOk_any _).mono ?_; rintro x w7 ⟨rfl, u⟩
    replace U := Lib.hid (U.out.trans u)
    clear u; go_wp2; go_ret
    exact ⟨rfl, U.out⟩
  · have hle : l.isEmpty = false := by cases l with | nil => exact absurd rfl hl | cons c r => rfl
    by_cases hm : m = []
    · have hme : m.isEmpty = true := by rw [hm]; rfl
      clear IF EQ EB NA NB hl hm
      go_wp2_with fail
      refine (CS.out _).mono ?_; rintro x w6 ⟨rfl, u⟩
      replace U := Lib.hid (U.out.trans u)
      clear u x0 x1 x2 x3 x4 x5 x6 y0 y1 y2 y3 y4 y5 y6
      go_wp2_with fail
      refine (tbOk_any _).mono ?_; rintro x w7 ⟨rfl, u⟩
      replace U := Lib.hid (U.out.trans u)
      clear u; go_wp2; go_ret
      exact ⟨rfl, U.out⟩
    · have hme : m.isEmpty = false := by cases m with | nil => exact absurd rfl hm | cons c r => rfl
      have ga1 : ga = true := by
        cases ga
        · exact absurd (NA.out.2 rfl) hl
        · rfl
      have gb1 : gb = true := by
        cases gb
        · exact absurd (NB.out.2 rfl) hm
        · rfl
      have iff := IF.out ga1 gb1
      have EE : (eb && decide (a6 = b6)) = decide (l = m) := by
        rw [EB.out, Bool.eq_iff_iff]; simp only [Bool.and_eq_true, decide_eq_true_eq]; rw [iff]
        constructor
        · rintro ⟨⟨⟨⟨⟨⟨p0, p1⟩, p2⟩, _⟩, p4⟩, p5⟩, p6⟩
          exact ⟨p0, p1, p2, p4, p5, p6⟩
        · rintro ⟨p0, p1, p2, p4, p5, p6⟩
          exact ⟨⟨⟨⟨⟨⟨p0, p1⟩, p2⟩, trivial⟩, p4⟩, p5⟩, p6⟩
      generalize (eb && decide (a6 = b6)) = ee at EQ EE
      subst EE; clear IF EB NA NB hl hm iff
      have eq1 := EQ.out
      have gd := fun op x y xs ys W => guard_rec2 op x y xs ys W
      clear EQ
      by_cases hlm : l = m
      · have hd : decide (l = m) = true := decide_eq_true hlm
        rw [hd] at eq1; go_wp2; go_ret
        exact ⟨by simp, U.out.alloc _⟩
      · have hd : decide (l = m) = false := decide_eq_false hlm
        rw [hd] at eq1; go_wp2; go_ret
        exact ⟨by simp [hlm], U.out.alloc _⟩
end Go.Proofs.YtlkmhmiamdbhcaaDoor

namespace Go.Proofs.YtlkmhmiamdbhcaaDoor.fnRecText
set_option maxRecDepth 100000
open Go.ChangeShapes Go.WideShapes Go.ChangeAt Go.RowKit Go.Joins Go.Deep
set_option linter.unusedVariables false
/-- What the row's list gives. -/
theorem tabs {W : World} (hL : laidMetH Tryd.prog Rows.fnRecTextRow.laid W) (hsh : W.ShapedOpen Tryd.prog) : Tabs W := by
  have h : laidMet Tryd.prog Rows.fnRecTextRow.laid W := hL
  obtain ⟨ps, hv, _⟩ := h; refine ⟨Tryd.laysM146.s1_3 W hsh, pow_of (laid_mem hv _ _ ?_), fmts_of (laid_mem hv _ _ ?_)⟩
  · unfold Rows.fnRecTextRow
    exact (.tail _ (.tail _ (.head _)))
  · unfold Rows.fnRecTextRow
    exact (.tail _ (.tail _ (.tail _ (.tail _ (.head _)))))
set_option maxRecDepth 100000 in
theorem contract (H : Type) (enc : TypeId × Value → H) (W : World) (base : Nat) (args : Array Value) (ds gs : List (DataW H)) (before : List MemPlace)
    (hval0 : ∀ (j : Nat) t v, Tryd.f7.params[j]? = some t → args[j]? = some v → Value.okWide Tryd.prog W .any base t v)
    (hW : DataW.Whole enc Tryd.prog Tryd.f7.params.toList Rows.fnRecTextSpec.vars false W args.toList ds gs before) (hL : laidMetH Tryd.prog Rows.fnRecTextRow.laid W) (hsh : W.ShapedOpen Tryd.prog) :
    Calls Tryd.prog 7 args W fun e W' => ∃ v, e = .returned v ∧ Rows.fnRecTextSpec.post enc Tryd.prog Tryd.f7 false true false false W args v W' := by
  have hval := hval0
  have hW' := hW
  obtain ⟨p, q, hA0, hV, rfl, hfz, hnd⟩ := hW
  have hA : DataW.TrodAll enc Tryd.prog W 0 (fun _ => true) true Tryd.f7.params.toList args.toList ds p := hA0
  rw [Tryd.params7] at hA hval; obtain ⟨v0, vs0, d0, ds0, p0, q0, hargs, rfl, rfl, h0, r0⟩ := trodAll_cons hA; obtain ⟨v1, vs1, d1, ds1, p1, q1, rfl, rfl, rfl, h1, r1⟩ := trodAll_cons r0; obtain ⟨rfl, rfl, rfl⟩ := trodAll_nil r1
  obtain rfl : args = #[v0, v1] := by cases args; simp_all
  have hV2 := hV
  obtain ⟨_, _, _, _, dg, _, rfl, _⟩ := trodVars_one hV2
  have k0 := h0
  have lt0 : ∀ x ∈ p0, x.block < W.heap.size := by obtain ⟨m, hm⟩ := k0; exact DataW.trod_lt m _ _ _ hm
  obtain ⟨A0, len0, cap0, rfl⟩ := okWide_slice Tryd.underlying42 (hval 0 42 v0 rfl rfl)
  have w0 := open_bytes h0
  have k1 := h1
  have lt1 : ∀ x ∈ p1, x.block < W.heap.size := by obtain ⟨m, hm⟩ := k1; exact DataW.trod_lt m _ _ _ hm
  obtain ⟨A1, len1, cap1, rfl⟩ := okWide_slice Tryd.underlying42 (hval 1 42 v1 rfl rfl)
  have w1 := open_bytes h1
  clear hA0 hval0
  refine (walkRec A0 len0 cap0 w0.2.1 w0.2.2 W w0.1 A1 len1 cap1 w1.2.1 w1.2.2 w1.1 (tabs hL hsh)).mono fun e W' ⟨he, bel⟩ => ?_
  subst he
  exact ⟨_, rfl, _, _, _, [], _, _, hW', trodAll_mk1 (shut_bool Tryd.underlying4 _), (trodAll_cons_mk (Below.trod laidOut (by kernel_rfl) (of_decide_eq_true (by kernel_rfl)) k0 bel lt0) (trodAll_cons_mk (Below.trod laidOut (by kernel_rfl) (of_decide_eq_true (by kernel_rfl)) k1 bel lt1) trodAll_mk0)), Below.trodVars laidOut bel (by kernel_rfl) hV, bel.frame _, fun h => by cases h⟩
/-- What a datum of one or two levels reads as, cell for cell. -/
def flat0 : DataW Unit → List Value
  | .lit (.int k n) => [.int k n]
  | .lit (.string s) => [.string ⟨s.toArray⟩]
  | .lit (.bool b) => [.bool b]
  | _ => []
def flat1 : DataW Unit → List Value
  | .agg l => l.flatMap flat0
  | d => flat0 d
def flat2 : DataW Unit → List Value
  | .agg l => l.flatMap flat1
  | d => flat0 d
def put (d : DataW Unit) : Obj → Obj
  | .cells _ t frozen => .cells (flat2 d).toArray t frozen
  | o => o
/-- A world for the witness: the settled one, the tables holding what their initialisers lay. -/
noncomputable def laidWorld (os : Os) : World :=
  { World.holding Tryd.prog os ⟨#[], #[], []⟩ with heap := ((((((World.holding Tryd.prog os ⟨#[], #[], []⟩).heap.modify 0 (put Rows.laid_loop_example_turnback_impl_lineFormats)).modify 4 (put Rows.laid_unicode_utf8_first)).modify 5 (put Rows.laid_unicode_utf8_acceptRanges)).modify 6 (put Rows.laid_internal_strconv_uint64pow10)).modify 7 (put Rows.laid_math_bits_deBruijn32tab)).modify 8 (put Rows.laid_math_bits_deBruijn64tab) }
theorem laid_met (os : Os) : laidMet Tryd.prog Rows.fnRecTextRow.laid ((laidWorld os).forCall (fun _ _ => 0) ⟨#[], #[.slice none 0 0, .slice none 0 0], []⟩).memory :=
  laidMet_of_run' 8 (by kernel_rfl) (by kernel_rfl)
theorem reads (os : Os) {H : Type} (enc : TypeId × Value → H) : ∃ (gs : List (DataW H)) (places : List MemPlace), DataW.whole enc Tryd.prog ((laidWorld os).forCall (fun _ _ => 0) ⟨#[], #[.slice none 0 0, .slice none 0 0], []⟩).memory Tryd.f7.params.toList Rows.fnRecTextSpec.vars false #[.slice none 0 0, .slice none 0 0].toList 8 = some ([.nil, .nil], gs, places) := by
  have h : (DataW.whole enc Tryd.prog ((laidWorld os).forCall (fun _ _ => 0) ⟨#[], #[.slice none 0 0, .slice none 0 0], []⟩).memory Tryd.f7.params.toList Rows.fnRecTextSpec.vars false #[.slice none 0 0, .slice none 0 0].toList 8).map (fun x => x.1) = some [.nil, .nil] := by kernel_rfl
  obtain ⟨⟨ds, gs, places⟩, h1, h2⟩ := Option.map_eq_some_iff.mp h
  exact ⟨gs, places, by rw [h1]; exact congrArg (fun z => some (z, gs, places)) h2⟩
set_option maxRecDepth 100000 in
theorem lifted (os : Os) (started : os.Started) (H : Type) (enc : TypeId × Value → H) (F : Stop.Interp) :
    ReturnsInHanded {} Tryd.checked os 7 .any ((OpenSpec.ofChange Rows.fnRecTextSpec).preRow enc Tryd.prog Tryd.f7 Rows.fnRecTextRow.domain false Rows.fnRecTextRow.laid) (((OpenSpec.ofChange Rows.fnRecTextSpec).at F).post enc Tryd.prog Tryd.f7 false true false false) := by
  obtain ⟨gs, places, hx⟩ := reads os enc
  refine returnsInHanded_of_row (C := Tryd.checked) (s := OpenSpec.ofChange Rows.fnRecTextSpec) own started (by kernel_rfl) Tryd.func7
    (witness_row_at (enc := enc) (C := Tryd.checked) false (laidWorld os) #[.slice none 0 0, .slice none 0 0] rfl (by kernel_rfl) (by kernel_rfl) (by kernel_rfl)
      (OpenSpec.preRow_of_cond 8 hx (by kernel_rfl) (fun k hk => by cases hk) (by kernel_rfl) (laid_met os))) ?_
  intro W base args ds gs before hval hW _ _ _ hL hsh _
  exact contract H enc W base args ds gs before hval hW hL hsh
theorem said : Rows.FnRecTextSaid :=
  OpenClaim.holds_of_cond 7 Tryd.f7 rfl rfl rfl rfl rfl rfl rfl ⟨rfl, rfl, rfl, rfl, rfl⟩ rfl rfl rfl rfl rfl (by kernel_rfl) Tryd.func7 (by kernel_rfl)
    (of_decide_eq_true (by kernel_rfl)) (by unfold Func.isWrapper; first | (rw [if_pos (by decide +kernel)]; kernel_rfl) | (rw [if_neg (by decide +kernel)]; exact ⟨rfl, rfl⟩))
    (fun os started H enc _ F => by rw [OpenClaim.pre_eq_preRow]; exact lifted os started H enc F)
/-- No parameter wants a stand-in; the program's own looks are on. -/
theorem plain (f : FuncId) (fn : Func) (hf : Tryd.pinned.checked.prog.funcNamed "loop.example/turnback/laws.FnRecText" = some f) (hfn : Tryd.pinned.checked.prog.funcs[f]? = some fn) :
    true = Tryd.pinned.checked.prog.looks [] ∧ ∀ (j : Nat) t, fn.params[j]? = some t → Tryd.pinned.checked.prog.wantsStandIn t = false := by
  obtain rfl : f = 7 := Option.some.inj ((show Tryd.prog.funcNamed "loop.example/turnback/laws.FnRecText" = some 7 by kernel_rfl).symm.trans hf) |>.symm
  obtain rfl : fn = Tryd.f7 := (Option.some.inj (Tryd.func7.symm.trans hfn)).symm; refine ⟨by kernel_rfl, fun j t ht => ?_⟩; rw [Tryd.params7] at ht
  obtain rfl : t = 42 := by simpa using Array.mem_of_getElem? ht
  exact (show Tryd.prog.wantsStandIn 42 = false by kernel_rfl)
/-- The card. -/
theorem proved : Rows.FnRecTextCardSaid :=
  Claim7.holds_tied_plain_at .later [] _ _ _ _ said (fun _ h => by cases h) (by kernel_rfl) (fun _ h => by cases h) fnRecText_row_tie rfl ⟨rfl, rfl⟩ (by kernel_rfl) rfl plain (by kernel_rfl)
end Go.Proofs.YtlkmhmiamdbhcaaDoor.fnRecText

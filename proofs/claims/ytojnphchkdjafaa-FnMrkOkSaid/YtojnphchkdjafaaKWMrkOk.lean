/-
  What FnMrkOk returns, in one sentence: true, with new blocks alone; for every two codes.
-/
import Derived.Test.YtojnphchkdjafaaKA
import Derived.Test.YtojnphchkdjafaaKT1
import Derived.Test.YtojnphchkdjafaaKT2
import Derived.Test.YtojnphchkdjafaaKT3
namespace Go.Proofs.Ytojnphchkdjafaa
set_option maxRecDepth 100000
open Go.RowKit
set_option linter.unusedVariables false

theorem Bys.up' {w w' : World} {A : Option Addr} {n : Nat} (h : Bys w A n w.heap.size) (u : Up w w') : Bys w' A n w'.heap.size := fun h0 => by
  obtain ⟨b, off, hA, hb, hcc⟩ := h.keep (fun b o hb => u.cells b o hb) h0
  have := u.size
  exact ⟨b, off, hA, by omega, hcc⟩
theorem gmB_r (til q1 q2 q3 : Int) : gmB til ⟨-1, q1, q2, q3⟩ = false := by
  have h : inB (-1) 0 999 = false := by decide
  simp [gmB, h]
theorem gmB_l (til q0 q1 q2 : Int) : gmB til ⟨q0, q1, q2, til + 2⟩ = false := by
  have h : inB (til + 2) 0 (til + 1) = false := by rw [inB_no]; omega
  simp [gmB, h]
theorem gkB_a (til n : Int) (p0 : Bool) (p1 p3 p4 : Int) : gkB til n ⟨p0, p1, n, p3, p4⟩ = false := by
  have h : inB n 0 (n - 1) = false := by rw [inB_no]; omega
  simp [gkB, h]

set_option maxHeartbeats 20000000 in
theorem walkMrkOk {w : World} (A0 : Option Addr) (n0 cap0 : Nat) (hc0 : n0 ≤ cap0) (hmax0 : cap0 ≤ 9223372036854775807) (hB0 : Bys w A0 n0 w.heap.size) (A1 : Option Addr) (n1 cap1 : Nat) (hc1 : n1 ≤ cap1) (hmax1 : cap1 ≤ 9223372036854775807) (hB1 : Bys w A1 n1 w.heap.size) :
    Calls Try.prog 3 #[.slice A0 n0 cap0, .slice A1 n1 cap1] w fun x w' => x = .returned (.bool true) ∧ Up w w' := by
  have HB0 := Lib.hid hB0
  have HB1 := Lib.hid hB1
  clear hB0 hB1
  by_cases h : 1048576 < n0
  · have h' : (1048576 : Int) < n0 := by omega
    go_enter Try.func3, Try.ntmps3
    go_wp2
    go_ret
    exact ⟨rfl, Up.refl _⟩
  by_cases h2 : 1048576 < n1
  · have h' : ¬ (1048576 : Int) < n0 := by omega
    have h2' : (1048576 : Int) < n1 := by omega
    go_enter Try.func3, Try.ntmps3
    go_wp2
    go_ret
    exact ⟨rfl, Up.refl _⟩
  have h' : ¬ (1048576 : Int) < n0 := by omega
  have h2' : ¬ (1048576 : Int) < n1 := by omega
  go_enter Try.func3, Try.ntmps3
  go_wp2_with fail
  refine (drawMrk_any A0 n0 cap0 _ hc0 hmax0 HB0.out).mono ?_
  rintro x w1 ⟨A, n, c, B, k, d, m, ⟨q0, q1, q2, q3⟩, rfl, mv1, ⟨hn, _, _⟩, ⟨ht0, ht1⟩, u1⟩
  unfold Gm.v
  dsimp only
  have ua := ((Up.refl w1).alloc (.cells #[.slice A n c, .slice B k d, .int .i64 m.til] 26)).alloc (.cells #[.int .i64 q0, .int .i64 q1, .int .i64 q2, .int .i64 q3] 28)
  have MV1 := Lib.hid (mv1.up ua)
  have X5 := Lib.hid ((Bk.new w1 #[.slice A n c, .slice B k d, .int .i64 m.til] 26).alloc (.cells #[.int .i64 q0, .int .i64 q1, .int .i64 q2, .int .i64 q3] 28))
  have X6 := Lib.hid (Bk.new (w1.alloc (.cells #[.slice A n c, .slice B k d, .int .i64 m.til] 26)) #[.int .i64 q0, .int .i64 q1, .int .i64 q2, .int .i64 q3] 28)
  simp only [World.size_alloc] at X6
  have UM := Lib.hid (u1.trans ua)
  clear u1 ua mv1
  go_wp2_with fail
  generalize (w1.alloc (.cells #[.slice A n c, .slice B k d, .int .i64 m.til] 26)).alloc (.cells #[.int .i64 q0, .int .i64 q1, .int .i64 q2, .int .i64 q3] 28) = W1 at *
  generalize hb6 : w1.heap.size + 1 = b6 at *
  generalize hb5 : w1.heap.size = b5 at *
  clear hb5 hb6
  refine (drawTok_any A1 n1 cap1 _ hc1 hmax1 (HB1.out.up' UM.out)).mono ?_
  rintro x w2 ⟨A2, n2, c2, B2, k2, d2, m2, ⟨p0, p1, p2, p3, p4⟩, rfl, mv2, ⟨hn2, _, _⟩, _, u2⟩
  unfold Gk.v
  dsimp only
  have ua := ((Up.refl w2).alloc (.cells #[.slice A2 n2 c2, .slice B2 k2 d2, .int .i64 m2.til] 26)).alloc (.cells #[.bool p0, .int .i64 p1, .int .i64 p2, .int .i64 p3, .int .i64 p4] 32)
  have MV2 := Lib.hid (mv2.up ua)
  have X7 := Lib.hid ((Bk.new w2 #[.slice A2 n2 c2, .slice B2 k2 d2, .int .i64 m2.til] 26).alloc (.cells #[.bool p0, .int .i64 p1, .int .i64 p2, .int .i64 p3, .int .i64 p4] 32))
  have X8 := Lib.hid (Bk.new (w2.alloc (.cells #[.slice A2 n2 c2, .slice B2 k2 d2, .int .i64 m2.til] 26)) #[.bool p0, .int .i64 p1, .int .i64 p2, .int .i64 p3, .int .i64 p4] 32)
  simp only [World.size_alloc] at X8
  have uu := u2.trans ua
  replace UM := Lib.hid (UM.out.trans uu)
  replace MV1 := Lib.hid (MV1.out.up uu)
  replace X5 := Lib.hid (X5.out.up uu)
  replace X6 := Lib.hid (X6.out.up uu)
  clear u2 ua mv2 uu HB0 HB1 h h2
  have CI := Lib.hid (fun W (hM : MdlV W A n B k m) => implMrk_any A n c B k d m ⟨q0, q1, q2, q3⟩ W hM)
  have CS := Lib.hid (fun W (hM : MdlV W A n B k m) => specMrk_any A n c B k d m ⟨q0, q1, q2, q3⟩ W hM)
  have DI := Lib.hid (fun W (hM : MdlV W A2 n2 B2 k2 m2) => implTok_any A2 n2 c2 B2 k2 d2 m2 ⟨p0, p1, p2, p3, p4⟩ W hM)
  have DS := Lib.hid (fun W (hM : MdlV W A2 n2 B2 k2 m2) => specTok_any A2 n2 c2 B2 k2 d2 m2 ⟨p0, p1, p2, p3, p4⟩ W hM)
  have CX := Lib.hid (fun W (hM : MdlV W A n B k m) => implMrk_any A n c B k d m ⟨-1, q1, q2, q3⟩ W hM)
  have CY := Lib.hid (fun W (hM : MdlV W A n B k m) => implMrk_any A n c B k d m ⟨q0, q1, q2, m.til + 2⟩ W hM)
  have DX := Lib.hid (fun W (hM : MdlV W A2 n2 B2 k2 m2) => implTok_any A2 n2 c2 B2 k2 d2 m2 ⟨p0, p1, (n2 : Int), p3, p4⟩ W hM)
  rw [gmB_r, Bool.and_false] at CX
  rw [gmB_l, Bool.and_false] at CY
  have LR := Lib.hid (show m2.rules.length = n2 from MV2.out.rules.1)
  rw [LR.out] at DX
  rw [gkB_a, Bool.and_false] at DX
  generalize (mdlB m && gmB m.til ⟨q0, q1, q2, q3⟩) = r1 at CI CS
  generalize (mdlB m2 && gkB m2.til m2.rules.length ⟨p0, p1, p2, p3, p4⟩) = r2 at DI DS
  unfold Gm.v at CI CS CX CY
  unfold Gk.v at DI DS DX
  dsimp only at CI CS CX CY DI DS DX
  have j1 : (r1 != r1) = false := by simp
  have j2 : (r2 != r2) = false := by simp
  have i1 : IntKind.i64.wrap (m.til + 2) = m.til + 2 := IntWalk.i64_in _ (by omega)
  clear LR
  have HX := Lib.hid (And.intro X5.out X6.out)
  clear HX
  have x5_0 := X5.out.cell (j := 0) rfl
  have x5_1 := X5.out.cell (j := 1) rfl
  have x5_2 := X5.out.cell (j := 2) rfl
  have x6_0 := X6.out.cell (j := 0) rfl
  have x6_1 := X6.out.cell (j := 1) rfl
  have x6_2 := X6.out.cell (j := 2) rfl
  have x6_3 := X6.out.cell (j := 3) rfl
  have lx5 := X5.out.lt
  have lx6 := X6.out.lt
  go_wp2_with fail
  generalize hW2 : (w2.alloc (.cells #[.slice A2 n2 c2, .slice B2 k2 d2, .int .i64 m2.til] 26)).alloc (.cells #[.bool p0, .int .i64 p1, .int .i64 p2, .int .i64 p3, .int .i64 p4] 32) = W2 at *
  generalize hb8 : w2.heap.size + 1 = b8 at *
  generalize hb7 : w2.heap.size = b7 at *
  clear hb7 hb8 hW2
  refine (CI.out _ MV1.out).mono ?_
  rintro x w3 ⟨rfl, u9⟩
  clear x5_0 x5_1 x5_2 x6_0 x6_1 x6_2 x6_3 lx5 lx6
  replace UM := Lib.hid (UM.out.trans u9)
  replace X5 := Lib.hid (X5.out.up u9)
  replace X6 := Lib.hid (X6.out.up u9)
  replace X7 := Lib.hid (X7.out.up u9)
  replace X8 := Lib.hid (X8.out.up u9)
  replace MV1 := Lib.hid (MV1.out.up u9)
  replace MV2 := Lib.hid (MV2.out.up u9)
  clear u9
  have x7_0 := X7.out.cell (j := 0) rfl
  have x7_1 := X7.out.cell (j := 1) rfl
  have x7_2 := X7.out.cell (j := 2) rfl
  have x8_0 := X8.out.cell (j := 0) rfl
  have x8_1 := X8.out.cell (j := 1) rfl
  have x8_2 := X8.out.cell (j := 2) rfl
  have x8_3 := X8.out.cell (j := 3) rfl
  have x8_4 := X8.out.cell (j := 4) rfl
  have lx7 := X7.out.lt
  have lx8 := X8.out.lt
  go_wp2_with fail
  refine (DI.out _ MV2.out).mono ?_
  rintro x w4 ⟨rfl, u9⟩
  clear x7_0 x7_1 x7_2 x8_0 x8_1 x8_2 x8_3 x8_4 lx7 lx8
  replace UM := Lib.hid (UM.out.trans u9)
  replace X5 := Lib.hid (X5.out.up u9)
  replace X6 := Lib.hid (X6.out.up u9)
  replace X7 := Lib.hid (X7.out.up u9)
  replace X8 := Lib.hid (X8.out.up u9)
  replace MV1 := Lib.hid (MV1.out.up u9)
  replace MV2 := Lib.hid (MV2.out.up u9)
  clear u9
  have x5_0 := X5.out.cell (j := 0) rfl
  have x5_1 := X5.out.cell (j := 1) rfl
  have x5_2 := X5.out.cell (j := 2) rfl
  have x6_0 := X6.out.cell (j := 0) rfl
  have x6_1 := X6.out.cell (j := 1) rfl
  have x6_2 := X6.out.cell (j := 2) rfl
  have x6_3 := X6.out.cell (j := 3) rfl
  have lx5 := X5.out.lt
  have lx6 := X6.out.lt
  go_wp2_with fail
  refine (CS.out _ MV1.out).mono ?_
  rintro x w5 ⟨rfl, u9⟩
  clear x5_0 x5_1 x5_2 x6_0 x6_1 x6_2 x6_3 lx5 lx6
  replace UM := Lib.hid (UM.out.trans u9)
  replace X5 := Lib.hid (X5.out.up u9)
  replace X6 := Lib.hid (X6.out.up u9)
  replace X7 := Lib.hid (X7.out.up u9)
  replace X8 := Lib.hid (X8.out.up u9)
  replace MV1 := Lib.hid (MV1.out.up u9)
  replace MV2 := Lib.hid (MV2.out.up u9)
  clear u9
  have x7_0 := X7.out.cell (j := 0) rfl
  have x7_1 := X7.out.cell (j := 1) rfl
  have x7_2 := X7.out.cell (j := 2) rfl
  have x8_0 := X8.out.cell (j := 0) rfl
  have x8_1 := X8.out.cell (j := 1) rfl
  have x8_2 := X8.out.cell (j := 2) rfl
  have x8_3 := X8.out.cell (j := 3) rfl
  have x8_4 := X8.out.cell (j := 4) rfl
  have lx7 := X7.out.lt
  have lx8 := X8.out.lt
  go_wp2_with fail
  refine (DS.out _ MV2.out).mono ?_
  rintro x w6 ⟨rfl, u9⟩
  clear x7_0 x7_1 x7_2 x8_0 x8_1 x8_2 x8_3 x8_4 lx7 lx8
  replace UM := Lib.hid (UM.out.trans u9)
  replace X5 := Lib.hid (X5.out.up u9)
  replace X6 := Lib.hid (X6.out.up u9)
  replace X7 := Lib.hid (X7.out.up u9)
  replace X8 := Lib.hid (X8.out.up u9)
  replace MV1 := Lib.hid (MV1.out.up u9)
  replace MV2 := Lib.hid (MV2.out.up u9)
  clear u9
  cases r1
  · cases r2
    · go_wp2_with fail
      refine (tbOk_any _).mono ?_
      rintro x w15 ⟨rfl, u15⟩
      go_wp2
      go_ret
      exact ⟨rfl, UM.out.trans u15⟩
    · have x7_0 := X7.out.cell (j := 0) rfl
      have x7_1 := X7.out.cell (j := 1) rfl
      have x7_2 := X7.out.cell (j := 2) rfl
      have x8_0 := X8.out.cell (j := 0) rfl
      have x8_1 := X8.out.cell (j := 1) rfl
      have x8_2 := X8.out.cell (j := 2) rfl
      have x8_3 := X8.out.cell (j := 3) rfl
      have x8_4 := X8.out.cell (j := 4) rfl
      have lx7 := X7.out.lt
      have lx8 := X8.out.lt
      have ua := (Up.refl w6).alloc (.cells #[.bool p0, .int .i64 p1, .int .i64 (n2 : Int), .int .i64 p3, .int .i64 p4] 32)
      have X13 := Lib.hid (Bk.new w6 #[.bool p0, .int .i64 p1, .int .i64 (n2 : Int), .int .i64 p3, .int .i64 p4] 32)
      replace UM := Lib.hid (UM.out.trans ua)
      replace X7 := Lib.hid (X7.out.up ua)
      replace MV2 := Lib.hid (MV2.out.up ua)
      clear ua
      go_wp2_with fail
      generalize w6.alloc (.cells #[.bool p0, .int .i64 p1, .int .i64 (n2 : Int), .int .i64 p3, .int .i64 p4] 32) = W9 at *
      generalize w6.heap.size = b13 at *
      refine (DX.out _ MV2.out).mono ?_
      rintro x w14 ⟨rfl, u9⟩
      clear x7_0 x7_1 x7_2 x8_0 x8_1 x8_2 x8_3 x8_4 lx7 lx8
      replace UM := Lib.hid (UM.out.trans u9)
      go_wp2_with fail
      refine (tbOk_any _).mono ?_
      rintro x w15 ⟨rfl, u15⟩
      go_wp2
      go_ret
      exact ⟨rfl, UM.out.trans u15⟩
  · have x5_0 := X5.out.cell (j := 0) rfl
    have x5_1 := X5.out.cell (j := 1) rfl
    have x5_2 := X5.out.cell (j := 2) rfl
    have x6_0 := X6.out.cell (j := 0) rfl
    have x6_1 := X6.out.cell (j := 1) rfl
    have x6_2 := X6.out.cell (j := 2) rfl
    have x6_3 := X6.out.cell (j := 3) rfl
    have lx5 := X5.out.lt
    have lx6 := X6.out.lt
    have ua := ((Up.refl w6).alloc (.cells #[.int .i64 (-1), .int .i64 q1, .int .i64 q2, .int .i64 q3] 28)).alloc (.cells #[.int .i64 q0, .int .i64 q1, .int .i64 q2, .int .i64 (m.til + 2)] 28)
    have X12 := Lib.hid (Bk.new (w6.alloc (.cells #[.int .i64 (-1), .int .i64 q1, .int .i64 q2, .int .i64 q3] 28)) #[.int .i64 q0, .int .i64 q1, .int .i64 q2, .int .i64 (m.til + 2)] 28)
    simp only [World.size_alloc] at X12
    replace UM := Lib.hid (UM.out.trans ua)
    replace X5 := Lib.hid (X5.out.up ua)
    replace X6 := Lib.hid (X6.out.up ua)
    replace X7 := Lib.hid (X7.out.up ua)
    replace X8 := Lib.hid (X8.out.up ua)
    replace MV1 := Lib.hid (MV1.out.up ua)
    replace MV2 := Lib.hid (MV2.out.up ua)
    clear ua
    go_wp2_with fail
    generalize (w6.alloc (.cells #[.int .i64 (-1), .int .i64 q1, .int .i64 q2, .int .i64 q3] 28)).alloc (.cells #[.int .i64 q0, .int .i64 q1, .int .i64 q2, .int .i64 (m.til + 2)] 28) = W7 at *
    generalize w6.heap.size + 1 = b12 at *
    generalize w6.heap.size = b11 at *
    refine (CX.out _ MV1.out).mono ?_
    rintro x w7 ⟨rfl, u9⟩
    clear x5_0 x5_1 x5_2 x6_0 x6_1 x6_2 x6_3 lx5 lx6
    replace UM := Lib.hid (UM.out.trans u9)
    replace X5 := Lib.hid (X5.out.up u9)
    replace X6 := Lib.hid (X6.out.up u9)
    replace X7 := Lib.hid (X7.out.up u9)
    replace X8 := Lib.hid (X8.out.up u9)
    replace X12 := Lib.hid (X12.out.up u9)
    replace MV1 := Lib.hid (MV1.out.up u9)
    replace MV2 := Lib.hid (MV2.out.up u9)
    clear u9
    have x5_0 := X5.out.cell (j := 0) rfl
    have x5_1 := X5.out.cell (j := 1) rfl
    have x5_2 := X5.out.cell (j := 2) rfl
    have x12_0 := X12.out.cell (j := 0) rfl
    have x12_1 := X12.out.cell (j := 1) rfl
    have x12_2 := X12.out.cell (j := 2) rfl
    have x12_3 := X12.out.cell (j := 3) rfl
    have lx5 := X5.out.lt
    have lx12 := X12.out.lt
    go_wp2_with fail
    refine (CY.out _ MV1.out).mono ?_
    rintro x w8 ⟨rfl, u9⟩
    clear x5_0 x5_1 x5_2 x12_0 x12_1 x12_2 x12_3 lx5 lx12
    replace UM := Lib.hid (UM.out.trans u9)
    replace X5 := Lib.hid (X5.out.up u9)
    replace X6 := Lib.hid (X6.out.up u9)
    replace X7 := Lib.hid (X7.out.up u9)
    replace X8 := Lib.hid (X8.out.up u9)
    replace MV1 := Lib.hid (MV1.out.up u9)
    replace MV2 := Lib.hid (MV2.out.up u9)
    clear u9
    cases r2
    · go_wp2_with fail
      refine (tbOk_any _).mono ?_
      rintro x w15 ⟨rfl, u15⟩
      go_wp2
      go_ret
      exact ⟨rfl, UM.out.trans u15⟩
    · have x7_0 := X7.out.cell (j := 0) rfl
      have x7_1 := X7.out.cell (j := 1) rfl
      have x7_2 := X7.out.cell (j := 2) rfl
      have x8_0 := X8.out.cell (j := 0) rfl
      have x8_1 := X8.out.cell (j := 1) rfl
      have x8_2 := X8.out.cell (j := 2) rfl
      have x8_3 := X8.out.cell (j := 3) rfl
      have x8_4 := X8.out.cell (j := 4) rfl
      have lx7 := X7.out.lt
      have lx8 := X8.out.lt
      have ua := (Up.refl w8).alloc (.cells #[.bool p0, .int .i64 p1, .int .i64 (n2 : Int), .int .i64 p3, .int .i64 p4] 32)
      have X13 := Lib.hid (Bk.new w8 #[.bool p0, .int .i64 p1, .int .i64 (n2 : Int), .int .i64 p3, .int .i64 p4] 32)
      replace UM := Lib.hid (UM.out.trans ua)
      replace X7 := Lib.hid (X7.out.up ua)
      replace MV2 := Lib.hid (MV2.out.up ua)
      clear ua
      go_wp2_with fail
      generalize w8.alloc (.cells #[.bool p0, .int .i64 p1, .int .i64 (n2 : Int), .int .i64 p3, .int .i64 p4] 32) = W9 at *
      generalize w8.heap.size = b13 at *
      refine (DX.out _ MV2.out).mono ?_
      rintro x w14 ⟨rfl, u9⟩
      clear x7_0 x7_1 x7_2 x8_0 x8_1 x8_2 x8_3 x8_4 lx7 lx8
      replace UM := Lib.hid (UM.out.trans u9)
      go_wp2_with fail
      refine (tbOk_any _).mono ?_
      rintro x w15 ⟨rfl, u15⟩
      go_wp2
      go_ret
      exact ⟨rfl, UM.out.trans u15⟩

end Go.Proofs.Ytojnphchkdjafaa

/-
  What FnEvtLess returns, in one sentence: true, with new blocks alone; for every code.
-/
import Derived.Test.YtodbdehnindlbaaDrawLess
import Derived.Test.YtodbdehnindlbaaOrder
import Derived.Test.YtodbdehnindlbaaOk
namespace Go.Proofs.Ytodbdehnindlbaa
open Go.RowKit

set_option maxHeartbeats 8000000 in
theorem walkLess {w : World} (A : Option Addr) (n cap : Nat) (hc : n ≤ cap) (hmax : cap ≤ 9223372036854775807) (hB : Bys w A n w.heap.size) :
    Calls Try.prog 4 #[.slice A n cap] w fun x w' => x = .returned (.bool true) ∧ Up w w' := by
  have HB := Lib.hid hB
  clear hB
  by_cases h : 1048576 < n
  · have h' : (1048576 : Int) < n := by omega
    go_enter Try.func4, Try.ntmps4
    go_wp2
    go_ret
    exact ⟨rfl, Up.refl _⟩
  · have h' : ¬ (1048576 : Int) < n := by omega
    go_enter Try.func4, Try.ntmps4
    go_wp2_with fail
    refine (drawLess_any A n cap _ hc hmax HB.out).mono ?_
    rintro x w1 ⟨⟨z0, z1, z2, z3, z4, z5⟩, ⟨y0, y1, y2, y3, y4, y5⟩, rfl, oka, okb, u1⟩
    unfold Evt.v
    dsimp only
    have CAB := Lib.hid (fun W => implLess_any ⟨z0, z1, z2, z3, z4, z5⟩ ⟨y0, y1, y2, y3, y4, y5⟩ W)
    have CBA := Lib.hid (fun W => implLess_any ⟨y0, y1, y2, y3, y4, y5⟩ ⟨z0, z1, z2, z3, z4, z5⟩ W)
    have CSP := Lib.hid (fun W => specLess_any ⟨z0, z1, z2, z3, z4, z5⟩ ⟨y0, y1, y2, y3, y4, y5⟩ W)
    have CAA := Lib.hid (fun W => ltE_irr ⟨z0, z1, z2, z3, z4, z5⟩ ▸ implLess_any ⟨z0, z1, z2, z3, z4, z5⟩ ⟨z0, z1, z2, z3, z4, z5⟩ W)
    have CNE := Lib.hid (fun W => neq_evt ⟨z0, z1, z2, z3, z4, z5⟩ ⟨y0, y1, y2, y3, y4, y5⟩ W)
    have gd := guard_evt
    have F1 := Lib.hid (ltE_asym ⟨z0, z1, z2, z3, z4, z5⟩ ⟨y0, y1, y2, y3, y4, y5⟩)
    have F2 := Lib.hid (ltE_ne ⟨z0, z1, z2, z3, z4, z5⟩ ⟨y0, y1, y2, y3, y4, y5⟩)
    have F3 := Lib.hid (ltE_ne ⟨y0, y1, y2, y3, y4, y5⟩ ⟨z0, z1, z2, z3, z4, z5⟩)
    have F4 := Lib.hid (ltE_total ⟨z0, z1, z2, z3, z4, z5⟩ ⟨y0, y1, y2, y3, y4, y5⟩)
    have F5 := Lib.hid (ltE_time ⟨z0, z1, z2, z3, z4, z5⟩ ⟨y0, y1, y2, y3, y4, y5⟩)
    have F6 := Lib.hid (eqB_comm ⟨y0, y1, y2, y3, y4, y5⟩ ⟨z0, z1, z2, z3, z4, z5⟩)
    generalize eqB ⟨y0, y1, y2, y3, y4, y5⟩ ⟨z0, z1, z2, z3, z4, z5⟩ = q' at F3 F6
    generalize ltE ⟨z0, z1, z2, z3, z4, z5⟩ ⟨y0, y1, y2, y3, y4, y5⟩ = x at CAB CSP F1 F2 F4 F5
    generalize ltE ⟨y0, y1, y2, y3, y4, y5⟩ ⟨z0, z1, z2, z3, z4, z5⟩ = y at CBA F1 F3 F4
    generalize eqB ⟨z0, z1, z2, z3, z4, z5⟩ ⟨y0, y1, y2, y3, y4, y5⟩ = q at CNE F2 F4 F6
    unfold Evt.v at CAB CBA CSP CAA CNE
    dsimp only at CAB CBA CSP CAA CNE
    have A1 := Lib.hid ((Box.new w1 ⟨z0, z1, z2, z3, z4, z5⟩ 24).alloc (.cells #[.int .i64 y0, .int .i64 y1, .int .i64 y2, .int .i64 y3, .int .i64 y4, .int .i64 y5] 24))
    have B1 := Lib.hid (show Box ((w1.alloc (.cells #[.int .i64 z0, .int .i64 z1, .int .i64 z2, .int .i64 z3, .int .i64 z4, .int .i64 z5] 24)).alloc (.cells #[.int .i64 y0, .int .i64 y1, .int .i64 y2, .int .i64 y3, .int .i64 y4, .int .i64 y5] 24)) (w1.heap.size + 1) ⟨y0, y1, y2, y3, y4, y5⟩ from by simpa using Box.new (w1.alloc (.cells #[.int .i64 z0, .int .i64 z1, .int .i64 z2, .int .i64 z3, .int .i64 z4, .int .i64 z5] 24)) ⟨y0, y1, y2, y3, y4, y5⟩ 24)
    have U1 := Lib.hid ((Up.alloc u1 (.cells #[.int .i64 z0, .int .i64 z1, .int .i64 z2, .int .i64 z3, .int .i64 z4, .int .i64 z5] 24)).alloc (.cells #[.int .i64 y0, .int .i64 y1, .int .i64 y2, .int .i64 y3, .int .i64 y4, .int .i64 y5] 24))
    clear oka okb u1
    go_wp2_with fail
    refine (CAB.out _).mono ?_
    rintro x' w2 ⟨rfl, u2⟩
    have A2 := Lib.hid (A1.out.up u2)
    have B2 := Lib.hid (B1.out.up u2)
    have U2 := Lib.hid (U1.out.trans u2)
    clear u2 A1 B1 U1
    obtain ⟨⟨p0, p1, p2, p3, p4, p5⟩, -⟩ := A2.out.mk6
    obtain ⟨⟨q0, q1, q2, q3, q4, q5⟩, -⟩ := B2.out.mk6
    go_wp2_with fail
    refine (CBA.out _).mono ?_
    rintro x' w3 ⟨rfl, u3⟩
    clear p0 p1 p2 p3 p4 p5 q0 q1 q2 q3 q4 q5
    have A3 := Lib.hid (A2.out.up u3)
    have B3 := Lib.hid (B2.out.up u3)
    have U3 := Lib.hid (U2.out.trans u3)
    clear u3 A2 B2 U2
    obtain ⟨⟨p0, p1, p2, p3, p4, p5⟩, -⟩ := A3.out.mk6
    obtain ⟨⟨q0, q1, q2, q3, q4, q5⟩, -⟩ := B3.out.mk6
    go_wp2_with fail
    refine (CSP.out _).mono ?_
    rintro x' w4 ⟨rfl, u4⟩
    clear p0 p1 p2 p3 p4 p5 q0 q1 q2 q3 q4 q5
    have A4 := Lib.hid (A3.out.up u4)
    have B4 := Lib.hid (B3.out.up u4)
    have U4 := Lib.hid (U3.out.trans u4)
    clear u4 A3 B3 U3
    obtain rfl : q' = q := F6.out
    have XX : (x != x) = false := by simp
    have cases3 : (x = true ∧ y = false ∧ q' = false) ∨ (x = false ∧ y = true ∧ q' = false) ∨ (x = false ∧ y = false ∧ q' = true) := by
      cases x
      · cases y
        · exact .inr (.inr ⟨rfl, rfl, F4.out rfl rfl⟩)
        · exact .inr (.inl ⟨rfl, rfl, F3.out rfl⟩)
      · exact .inl ⟨rfl, F1.out rfl, F2.out rfl⟩
    rcases cases3 with ⟨rfl, rfl, rfl⟩ | ⟨rfl, rfl, rfl⟩ | ⟨rfl, rfl, rfl⟩
    all_goals
      obtain ⟨⟨p0, p1, p2, p3, p4, p5⟩, -⟩ := A4.out.mk6
      obtain ⟨⟨q0, q1, q2, q3, q4, q5⟩, -⟩ := B4.out.mk6
      clear XX F1 F2 F3 F4
      go_wp2_with fail
      refine (CAA.out _).mono ?_
      rintro x' w5 ⟨rfl, u5⟩
      clear p0 p1 p2 p3 p4 p5 q0 q1 q2 q3 q4 q5
      have A5 := Lib.hid (A4.out.up u5)
      have B5 := Lib.hid (B4.out.up u5)
      have U5 := Lib.hid (U4.out.trans u5)
      clear u5 A4 B4 U4
      obtain ⟨⟨p0, p1, p2, p3, p4, p5⟩, -⟩ := A5.out.mk6
      obtain ⟨⟨q0, q1, q2, q3, q4, q5⟩, -⟩ := B5.out.mk6
      have ne := CNE.out
      try have tm : y0 ≤ z0 := F5.out (by first | trivial | rfl)
      go_wp2_with fail
      all_goals
        refine (tbOk_any _).mono ?_
        rintro x' w6 ⟨rfl, u6⟩
        go_wp2
        go_ret
        exact ⟨rfl, U5.out.trans u6⟩

end Go.Proofs.Ytodbdehnindlbaa

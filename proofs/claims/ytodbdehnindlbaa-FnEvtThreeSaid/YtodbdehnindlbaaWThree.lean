/-
  What FnEvtThree returns, in one sentence: true, with new blocks alone; for every two codes.
-/
import Derived.Test.YtodbdehnindlbaaDrawLess
import Derived.Test.YtodbdehnindlbaaOrder
import Derived.Test.YtodbdehnindlbaaOk
import Derived.Test.YtodbdehnindlbaaUp
namespace Go.Proofs.Ytodbdehnindlbaa
open Go.RowKit

theorem Bys.up {w w' : World} {A : Option Addr} {n : Nat} (h : Bys w A n w.heap.size) (u : Up w w') : Bys w' A n w'.heap.size := fun h0 => by
  obtain ⟨b, off, hA, hb, hc⟩ := h.keep (fun b o hb => u.cells b o hb) h0
  exact ⟨b, off, hA, Nat.lt_of_lt_of_le hb u.size, hc⟩

theorem three_dec (a b : Evt) : (ltE a b = true ∧ ltE b a = false) ∨ (ltE a b = false ∧ ltE b a = true) ∨ (ltE a b = false ∧ ltE b a = false) := by
  cases h : ltE a b
  · cases h2 : ltE b a
    · exact .inr (.inr ⟨rfl, rfl⟩)
    · exact .inr (.inl ⟨rfl, rfl⟩)
  · exact .inl ⟨rfl, ltE_asym a b h⟩

set_option maxHeartbeats 40000000 in
theorem walkThree {w : World} (A : Option Addr) (n cap : Nat) (hc : n ≤ cap) (hmax : cap ≤ 9223372036854775807) (hB : Bys w A n w.heap.size)
    (A' : Option Addr) (n' cap' : Nat) (hc' : n' ≤ cap') (hmax' : cap' ≤ 9223372036854775807) (hB' : Bys w A' n' w.heap.size) :
    Calls Try.prog 5 #[.slice A n cap, .slice A' n' cap'] w fun x w' => x = .returned (.bool true) ∧ Up w w' := by
  have HB := Lib.hid hB
  have HB' := Lib.hid hB'
  clear hB hB'
  by_cases h : 1048576 < n
  · have h' : (1048576 : Int) < n := by omega
    go_enter Try.func5, Try.ntmps5
    go_wp2
    go_ret
    exact ⟨rfl, Up.refl _⟩
  · have h' : ¬ (1048576 : Int) < n := by omega
    by_cases g : 1048576 < n'
    · have g' : (1048576 : Int) < n' := by omega
      go_enter Try.func5, Try.ntmps5
      go_wp2
      go_ret
      exact ⟨rfl, Up.refl _⟩
    · have g' : ¬ (1048576 : Int) < n' := by omega
      go_enter Try.func5, Try.ntmps5
      go_wp2_with fail
      refine (drawLess_any A n cap _ hc hmax HB.out).mono ?_
      rintro x w1 ⟨⟨a0, a1, a2, a3, a4, a5⟩, ⟨b0, b1, b2, b3, b4, b5⟩, rfl, oka, okb, u1⟩
      unfold Evt.v
      dsimp only
      have U1 := Lib.hid ((Up.alloc u1 (.cells #[.int .i64 a0, .int .i64 a1, .int .i64 a2, .int .i64 a3, .int .i64 a4, .int .i64 a5] 24)).alloc (.cells #[.int .i64 b0, .int .i64 b1, .int .i64 b2, .int .i64 b3, .int .i64 b4, .int .i64 b5] 24))
      have A1 := Lib.hid ((Box.new w1 ⟨a0, a1, a2, a3, a4, a5⟩ 24).alloc (.cells #[.int .i64 b0, .int .i64 b1, .int .i64 b2, .int .i64 b3, .int .i64 b4, .int .i64 b5] 24))
      have B1 := Lib.hid (show Box ((w1.alloc (.cells #[.int .i64 a0, .int .i64 a1, .int .i64 a2, .int .i64 a3, .int .i64 a4, .int .i64 a5] 24)).alloc (.cells #[.int .i64 b0, .int .i64 b1, .int .i64 b2, .int .i64 b3, .int .i64 b4, .int .i64 b5] 24)) (w1.heap.size + 1) ⟨b0, b1, b2, b3, b4, b5⟩ from by simpa using Box.new (w1.alloc (.cells #[.int .i64 a0, .int .i64 a1, .int .i64 a2, .int .i64 a3, .int .i64 a4, .int .i64 a5] 24)) ⟨b0, b1, b2, b3, b4, b5⟩ 24)
      clear oka okb u1
      go_wp2_with fail
      refine (drawLess_any A' n' cap' _ hc' hmax' (HB'.out.up U1.out)).mono ?_
      rintro x w2 ⟨⟨c0, c1, c2, c3, c4, c5⟩, ⟨d0, d1, d2, d3, d4, d5⟩, rfl, okc, okd, u2⟩
      unfold Evt.v
      dsimp only
      have U := Lib.hid (((U1.out.trans u2).alloc (.cells #[.int .i64 c0, .int .i64 c1, .int .i64 c2, .int .i64 c3, .int .i64 c4, .int .i64 c5] 24)).alloc (.cells #[.int .i64 d0, .int .i64 d1, .int .i64 d2, .int .i64 d3, .int .i64 d4, .int .i64 d5] 24))
      have BA := Lib.hid (((A1.out.up u2).alloc (.cells #[.int .i64 c0, .int .i64 c1, .int .i64 c2, .int .i64 c3, .int .i64 c4, .int .i64 c5] 24)).alloc (.cells #[.int .i64 d0, .int .i64 d1, .int .i64 d2, .int .i64 d3, .int .i64 d4, .int .i64 d5] 24))
      have BB := Lib.hid (((B1.out.up u2).alloc (.cells #[.int .i64 c0, .int .i64 c1, .int .i64 c2, .int .i64 c3, .int .i64 c4, .int .i64 c5] 24)).alloc (.cells #[.int .i64 d0, .int .i64 d1, .int .i64 d2, .int .i64 d3, .int .i64 d4, .int .i64 d5] 24))
      have BC := Lib.hid ((Box.new w2 ⟨c0, c1, c2, c3, c4, c5⟩ 24).alloc (.cells #[.int .i64 d0, .int .i64 d1, .int .i64 d2, .int .i64 d3, .int .i64 d4, .int .i64 d5] 24))
      have CL : Hid (∀ p0 p1 p2 p3 p4 p5 q0 q1 q2 q3 q4 q5 W, Calls Try.prog 19 #[.agg #[.int .i64 p0, .int .i64 p1, .int .i64 p2, .int .i64 p3, .int .i64 p4, .int .i64 p5], .agg #[.int .i64 q0, .int .i64 q1, .int .i64 q2, .int .i64 q3, .int .i64 q4, .int .i64 q5]] W fun x w' => x = .returned (.bool (ltE ⟨p0, p1, p2, p3, p4, p5⟩ ⟨q0, q1, q2, q3, q4, q5⟩)) ∧ Up W w') := Lib.hid fun p0 p1 p2 p3 p4 p5 q0 q1 q2 q3 q4 q5 W => implLess_any ⟨p0, p1, p2, p3, p4, p5⟩ ⟨q0, q1, q2, q3, q4, q5⟩ W
      have CAB := Lib.hid (fun W => implLess_any ⟨a0, a1, a2, a3, a4, a5⟩ ⟨b0, b1, b2, b3, b4, b5⟩ W)
      have CSP := Lib.hid (fun W => specLess_any ⟨a0, a1, a2, a3, a4, a5⟩ ⟨b0, b1, b2, b3, b4, b5⟩ W)
      have D1 := Lib.hid (three_dec ⟨a0, a1, a2, a3, a4, a5⟩ ⟨b0, b1, b2, b3, b4, b5⟩)
      have D2 := Lib.hid (three_dec ⟨b0, b1, b2, b3, b4, b5⟩ ⟨c0, c1, c2, c3, c4, c5⟩)
      have T1 := Lib.hid (ltE_trans ⟨a0, a1, a2, a3, a4, a5⟩ ⟨b0, b1, b2, b3, b4, b5⟩ ⟨c0, c1, c2, c3, c4, c5⟩)
      have T2 := Lib.hid (ltE_trans ⟨c0, c1, c2, c3, c4, c5⟩ ⟨b0, b1, b2, b3, b4, b5⟩ ⟨a0, a1, a2, a3, a4, a5⟩)
      unfold Evt.v at CAB CSP
      dsimp only at CAB CSP
      clear okc okd u2 A1 B1 U1
      go_wp2_with fail
      generalize (w2.alloc (.cells #[.int .i64 c0, .int .i64 c1, .int .i64 c2, .int .i64 c3, .int .i64 c4, .int .i64 c5] 24)).alloc (.cells #[.int .i64 d0, .int .i64 d1, .int .i64 d2, .int .i64 d3, .int .i64 d4, .int .i64 d5] 24) = V at U BA BB BC ⊢
      obtain ⟨⟨k0, k1, k2, k3, k4, k5⟩, -⟩ := BA.out.mk6; obtain ⟨⟨l0, l1, l2, l3, l4, l5⟩, -⟩ := BB.out.mk6; obtain ⟨⟨m0, m1, m2, m3, m4, m5⟩, -⟩ := BC.out.mk6
      have la := BA.out.lt
      have lb := BB.out.lt
      refine region_up (by kernel_rfl) (by kernel_rfl) ?_
      refine up_step rfl ?_
      apply Exists.intro
      refine ⟨fun w1 hw1 => ?_, ?_⟩
      · obtain ⟨hc, hf, hz⟩ := hw1.facts
        try simp at hz
        go_simp
        try rfl
      go_simp
      refine up_step rfl ?_
      apply Exists.intro
      refine ⟨fun w1 hw1 => ?_, ?_⟩
      · obtain ⟨hc, hf, hz⟩ := hw1.facts
        try simp at hz
        go_simp
        try rfl
      go_simp
      refine up_step rfl ?_
      apply Exists.intro
      refine ⟨fun w1 hw1 => ?_, ?_⟩
      · go_simp
        exact up_call hw1 (CAB.out _)
      go_simp
      refine up_step rfl ?_
      apply Exists.intro
      refine ⟨fun w1 hw1 => ?_, ?_⟩
      · obtain ⟨hc, hf, hz⟩ := hw1.facts
        try simp at hz
        go_simp
        try rfl
      go_simp
      refine up_step rfl ?_
      apply Exists.intro
      refine ⟨fun w1 hw1 => ?_, ?_⟩
      · obtain ⟨hc, hf, hz⟩ := hw1.facts
        try simp at hz
        go_simp
        try rfl
      go_simp
      refine up_step rfl ?_
      apply Exists.intro
      refine ⟨fun w1 hw1 => ?_, ?_⟩
      · go_simp
        exact up_call hw1 (CSP.out _)
      go_simp
      refine up_step rfl ?_
      apply Exists.intro
      refine ⟨fun w1 hw1 => ?_, ?_⟩
      · go_simp
        try rfl
      go_simp
      refine wpQuiet_nil ?_
      intro V2 u
      have U := Lib.hid (U.out.trans u)
      have BA := Lib.hid (BA.out.up u)
      have BB := Lib.hid (BB.out.up u)
      have BC := Lib.hid (BC.out.up u)
      clear u la lb
      clear k0 k1 k2 k3 k4 k5 l0 l1 l2 l3 l4 l5 m0 m1 m2 m3 m4 m5
      obtain ⟨⟨k0, k1, k2, k3, k4, k5⟩, -⟩ := BA.out.mk6; obtain ⟨⟨l0, l1, l2, l3, l4, l5⟩, -⟩ := BB.out.mk6; obtain ⟨⟨m0, m1, m2, m3, m4, m5⟩, -⟩ := BC.out.mk6
      clear CAB CSP
      have fin : True := trivial
      rcases D1.out with ⟨hab, hba⟩ | ⟨hab, hba⟩ | ⟨hab, hba⟩ <;> rcases D2.out with ⟨hbc, hcb⟩ | ⟨hbc, hcb⟩ | ⟨hbc, hcb⟩
      all_goals
        try have hac := T1.out hab hbc
        try have hca := T2.out hcb hba
        clear D1 D2 T1 T2 fin
        go_wp2_with (first | (go_at_call 19; refine (CL.out _ _ _ _ _ _ _ _ _ _ _ _ _).mono ?_; rintro e w' ⟨rfl, u⟩; have U := Lib.hid (U.out.trans u); have BA := Lib.hid (BA.out.up u); have BB := Lib.hid (BB.out.up u); have BC := Lib.hid (BC.out.up u); clear u; clear k0 k1 k2 k3 k4 k5 l0 l1 l2 l3 l4 l5 m0 m1 m2 m3 m4 m5; obtain ⟨⟨k0, k1, k2, k3, k4, k5⟩, -⟩ := BA.out.mk6; obtain ⟨⟨l0, l1, l2, l3, l4, l5⟩, -⟩ := BB.out.mk6; obtain ⟨⟨m0, m1, m2, m3, m4, m5⟩, -⟩ := BC.out.mk6) | (go_at_call 17; refine (tbOk_any _).mono ?_; rintro e w' ⟨rfl, u⟩; have U := Lib.hid (U.out.trans u); clear u))
        go_ret
        exact ⟨rfl, U.out⟩

end Go.Proofs.Ytodbdehnindlbaa

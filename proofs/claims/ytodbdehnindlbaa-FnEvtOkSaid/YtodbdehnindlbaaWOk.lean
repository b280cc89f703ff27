/-
  What FnEvtOk returns, in one sentence: true, with new blocks alone; for every code.
-/
import Derived.Test.YtodbdehnindlbaaDrawOk
import Derived.Test.YtodbdehnindlbaaOk
namespace Go.Proofs.Ytodbdehnindlbaa
open Go.RowKit

theorem okB_to (z0 z2 z3 z4 z5 many : Int) : okB ⟨z0, many, z2, z3, z4, z5⟩ many = false := by
  have h : inB many 0 (many - 1) = false := inB_no.2 (by omega)
  simp [okB, h]
theorem okB_late (z1 z2 z3 z4 z5 many : Int) : okB ⟨100, z1, z2, z3, z4, z5⟩ many = false := by
  have h : inB 100 0 99 = false := by decide
  simp [okB, h]
theorem okB_more (e : Evt) (many : Int) (h : okB e many = true) : okB e (many + 1) = decide (many < 4) := by
  simp only [okB, Bool.and_eq_true, inB_iff] at h
  by_cases hm : many < 4
  · rw [decide_eq_true hm]
    simp only [okB, Bool.and_eq_true, inB_iff]
    omega
  · rw [decide_eq_false hm]
    have : inB (many + 1) 1 4 = false := inB_no.2 (by omega)
    simp [okB, this]

set_option maxHeartbeats 4000000 in
theorem walkOk {w : World} (A : Option Addr) (n cap : Nat) (hc : n ≤ cap) (hmax : cap ≤ 9223372036854775807) (hB : Bys w A n w.heap.size) :
    Calls Try.prog 3 #[.slice A n cap] w fun x w' => x = .returned (.bool true) ∧ Up w w' := by
  have HB := Lib.hid hB
  clear hB
  by_cases h : 1048576 < n
  · have h' : (1048576 : Int) < n := by omega
    go_enter Try.func3, Try.ntmps3
    go_wp2
    go_ret
    exact ⟨rfl, Up.refl _⟩
  · have h' : ¬ (1048576 : Int) < n := by omega
    go_enter Try.func3, Try.ntmps3
    go_wp2_with fail
    refine (drawOk_any A n cap _ hc hmax HB.out).mono ?_
    rintro x w1 ⟨⟨z0, z1, z2, z3, z4, z5⟩, many, rfl, ok, l1, l2, u1⟩
    unfold Evt.v
    dsimp only
    have U1 := Lib.hid u1
    have CE := Lib.hid (fun W => implOk_any ⟨z0, z1, z2, z3, z4, z5⟩ many W)
    have CS := Lib.hid (fun W => specOk_any ⟨z0, z1, z2, z3, z4, z5⟩ many W)
    have CX := Lib.hid (fun W => okB_to z0 z2 z3 z4 z5 many ▸ implOk_any ⟨z0, many, z2, z3, z4, z5⟩ many W)
    have CY := Lib.hid (fun W => okB_late z1 z2 z3 z4 z5 many ▸ implOk_any ⟨100, z1, z2, z3, z4, z5⟩ many W)
    have CM := Lib.hid (fun W => implOk_any ⟨z0, z1, z2, z3, z4, z5⟩ (many + 1) W)
    have MO := Lib.hid (okB_more ⟨z0, z1, z2, z3, z4, z5⟩ many)
    generalize okB ⟨z0, z1, z2, z3, z4, z5⟩ many = b at CE CS MO
    generalize okB ⟨z0, z1, z2, z3, z4, z5⟩ (many + 1) = b2 at CM MO
    unfold Evt.v at CE CS CX CY CM
    dsimp only at CE CS CX CY CM
    clear ok u1
    go_wp2_with fail
    refine (CE.out _).mono ?_
    rintro x w2 ⟨rfl, u2⟩
    obtain ⟨hc2, hf2, hz2⟩ := u2.facts
    simp at hz2
    go_wp2_with fail
    refine (CS.out _).mono ?_
    rintro x w3 ⟨rfl, u3⟩
    have u23 := u2.trans u3
    clear hc2 hf2 hz2 u2 u3
    cases b
    · go_wp2_with fail
      refine (tbOk_any _).mono ?_
      rintro x w4 ⟨rfl, u4⟩
      go_wp2
      go_ret
      exact ⟨rfl, ((U1.out.alloc _).trans u23).trans u4⟩
    · obtain ⟨hc3, hf3, hz3⟩ := u23.facts
      simp at hz3
      have M := MO.out rfl
      have lt13 : w1.heap.size < w3.heap.size := by omega
      have BE := Lib.hid ((Box.new w1 ⟨z0, z1, z2, z3, z4, z5⟩ 24).up u23)
      go_wp2_with fail
      refine (CX.out _).mono ?_
      rintro x w4 ⟨rfl, u4⟩
      have BY := Lib.hid ((Box.new (w3.alloc (.cells #[.int .i64 z0, .int .i64 many, .int .i64 z2, .int .i64 z3, .int .i64 z4, .int .i64 z5] 24)) ⟨100, z1, z2, z3, z4, z5⟩ 24).up u4)
      have BE2 := Lib.hid (((BE.out.alloc _).alloc _).up u4)
      have U4 := Lib.hid (((((U1.out.alloc _).trans u23).alloc _).alloc _).trans u4)
      clear u4 u23 hc3 hf3 BE U1
      obtain ⟨⟨y0, y1, y2, y3, y4, y5⟩, -⟩ := BY.out.mk6
      simp only [World.size_alloc] at y0 y1 y2 y3 y4 y5
      go_wp2_with fail
      refine (CY.out _).mono ?_
      rintro x w5 ⟨rfl, u5⟩
      obtain ⟨⟨e0, e1, e2, e3, e4, e5⟩, -⟩ := (BE2.out.up u5).mk6
      clear y0 y1 y2 y3 y4 y5
      go_wp2_with fail
      refine (CM.out _).mono ?_
      rintro x w6 ⟨rfl, u6⟩
      subst M
      by_cases hm4 : many < 4
      · go_wp2
        go_ret
        exact ⟨by simp, (U4.out.trans u5).trans u6⟩
      · go_wp2
        go_ret
        exact ⟨by simp, (U4.out.trans u5).trans u6⟩

end Go.Proofs.Ytodbdehnindlbaa

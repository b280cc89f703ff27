/-
  What tbSeq says of one simulator that lies in memory twice, in one sentence: the same; for every simulator.
-/
import Derived.Test.YtkfjemgelmbcfaaKTbRecs
import Derived.Test.YtkfjemgelmbcfaaKD
import Derived.Test.YtkfjemgelmbcfaaKZ2
import Derived.Test.YtkfjemgelmbcfaaKCstNe
import Derived.Test.YtkfjemgelmbcfaaKMixH
namespace Go.Proofs.Ytkfjemgelmbcfaa
set_option maxRecDepth 100000
open Go.RowKit

set_option maxHeartbeats 4000000 in
theorem tbSeq_same (Ac : Option Addr) (nc cc : Nat) (Aw : Option Addr) (nw cw : Nat) (Al : Option Addr) (nl cl : Nat) (s : Sq) (Bc : Option Addr) (dc : Nat) (Bw : Option Addr) (dw : Nat) (Bl : Option Addr) (dl : Nat) (w : World)
    (h1 : nc ≤ 1000000000) (h2 : nw ≤ 1000000000) (h3 : nl ≤ 1000000000) (h : SqV w Ac nc Aw nw Al nl s) (h' : SqV w Bc nc Bw nw Bl nl s) :
    Calls Try.prog 51 #[.agg #[.slice Ac nc cc, .slice Aw nw cw, .slice Al nl cl], .agg #[.slice Bc nc dc, .slice Bw nw dw, .slice Bl nl dl]] w fun x w' => x = .returned (.bool true) ∧ Up w w' := by
  have HC := Lib.hid h.comps
  have HD := Lib.hid h'.comps
  have X0 := Lib.hid ((Box3.new w (.slice Ac nc cc) (.slice Aw nw cw) (.slice Al nl cl) 72).up ((Up.refl _).alloc (.cells #[.slice Bc nc dc, .slice Bw nw dw, .slice Bl nl dl] 72)))
  have X1 := Lib.hid (Box3.new (w.alloc (.cells #[.slice Ac nc cc, .slice Aw nw cw, .slice Al nl cl] 72)) (.slice Bc nc dc) (.slice Bw nw dw) (.slice Bl nl dl) 72)
  simp only [World.size_alloc] at X1
  have ua := Lib.hid (((Up.refl w).alloc (.cells #[.slice Ac nc cc, .slice Aw nw cw, .slice Al nl cl] 72)).alloc (.cells #[.slice Bc nc dc, .slice Bw nw dw, .slice Bl nl dl] 72))
  have CE := Lib.hid (fun W (u : Up w W) => tbEvts_any Aw Bw nw nw cw dw s.wait s.wait W h2 (h.wait.up u) (h'.wait.up u))
  rw [decide_eq_true (rfl : s.wait = s.wait)] at CE
  have CR := Lib.hid (fun W (u : Up w W) => tbRecs_same Al Bl nl cl dl s.log W h3 (h.log.up u) (h'.log.up u))
  have CN := Lib.hid (fun p W => neq_cst p p W)
  have gd := guard_cst
  clear h h'
  go_enter Try.func51, Try.ntmps51
  go_wp2_with fail
  generalize (w.alloc (.cells #[.slice Ac nc cc, .slice Aw nw cw, .slice Al nl cl] 72)).alloc (.cells #[.slice Bc nc dc, .slice Bw nw dw, .slice Bl nl dl] 72) = W at *
  generalize hb1 : w.heap.size + 1 = b1 at *
  generalize hb0 : w.heap.size = b0 at *
  clear hb0 hb1
  refine (CE.out _ ua.out).mono ?_
  rintro x wA ⟨rfl, uA⟩
  have ua := Lib.hid (ua.out.trans uA)
  have X0 := Lib.hid (X0.out.up uA)
  have X1 := Lib.hid (X1.out.up uA)
  clear uA
  obtain ⟨k0, k1, k2⟩ := And.intro X0.out.c0 (And.intro X0.out.c1 X0.out.c2)
  obtain ⟨r0, r1, r2⟩ := And.intro X1.out.c0 (And.intro X1.out.c1 X1.out.c2)
  have l0 := X0.out.lt
  have l1 := X1.out.lt
  go_wp2_with fail
  refine (CR.out _ ua.out).mono ?_
  rintro x wB ⟨rfl, uB⟩
  have U1 := Lib.hid (ua.out.trans uB)
  have X0 := Lib.hid (X0.out.up uB)
  have X1 := Lib.hid (X1.out.up uB)
  clear uB k0 k1 k2 r0 r1 r2 l0 l1
  go_wp2
  go_loopw [5] (fun i wr => (∃ k : Nat, k ≤ nc ∧ i = .int .i64 k) ∧ Up wB wr) (fun i _ => nc - (intOf i).toNat)
  case atStart => exact ⟨⟨0, by omega, rfl⟩, Up.refl _⟩
  case round =>
    obtain ⟨⟨k, hk, rfl⟩, ur⟩ := hrel
    obtain ⟨k0, k1, k2⟩ := And.intro (X0.out.up ur).c0 (And.intro (X0.out.up ur).c1 (X0.out.up ur).c2)
    obtain ⟨r0, r1, r2⟩ := And.intro (X1.out.up ur).c0 (And.intro (X1.out.up ur).c1 (X1.out.up ur).c2)
    have l0 := (X0.out.up ur).lt
    have l1 := (X1.out.up ur).lt
    by_cases hlt : k < nc
    · obtain ⟨b, off, hA, hb, hc⟩ := (HC.out.up (U1.out.trans ur)).2 (by omega)
      obtain ⟨b2, off2, hA2, hb2, hc2⟩ := (HD.out.up (U1.out.trans ur)).2 (by omega)
      subst hA hA2
      have a0 := hc k hlt
      have a1 := hc2 k hlt
      clear hc hc2
      have cl := CN.out (s.comps.getD k default)
      rw [eqD_refl] at cl
      generalize s.comps.getD k default = p at a0 a1 cl
      unfold CstAt at a0 a1
      unfold Cst.v at cl
      obtain ⟨p0, p1, p2⟩ := a0
      obtain ⟨q0, q1, q2⟩ := a1
      have i4 : (k : Int) < nc := by omega
      go_wp2
      refine region_up (by kernel_rfl) (by kernel_rfl) ?_
      refine up_step rfl ?_
      apply Exists.intro
      refine ⟨fun w1 hw1 => ?_, ?_⟩
      · go_simp
        try rfl
      go_simp
      refine up_step rfl ?_
      apply Exists.intro
      refine ⟨fun w1 hw1 => ?_, ?_⟩
      · obtain ⟨hc, hf, hz⟩ := hw1.facts
        try simp at hz
        go_simp
        try rfl
      go_simp
      refine up_step rfl ?_
      apply Exists.intro
      refine ⟨fun w1 hw1 => ?_, ?_⟩
      · go_simp
        try rfl
      go_simp
      refine up_step rfl ?_
      apply Exists.intro
      refine ⟨fun w1 hw1 => ?_, ?_⟩
      · go_simp
        try rfl
      go_simp
      refine up_step rfl ?_
      apply Exists.intro
      refine ⟨fun w1 hw1 => ?_, ?_⟩
      · obtain ⟨hc, hf, hz⟩ := hw1.facts
        try simp at hz
        go_simp
        try rfl
      go_simp
      refine up_step rfl ?_
      apply Exists.intro
      refine ⟨fun w1 hw1 => ?_, ?_⟩
      · go_simp
        try rfl
      go_simp
      refine up_step rfl ?_
      apply Exists.intro
      refine ⟨fun w1 hw1 => ?_, ?_⟩
      · obtain ⟨hc, hf, hz⟩ := hw1.facts
        try simp at hz
        go_simp
        try rfl
      go_simp
      refine up_step rfl ?_
      apply Exists.intro
      refine ⟨fun w1 hw1 => ?_, ?_⟩
      · go_simp
        try rfl
      go_simp
      refine up_step rfl ?_
      apply Exists.intro
      refine ⟨fun w1 hw1 => ?_, ?_⟩
      · go_simp
        try rfl
      go_simp
      refine up_step rfl ?_
      apply Exists.intro
      refine ⟨fun w1 hw1 => ?_, ?_⟩
      · obtain ⟨hc, hf, hz⟩ := hw1.facts
        try simp at hz
        go_simp
        try rfl
      go_simp
      refine up_step rfl ?_
      apply Exists.intro
      refine ⟨fun w1 hw1 => ?_, ?_⟩
      · go_simp
        try rfl
      go_simp
      refine wpQuiet_nil ?_
      intro wA uA
      clear i4 p0 p1 p2 q0 q1 q2 k0 k1 k2 r0 r1 r2 l0 l1 cl
      go_wp2
      go_roundw
      case rel => exact ⟨⟨k + 1, by omega, by go_num⟩, ur.trans uA⟩
      case measure => simp [intOf]; omega
    · go_wp2
      go_ret
      exact ⟨rfl, U1.out.trans ur⟩

end Go.Proofs.Ytkfjemgelmbcfaa

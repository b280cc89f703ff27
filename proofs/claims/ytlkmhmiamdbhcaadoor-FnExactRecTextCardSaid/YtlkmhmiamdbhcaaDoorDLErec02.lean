/-
  What spec.RecText returns, in one sentence: the record's words and numbers, nothing for what is no record; for every record.
  What szSeqState and toSeqState return, in one sentence: -1 or what is left, and a copy in new memory; for every simulator that lies in memory.
-/
import Derived.Deep.AppendLies
import Derived.Deep.Draws
import Derived.DeepKeys4
import Derived.Laws.Bits64
import Derived.Laws.OwnMore
import Derived.Lib.AppendZeros
import Derived.Maps.AppendAt
import Derived.Maps.OwnSet
import Derived.OwnWalk
import Derived.RegionTactic
import Derived.StillTailTactics
import Derived.Test.YtlkmhmiamdbhcaaDoorDLErec01
namespace Go.Proofs.YtlkmhmiamdbhcaaDoor
set_option maxRecDepth 100000
open Go.RowKit
/-- A record's text. -/
def recS (e : Evt) (s : Int) : List UInt8 := if (okB e 4 && inB s 0 96) = true then [97, 116, 32] ++ plainS e.t ++ [32, 116, 111, 32] ++ plainS e.to ++ [32, 102, 114, 111, 109, 32] ++ plainS e.fr ++ [32, 107, 105, 110, 100, 32] ++ plainS e.kd ++ [32, 100, 97, 116, 97, 32] ++ plainS e.dt ++ [32, 116, 104, 101, 110, 32] ++ plainS s else []
theorem dec_short (u : Nat) (h : u < 100) : (Lib.decDigits u).length ≤ 2 := by
  by_cases h1 : u < 10
  · rw [Lib.decDigits, dif_pos h1]; simp
  · rw [Lib.decDigits, dif_neg h1, Lib.decDigits, dif_pos (by omega)]; simp
theorem plain_short (n : Int) (h : n < 100) : (plainS n).length ≤ 2 := by
  unfold plainS
  split
  · simp
  · exact dec_short _ (by omega)
set_option maxHeartbeats 3000000 in
theorem specRec_any (e : Evt) (s : Int) (w : World) : Calls Tryd.prog 14 #[.agg #[.int .i64 e.t, .int .i64 e.to, .int .i64 e.fr, .int .i64 e.sq, .int .i64 e.kd, .int .i64 e.dt, .int .i64 s]] w fun x w' => x = .returned (.string ⟨(recS e s).toArray⟩) ∧ Up w w' := by
  have CO := fun W => specOk_any e 4 W
  have R0 := Lib.hid (show (okB e 4 && inB s 0 96) = false → (⟨#[]⟩ : ByteArray) = ⟨(recS e s).toArray⟩ from fun h => by unfold recS; rw [h]; rfl)
  have R1 := Lib.hid (show (okB e 4 && inB s 0 96) = true → recS e s = [97, 116, 32] ++ plainS e.t ++ [32, 116, 111, 32] ++ plainS e.to ++ [32, 102, 114, 111, 109, 32] ++ plainS e.fr ++ [32, 107, 105, 110, 100, 32] ++ plainS e.kd ++ [32, 100, 97, 116, 97, 32] ++ plainS e.dt ++ [32, 116, 104, 101, 110, 32] ++ plainS s from fun h => if_pos h)
  have BD := Lib.hid (show okB e 4 = true → e.t < 100 ∧ e.to < 100 ∧ e.fr < 100 ∧ e.kd < 100 ∧ e.dt < 100 from fun h => by
    unfold okB at h; simp only [Bool.and_eq_true, inB_iff] at h
    omega)
  generalize recS e s = res at R0 R1 ⊢
  generalize okB e 4 = b1 at CO R0 R1 BD
  obtain ⟨a0, a1, a2, a3, a4, a5⟩ := e; unfold Evt.v at CO; dsimp only at CO R1 BD ⊢
  have CO := Lib.hid CO
  have CP := Lib.hid (fun (n : Int) (h : n < 100) W => plain_any n (by omega) W)
  have X := Lib.hid (Blq.new w #[.int .i64 a0, .int .i64 a1, .int .i64 a2, .int .i64 a3, .int .i64 a4, .int .i64 a5, .int .i64 s] 39)
  have U := Lib.hid ((Up.refl w).alloc (.cells #[.int .i64 a0, .int .i64 a1, .int .i64 a2, .int .i64 a3, .int .i64 a4, .int .i64 a5, .int .i64 s] 39))
  go_enter Tryd.func14, Tryd.ntmps14
  go_wp2_with fail
  refine (CO.out _).mono ?_; rintro x w1 ⟨rfl, u1⟩
  have U1 := Lib.hid (U.out.trans u1)
  replace X := Lib.hid (X.out.up u1)
  clear u1
  cases b1
  · go_wp2
    go_ret
    exact ⟨ret_str (R0.out (by first | trivial | rfl)), U1.out⟩
  · have x6 := X.out.cell (j := 6) rfl
    have lx := X.out.lt
    go_wp2_with fail
    refine (l1In_any s 0 96 _).mono ?_; rintro x w2 ⟨rfl, hww⟩; subst hww
    cases hs : inB s 0 96
    · have HR := Lib.hid (R0.out (by rw [hs]; rfl))
      clear hs; go_wp2; go_ret
      exact ⟨ret_str HR.out, U1.out⟩
    · have HR := Lib.hid (R1.out (by rw [hs]; rfl))
      have hb := BD.out (by first | trivial | rfl)
      have hs2 : s < 100 := by rw [inB_iff] at hs; omega
      have S0 := Lib.hid (plain_short a0 hb.1)
      have S1 := Lib.hid (plain_short a1 hb.2.1)
      have S2 := Lib.hid (plain_short a2 hb.2.2.1)
      have S3 := Lib.hid (plain_short a4 hb.2.2.2.1)
      have S4 := Lib.hid (plain_short a5 hb.2.2.2.2)
      have S5 := Lib.hid (plain_short s hs2)
      have P0 := Lib.hid (fun W => CP.out a0 hb.1 W)
      have P1 := Lib.hid (fun W => CP.out a1 hb.2.1 W)
      have P2 := Lib.hid (fun W => CP.out a2 hb.2.2.1 W)
      have P3 := Lib.hid (fun W => CP.out a4 hb.2.2.2.1 W)
      have P4 := Lib.hid (fun W => CP.out a5 hb.2.2.2.2 W)
      have P5 := Lib.hid (fun W => CP.out s hs2 W)
      generalize plainS a0 = q0 at HR S0 P0
      generalize plainS a1 = q1 at HR S1 P1
      generalize plainS a2 = q2 at HR S2 P2
      generalize plainS a4 = q3 at HR S3 P3
      generalize plainS a5 = q4 at HR S4 P4
      generalize plainS s = q5 at HR S5 P5
      clear hs hb hs2 CP CO BD R0 R1
      have x0 := X.out.cell (j := 0) rfl
      have x1 := X.out.cell (j := 1) rfl
      have x2 := X.out.cell (j := 2) rfl
      have x3 := X.out.cell (j := 3) rfl
      have x4 := X.out.cell (j := 4) rfl
      have x5 := X.out.cell (j := 5) rfl
      obtain ⟨r1, hr1⟩ : ∃ r, r = [97, 116, 32] ++ q0 := ⟨_, rfl⟩
      have lr1 : r1.length ≤ 5 := by rw [hr1]; simp only [List.length_append, List.length_cons, List.length_nil]; have := S0.out; have := S1.out; have := S2.out; have := S3.out; have := S4.out; have := S5.out; omega
      have cr1 := str_add [97, 116, 32] q0 (by (try simp only [List.length_cons, List.length_nil]); have := S0.out; have := S1.out; have := S2.out; have := S3.out; have := S4.out; have := S5.out; omega)
      rw [← hr1] at cr1
      have HRr1 := Lib.hid hr1
      clear hr1; obtain ⟨r2, hr2⟩ : ∃ r, r = r1 ++ [32, 116, 111, 32] := ⟨_, rfl⟩
      have lr2 : r2.length ≤ 9 := by rw [hr2]; simp only [List.length_append, List.length_cons, List.length_nil]; have := S0.out; have := S1.out; have := S2.out; have := S3.out; have := S4.out; have := S5.out; omega
      have cr2 := str_add r1 [32, 116, 111, 32] (by (try simp only [List.length_cons, List.length_nil]); have := S0.out; have := S1.out; have := S2.out; have := S3.out; have := S4.out; have := S5.out; omega)
      rw [← hr2] at cr2
      have HRr2 := Lib.hid hr2
      clear hr2; obtain ⟨r3, hr3⟩ : ∃ r, r = r2 ++ q1 := ⟨_, rfl⟩
      have lr3 : r3.length ≤ 11 := by rw [hr3]; simp only [List.length_append]; have := S0.out; have := S1.out; have := S2.out; have := S3.out; have := S4.out; have := S5.out; omega
      have cr3 := str_add r2 q1 (by (try simp only [List.length_cons, List.length_nil]); have := S0.out; have := S1.out; have := S2.out; have := S3.out; have := S4.out; have := S5.out; omega)
      rw [← hr3] at cr3
      have HRr3 := Lib.hid hr3
      clear hr3; obtain ⟨r4, hr4⟩ : ∃ r, r = r3 ++ [32, 102, 114, 111, 109, 32] := ⟨_, rfl⟩
      have lr4 : r4.length ≤ 17 := by rw [hr4]; simp only [List.length_append, List.length_cons, List.length_nil]; have := S0.out; have := S1.out; have := S2.out; have := S3.out; have := S4.out; have := S5.out; omega
      have cr4 := str_add r3 [32, 102, 114, 111, 109, 32] (by (try simp only [List.length_cons, List.length_nil]); have := S0.out; have := S1.out; have := S2.out; have := S3.out; have := S4.out; have := S5.out; omega)
      rw [← hr4] at cr4
      have HRr4 := Lib.hid hr4
      clear hr4; obtain ⟨r5, hr5⟩ : ∃ r, r = r4 ++ q2 := ⟨_, rfl⟩
      have lr5 : r5.length ≤ 19 := by rw [hr5]; simp only [List.length_append]; have := S0.out; have := S1.out; have := S2.out; have := S3.out; have := S4.out; have := S5.out; omega
      have cr5 := str_add r4 q2 (by (try simp only [List.length_cons, List.length_nil]); have := S0.out; have := S1.out; have := S2.out; have := S3.out; have := S4.out; have := S5.out; omega)
      rw [← hr5] at cr5
      have HRr5 := Lib.hid hr5
      clear hr5; obtain ⟨r6, hr6⟩ : ∃ r, r = r5 ++ [32, 107, 105, 110, 100, 32] := ⟨_, rfl⟩
      have lr6 : r6.length ≤ 25 := by rw [hr6]; simp only [List.length_append, List.length_cons, List.length_nil]; have := S0.out; have := S1.out; have := S2.out; have := S3.out; have := S4.out; have := S5.out; omega
      have cr6 := str_add r5 [32, 107, 105, 110, 100, 32] (by (try simp only [List.length_cons, List.length_nil]); have := S0.out; have := S1.out; have := S2.out; have := S3.out; have := S4.out; have := S5.out; omega)
      rw [← hr6] at cr6
      have HRr6 := Lib.hid hr6
      clear hr6; obtain ⟨r7, hr7⟩ : ∃ r, r = r6 ++ q3 := ⟨_, rfl⟩
      have lr7 : r7.length ≤ 27 := by rw [hr7]; simp only [List.length_append]; have := S0.out; have := S1.out; have := S2.out; have := S3.out; have := S4.out; have := S5.out; omega
      have cr7 := str_add r6 q3 (by (try simp only [List.length_cons, List.length_nil]); have := S0.out; have := S1.out; have := S2.out; have := S3.out; have := S4.out; have := S5.out; omega)
      rw [← hr7] at cr7
      have HRr7 := Lib.hid hr7
      clear hr7; obtain ⟨r8, hr8⟩ : ∃ r, r = r7 ++ [32, 100, 97, 116, 97, 32] := ⟨_, rfl⟩
      have lr8 : r8.length ≤ 33 := by rw [hr8]; simp only [List.length_append, List.length_cons, List.length_nil]; have := S0.out; have := S1.out; have := S2.out; have := S3.out; have := S4.out; have := S5.out; omega
      have cr8 := str_add r7 [32, 100, 97, 116, 97, 32] (by (try simp only [List.length_cons, List.length_nil]); have := S0.out; have := S1.out; have := S2.out; have := S3.out; have := S4.out; have := S5.out; omega)
      rw [← hr8] at cr8
      have HRr8 := Lib.hid hr8
      clear hr8; obtain ⟨r9, hr9⟩ : ∃ r, r = r8 ++ q4 := ⟨_, rfl⟩
      have lr9 : r9.length ≤ 35 := by rw [hr9]; simp only [List.length_append]; have := S0.out; have := S1.out; have := S2.out; have := S3.out; have := S4.out; have := S5.out; omega
      have cr9 := str_add r8 q4 (by (try simp only [List.length_cons, List.length_nil]); have := S0.out; have := S1.out; have := S2.out; have := S3.out; have := S4.out; have := S5.out; omega)
      rw [← hr9] at cr9
      have HRr9 := Lib.hid hr9
      clear hr9; obtain ⟨r10, hr10⟩ : ∃ r, r = r9 ++ [32, 116, 104, 101, 110, 32] := ⟨_, rfl⟩
      have lr10 : r10.length ≤ 41 := by rw [hr10]; simp only [List.length_append, List.length_cons, List.length_nil]; have := S0.out; have := S1.out; have := S2.out; have := S3.out; have := S4.out; have := S5.out; omega
      have cr10 := str_add r9 [32, 116, 104, 101, 110, 32] (by (try simp only [List.length_cons, List.length_nil]); have := S0.out; have := S1.out; have := S2.out; have := S3.out; have := S4.out; have := S5.out; omega)
      rw [← hr10] at cr10
      have HRr10 := Lib.hid hr10
      clear hr10; obtain ⟨r11, hr11⟩ : ∃ r, r = r10 ++ q5 := ⟨_, rfl⟩
      have lr11 : r11.length ≤ 43 := by rw [hr11]; simp only [List.length_append]; have := S0.out; have := S1.out; have := S2.out; have := S3.out; have := S4.out; have := S5.out; omega
      have cr11 := str_add r10 q5 (by (try simp only [List.length_cons, List.length_nil]); have := S0.out; have := S1.out; have := S2.out; have := S3.out; have := S4.out; have := S5.out; omega)
      rw [← hr11] at cr11
      have HRr11 := Lib.hid hr11
      clear hr11
      have HRR := Lib.hid (show (⟨r11.toArray⟩ : ByteArray) = ⟨res.toArray⟩ by rw [HR.out, HRr11.out, HRr10.out, HRr9.out, HRr8.out, HRr7.out, HRr6.out, HRr5.out, HRr4.out, HRr3.out, HRr2.out, HRr1.out])
      clear lr1 lr2 lr3 lr4 lr5 lr6 lr7 lr8 lr9 lr10 lr11
      go_wp2_with fail
      refine region_qw (by kernel_rfl) (by kernel_rfl) ?_; refine qWalk_step ?_; intro K hK; go_simp; apply Exists.intro; refine And.intro ?_ ?_
      · intro w1 hw1
        try go_simp
        try rfl
      try go_simp
      refine hK _ ?_; clear hK K; refine qWalk_step ?_; intro K hK; go_simp; apply Exists.intro; refine And.intro ?_ ?_
      · intro w1 hw1
        obtain ⟨hc, hf, hz⟩ := hw1.facts
        try simp at hz
        try go_simp
        try rfl
      try go_simp
      refine hK _ ?_; clear hK K; refine qWalk_step ?_; intro K hK; go_simp; apply Exists.intro; refine And.intro ?_ ?_
      · intro w1 hw1
        try go_simp
        exact up_call hw1 (P0.out _)
      try go_simp
      refine hK _ ?_; clear hK K; refine qWalk_step ?_; intro K hK; go_simp; apply Exists.intro; refine And.intro ?_ ?_
      · intro w1 hw1
        try go_simp
        try rfl
      try go_simp
      refine hK _ ?_; clear hK K; refine qWalk_step ?_; intro K hK; go_simp; apply Exists.intro; refine And.intro ?_ ?_
      · intro w1 hw1
        try go_simp
        try rfl
      try go_simp
      refine hK _ ?_; clear hK K; refine qWalk_step ?_; intro K hK; go_simp; apply Exists.intro; refine And.intro ?_ ?_
      · intro w1 hw1
        try go_simp
        try rfl
      try go_simp
      refine hK _ ?_; clear hK K; refine qWalk_step ?_; intro K hK; go_simp; apply Exists.intro; refine And.intro ?_ ?_
      · intro w1 hw1
        obtain ⟨hc, hf, hz⟩ := hw1.facts
        try simp at hz
        try go_simp
        try rfl
      try go_simp
      refine hK _ ?_; clear hK K; refine qWalk_step ?_; intro K hK; go_simp; apply Exists.intro; refine And.intro ?_ ?_
      · intro w1 hw1
        try go_simp
        exact up_call hw1 (P1.out _)
      try go_simp
      refine hK _ ?_; clear hK K; refine qWalk_step ?_; intro K hK; go_simp; apply Exists.intro; refine And.intro ?_ ?_
      · intro w1 hw1
        try go_simp
        try rfl
      try go_simp
      refine hK _ ?_; clear hK K; refine qWalk_step ?_; intro K hK; go_simp; apply Exists.intro; refine And.intro ?_ ?_
      · intro w1 hw1
        try go_simp
        try rfl
      try go_simp
      refine hK _ ?_; clear hK K; refine qWalk_step ?_; intro K hK; go_simp; apply Exists.intro; refine And.intro ?_ ?_
      · intro w1 hw1
        try go_simp
        try rfl
      try go_simp
      refine hK _ ?_; clear hK K; refine qWalk_step ?_; intro K hK; go_simp; apply Exists.intro; refine And.intro ?_ ?_
      · intro w1 hw1
        obtain ⟨hc, hf, hz⟩ := hw1.facts
        try simp at hz
        try go_simp
        try rfl
      try go_simp
      refine hK _ ?_; clear hK K; refine qWalk_step ?_; intro K hK; go_simp; apply Exists.intro; refine And.intro ?_ ?_
      · intro w1 hw1
        try go_simp
        exact up_call hw1 (P2.out _)
      try go_simp
      refine hK _ ?_; clear hK K; refine qWalk_step ?_; intro K hK; go_simp; apply Exists.intro; refine And.intro ?_ ?_
      · intro w1 hw1
        try go_simp
        try rfl
      try go_simp
      refine hK _ ?_; clear hK K; refine qWalk_step ?_; intro K hK; go_simp; apply Exists.intro; refine And.intro ?_ ?_
      · intro w1 hw1
        try go_simp
        try rfl
      try go_simp
      refine hK _ ?_; clear hK K; refine qWalk_step ?_; intro K hK; go_simp; apply Exists.intro; refine And.intro ?_ ?_
      · intro w1 hw1
        try go_simp
        try rfl
      try go_simp
      refine hK _ ?_; clear hK K; refine qWalk_step ?_; intro K hK; go_simp; apply Exists.intro; refine And.intro ?_ ?_
      · intro w1 hw1
        obtain ⟨hc, hf, hz⟩ := hw1.facts
        try simp at hz
        try go_simp
        try rfl
      try go_simp
      refine hK _ ?_; clear hK K; refine qWalk_step ?_; intro K hK; go_simp; apply Exists.intro; refine And.intro ?_ ?_
      · intro w1 hw1
        try go_simp
        exact up_call hw1 (P3.out _)
      try go_simp
      refine hK _ ?_; clear hK K; refine qWalk_step ?_; intro K hK; go_simp; apply Exists.intro; refine And.intro ?_ ?_
      · intro w1 hw1
        try go_simp
        try rfl
      try go_simp
      refine hK _ ?_; clear hK K; refine qWalk_step ?_; intro K hK; go_simp; apply Exists.intro; refine And.intro ?_ ?_
      · intro w1 hw1
        try go_simp
        try rfl
      try go_simp
      refine hK _ ?_; clear hK K; refine qWalk_step ?_; intro K hK; go_simp; apply Exists.intro; refine And.intro ?_ ?_
      · intro w1 hw1
        try go_simp
        try rfl
      try go_simp
      refine hK _ ?_; clear hK K; refine qWalk_step ?_; intro K hK; go_simp; apply Exists.intro; refine And.intro ?_ ?_
      · intro w1 hw1
        obtain ⟨hc, hf, hz⟩ := hw1.facts
        try simp at hz
        try go_simp
        try rfl
      try go_simp
      refine hK _ ?_; clear hK K; refine qWalk_step ?_; intro K hK; go_simp; apply Exists.intro; refine And.intro ?_ ?_
      · intro w1 hw1
        try go_simp
        exact up_call hw1 (P4.out _)
      try go_simp
      refine hK _ ?_; clear hK K; refine qWalk_step ?_; intro K hK; go_simp; apply Exists.intro; refine And.intro ?_ ?_
      · intro w1 hw1
        try go_simp
        try rfl
      try go_simp
      refine hK _ ?_; clear hK K; refine qWalk_step ?_; intro K hK; go_simp; apply Exists.intro; refine And.intro ?_ ?_
      · intro w1 hw1
        try go_simp
        try rfl
      try go_simp
      refine hK _ ?_; clear hK K; refine qWalk_step ?_; intro K hK; go_simp; apply Exists.intro; refine And.intro ?_ ?_
      · intro w1 hw1
        try go_simp
        try rfl
      try go_simp
      refine hK _ ?_; clear hK K; refine qWalk_step ?_; intro K hK; go_simp; apply Exists.intro; refine And.intro ?_ ?_
      · intro w1 hw1
        obtain ⟨hc, hf, hz⟩ := hw1.facts
        try simp at hz
        try go_simp
        try rfl
      try go_simp
      refine hK _ ?_; clear hK K; refine qWalk_step ?_; intro K hK; go_simp; apply Exists.intro; refine And.intro ?_ ?_
      · intro w1 hw1
        try go_simp
        exact up_call hw1 (P5.out _)
      try go_simp
      refine hK _ ?_; clear hK K; refine qWalk_step ?_; intro K hK; go_simp; apply Exists.intro; refine And.intro ?_ ?_
      · intro w1 hw1
        try go_simp
        try rfl
      try go_simp
      refine hK _ ?_; clear hK K; refine qWalk_step ?_; intro K hK; go_simp; apply Exists.intro; refine And.intro ?_ ?_
      · intro w1 hw1
        try go_simp
        try rfl
      try go_simp
      refine hK _ ?_; clear hK K; refine qWalk_nil ?_; intro wF uF
      have UF := Lib.hid ((U1.out.alloc _).trans uF)
      clear uF; go_wp2; go_ret
      exact ⟨ret_str HRR.out, UF.out⟩
end Go.Proofs.YtlkmhmiamdbhcaaDoor

namespace Go.Proofs.YtlkmhmiamdbhcaaDoor
set_option maxRecDepth 100000
open Go.RowKit
/-- The world with numbers laid one behind the other. -/
def putF (w : World) (g o : Nat) (f : Nat → Int) : Nat → World
  | 0 => w
  | j + 1 => (putF w g o f j).setCell ⟨g, o + j, none⟩ (.int .i64 (f j))
theorem putF_other (w : World) (g o : Nat) (f : Nat → Int) (b p : Nat) : ∀ s : Nat, (b ≠ g ∨ p < o ∨ o + s ≤ p) → (putF w g o f s).cell? ⟨b, p, none⟩ = w.cell? ⟨b, p, none⟩
  | 0, _ => rfl
  | s + 1, h => by rw [putF, World.cell?_setCell_other _ _ _ _ (addr_ne (by omega)), putF_other w g o f b p s (by omega)]
theorem putF_frozen (w : World) (g o : Nat) (f : Nat → Int) (a : Addr) : ∀ s : Nat, (putF w g o f s).frozen? a = w.frozen? a
  | 0 => rfl
  | s + 1 => by
    have := putF_frozen w g o f a s
    simpa [putF, go_sem] using this
theorem putF_size (w : World) (g o : Nat) (f : Nat → Int) : ∀ s : Nat, (putF w g o f s).heap.size = w.heap.size
  | 0 => rfl
  | s + 1 => by
    have := putF_size w g o f s
    simpa [putF] using this
theorem putF_at (w : World) (g o : Nat) (f : Nat → Int) : ∀ s : Nat, (∀ j, j < s → ∃ v, w.cell? ⟨g, o + j, none⟩ = some v) → ∀ j, j < s → (putF w g o f s).cell? ⟨g, o + j, none⟩ = some (.int .i64 (f j))
  | 0, _, j, hj => absurd hj (by omega)
  | s + 1, h, j, hj => by
    rw [putF]
    by_cases e : j = s
    · subst e
      obtain ⟨v, hv⟩ := h j (by omega)
      exact World.cell?_setCell_same _ _ _ ((putF_other w g o f g (o + j) j (by omega)).trans hv)
    · rw [World.cell?_setCell_other _ _ _ _ (addr_ne (by omega))]
      exact putF_at w g o f s (fun i hi => h i (by omega)) j (by omega)
theorem Up.putF {a w : World} {g : Nat} (h : Up a w) (hg : a.heap.size ≤ g) (o : Nat) (f : Nat → Int) : ∀ s : Nat, Up a (Go.Proofs.YtlkmhmiamdbhcaaDoor.putF w g o f s)
  | 0 => h
  | s + 1 => (Up.putF h hg o f s).setCell hg _
def ZRec : Array Value := #[.int .i64 0, .int .i64 0, .int .i64 0, .int .i64 0, .int .i64 0, .int .i64 0, .int .i64 0]
theorem IntsOwn.zr (w : World) : IntsOwn (w.alloc (.cells ZRec 39)) w.heap.size 7 := by
  have hh := heap_alloc_new w (.cells ZRec 39)
  refine ⟨by simp, fun j hj => ⟨⟨0, ?_⟩, ?_⟩⟩
  · rw [cell_of_row _ _ j _ _ _ hh]
    have h : j = 0 ∨ j = 1 ∨ j = 2 ∨ j = 3 ∨ j = 4 ∨ j = 5 ∨ j = 6 := by omega
    rcases h with rfl | rfl | rfl | rfl | rfl | rfl | rfl <;> rfl
  · unfold World.frozen?
    rw [hh]; simp
theorem IntsOwn.upN {w : World} {g g' N o s : Nat} {f : Nat → Int} (h : IntsOwn w g N) (hne : g ≠ g') : IntsOwn (Go.Proofs.YtlkmhmiamdbhcaaDoor.putF w g' o f s) g N := by
  refine ⟨by rw [putF_size]; exact h.1, fun j hj => ?_⟩; obtain ⟨⟨z, hz⟩, hf⟩ := h.2 j hj
  exact ⟨⟨z, (putF_other _ _ _ _ _ _ _ (.inl hne)).trans hz⟩, (putF_frozen _ _ _ _ _ _).trans hf⟩
set_option maxHeartbeats 1000000 in
theorem toRec_any (r : Rec) (w : World) :
    Calls Tryd.prog 15 #[r.v] w fun x w' => x = .returned r.v ∧ Up w w' := by
  have CE := Lib.hid (fun W => toEvt_any r.ev W)
  unfold Rec.v; obtain ⟨⟨t, to, fr, sq, kd, dt⟩, s⟩ := r; unfold Evt.v at CE; dsimp only at CE ⊢
  go_enter Tryd.func15, Tryd.ntmps15
  go_wp2_with fail
  have U0 := Lib.hid ((((Up.refl w).alloc (.cells #[.int .i64 t, .int .i64 to, .int .i64 fr, .int .i64 sq, .int .i64 kd, .int .i64 dt, .int .i64 s] 35)).alloc (.cells ZRec 39)).alloc (.cells ZRec 39))
  have c6 : (((w.alloc (.cells #[.int .i64 t, .int .i64 to, .int .i64 fr, .int .i64 sq, .int .i64 kd, .int .i64 dt, .int .i64 s] 35)).alloc (.cells ZRec 39)).alloc (.cells ZRec 39)).cell? ⟨w.heap.size, 6, none⟩ = some (.int .i64 s) := by
    refine (((Up.refl (w.alloc (.cells #[.int .i64 t, .int .i64 to, .int .i64 fr, .int .i64 sq, .int .i64 kd, .int .i64 dt, .int .i64 s] 35))).alloc (.cells ZRec 39)).alloc (.cells ZRec 39)).cells _ _ (by simp) |>.trans ?_
    rw [cell_of_row _ _ 6 _ _ _ (heap_alloc_new _ _)]
    rfl
  have i1 := (IntsOwn.zr (w.alloc (.cells #[.int .i64 t, .int .i64 to, .int .i64 fr, .int .i64 sq, .int .i64 kd, .int .i64 dt, .int .i64 s] 35))).up ((Up.refl _).alloc (.cells ZRec 39))
  have i2 := IntsOwn.zr ((w.alloc (.cells #[.int .i64 t, .int .i64 to, .int .i64 fr, .int .i64 sq, .int .i64 kd, .int .i64 dt, .int .i64 s] 35)).alloc (.cells ZRec 39))
  simp only [World.size_alloc] at i1 i2; unfold ZRec at U0 c6 i1 i2
  generalize hW : ((w.alloc (.cells #[.int .i64 t, .int .i64 to, .int .i64 fr, .int .i64 sq, .int .i64 kd, .int .i64 dt, .int .i64 s] 35)).alloc (.cells #[.int .i64 0, .int .i64 0, .int .i64 0, .int .i64 0, .int .i64 0, .int .i64 0, .int .i64 0] 39)).alloc (.cells #[.int .i64 0, .int .i64 0, .int .i64 0, .int .i64 0, .int .i64 0, .int .i64 0, .int .i64 0] 39) = W at *
  clear hW; refine (CE.out _).mono ?_; rintro x wA ⟨rfl, uA⟩
  have UA := Lib.hid (U0.out.trans uA)
  have c6 := (uA.cells _ _ (Nat.lt_of_lt_of_le (show w.heap.size < w.heap.size + 1 by omega) (Nat.le_of_lt i1.1))).trans c6
  have I1 := Lib.hid (i1.up uA)
  have I2 := Lib.hid (i2.up uA)
  have hlt1 := I1.out.1
  have hlt2 := I2.out.1
  clear i1 i2 uA
  have K2 := Lib.hid (putF_at wA (w.heap.size + 1 + 1) 0 ([t, to, fr, sq, kd, dt, s].getD · 0) 7 (fun j hj => by obtain ⟨⟨z, hz⟩, _⟩ := I2.out.2 (0 + j) (by omega); exact ⟨_, hz⟩))
  have IE := Lib.hid (I1.out.upN (o := 0) (f := ([t, to, fr, sq, kd, dt, s].getD · 0)) (s := 7) (g' := w.heap.size + 1 + 1) (by omega))
  have K1 := Lib.hid (putF_at (putF wA (w.heap.size + 1 + 1) 0 ([t, to, fr, sq, kd, dt, s].getD · 0) 7) (w.heap.size + 1) 0 ([t, to, fr, sq, kd, dt, s].getD · 0) 7 (fun j hj => by obtain ⟨⟨z, hz⟩, _⟩ := IE.out.2 (0 + j) (by omega); exact ⟨_, hz⟩))
  have UE := Lib.hid ((UA.out.putF (g := w.heap.size + 1 + 1) (by omega) 0 ([t, to, fr, sq, kd, dt, s].getD · 0) 7).putF (g := w.heap.size + 1) (by omega) 0 ([t, to, fr, sq, kd, dt, s].getD · 0) 7)
  obtain ⟨k0, k1, k2, k3, k4, k5, k6⟩ := And.intro (K2.out 0 (by omega)) (And.intro (K2.out 1 (by omega)) (And.intro (K2.out 2 (by omega)) (And.intro (K2.out 3 (by omega)) (And.intro (K2.out 4 (by omega)) (And.intro (K2.out 5 (by omega)) (K2.out 6 (by omega))))))); obtain ⟨l0, l1, l2, l3, l4, l5, l6⟩ := And.intro (K1.out 0 (by omega)) (And.intro (K1.out 1 (by omega)) (And.intro (K1.out 2 (by omega)) (And.intro (K1.out 3 (by omega)) (And.intro (K1.out 4 (by omega)) (And.intro (K1.out 5 (by omega)) (K1.out 6 (by omega))))))); simp only [putF, Nat.zero_add, List.getD_cons_zero, List.getD_cons_succ] at k0 k1 k2 k3 k4 k5 k6 l0 l1 l2 l3 l4 l5 l6 UE
  obtain ⟨⟨⟨a0, m0⟩, f0⟩, ⟨⟨a1, m1⟩, f1⟩, ⟨⟨a2, m2⟩, f2⟩, ⟨⟨a3, m3⟩, f3⟩, ⟨⟨a4, m4⟩, f4⟩, ⟨⟨a5, m5⟩, f5⟩, ⟨⟨a6, m6⟩, f6⟩⟩ := And.intro (I2.out.2 0 (by omega)) (And.intro (I2.out.2 1 (by omega)) (And.intro (I2.out.2 2 (by omega)) (And.intro (I2.out.2 3 (by omega)) (And.intro (I2.out.2 4 (by omega)) (And.intro (I2.out.2 5 (by omega)) (I2.out.2 6 (by omega))))))); obtain ⟨⟨⟨b0, n0⟩, g0⟩, ⟨⟨b1, n1⟩, g1⟩, ⟨⟨b2, n2⟩, g2⟩, ⟨⟨b3, n3⟩, g3⟩, ⟨⟨b4, n4⟩, g4⟩, ⟨⟨b5, n5⟩, g5⟩, ⟨⟨b6, n6⟩, g6⟩⟩ := And.intro (I1.out.2 0 (by omega)) (And.intro (I1.out.2 1 (by omega)) (And.intro (I1.out.2 2 (by omega)) (And.intro (I1.out.2 3 (by omega)) (And.intro (I1.out.2 4 (by omega)) (And.intro (I1.out.2 5 (by omega)) (I1.out.2 6 (by omega)))))))
  clear K1 K2 IE I1 I2 U0 UA
  go_wp2_with fail
  exact bodyPost_ret (v := .agg #[.int .i64 t, .int .i64 to, .int .i64 fr, .int .i64 sq, .int .i64 kd, .int .i64 dt, .int .i64 s]) (by simp [results, Tryd.results15, go_sem, l0, l1, l2, l3, l4, l5, l6]) rfl ⟨rfl, UE.out⟩
end Go.Proofs.YtlkmhmiamdbhcaaDoor

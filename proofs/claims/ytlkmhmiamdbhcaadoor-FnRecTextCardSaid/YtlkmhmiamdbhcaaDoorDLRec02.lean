/-
  What spec.RecText returns, in one sentence: the record's words and numbers, nothing for what is no record; for every record.
  A record's text gives its numbers back, in one sentence: two valid records of one text have the same numbers but for the sequence number; for every two records.
  What eqEvtEvt, szEvtEvtS and eqEvtEvtS return, in one sentence: whether the events are the same, what is left of a size, whether two lists are the same; for all that lie in memory.
  Blocks of events of the call's own, in one sentence: what the laying of an event's six cells keeps and what it gives; no condition is made.
  What markEvtEvtS and heldEvtEvtS do, in one sentence: the one lays numbers in a row into a list of its own, the other finds them there; for every list that lies in memory.
  Component states as values, in one sentence: three numbers, and the bounds that make one valid; no condition is made.
  An event's block of the call's own, in one sentence: its six cells, none frozen, kept wherever another block alone is written.
-/
import Derived.Test.YtlkmhmiamdbhcaaDoorDLRec01
namespace Go.Proofs.YtlkmhmiamdbhcaaDoor
set_option maxRecDepth 100000
open Go.RowKit
/-- A record's text. -/
def recS (e : Evt) (s : Int) : List UInt8 := if (okB e 4 && inB s 0 96) = true then [97, 116, 32] ++ plainS e.t ++ [32, 116, 111, 32] ++ plainS e.to ++ [32, 102, 114, 111, 109, 32] ++ plainS e.fr ++ [32, 107, 105, 110, 100, 32] ++ plainS e.kd ++ [32, 100, 97, 116, 97, 32] ++ plainS e.dt ++ [32, 116, 104, 101, 110, 32] ++ plainS s else []
theorem dec_short (u : Nat) (h : u < 100) : (Lib.decDigits u).length ≤ 2 := by
  by_cases h1 : u < 10
  · rw [Lib.decDigits, dif_pos h1]; simp
  · rw [Lib.decDigits, dif_neg h1, Lib.decDigits, dif_pos (by omega)]; simp
theorem plain_short (n : Int) (h : n < 100) : (plainS n).length ≤ 2 := by
  unfold plainS
  split
  · simp
  · exact dec_short _ (by omega)
set_option maxHeartbeats 3000000 in
theorem specRec_any (e : Evt) (s : Int) (w : World) : Calls Tryd.prog 14 #[.agg #[.int .i64 e.t, .int .i64 e.to, .int .i64 e.fr, .int .i64 e.sq, .int .i64 e.kd, .int .i64 e.dt, .int .i64 s]] w fun x w' => x = .returned (.string ⟨(recS e s).toArray⟩) ∧ Up w w' := by
  have CO := fun W => specOk_any e 4 W
  have R0 := Lib.hid (show (okB e 4 && inB s 0 96) = false → (⟨#[]⟩ : ByteArray) = ⟨(recS e s).toArray⟩ from fun h => by unfold recS; rw [h]; rfl)
  have R1 := Lib.hid (show (okB e 4 && inB s 0 96) = true → recS e s = [97, 116, 32] ++ plainS e.t ++ [32, 116, 111, 32] ++ plainS e.to ++ [32, 102, 114, 111, 109, 32] ++ plainS e.fr ++ [32, 107, 105, 110, 100, 32] ++ plainS e.kd ++ [32, 100, 97, 116, 97, 32] ++ plainS e.dt ++ [32, 116, 104, 101, 110, 32] ++ plainS s from fun h => if_pos h)
  have BD := Lib.hid (show okB e 4 = true → e.t < 100 ∧ e.to < 100 ∧ e.fr < 100 ∧ e.kd < 100 ∧ e.dt < 100 from fun h => by
    unfold okB at h; simp only [Bool.and_eq_true, inB_iff] at h
    omega)
  generalize recS e s = res at R0 R1 ⊢
  generalize okB e 4 = b1 at CO R0 R1 BD
  obtain ⟨a0, a1, a2, a3, a4, a5⟩ := e; unfold Evt.v at CO; dsimp only at CO R1 BD ⊢
  have CO := Lib.hid CO
  have CP := Lib.hid (fun (n : Int) (h : n < 100) W => plain_any n (by omega) W)
  have X := Lib.hid (Blq.new w #[.int .i64 a0, .int .i64 a1, .int .i64 a2, .int .i64 a3, .int .i64 a4, .int .i64 a5, .int .i64 s] 39)
  have U := Lib.hid ((Up.refl w).alloc (.cells #[.int .i64 a0, .int .i64 a1, .int .i64 a2, .int .i64 a3, .int .i64 a4, .int .i64 a5, .int .i64 s] 39))
  go_enter Tryd.func14, Tryd.ntmps14
  go_wp2_with fail
  refine (CO.out _).mono ?_; rintro x w1 ⟨rfl, u1⟩
  have U1 := Lib.hid (U.out.trans u1)
  replace X := Lib.hid (X.out.up u1)
  clear u1
  cases b1
  · go_wp2
    go_ret
    exact ⟨ret_str (R0.out (by first | trivial | rfl)), U1.out⟩
  · have x6 := X.out.cell (j := 6) rfl
    have lx := X.out.lt
    go_wp2_with fail
    refine (l1In_any s 0 96 _).mono ?_; rintro x w2 ⟨rfl, hww⟩; subst hww
    cases hs : inB s 0 96
    · have HR := Lib.hid (R0.out (by rw [hs]; rfl))
      clear hs; go_wp2; go_ret
      exact ⟨ret_str HR.out, U1.out⟩
    · have HR := Lib.hid (R1.out (by rw [hs]; rfl))
      have hb := BD.out (by first | trivial | rfl)
      have hs2 : s < 100 := by rw [inB_iff] at hs; omega
      have S0 := Lib.hid (plain_short a0 hb.1)
      have S1 := Lib.hid (plain_short a1 hb.2.1)
      have S2 := Lib.hid (plain_short a2 hb.2.2.1)
      have S3 := Lib.hid (plain_short a4 hb.2.2.2.1)
      have S4 := Lib.hid (plain_short a5 hb.2.2.2.2)
      have S5 := Lib.hid (plain_short s hs2)
      have P0 := Lib.hid (fun W => CP.out a0 hb.1 W)
      have P1 := Lib.hid (fun W => CP.out a1 hb.2.1 W)
      have P2 := Lib.hid (fun W => CP.out a2 hb.2.2.1 W)
      have P3 := Lib.hid (fun W => CP.out a4 hb.2.2.2.1 W)
      have P4 := Lib.hid (fun W => CP.out a5 hb.2.2.2.2 W)
      have P5 := Lib.hid (fun W => CP.out s hs2 W)
      generalize plainS a0 = q0 at HR S0 P0
      generalize plainS a1 = q1 at HR S1 P1
      generalize plainS a2 = q2 at HR S2 P2
      generalize plainS a4 = q3 at HR S3 P3
      generalize plainS a5 = q4 at HR S4 P4
      generalize plainS s = q5 at HR S5 P5
      clear hs hb hs2 CP CO BD R0 R1
      have x0 := X.out.cell (j := 0) rfl
      have x1 := X.out.cell (j := 1) rfl
      have x2 := X.out.cell (j := 2) rfl
      have x3 := X.out.cell (j := 3) rfl
      have x4 := X.out.cell (j := 4) rfl
      have x5 := X.out.cell (j := 5) rfl
      obtain ⟨r1, hr1⟩ : ∃ r, r = [97, 116, 32] ++ q0 := ⟨_, rfl⟩
      have lr1 : r1.length ≤ 5 := by rw [hr1]; simp only [List.length_append, List.length_cons, List.length_nil]; have := S0.out; have := S1.out; have := S2.out; have := S3.out; have := S4.out; have := S5.out; omega
      have cr1 := str_add [97, 116, 32] q0 (by (try simp only [List.length_cons, List.length_nil]); have := S0.out; have := S1.out; have := S2.out; have := S3.out; have := S4.out; have := S5.out; omega)
      rw [← hr1] at cr1
      have HRr1 := Lib.hid hr1
      clear hr1; obtain ⟨r2, hr2⟩ : ∃ r, r = r1 ++ [32, 116, 111, 32] := ⟨_, rfl⟩
      have lr2 : r2.length ≤ 9 := by rw [hr2]; simp only [List.length_append, List.length_cons, List.length_nil]; have := S0.out; have := S1.out; have := S2.out; have := S3.out; have := S4.out; have := S5.out; omega
      have cr2 := str_add r1 [32, 116, 111, 32] (by (try simp only [List.length_cons, List.length_nil]); have := S0.out; have := S1.out; have := S2.out; have := S3.out; have := S4.out; have := S5.out; omega)
      rw [← hr2] at cr2
      have HRr2 := Lib.hid hr2
      clear hr2; obtain ⟨r3, hr3⟩ : ∃ r, r = r2 ++ q1 := ⟨_, rfl⟩
      have lr3 : r3.length ≤ 11 := by rw [hr3]; simp only [List.length_append]; have := S0.out; have := S1.out; have := S2.out; have := S3.out; have := S4.out; have := S5.out; omega
      have cr3 := str_add r2 q1 (by (try simp only [List.length_cons, List.length_nil]); have := S0.out; have := S1.out; have := S2.out; have := S3.out; have := S4.out; have := S5.out; omega)
      rw [← hr3] at cr3
      have HRr3 := Lib.hid hr3
      clear hr3; obtain ⟨r4, hr4⟩ : ∃ r, r = r3 ++ [32, 102, 114, 111, 109, 32] := ⟨_, rfl⟩
      have lr4 : r4.length ≤ 17 := by rw [hr4]; simp only [List.length_append, List.length_cons, List.length_nil]; have := S0.out; have := S1.out; have := S2.out; have := S3.out; have := S4.out; have := S5.out; omega
      have cr4 := str_add r3 [32, 102, 114, 111, 109, 32] (by (try simp only [List.length_cons, List.length_nil]); have := S0.out; have := S1.out; have := S2.out; have := S3.out; have := S4.out; have := S5.out; omega)
      rw [← hr4] at cr4
      have HRr4 := Lib.hid hr4
      clear hr4; obtain ⟨r5, hr5⟩ : ∃ r, r = r4 ++ q2 := ⟨_, rfl⟩
      have lr5 : r5.length ≤ 19 := by rw [hr5]; simp only [List.length_append]; have := S0.out; have := S1.out; have := S2.out; have := S3.out; have := S4.out; have := S5.out; omega
      have cr5 := str_add r4 q2 (by (try simp only [List.length_cons, List.length_nil]); have := S0.out; have := S1.out; have := S2.out; have := S3.out; have := S4.out; have := S5.out; omega)
      rw [← hr5] at cr5
      have HRr5 := Lib.hid hr5
      clear hr5; obtain ⟨r6, hr6⟩ : ∃ r, r = r5 ++ [32, 107, 105, 110, 100, 32] := ⟨_, rfl⟩
      have lr6 : r6.length ≤ 25 := by rw [hr6]; simp only [List.length_append, List.length_cons, List.length_nil]; have := S0.out; have := S1.out; have := S2.out; have := S3.out; have := S4.out; have := S5.out; omega
      have cr6 := str_add r5 [32, 107, 105, 110, 100, 32] (by (try simp only [List.length_cons, List.length_nil]); have := S0.out; have := S1.out; have := S2.out; have := S3.out; have := S4.out; have := S5.out; omega)
      rw [← hr6] at cr6
      have HRr6 := Lib.hid hr6
      clear hr6; obtain ⟨r7, hr7⟩ : ∃ r, r = r6 ++ q3 := ⟨_, rfl⟩
      have lr7 : r7.length ≤ 27 := by rw [hr7]; simp only [List.length_append]; have := S0.out; have := S1.out; have := S2.out; have := S3.out; have := S4.out; have := S5.out; omega
      have cr7 := str_add r6 q3 (by (try simp only [List.length_cons, List.length_nil]); have := S0.out; have := S1.out; have := S2.out; have := S3.out; have := S4.out; have := S5.out; omega)
      rw [← hr7] at cr7
      have HRr7 := Lib.hid hr7
      clear hr7; obtain ⟨r8, hr8⟩ : ∃ r, r = r7 ++ [32, 100, 97, 116, 97, 32] := ⟨_, rfl⟩
      have lr8 : r8.length ≤ 33 := by rw [hr8]; simp only [List.length_append, List.length_cons, List.length_nil]; have := S0.out; have := S1.out; have := S2.out; have := S3.out; have := S4.out; have := S5.out; omega
      have cr8 := str_add r7 [32, 100, 97, 116, 97, 32] (by (try simp only [List.length_cons, List.length_nil]); have := S0.out; have := S1.out; have := S2.out; have := S3.out; have := S4.out; have := S5.out; omega)
      rw [← hr8] at cr8
      have HRr8 := Lib.hid hr8
      clear hr8; obtain ⟨r9, hr9⟩ : ∃ r, r = r8 ++ q4 := ⟨_, rfl⟩
      have lr9 : r9.length ≤ 35 := by rw [hr9]; simp only [List.length_append]; have := S0.out; have := S1.out; have := S2.out; have := S3.out; have := S4.out; have := S5.out; omega
      have cr9 := str_add r8 q4 (by (try simp only [List.length_cons, List.length_nil]); have := S0.out; have := S1.out; have := S2.out; have := S3.out; have := S4.out; have := S5.out; omega)
      rw [← hr9] at cr9
      have HRr9 := Lib.hid hr9
      clear hr9; obtain ⟨r10, hr10⟩ : ∃ r, r = r9 ++ [32, 116, 104, 101, 110, 32] := ⟨_, rfl⟩
      have lr10 : r10.length ≤ 41 := by rw [hr10]; simp only [List.length_append, List.length_cons, List.length_nil]; have := S0.out; have := S1.out; have := S2.out; have := S3.out; have := S4.out; have := S5.out; omega
      have cr10 := str_add r9 [32, 116, 104, 101, 110, 32] (by (try simp only [List.length_cons, List.length_nil]); have := S0.out; have := S1.out; have := S2.out; have := S3.out; have := S4.out; have := S5.out; omega)
      rw [← hr10] at cr10
      have HRr10 := Lib.hid hr10
      clear hr10; obtain ⟨r11, hr11⟩ : ∃ r, r = r10 ++ q5 := ⟨_, rfl⟩
      have lr11 : r11.length ≤ 43 := by rw [hr11]; simp only [List.length_append]; have := S0.out; have := S1.out; have := S2.out; have := S3.out; have := S4.out; have := S5.out; omega
      have cr11 := str_add r10 q5 (by (try simp only [List.length_cons, List.length_nil]); have := S0.out; have := S1.out; have := S2.out; have := S3.out; have := S4.out; have := S5.out; omega)
      rw [← hr11] at cr11
      have HRr11 := Lib.hid hr11
      clear hr11
      have HRR := Lib.hid (show (⟨r11.toArray⟩ : ByteArray) = ⟨res.toArray⟩ by rw [HR.out, HRr11.out, HRr10.out, HRr9.out, HRr8.out, HRr7.out, HRr6.out, HRr5.out, HRr4.out, HRr3.out, HRr2.out, HRr1.out])
      clear lr1 lr2 lr3 lr4 lr5 lr6 lr7 lr8 lr9 lr10 lr11
      go_wp2_with fail
      refine region_qw (by kernel_rfl) (by kernel_rfl) ?_; refine qWalk_step ?_; intro K hK; go_simp; apply Exists.intro; refine And.intro ?_ ?_
      · intro w1 hw1
        try go_simp
        try rfl
      try go_simp
      refine hK _ ?_; clear hK K; refine qWalk_step ?_; intro K hK; go_simp; apply Exists.intro; refine And.intro ?_ ?_
      · intro w1 hw1
        obtain ⟨hc, hf, hz⟩ := hw1.facts
        try simp at hz
        try go_simp
        try rfl
      try go_simp
      refine hK _ ?_; clear hK K; refine qWalk_step ?_; intro K hK; go_simp; apply Exists.intro; refine And.intro ?_ ?_
      · intro w1 hw1
        try go_simp
        exact up_call hw1 (P0.out _)
      try go_simp
      refine hK _ ?_; clear hK K; refine qWalk_step ?_; intro K hK; go_simp; apply Exists.intro; refine And.intro ?_ ?_
      · intro w1 hw1
        try go_simp
        try rfl
      try go_simp
      refine hK _ ?_; clear hK K; refine qWalk_step ?_; intro K hK; go_simp; apply Exists.intro; refine And.intro ?_ ?_
      · intro w1 hw1
        try go_simp
        try rfl
      try go_simp
      refine hK _ ?_; clear hK K; refine qWalk_step ?_; intro K hK; go_simp; apply Exists.intro; refine And.intro ?_ ?_
      · intro w1 hw1
        try go_simp
        try rfl
      try go_simp
      refine hK _ ?_; clear hK K; refine qWalk_step ?_; intro K hK; go_simp; apply Exists.intro; refine And.intro ?_ ?_
      · intro w1 hw1
        obtain ⟨hc, hf, hz⟩ := hw1.facts
        try simp at hz
        try go_simp
        try rfl
      try go_simp
      refine hK _ ?_; clear hK K; refine qWalk_step ?_; intro K hK; go_simp; apply Exists.intro; refine And.intro ?_ ?_
      · intro w1 hw1
        try go_simp
        exact up_call hw1 (P1.out _)
      try go_simp
      refine hK _ ?_; clear hK K; refine qWalk_step ?_; intro K hK; go_simp; apply Exists.intro; refine And.intro ?_ ?_
      · intro w1 hw1
        try go_simp
        try rfl
      try go_simp
      refine hK _ ?_; clear hK K; refine qWalk_step ?_; intro K hK; go_simp; apply Exists.intro; refine And.intro ?_ ?_
      · intro w1 hw1
        try go_simp
        try rfl
      try go_simp
      refine hK _ ?_; clear hK K; refine qWalk_step ?_; intro K hK; go_simp; apply Exists.intro; refine And.intro ?_ ?_
      · intro w1 hw1
        try go_simp
        try rfl
      try go_simp
      refine hK _ ?_; clear hK K; refine qWalk_step ?_; intro K hK; go_simp; apply Exists.intro; refine And.intro ?_ ?_
      · intro w1 hw1
        obtain ⟨hc, hf, hz⟩ := hw1.facts
        try simp at hz
        try go_simp
        try rfl
      try go_simp
      refine hK _ ?_; clear hK K; refine qWalk_step ?_; intro K hK; go_simp; apply Exists.intro; refine And.intro ?_ ?_
      · intro w1 hw1
        try go_simp
        exact up_call hw1 (P2.out _)
      try go_simp
      refine hK _ ?_; clear hK K; refine qWalk_step ?_; intro K hK; go_simp; apply Exists.intro; refine And.intro ?_ ?_
      · intro w1 hw1
        try go_simp
        try rfl
      try go_simp
      refine hK _ ?_; clear hK K; refine qWalk_step ?_; intro K hK; go_simp; apply Exists.intro; refine And.intro ?_ ?_
      · intro w1 hw1
        try go_simp
        try rfl
      try go_simp
      refine hK _ ?_; clear hK K; refine qWalk_step ?_; intro K hK; go_simp; apply Exists.intro; refine And.intro ?_ ?_
      · intro w1 hw1
        try go_simp
        try rfl
      try go_simp
      refine hK _ ?_; clear hK K; refine qWalk_step ?_; intro K hK; go_simp; apply Exists.intro; refine And.intro ?_ ?_
      · intro w1 hw1
        obtain ⟨hc, hf, hz⟩ := hw1.facts
        try simp at hz
        try go_simp
        try rfl
      try go_simp
      refine hK _ ?_; clear hK K; refine qWalk_step ?_; intro K hK; go_simp; apply Exists.intro; refine And.intro ?_ ?_
      · intro w1 hw1
        try go_simp
        exact up_call hw1 (P3.out _)
      try go_simp
      refine hK _ ?_; clear hK K; refine qWalk_step ?_; intro K hK; go_simp; apply Exists.intro; refine And.intro ?_ ?_
      · intro w1 hw1
        try go_simp
        try rfl
      try go_simp
      refine hK _ ?_; clear hK K; refine qWalk_step ?_; intro K hK; go_simp; apply Exists.intro; refine And.intro ?_ ?_
      · intro w1 hw1
        try go_simp
        try rfl
      try go_simp
      refine hK _ ?_; clear hK K; refine qWalk_step ?_; intro K hK; go_simp; apply Exists.intro; refine And.intro ?_ ?_
      · intro w1 hw1
        try go_simp
        try rfl
      try go_simp
      refine hK _ ?_; clear hK K; refine qWalk_step ?_; intro K hK; go_simp; apply Exists.intro; refine And.intro ?_ ?_
      · intro w1 hw1
        obtain ⟨hc, hf, hz⟩ := hw1.facts
        try simp at hz
        try go_simp
        try rfl
      try go_simp
      refine hK _ ?_; clear hK K; refine qWalk_step ?_; intro K hK; go_simp; apply Exists.intro; refine And.intro ?_ ?_
      · intro w1 hw1
        try go_simp
        exact up_call hw1 (P4.out _)
      try go_simp
      refine hK _ ?_; clear hK K; refine qWalk_step ?_; intro K hK; go_simp; apply Exists.intro; refine And.intro ?_ ?_
      · intro w1 hw1
        try go_simp
        try rfl
      try go_simp
      refine hK _ ?_; clear hK K; refine qWalk_step ?_; intro K hK; go_simp; apply Exists.intro; refine And.intro ?_ ?_
      · intro w1 hw1
        try go_simp
        try rfl
      try go_simp
      refine hK _ ?_; clear hK K; refine qWalk_step ?_; intro K hK; go_simp; apply Exists.intro; refine And.intro ?_ ?_
      · intro w1 hw1
        try go_simp
        try rfl
      try go_simp
      refine hK _ ?_; clear hK K; refine qWalk_step ?_; intro K hK; go_simp; apply Exists.intro; refine And.intro ?_ ?_
      · intro w1 hw1
        obtain ⟨hc, hf, hz⟩ := hw1.facts
        try simp at hz
        try go_simp
        try rfl
      try go_simp
      refine hK _ ?_; clear hK K; refine qWalk_step ?_; intro K hK; go_simp; apply Exists.intro; refine And.intro ?_ ?_
      · intro w1 hw1
        try go_simp
        exact up_call hw1 (P5.out _)
      try go_simp
      refine hK _ ?_; clear hK K; refine qWalk_step ?_; intro K hK; go_simp; apply Exists.intro; refine And.intro ?_ ?_
      · intro w1 hw1
        try go_simp
        try rfl
      try go_simp
      refine hK _ ?_; clear hK K; refine qWalk_step ?_; intro K hK; go_simp; apply Exists.intro; refine And.intro ?_ ?_
      · intro w1 hw1
        try go_simp
        try rfl
      try go_simp
      refine hK _ ?_; clear hK K; refine qWalk_nil ?_; intro wF uF
      have UF := Lib.hid ((U1.out.alloc _).trans uF)
      clear uF; go_wp2; go_ret
      exact ⟨ret_str HRR.out, UF.out⟩
end Go.Proofs.YtlkmhmiamdbhcaaDoor

namespace Go.Proofs.YtlkmhmiamdbhcaaDoor
set_option maxRecDepth 100000
open Go.RowKit
/-- The number that a short numeral stands for. -/
def valS : List UInt8 → Int
  | [a] => if a.toNat = 45 then -1 else (a.toNat : Int) - 48
  | [a, b] => ((a.toNat : Int) - 48) * 10 + ((b.toNat : Int) - 48)
  | _ => 0
theorem ch_nat (u : Nat) (h : u < 10) : (UInt8.ofNat (48 + u)).toNat = 48 + u := by simp; omega
theorem val_plain (n : Int) (h0 : -1 ≤ n) (h1 : n < 100) : valS (plainS n) = n := by
  unfold plainS
  by_cases hn : n < 0
  · rw [if_pos hn]
    show (-1 : Int) = n
    omega
  · rw [if_neg hn]
    by_cases h2 : n.toNat < 10
    · rw [Lib.decDigits_one h2]
      show (if (UInt8.ofNat (48 + n.toNat)).toNat = 45 then (-1 : Int) else ((UInt8.ofNat (48 + n.toNat)).toNat : Int) - 48) = n
      rw [ch_nat _ h2, if_neg (by omega)]
      omega
    · rw [Lib.decDigits_two h2 (by omega)]
      show (((UInt8.ofNat (48 + n.toNat / 10)).toNat : Int) - 48) * 10 + (((UInt8.ofNat (48 + n.toNat % 10)).toNat : Int) - 48) = n
      rw [ch_nat _ (by omega), ch_nat _ (by omega)]
      omega
theorem no_space (n : Int) (h1 : n < 100) : ∀ c ∈ plainS n, c.toNat ≠ 32 := by
  unfold plainS
  by_cases hn : n < 0
  · rw [if_pos hn]
    intro c hc; rw [List.mem_singleton] at hc; subst hc
    decide
  · rw [if_neg hn]
    by_cases h2 : n.toNat < 10
    · rw [Lib.decDigits_one h2]
      intro c hc; rw [List.mem_singleton] at hc; subst hc; rw [ch_nat _ h2]
      omega
    · rw [Lib.decDigits_two h2 (by omega)]
      intro c hc; rw [List.mem_cons, List.mem_singleton] at hc
      rcases hc with rfl | rfl
      · rw [ch_nat _ (by omega)]; omega
      · rw [ch_nat _ (by omega)]; omega
theorem plain_inj {n m : Int} (h0 : -1 ≤ n) (h1 : n < 100) (h2 : -1 ≤ m) (h3 : m < 100) (h : plainS n = plainS m) : n = m := by
  rw [← val_plain n h0 h1, ← val_plain m h2 h3, h]
theorem cut_eq : ∀ {a b x y : List UInt8}, (∀ c ∈ a, c.toNat ≠ 32) → (∀ c ∈ b, c.toNat ≠ 32) → a ++ 32 :: x = b ++ 32 :: y → a = b ∧ x = y
  | [], [], x, y, _, _, h => ⟨rfl, by simpa using h⟩
  | [], c :: b, x, y, _, hb, h => by
    exfalso
    simp only [List.nil_append, List.cons_append, List.cons.injEq] at h
    exact hb c (by simp) (by rw [← h.1]; rfl)
  | c :: a, [], x, y, ha, _, h => by
    exfalso
    simp only [List.nil_append, List.cons_append, List.cons.injEq] at h
    exact ha c (by simp) (by rw [h.1]; rfl)
  | c :: a, d :: b, x, y, ha, hb, h => by
    simp only [List.cons_append, List.cons.injEq] at h; obtain ⟨h1, h2⟩ := cut_eq (fun e he => ha e (by simp [he])) (fun e he => hb e (by simp [he])) h.2
    exact ⟨by rw [h.1, h1], h2⟩
theorem cut_num {n m : Int} {x y : List UInt8} (h0 : -1 ≤ n) (h1 : n < 100) (h2 : -1 ≤ m) (h3 : m < 100) (h : plainS n ++ 32 :: x = plainS m ++ 32 :: y) : n = m ∧ x = y := by
  obtain ⟨e, f⟩ := cut_eq (no_space n h1) (no_space m h3) h
  exact ⟨plain_inj h0 h1 h2 h3 e, f⟩
theorem rec_bounds {e : Evt} {s : Int} (h : (okB e 4 && inB s 0 96) = true) : (-1 ≤ e.t ∧ e.t < 100) ∧ (-1 ≤ e.to ∧ e.to < 100) ∧ (-1 ≤ e.fr ∧ e.fr < 100) ∧ (-1 ≤ e.kd ∧ e.kd < 100) ∧ (-1 ≤ e.dt ∧ e.dt < 100) ∧ (-1 ≤ s ∧ s < 100) := by
  unfold okB at h; simp only [Bool.and_eq_true, inB_iff] at h
  omega
theorem recS_nil {e : Evt} {s : Int} : recS e s = [] ↔ (okB e 4 && inB s 0 96) = false := by
  unfold recS
  by_cases h : (okB e 4 && inB s 0 96) = true
  · rw [if_pos h]
    simp [h]
  · rw [if_neg h]
    simpa using h
theorem recS_inj {a b : Evt} {s t : Int} (ha : (okB a 4 && inB s 0 96) = true) (hb : (okB b 4 && inB t 0 96) = true) (h : recS a s = recS b t) : a.t = b.t ∧ a.to = b.to ∧ a.fr = b.fr ∧ a.kd = b.kd ∧ a.dt = b.dt ∧ s = t := by
  obtain ⟨⟨a0, a1⟩, ⟨a2, a3⟩, ⟨a4, a5⟩, ⟨a6, a7⟩, ⟨a8, a9⟩, ⟨aa, ab⟩⟩ := rec_bounds ha; obtain ⟨⟨b0, b1⟩, ⟨b2, b3⟩, ⟨b4, b5⟩, ⟨b6, b7⟩, ⟨b8, b9⟩, ⟨ba, bb⟩⟩ := rec_bounds hb; unfold recS at h; rw [if_pos ha, if_pos hb] at h; simp only [List.append_assoc, List.cons_append, List.nil_append, List.cons.injEq, true_and] at h; obtain ⟨e0, h⟩ := cut_num a0 a1 b0 b1 h; simp only [List.cons.injEq, true_and] at h; obtain ⟨e1, h⟩ := cut_num a2 a3 b2 b3 h; simp only [List.cons.injEq, true_and] at h; obtain ⟨e2, h⟩ := cut_num a4 a5 b4 b5 h; simp only [List.cons.injEq, true_and] at h; obtain ⟨e3, h⟩ := cut_num a6 a7 b6 b7 h
  simp only [List.cons.injEq, true_and] at h; obtain ⟨e4, h⟩ := cut_num a8 a9 b8 b9 h; simp only [List.cons.injEq, true_and] at h
  exact ⟨e0, e1, e2, e3, e4, plain_inj aa ab ba bb h⟩
theorem recS_iff {a b : Evt} {s t : Int} (ha : (okB a 4 && inB s 0 96) = true) (hb : (okB b 4 && inB t 0 96) = true) : recS a s = recS b t ↔ a.t = b.t ∧ a.to = b.to ∧ a.fr = b.fr ∧ a.kd = b.kd ∧ a.dt = b.dt ∧ s = t := by
  refine ⟨recS_inj ha hb, fun ⟨e0, e1, e2, e3, e4, e5⟩ => ?_⟩; unfold recS; rw [if_pos ha, if_pos hb, e0, e1, e2, e3, e4, e5]
end Go.Proofs.YtlkmhmiamdbhcaaDoor

namespace Go.Proofs.YtlkmhmiamdbhcaaDoor
set_option maxRecDepth 100000
open Go.RowKit
def eqB (a b : Evt) : Bool := decide (a = b)
theorem eqB_mk (a b c d e f a' b' c' d' e' f' : Int) : eqB ⟨a, b, c, d, e, f⟩ ⟨a', b', c', d', e', f'⟩ = (decide (a = a') && decide (b = b') && decide (c = c') && decide (d = d') && decide (e = e') && decide (f = f')) := by
  unfold eqB; rw [Bool.eq_iff_iff]; simp [Bool.and_eq_true, and_assoc]
end Go.Proofs.YtlkmhmiamdbhcaaDoor

namespace Go.Proofs.YtlkmhmiamdbhcaaDoor
set_option maxRecDepth 100000
open Go.RowKit
/-- The world with an event's six cells laid. -/
def putEv (w : World) (b o : Nat) (e : Evt) : World :=
  (((((w.setCell ⟨b, o, none⟩ (.int .i64 e.t)).setCell ⟨b, o + 1, none⟩ (.int .i64 e.to)).setCell ⟨b, o + 2, none⟩ (.int .i64 e.fr)).setCell ⟨b, o + 3, none⟩ (.int .i64 e.sq)).setCell ⟨b, o + 4, none⟩ (.int .i64 e.kd)).setCell ⟨b, o + 5, none⟩ (.int .i64 e.dt)
theorem addr_ne {b b' o o' : Nat} (h : b ≠ b' ∨ o ≠ o') : (⟨b, o, none⟩ : Addr) ≠ ⟨b', o', none⟩ := by
  intro e
  injection e with e1 e2
  rcases h with h | h
  · exact h e1
  · exact h e2
theorem putEv_other (w : World) (b o : Nat) (e : Evt) (b' o' : Nat) (h : b ≠ b' ∨ o' < o ∨ o + 6 ≤ o') : (putEv w b o e).cell? ⟨b', o', none⟩ = w.cell? ⟨b', o', none⟩ := by
  unfold putEv
  have f : ∀ k, k < 6 → (⟨b, o + k, none⟩ : Addr) ≠ ⟨b', o', none⟩ := fun k hk => addr_ne (by omega)
  have f0 : (⟨b, o, none⟩ : Addr) ≠ ⟨b', o', none⟩ := addr_ne (by omega)
  rw [World.cell?_setCell_other _ _ _ _ (f 5 (by omega)), World.cell?_setCell_other _ _ _ _ (f 4 (by omega)), World.cell?_setCell_other _ _ _ _ (f 3 (by omega)), World.cell?_setCell_other _ _ _ _ (f 2 (by omega)), World.cell?_setCell_other _ _ _ _ (f 1 (by omega)), World.cell?_setCell_other _ _ _ _ f0]
theorem putEv_at {w : World} {b o : Nat} {e : Evt} (h : ∀ k, k < 6 → ∃ v, w.cell? ⟨b, o + k, none⟩ = some v) : EvAt (putEv w b o e) b o e := by
  have ne : ∀ k j, k ≠ j → (⟨b, o + k, none⟩ : Addr) ≠ ⟨b, o + j, none⟩ := fun k j hk => addr_ne (by omega)
  have nez : ∀ k, k ≠ 0 → (⟨b, o + k, none⟩ : Addr) ≠ ⟨b, o, none⟩ := fun k hk => addr_ne (by omega)
  unfold putEv; obtain ⟨v0, h0⟩ := h 0 (by omega); obtain ⟨v1, h1⟩ := h 1 (by omega); obtain ⟨v2, h2⟩ := h 2 (by omega); obtain ⟨v3, h3⟩ := h 3 (by omega); obtain ⟨v4, h4⟩ := h 4 (by omega); obtain ⟨v5, h5⟩ := h 5 (by omega)
  have s0 := World.cell?_setCell_same _ _ (.int .i64 e.t) h0
  have s0 : (w.setCell ⟨b, o, none⟩ (.int .i64 e.t)).cell? ⟨b, o, none⟩ = some (.int .i64 e.t) := s0
  have ne0 : ∀ j, 0 ≠ j → (⟨b, o, none⟩ : Addr) ≠ ⟨b, o + j, none⟩ := fun j hj => addr_ne (by omega)
  generalize hw0 : w.setCell ⟨b, o, none⟩ (.int .i64 e.t) = w0 at s0 ⊢
  have g1 : w0.cell? ⟨b, o + 1, none⟩ = some v1 := by rw [← hw0, World.cell?_setCell_other _ _ _ _ (ne0 1 (by omega))]; exact h1
  have g2 : w0.cell? ⟨b, o + 2, none⟩ = some v2 := by rw [← hw0, World.cell?_setCell_other _ _ _ _ (ne0 2 (by omega))]; exact h2
  have g3 : w0.cell? ⟨b, o + 3, none⟩ = some v3 := by rw [← hw0, World.cell?_setCell_other _ _ _ _ (ne0 3 (by omega))]; exact h3
  have g4 : w0.cell? ⟨b, o + 4, none⟩ = some v4 := by rw [← hw0, World.cell?_setCell_other _ _ _ _ (ne0 4 (by omega))]; exact h4
  have g5 : w0.cell? ⟨b, o + 5, none⟩ = some v5 := by rw [← hw0, World.cell?_setCell_other _ _ _ _ (ne0 5 (by omega))]; exact h5
  simp only [EvAt]; refine ⟨?_, ?_, ?_, ?_, ?_, ?_⟩
  · rw [World.cell?_setCell_other _ _ _ _ (nez 5 (by omega)), World.cell?_setCell_other _ _ _ _ (nez 4 (by omega)), World.cell?_setCell_other _ _ _ _ (nez 3 (by omega)), World.cell?_setCell_other _ _ _ _ (nez 2 (by omega)), World.cell?_setCell_other _ _ _ _ (nez 1 (by omega))]
    exact s0
  · rw [World.cell?_setCell_other _ _ _ _ (ne 5 1 (by omega)), World.cell?_setCell_other _ _ _ _ (ne 4 1 (by omega)), World.cell?_setCell_other _ _ _ _ (ne 3 1 (by omega)), World.cell?_setCell_other _ _ _ _ (ne 2 1 (by omega))]
    exact World.cell?_setCell_same _ _ _ g1
  · rw [World.cell?_setCell_other _ _ _ _ (ne 5 2 (by omega)), World.cell?_setCell_other _ _ _ _ (ne 4 2 (by omega)), World.cell?_setCell_other _ _ _ _ (ne 3 2 (by omega))]
    exact World.cell?_setCell_same _ _ _ ((World.cell?_setCell_other _ _ _ _ (ne 1 2 (by omega))).trans g2)
  · rw [World.cell?_setCell_other _ _ _ _ (ne 5 3 (by omega)), World.cell?_setCell_other _ _ _ _ (ne 4 3 (by omega))]
    exact World.cell?_setCell_same _ _ _ ((World.cell?_setCell_other _ _ _ _ (ne 2 3 (by omega))).trans ((World.cell?_setCell_other _ _ _ _ (ne 1 3 (by omega))).trans g3))
  · rw [World.cell?_setCell_other _ _ _ _ (ne 5 4 (by omega))]
    exact World.cell?_setCell_same _ _ _ ((World.cell?_setCell_other _ _ _ _ (ne 3 4 (by omega))).trans ((World.cell?_setCell_other _ _ _ _ (ne 2 4 (by omega))).trans ((World.cell?_setCell_other _ _ _ _ (ne 1 4 (by omega))).trans g4)))
  · exact World.cell?_setCell_same _ _ _ ((World.cell?_setCell_other _ _ _ _ (ne 4 5 (by omega))).trans ((World.cell?_setCell_other _ _ _ _ (ne 3 5 (by omega))).trans ((World.cell?_setCell_other _ _ _ _ (ne 2 5 (by omega))).trans ((World.cell?_setCell_other _ _ _ _ (ne 1 5 (by omega))).trans g5))))
end Go.Proofs.YtlkmhmiamdbhcaaDoor

namespace Go.Proofs.YtlkmhmiamdbhcaaDoor
set_option maxRecDepth 100000
open Go.RowKit
def markAt (i : Nat) : Evt := ⟨1 + 6 * i, 1 + 6 * i + 1, 1 + 6 * i + 1 + 1, 1 + 6 * i + 1 + 1 + 1, 1 + 6 * i + 1 + 1 + 1 + 1, 1 + 6 * i + 1 + 1 + 1 + 1 + 1⟩
def marks (n : Nat) : List Evt := (List.range n).map markAt
end Go.Proofs.YtlkmhmiamdbhcaaDoor

namespace Go.Proofs.YtlkmhmiamdbhcaaDoor
set_option maxRecDepth 100000
open Go.RowKit
/-- A component's state: its three numbers. -/
structure Cst where
  s : Int
  sq : Int
  ct : Int
deriving DecidableEq
instance : Inhabited Cst := ⟨⟨0, 0, 0⟩⟩
end Go.Proofs.YtlkmhmiamdbhcaaDoor

namespace Go.Proofs.YtlkmhmiamdbhcaaDoor
set_option maxRecDepth 100000
open Go.RowKit
/-- Block b holds just this event's cells, none frozen. -/
structure Box (w : World) (b : Nat) (e : Evt) : Prop where
  lt : b < w.heap.size
  c0 : w.cell? ⟨b, 0, none⟩ = some (.int .i64 e.t)
  c1 : w.cell? ⟨b, 1, none⟩ = some (.int .i64 e.to)
  c2 : w.cell? ⟨b, 2, none⟩ = some (.int .i64 e.fr)
  c3 : w.cell? ⟨b, 3, none⟩ = some (.int .i64 e.sq)
  c4 : w.cell? ⟨b, 4, none⟩ = some (.int .i64 e.kd)
  c5 : w.cell? ⟨b, 5, none⟩ = some (.int .i64 e.dt)
  f0 : w.frozen? ⟨b, 0, none⟩ = false
  f1 : w.frozen? ⟨b, 1, none⟩ = false
  f2 : w.frozen? ⟨b, 2, none⟩ = false
  f3 : w.frozen? ⟨b, 3, none⟩ = false
  f4 : w.frozen? ⟨b, 4, none⟩ = false
  f5 : w.frozen? ⟨b, 5, none⟩ = false
theorem Box.keep {w w' : World} {b : Nat} {e : Evt} (h : Box w b e) (hs : w.heap.size ≤ w'.heap.size) (hc : ∀ o, w'.cell? ⟨b, o, none⟩ = w.cell? ⟨b, o, none⟩) (hf : ∀ o, w'.frozen? ⟨b, o, none⟩ = w.frozen? ⟨b, o, none⟩) : Box w' b e :=
  ⟨Nat.lt_of_lt_of_le h.lt hs, (hc 0).trans h.c0, (hc 1).trans h.c1, (hc 2).trans h.c2, (hc 3).trans h.c3, (hc 4).trans h.c4, (hc 5).trans h.c5, (hf 0).trans h.f0, (hf 1).trans h.f1, (hf 2).trans h.f2, (hf 3).trans h.f3, (hf 4).trans h.f4, (hf 5).trans h.f5⟩
theorem Box.up {w w' : World} {b : Nat} {e : Evt} (h : Box w b e) (u : Up w w') : Box w' b e := h.keep u.size (fun _ => u.cells _ _ h.lt) (fun _ => u.frozens _ _ h.lt)
theorem Box.mv {w w' : World} {b g : Nat} {e : Evt} (h : Box w b e) (m : Mv g w w') (hb : b ≠ g) : Box w' b e := h.keep m.size (fun _ => m.cells _ _ h.lt hb) (fun _ => m.frozens _ _ h.lt hb)
theorem Box.alloc {w : World} {b : Nat} {e : Evt} (h : Box w b e) (o : Obj) : Box (w.alloc o) b e := h.up ((Up.refl w).alloc o)
theorem Box.new (w : World) (e : Evt) (t : TypeId) : Box (w.alloc (.cells #[.int .i64 e.t, .int .i64 e.to, .int .i64 e.fr, .int .i64 e.sq, .int .i64 e.kd, .int .i64 e.dt] t)) w.heap.size e := by
  have hh := heap_alloc_new w (.cells #[.int .i64 e.t, .int .i64 e.to, .int .i64 e.fr, .int .i64 e.sq, .int .i64 e.kd, .int .i64 e.dt] t)
  have ff : ∀ j, (w.alloc (.cells #[.int .i64 e.t, .int .i64 e.to, .int .i64 e.fr, .int .i64 e.sq, .int .i64 e.kd, .int .i64 e.dt] t)).frozen? ⟨w.heap.size, j, none⟩ = false := fun j => by
    unfold World.frozen?; rw [hh]; simp
  exact ⟨by simp, by rw [cell_of_row _ _ 0 _ _ _ hh]; rfl, by rw [cell_of_row _ _ 1 _ _ _ hh]; rfl, by rw [cell_of_row _ _ 2 _ _ _ hh]; rfl, by rw [cell_of_row _ _ 3 _ _ _ hh]; rfl, by rw [cell_of_row _ _ 4 _ _ _ hh]; rfl, by rw [cell_of_row _ _ 5 _ _ _ hh]; rfl, ff 0, ff 1, ff 2, ff 3, ff 4, ff 5⟩
theorem Box.setFar {w : World} {b : Nat} {e : Evt} (h : Box w b e) {p : Addr} (hp : p.block ≠ b) (u : Value) : Box (w.setCell p u) b e :=
  h.keep (by simp) (fun o => World.cell?_setCell_other _ _ _ _ (fun e => hp (by rw [e]))) (fun o => by simp [go_sem])
theorem Mv.setNew {g : Nat} {a w : World} (h : Mv g a w) {p : Addr} (hp : a.heap.size ≤ p.block) (u : Value) : Mv g a (w.setCell p u) :=
  ⟨h.os, h.tape, h.output, by simpa using h.size, fun k hk hne => (Below.heap_setCell w p u k (by omega)).trans (h.block k hk hne)⟩
theorem Rd.putEv {w : World} {g N b o : Nat} {e : Evt} (h : Rd w g N) (hb : g < b) : Rd (putEv w b o e) g N :=
  (((((h.setCell (p := ⟨b, o, none⟩) hb _).setCell (p := ⟨b, o + 1, none⟩) hb _).setCell (p := ⟨b, o + 2, none⟩) hb _).setCell (p := ⟨b, o + 3, none⟩) hb _).setCell (p := ⟨b, o + 4, none⟩) hb _).setCell (p := ⟨b, o + 5, none⟩) hb _
theorem Mv.putEv {g : Nat} {a w : World} (h : Mv g a w) {b o : Nat} {e : Evt} (hb : a.heap.size ≤ b) : Mv g a (putEv w b o e) :=
  (((((h.setNew (p := ⟨b, o, none⟩) hb _).setNew (p := ⟨b, o + 1, none⟩) hb _).setNew (p := ⟨b, o + 2, none⟩) hb _).setNew (p := ⟨b, o + 3, none⟩) hb _).setNew (p := ⟨b, o + 4, none⟩) hb _).setNew (p := ⟨b, o + 5, none⟩) hb _
theorem Box.somes {w : World} {b : Nat} {e : Evt} (h : Box w b e) : ∀ k, k < 6 → ∃ v, w.cell? ⟨b, 0 + k, none⟩ = some v := fun k hk => by
  have h6 : k = 0 ∨ k = 1 ∨ k = 2 ∨ k = 3 ∨ k = 4 ∨ k = 5 := by omega
  rcases h6 with rfl | rfl | rfl | rfl | rfl | rfl
  · exact ⟨_, h.c0⟩
  · exact ⟨_, h.c1⟩
  · exact ⟨_, h.c2⟩
  · exact ⟨_, h.c3⟩
  · exact ⟨_, h.c4⟩
  · exact ⟨_, h.c5⟩
theorem Box.mk6 {w : World} {b : Nat} {z0 z1 z2 z3 z4 z5 : Int} (h : Box w b ⟨z0, z1, z2, z3, z4, z5⟩) :
    (w.cell? ⟨b, 0, none⟩ = some (.int .i64 z0) ∧ w.cell? ⟨b, 1, none⟩ = some (.int .i64 z1) ∧ w.cell? ⟨b, 2, none⟩ = some (.int .i64 z2) ∧ w.cell? ⟨b, 3, none⟩ = some (.int .i64 z3) ∧ w.cell? ⟨b, 4, none⟩ = some (.int .i64 z4) ∧ w.cell? ⟨b, 5, none⟩ = some (.int .i64 z5)) ∧ (w.frozen? ⟨b, 0, none⟩ = false ∧ w.frozen? ⟨b, 1, none⟩ = false ∧ w.frozen? ⟨b, 2, none⟩ = false ∧ w.frozen? ⟨b, 3, none⟩ = false ∧ w.frozen? ⟨b, 4, none⟩ = false ∧ w.frozen? ⟨b, 5, none⟩ = false) :=
  ⟨⟨h.c0, h.c1, h.c2, h.c3, h.c4, h.c5⟩, ⟨h.f0, h.f1, h.f2, h.f3, h.f4, h.f5⟩⟩
end Go.Proofs.YtlkmhmiamdbhcaaDoor

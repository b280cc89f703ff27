/-
  What eqHstKeep, eqHstKeepS, eqHstDone and eqHstDoneS return, in one sentence: whether the two are the same; for all that lie in memory.
  What spec.l2Rule returns, in one sentence: the first rule of the kind and true, or the zero rule and false; for every list of rules that lies in memory.
  The region of spec.l2Do that finds the rule: its slots' relations, in one sentence: one row a slot; no condition is made.
-/
import Derived.Test.YtlkmhmiamdbhcabGreatDLElst02
import Derived.Test.YtlkmhmiamdbhcabGreatDLElst05
import Derived.Test.YtlkmhmiamdbhcabGreatDLElst06
import Derived.Test.YtlkmhmiamdbhcabGreatDLElst07
import Derived.Test.YtlkmhmiamdbhcabGreatDLElst11
import Derived.Test.YtlkmhmiamdbhcabGreatDLElst15
namespace Go.Proofs.YtlkmhmiamdbhcabGreat
set_option maxRecDepth 100000
open Go.RowKit
set_option maxHeartbeats 4000000 in
theorem eqKep_any (a b : Kep) (w : World) : Calls Tryz.prog 76 #[a.v, b.v] w fun x w' => x = .returned (.bool (decide (a = b))) ∧ Up w w' := by
  have hf := Lib.hid (show decide (a = b) = (eqB a.by_ b.by_ && decide (a.sent = b.sent)) by obtain ⟨⟨a0, a1, a2, a3, a4, a5⟩, as_⟩ := a; obtain ⟨⟨b0, b1, b2, b3, b4, b5⟩, bs⟩ := b; rw [Bool.eq_iff_iff, Bool.and_eq_true, eqB_iff]; simp [and_assoc])
  have C0 := fun W => eqEvt_any a.by_ b.by_ W
  have C1 := fun W => eqItm_any a.sent b.sent W
  generalize decide (a = b) = r at hf ⊢
  generalize eqB a.by_ b.by_ = q0 at hf C0
  generalize decide (a.sent = b.sent) = q1 at hf C1
  obtain ⟨⟨a0, a1, a2, a3, a4, a5⟩, ⟨⟨a6, a7, a8, a9, a10, a11⟩, a12⟩⟩ := a; obtain ⟨⟨b0, b1, b2, b3, b4, b5⟩, ⟨⟨b6, b7, b8, b9, b10, b11⟩, b12⟩⟩ := b; unfold Kep.v; unfold Evt.v at C0; unfold Rec.v at C1; dsimp only at hf C0 C1 ⊢
  have C0 := Lib.hid C0
  have C1 := Lib.hid C1
  have X := Lib.hid ((Blk.new w #[.int .i64 a0, .int .i64 a1, .int .i64 a2, .int .i64 a3, .int .i64 a4, .int .i64 a5, .int .i64 a6, .int .i64 a7, .int .i64 a8, .int .i64 a9, .int .i64 a10, .int .i64 a11, .int .i64 a12] 111).alloc (.cells #[.int .i64 b0, .int .i64 b1, .int .i64 b2, .int .i64 b3, .int .i64 b4, .int .i64 b5, .int .i64 b6, .int .i64 b7, .int .i64 b8, .int .i64 b9, .int .i64 b10, .int .i64 b11, .int .i64 b12] 111))
  have Y := Lib.hid (Blk.new (w.alloc (.cells #[.int .i64 a0, .int .i64 a1, .int .i64 a2, .int .i64 a3, .int .i64 a4, .int .i64 a5, .int .i64 a6, .int .i64 a7, .int .i64 a8, .int .i64 a9, .int .i64 a10, .int .i64 a11, .int .i64 a12] 111)) #[.int .i64 b0, .int .i64 b1, .int .i64 b2, .int .i64 b3, .int .i64 b4, .int .i64 b5, .int .i64 b6, .int .i64 b7, .int .i64 b8, .int .i64 b9, .int .i64 b10, .int .i64 b11, .int .i64 b12] 111)
  simp only [World.size_alloc] at Y
  have U := Lib.hid (((Up.refl w).alloc (.cells #[.int .i64 a0, .int .i64 a1, .int .i64 a2, .int .i64 a3, .int .i64 a4, .int .i64 a5, .int .i64 a6, .int .i64 a7, .int .i64 a8, .int .i64 a9, .int .i64 a10, .int .i64 a11, .int .i64 a12] 111)).alloc (.cells #[.int .i64 b0, .int .i64 b1, .int .i64 b2, .int .i64 b3, .int .i64 b4, .int .i64 b5, .int .i64 b6, .int .i64 b7, .int .i64 b8, .int .i64 b9, .int .i64 b10, .int .i64 b11, .int .i64 b12] 111))
  go_enter Tryz.func76, Tryz.ntmps76
  go_wp2_with fail
  generalize (w.alloc (.cells #[.int .i64 a0, .int .i64 a1, .int .i64 a2, .int .i64 a3, .int .i64 a4, .int .i64 a5, .int .i64 a6, .int .i64 a7, .int .i64 a8, .int .i64 a9, .int .i64 a10, .int .i64 a11, .int .i64 a12] 111)).alloc (.cells #[.int .i64 b0, .int .i64 b1, .int .i64 b2, .int .i64 b3, .int .i64 b4, .int .i64 b5, .int .i64 b6, .int .i64 b7, .int .i64 b8, .int .i64 b9, .int .i64 b10, .int .i64 b11, .int .i64 b12] 111) = W at *
  generalize hb1 : w.heap.size + 1 = b1 at *
  generalize hb0 : w.heap.size = b0 at *
  clear hb0 hb1; refine (C0.out _).mono ?_; rintro x w1 ⟨rfl, u1⟩
  have U := Lib.hid (U.out.trans u1)
  have X := Lib.hid (X.out.up u1)
  have Y := Lib.hid (Y.out.up u1)
  clear u1
  cases q0
  · have HR := Lib.hid (show r = false by rw [hf.out]; simp)
    clear hf; go_wp2; go_ret
    exact ⟨ret_bool HR.out.symm, U.out⟩
  · skip
    have x6 := X.out.cell (j := 6) rfl
    have y6 := Y.out.cell (j := 6) rfl
    have x7 := X.out.cell (j := 7) rfl
    have y7 := Y.out.cell (j := 7) rfl
    have x8 := X.out.cell (j := 8) rfl
    have y8 := Y.out.cell (j := 8) rfl
    have x9 := X.out.cell (j := 9) rfl
    have y9 := Y.out.cell (j := 9) rfl
    have x10 := X.out.cell (j := 10) rfl
    have y10 := Y.out.cell (j := 10) rfl
    have x11 := X.out.cell (j := 11) rfl
    have y11 := Y.out.cell (j := 11) rfl
    have x12 := X.out.cell (j := 12) rfl
    have y12 := Y.out.cell (j := 12) rfl
    have lx := X.out.lt
    have ly := Y.out.lt
    go_wp2_with fail
    refine (C1.out _).mono ?_; rintro x w2 ⟨rfl, u2⟩
    have U := Lib.hid (U.out.trans u2)
    have X := Lib.hid (X.out.up u2)
    have Y := Lib.hid (Y.out.up u2)
    clear lx ly x6 y6 x7 y7 x8 y8 x9 y9 x10 y10 x11 y11 x12 y12; clear u2
    cases q1
    · have HR := Lib.hid (show r = false by rw [hf.out]; simp)
      clear hf; go_wp2; go_ret
      exact ⟨ret_bool HR.out.symm, U.out⟩
    · skip
      have HR := Lib.hid (show r = true by rw [hf.out]; rfl)
      clear hf; go_wp2; go_ret
      exact ⟨ret_bool HR.out.symm, U.out⟩
set_option maxHeartbeats 4000000 in
theorem eqKeps_any (A B : Option Addr) (n m capa capb : Nat) (es fs : List Kep) (w : World) (hn : n ≤ 1000000000) (hE : Keps w A n es) (hF : Keps w B m fs) :
    Calls Tryz.prog 41 #[.slice A n capa, .slice B m capb] w fun x w' => x = .returned (.bool (decide (es = fs))) ∧ Up w w' := by
  by_cases hnm : n = m
  · subst hnm
    have H0 := Lib.hid (show decide (es.drop 0 = fs.drop 0) = decide (es = fs) from rfl)
    have ST := Lib.hid (eqT_drop default es fs (by rw [hE.1, hF.1]))
    have HE := Lib.hid hE
    have HF := Lib.hid hF
    have LE := Lib.hid hE.1
    have LF := Lib.hid hF.1
    have CL := Lib.hid (fun a b W => eqKep_any a b W)
    generalize hr : decide (es = fs) = res at H0 ⊢
    clear hE hF hr
    go_enter Tryz.func41, Tryz.ntmps41
    go_wp2
    go_loopw [5] (fun i wr => (∃ k : Nat, k ≤ n ∧ i = .int .i64 k ∧ Hid (decide (es.drop k = fs.drop k) = res)) ∧ Up w wr) (fun i _ => n - (intOf i).toNat)
    case atStart => exact ⟨⟨0, by omega, rfl, H0⟩, Up.refl _⟩
    case round =>
      obtain ⟨⟨k, hk, rfl, HR⟩, ur⟩ := hrel
      by_cases hlt : k < n
      · obtain ⟨b, off, hA, hb, hc⟩ := HE.out.2 (by omega)
        obtain ⟨b2, off2, hA2, hb2, hc2⟩ := HF.out.2 (by omega); subst hA hA2
        have a0 := (hc k hlt).up ur hb
        have a1 := (hc2 k hlt).up ur hb2
        have hb' : b < wr.heap.size := by have := ur.size; omega
        have hb2' : b2 < wr.heap.size := by have := ur.size; omega
        clear hc hc2
        have S := ST.out k (by rw [LE.out]; exact hlt)
        have cl := CL.out (es.getD k default) (fs.getD k default)
        generalize es.getD k default = p at a0 S cl
        generalize fs.getD k default = q at a1 S cl
        have S' := Lib.hid S
        clear S
        generalize decide (p = q) = r at S' cl
        unfold KepAt at a0 a1; unfold Kep.v at cl; obtain ⟨p0, p1, p2, p3, p4, p5, p6, p7, p8, p9, p10, p11, p12⟩ := a0; obtain ⟨q0, q1, q2, q3, q4, q5, q6, q7, q8, q9, q10, q11, q12⟩ := a1
        have C := Lib.hid cl
        clear cl
        have i4 : (k : Int) < n := by omega
        have UR := Lib.hid ur
        clear ur
        go_wp2_with fail
        refine region_qw (by kernel_rfl) (by kernel_rfl) ?_; refine qWalk_step ?_; intro K hK; go_simp; apply Exists.intro; refine And.intro ?_ ?_
        · intro w1 hw1
          try go_simp
          try rfl
        try go_simp
        refine hK _ ?_; clear hK K; refine qWalk_step ?_; intro K hK; go_simp; apply Exists.intro; refine And.intro ?_ ?_
        · intro w1 hw1
          try go_simp
          try rfl
        try go_simp
        refine hK _ ?_; clear hK K; refine qWalk_step ?_; intro K hK; go_simp; apply Exists.intro; refine And.intro ?_ ?_
        · intro w1 hw1
          try go_simp
          try rfl
        try go_simp
        refine hK _ ?_; clear hK K; refine qWalk_step ?_; intro K hK; go_simp; apply Exists.intro; refine And.intro ?_ ?_
        · intro w1 hw1
          obtain ⟨hc, hf, hz⟩ := hw1.facts
          try simp at hz
          try go_simp
          try rfl
        try go_simp
        refine hK _ ?_; clear hK K; refine qWalk_step ?_; intro K hK; go_simp; apply Exists.intro; refine And.intro ?_ ?_
        · intro w1 hw1
          try go_simp
          try rfl
        try go_simp
        refine hK _ ?_; clear hK K; refine qWalk_step ?_; intro K hK; go_simp; apply Exists.intro; refine And.intro ?_ ?_
        · intro w1 hw1
          try go_simp
          try rfl
        try go_simp
        refine hK _ ?_; clear hK K; refine qWalk_step ?_; intro K hK; go_simp; apply Exists.intro; refine And.intro ?_ ?_
        · intro w1 hw1
          try go_simp
          try rfl
        try go_simp
        refine hK _ ?_; clear hK K; refine qWalk_step ?_; intro K hK; go_simp; apply Exists.intro; refine And.intro ?_ ?_
        · intro w1 hw1
          obtain ⟨hc, hf, hz⟩ := hw1.facts
          try simp at hz
          try go_simp
          try rfl
        try go_simp
        refine hK _ ?_; clear hK K; refine qWalk_step ?_; intro K hK; go_simp; apply Exists.intro; refine And.intro ?_ ?_
        · intro w1 hw1
          try go_simp
          exact up_call hw1 (C.out _)
        try go_simp
        refine hK _ ?_; clear hK K; refine qWalk_step ?_; intro K hK; go_simp; apply Exists.intro; refine And.intro ?_ ?_
        · intro w1 hw1
          try go_simp
          try rfl
        try go_simp
        refine hK _ ?_; clear hK K; refine qWalk_nil ?_; intro wA uA
        have UA := Lib.hid (UR.out.trans uA)
        clear uA p0 q0 p1 q1 p2 q2 p3 q3 p4 q4 p5 q5 p6 q6 p7 q7 p8 q8 p9 q9 p10 q10 p11 q11 p12 q12 C
        cases r
        · go_wp2
          go_ret
          exact ⟨ret_bool (by rw [← HR.out, S'.out]; rfl), UA.out⟩
        · have RN := Lib.hid (show decide (es.drop (k + 1) = fs.drop (k + 1)) = res by rw [← HR.out, S'.out]; rfl)
          go_wp2
          go_roundw
          case rel => exact ⟨⟨k + 1, by omega, by go_num, RN⟩, UA.out⟩
          case measure => simp [intOf]; omega
      · have e : decide (es.drop k = fs.drop k) = true := by rw [List.drop_eq_nil_of_le (by rw [LE.out]; omega), List.drop_eq_nil_of_le (by rw [LF.out]; omega)]; rfl
        have E := Lib.hid e
        have i4 : ¬ (k : Int) < n := by omega
        clear e; go_wp2; go_ret
        exact ⟨ret_bool (by rw [← HR.out, E.out]), ur⟩
  · have R := Lib.hid (show decide (es = fs) = false from decide_eq_false fun e => hnm (by rw [← hE.1, ← hF.1, e]))
    generalize decide (es = fs) = res at R ⊢
    have j1 : ¬ (n : Int) = m := by omega
    go_enter Tryz.func41, Tryz.ntmps41
    go_wp2; go_ret
    exact ⟨ret_bool R.out.symm, Up.refl _⟩
set_option maxHeartbeats 4000000 in
theorem eqDon_any (a b : Don) (A : Option Addr) (n c : Nat) (B : Option Addr) (k d : Nat) (w : World) (hn : n ≤ 1000000000) (hE : Recs w A n a.sent) (hF : Recs w B k b.sent) : Calls Tryz.prog 74 #[a.v (.slice A n c), b.v (.slice B k d)] w fun x w' => x = .returned (.bool (decide (a = b))) ∧ Up w w' := by
  have hf := Lib.hid (show decide (a = b) = (decide (a.it = b.it) && decide (a.bf = b.bf) && decide (a.s = b.s) && decide (a.sent = b.sent)) by obtain ⟨ai, ab, as_, at_⟩ := a; obtain ⟨bi, bb, bs, bt⟩ := b; rw [Bool.eq_iff_iff]; simp [and_assoc])
  have C0 := fun W => eqItm_any a.it b.it W
  have C1 := fun W => eqCst_any a.bf b.bf W
  have C3 := fun W (u : Up w W) => eqI_any A B n k c d a.sent b.sent W hn (hE.up u) (hF.up u)
  generalize decide (a = b) = r at hf ⊢
  generalize decide (a.it = b.it) = q0 at hf C0
  generalize decide (a.bf = b.bf) = q1 at hf C1
  generalize decide (a.sent = b.sent) = q3 at hf C3
  obtain ⟨⟨⟨a0, a1, a2, a3, a4, a5⟩, a6⟩, ⟨a7, a8, a9⟩, a10, ax⟩ := a; obtain ⟨⟨⟨b0, b1, b2, b3, b4, b5⟩, b6⟩, ⟨b7, b8, b9⟩, b10, bx⟩ := b; unfold Don.v; clear hE hF; unfold Rec.v at C0; unfold Cst.v at C1; dsimp only at hf C0 C1 C3 ⊢
  have C0 := Lib.hid C0
  have C1 := Lib.hid C1
  have C3 := Lib.hid C3
  have X := Lib.hid ((Blk.new w #[.int .i64 a0, .int .i64 a1, .int .i64 a2, .int .i64 a3, .int .i64 a4, .int .i64 a5, .int .i64 a6, .int .i64 a7, .int .i64 a8, .int .i64 a9, .int .i64 a10, .slice A n c] 117).alloc (.cells #[.int .i64 b0, .int .i64 b1, .int .i64 b2, .int .i64 b3, .int .i64 b4, .int .i64 b5, .int .i64 b6, .int .i64 b7, .int .i64 b8, .int .i64 b9, .int .i64 b10, .slice B k d] 117))
  have Y := Lib.hid (Blk.new (w.alloc (.cells #[.int .i64 a0, .int .i64 a1, .int .i64 a2, .int .i64 a3, .int .i64 a4, .int .i64 a5, .int .i64 a6, .int .i64 a7, .int .i64 a8, .int .i64 a9, .int .i64 a10, .slice A n c] 117)) #[.int .i64 b0, .int .i64 b1, .int .i64 b2, .int .i64 b3, .int .i64 b4, .int .i64 b5, .int .i64 b6, .int .i64 b7, .int .i64 b8, .int .i64 b9, .int .i64 b10, .slice B k d] 117)
  simp only [World.size_alloc] at Y
  have U := Lib.hid (((Up.refl w).alloc (.cells #[.int .i64 a0, .int .i64 a1, .int .i64 a2, .int .i64 a3, .int .i64 a4, .int .i64 a5, .int .i64 a6, .int .i64 a7, .int .i64 a8, .int .i64 a9, .int .i64 a10, .slice A n c] 117)).alloc (.cells #[.int .i64 b0, .int .i64 b1, .int .i64 b2, .int .i64 b3, .int .i64 b4, .int .i64 b5, .int .i64 b6, .int .i64 b7, .int .i64 b8, .int .i64 b9, .int .i64 b10, .slice B k d] 117))
  go_enter Tryz.func74, Tryz.ntmps74
  go_wp2_with fail
  generalize (w.alloc (.cells #[.int .i64 a0, .int .i64 a1, .int .i64 a2, .int .i64 a3, .int .i64 a4, .int .i64 a5, .int .i64 a6, .int .i64 a7, .int .i64 a8, .int .i64 a9, .int .i64 a10, .slice A n c] 117)).alloc (.cells #[.int .i64 b0, .int .i64 b1, .int .i64 b2, .int .i64 b3, .int .i64 b4, .int .i64 b5, .int .i64 b6, .int .i64 b7, .int .i64 b8, .int .i64 b9, .int .i64 b10, .slice B k d] 117) = W at *
  generalize hb1 : w.heap.size + 1 = b1 at *
  generalize hb0 : w.heap.size = b0 at *
  clear hb0 hb1; refine (C0.out _).mono ?_; rintro x w1 ⟨rfl, u1⟩
  have U := Lib.hid (U.out.trans u1)
  have X := Lib.hid (X.out.up u1)
  have Y := Lib.hid (Y.out.up u1)
  clear u1
  cases q0
  · have HR := Lib.hid (show r = false by rw [hf.out]; simp)
    clear hf; go_wp2; go_ret
    exact ⟨ret_bool HR.out.symm, U.out⟩
  · skip
    have x7 := X.out.cell (j := 7) rfl
    have y7 := Y.out.cell (j := 7) rfl
    have x8 := X.out.cell (j := 8) rfl
    have y8 := Y.out.cell (j := 8) rfl
    have x9 := X.out.cell (j := 9) rfl
    have y9 := Y.out.cell (j := 9) rfl
    have lx := X.out.lt
    have ly := Y.out.lt
    go_wp2_with fail
    refine (C1.out _).mono ?_; rintro x w2 ⟨rfl, u2⟩
    have U := Lib.hid (U.out.trans u2)
    have X := Lib.hid (X.out.up u2)
    have Y := Lib.hid (Y.out.up u2)
    clear lx ly x7 y7 x8 y8 x9 y9; clear u2
    cases q1
    · have HR := Lib.hid (show r = false by rw [hf.out]; simp)
      clear hf; go_wp2; go_ret
      exact ⟨ret_bool HR.out.symm, U.out⟩
    · skip
      by_cases h10 : a10 = b10
      · have hd10 : (a10 != b10) = false := by simp [h10]
        have hn10 : ¬ ((a10 : Int) ≠ b10) := fun h => h h10
        have x10 := X.out.cell (j := 10) rfl
        have y10 := Y.out.cell (j := 10) rfl
        have x11 := X.out.cell (j := 11) rfl
        have y11 := Y.out.cell (j := 11) rfl
        have lx := X.out.lt
        have ly := Y.out.lt
        subst h10
        go_wp2_with fail
        refine (C3.out _ U.out).mono ?_; rintro x w4 ⟨rfl, u4⟩
        have U := Lib.hid (U.out.trans u4)
        clear u4
        cases q3
        · have HR := Lib.hid (show r = false by rw [hf.out]; simp)
          clear hf; go_wp2; go_ret
          exact ⟨ret_bool HR.out.symm, U.out⟩
        · have HR := Lib.hid (show r = true by rw [hf.out]; simp)
          clear hf; go_wp2; go_ret
          exact ⟨ret_bool HR.out.symm, U.out⟩
      · have HR := Lib.hid (show r = false by rw [hf.out]; simp [h10])
        have hd10 : (a10 != b10) = true := by simp [h10]
        clear hf
        have x10 := X.out.cell (j := 10) rfl
        have y10 := Y.out.cell (j := 10) rfl
        have lx := X.out.lt
        have ly := Y.out.lt
        go_wp2; go_ret
        exact ⟨ret_bool HR.out.symm, U.out⟩
/-- Each sent few. -/
def SmallD (ds : List Don) : Prop := ∀ i, i < ds.length → (ds.getD i default).sent.length ≤ 1048576
set_option maxHeartbeats 4000000 in
theorem eqDons_any (A B : Option Addr) (n m capa capb : Nat) (es fs : List Don) (w : World) (hn : n ≤ 1000000000) (hE : Dons w A n es) (hF : Dons w B m fs) (hS : SmallD es) :
    Calls Tryz.prog 39 #[.slice A n capa, .slice B m capb] w fun x w' => x = .returned (.bool (decide (es = fs))) ∧ Up w w' := by
  by_cases hnm : n = m
  · subst hnm
    have H0 := Lib.hid (show decide (es.drop 0 = fs.drop 0) = decide (es = fs) from rfl)
    have ST := Lib.hid (eqT_drop default es fs (by rw [hE.1, hF.1]))
    have HE := Lib.hid hE
    have HF := Lib.hid hF
    have LE := Lib.hid hE.1
    have LF := Lib.hid hF.1
    have CL := Lib.hid (fun a b A n c B k d W hn h1 h2 => eqDon_any a b A n c B k d W hn h1 h2)
    have SM := Lib.hid hS
    generalize hr : decide (es = fs) = res at H0 ⊢
    clear hE hF hr hS
    go_enter Tryz.func39, Tryz.ntmps39
    go_wp2
    go_loopw [5] (fun i wr => (∃ k : Nat, k ≤ n ∧ i = .int .i64 k ∧ Hid (decide (es.drop k = fs.drop k) = res)) ∧ Up w wr) (fun i _ => n - (intOf i).toNat)
    case atStart => exact ⟨⟨0, by omega, rfl, H0⟩, Up.refl _⟩
    case round =>
      obtain ⟨⟨k, hk, rfl, HR⟩, ur⟩ := hrel
      by_cases hlt : k < n
      · obtain ⟨b, off, hA, hb, hc⟩ := HE.out.2.2 (by omega)
        obtain ⟨b2, off2, hA2, hb2, hc2⟩ := HF.out.2.2 (by omega); subst hA hA2
        have a0 := (hc k hlt).up ur hb
        have a1 := (hc2 k hlt).up ur hb2
        have hb' : b < wr.heap.size := by have := ur.size; omega
        have hb2' : b2 < wr.heap.size := by have := ur.size; omega
        clear hc hc2
        have S := ST.out k (by rw [LE.out]; exact hlt)
        have sm := SM.out k (by rw [LE.out]; exact hlt)
        have cl := CL.out (es.getD k default) (fs.getD k default)
        generalize es.getD k default = p at a0 S cl sm
        generalize fs.getD k default = q at a1 S cl
        obtain ⟨A3, n3, c3, a0, hn3, he3⟩ := a0; obtain ⟨B3, m3, d3, a1, hm3, hf3⟩ := a1
        have cl := fun W (u : Up wr W) => cl A3 n3 c3 B3 m3 d3 W (by rw [← he3.1]; omega) (he3.up u) (hf3.up u)
        have S' := Lib.hid S
        clear S he3 hf3 sm
        generalize decide (p = q) = r at S' cl
        unfold Don.v at cl; obtain ⟨p0, p1, p2, p3, p4, p5, p6, p7, p8, p9, p10, p11⟩ := a0; obtain ⟨q0, q1, q2, q3, q4, q5, q6, q7, q8, q9, q10, q11⟩ := a1
        have C := Lib.hid cl
        clear cl
        have i4 : (k : Int) < n := by omega
        have UR := Lib.hid ur
        clear ur
        go_wp2_with fail
        refine region_qw (by kernel_rfl) (by kernel_rfl) ?_; refine qWalk_step ?_; intro K hK; go_simp; apply Exists.intro; refine And.intro ?_ ?_
        · intro w1 hw1
          try go_simp
          try rfl
        try go_simp
        refine hK _ ?_; clear hK K; refine qWalk_step ?_; intro K hK; go_simp; apply Exists.intro; refine And.intro ?_ ?_
        · intro w1 hw1
          try go_simp
          try rfl
        try go_simp
        refine hK _ ?_; clear hK K; refine qWalk_step ?_; intro K hK; go_simp; apply Exists.intro; refine And.intro ?_ ?_
        · intro w1 hw1
          try go_simp
          try rfl
        try go_simp
        refine hK _ ?_; clear hK K; refine qWalk_step ?_; intro K hK; go_simp; apply Exists.intro; refine And.intro ?_ ?_
        · intro w1 hw1
          obtain ⟨hc, hf, hz⟩ := hw1.facts
          try simp at hz
          try go_simp
          try rfl
        try go_simp
        refine hK _ ?_; clear hK K; refine qWalk_step ?_; intro K hK; go_simp; apply Exists.intro; refine And.intro ?_ ?_
        · intro w1 hw1
          try go_simp
          try rfl
        try go_simp
        refine hK _ ?_; clear hK K; refine qWalk_step ?_; intro K hK; go_simp; apply Exists.intro; refine And.intro ?_ ?_
        · intro w1 hw1
          try go_simp
          try rfl
        try go_simp
        refine hK _ ?_; clear hK K; refine qWalk_step ?_; intro K hK; go_simp; apply Exists.intro; refine And.intro ?_ ?_
        · intro w1 hw1
          try go_simp
          try rfl
        try go_simp
        refine hK _ ?_; clear hK K; refine qWalk_step ?_; intro K hK; go_simp; apply Exists.intro; refine And.intro ?_ ?_
        · intro w1 hw1
          obtain ⟨hc, hf, hz⟩ := hw1.facts
          try simp at hz
          try go_simp
          try rfl
        try go_simp
        refine hK _ ?_; clear hK K; refine qWalk_step ?_; intro K hK; go_simp; apply Exists.intro; refine And.intro ?_ ?_
        · intro w1 hw1
          try go_simp
          exact up_call hw1 (C.out _ hw1)
        try go_simp
        refine hK _ ?_; clear hK K; refine qWalk_step ?_; intro K hK; go_simp; apply Exists.intro; refine And.intro ?_ ?_
        · intro w1 hw1
          try go_simp
          try rfl
        try go_simp
        refine hK _ ?_; clear hK K; refine qWalk_nil ?_; intro wA uA
        have UA := Lib.hid (UR.out.trans uA)
        clear uA p0 q0 p1 q1 p2 q2 p3 q3 p4 q4 p5 q5 p6 q6 p7 q7 p8 q8 p9 q9 p10 q10 p11 q11 C
        cases r
        · go_wp2
          go_ret
          exact ⟨ret_bool (by rw [← HR.out, S'.out]; rfl), UA.out⟩
        · have RN := Lib.hid (show decide (es.drop (k + 1) = fs.drop (k + 1)) = res by rw [← HR.out, S'.out]; rfl)
          go_wp2
          go_roundw
          case rel => exact ⟨⟨k + 1, by omega, by go_num, RN⟩, UA.out⟩
          case measure => simp [intOf]; omega
      · have e : decide (es.drop k = fs.drop k) = true := by rw [List.drop_eq_nil_of_le (by rw [LE.out]; omega), List.drop_eq_nil_of_le (by rw [LF.out]; omega)]; rfl
        have E := Lib.hid e
        have i4 : ¬ (k : Int) < n := by omega
        clear e; go_wp2; go_ret
        exact ⟨ret_bool (by rw [← HR.out, E.out]), ur⟩
  · have R := Lib.hid (show decide (es = fs) = false from decide_eq_false fun e => hnm (by rw [← hE.1, ← hF.1, e]))
    generalize decide (es = fs) = res at R ⊢
    have j1 : ¬ (n : Int) = m := by omega
    go_enter Tryz.func39, Tryz.ntmps39
    go_wp2; go_ret
    exact ⟨ret_bool R.out.symm, Up.refl _⟩
end Go.Proofs.YtlkmhmiamdbhcabGreat

namespace Go.Proofs.YtlkmhmiamdbhcabGreat
set_option maxRecDepth 100000
open Go.RowKit
set_option maxHeartbeats 20000000 in
theorem l2Rule_any (A : Option Addr) (n c : Nat) (kd : Int) (rs : List Rule) (w : World) (hR : Rules w A n rs) :
    Calls Tryz.prog 116 #[.slice A n c, .int .i64 kd] w (Found A kd rs w) := by
  have hbig := hR.2.1
  have HR := Lib.hid hR
  have LR := Lib.hid hR.1
  have RD := Lib.hid (ruleOf_drop kd rs)
  have ID := Lib.hid (ixOf_drop kd rs)
  have H0 := Lib.hid (show ruleOf kd (rs.drop 0) = ruleOf kd rs from rfl)
  have H1 := Lib.hid (show ixOf kd (rs.drop 0) + 0 = ixOf kd rs from rfl)
  clear hR
  go_enter Tryz.func116, Tryz.ntmps116
  go_wp2
  go_loopw [6] (fun i wr => (∃ q : Nat, q ≤ n ∧ i = .int .i64 q ∧ Hid (ruleOf kd (rs.drop q) = ruleOf kd rs) ∧ Hid (ixOf kd (rs.drop q) + q = ixOf kd rs)) ∧ wr = w.alloc (.cells #[.int .i64 0, .int .i64 0, .int .i64 0, .int .i64 0, .slice none 0 0] 161)) (fun i _ => n - (intOf i).toNat)
  case atStart => exact ⟨⟨0, by omega, rfl, H0, H1⟩, rfl⟩
  case round =>
    obtain ⟨⟨q, hq, rfl, HA, HI⟩, rfl⟩ := hrel
    have UA := Lib.hid ((Up.refl w).alloc (.cells #[.int .i64 0, .int .i64 0, .int .i64 0, .int .i64 0, .slice none 0 0] 161))
    by_cases hlt : q < n
    · obtain ⟨b, off, hA, hb, hc⟩ := HR.out.2.2 (by omega)
      subst hA
      have at2 := hc q hlt
      have T := RD.out q (by rw [LR.out]; exact hlt)
      rw [HA.out] at T
      have I := ID.out q (by rw [LR.out]; exact hlt)
      clear hc
      generalize rs.getD q default = r at at2 T I
      obtain ⟨A3, n3, c3, ⟨r0, r1, r2, r3, r4⟩, hn3, he3⟩ := at2; obtain ⟨k, ra, rb, rc, es⟩ := r; dsimp only at r0 r1 r2 r3 r4 T I he3
      have I := Lib.hid I
      have E3 := Lib.hid he3
      have T := Lib.hid T
      clear he3
      have i4 : (q : Int) < n := by omega
      have i5 : IntKind.i64.wrap ((q : Int) + 1) = (q : Int) + 1 := IntWalk.i64_in _ (by omega)
      by_cases hk : k = kd
      · subst hk
        have TT := Lib.hid (show ruleOf k rs = some ⟨k, ra, rb, rc, es⟩ by rw [T.out, if_pos rfl])
        have II := Lib.hid (show ixOf k rs = q by rw [← HI.out, I.out, if_pos rfl, Nat.zero_add])
        have C4 := Lib.hid r4
        have U2 := Lib.hid ((Up.refl w).alloc (.cells #[.int .i64 k, .int .i64 ra, .int .i64 rb, .int .i64 rc, .slice A3 n3 c3] 161))
        have E4 := Lib.hid (E3.out.up U2.out)
        go_wp2
        exact bodyPost_ret (v := .tuple #[.agg #[.int .i64 k, .int .i64 ra, .int .i64 rb, .int .i64 rc, .slice A3 n3 c3], .bool true]) (by simp [results, Tryz.results116, go_sem]) rfl ⟨U2.out, .inl ⟨⟨k, ra, rb, rc, es⟩, A3, n3, c3, TT.out, rfl, hn3, E4.out, fun b' off' hA' => by
          injection hA' with hA'
          injection hA' with h1 h2 _
          rw [← h1, ← h2, II.out]
          exact C4.out⟩⟩
      · have TT := Lib.hid (show ruleOf kd (rs.drop (q + 1)) = ruleOf kd rs by rw [T.out]; exact (if_neg hk).symm)
        have II := Lib.hid (show ixOf kd (rs.drop (q + 1)) + (q + 1) = ixOf kd rs by rw [← HI.out, I.out, if_neg hk]; omega)
        go_wp2
        go_roundw
        case rel => first | exact ⟨⟨q + 1, by omega, by first | rfl | go_num, TT, II⟩, rfl⟩ | exact ⟨q + 1, by omega, by first | rfl | go_num, TT, II⟩ | (refine ⟨⟨q + 1, by omega, by first | rfl | go_num, TT, II⟩, ?_⟩; trivial)
        case measure => (simp [intOf]; try omega)
    · have TN := Lib.hid (show ruleOf kd rs = none by rw [← HA.out, List.drop_eq_nil_of_le (by rw [LR.out]; omega)]; rfl)
      have i4 : ¬ (q : Int) < n := by omega
      go_wp2
      exact bodyPost_ret (v := .tuple #[.agg #[.int .i64 0, .int .i64 0, .int .i64 0, .int .i64 0, .slice none 0 0], .bool false]) (by simp [results, Tryz.results116, go_sem]) rfl ⟨UA.out, .inr ⟨TN.out, rfl⟩⟩
end Go.Proofs.YtlkmhmiamdbhcabGreat

namespace Go.Proofs.YtlkmhmiamdbhcabGreat
set_option maxRecDepth 100000
open Go.RowKit
theorem dR_0 {b3 b5 : Nat} {A : Option Addr} {n c bA off : Nat} {e : Evt} {A' : Option Addr} {n' c' : Nat} {r : Rule} {s : Value} {ok : Bool} {B : Nat} {v : Value} {w : World} : dR b3 b5 A n c bA off e A' n' c' r s ok B 0 v w = (v = .pointer (some ⟨b3, 0, none⟩)) := by simp [dR, dP]
theorem dR_1 {b3 b5 : Nat} {A : Option Addr} {n c bA off : Nat} {e : Evt} {A' : Option Addr} {n' c' : Nat} {r : Rule} {s : Value} {ok : Bool} {B : Nat} {v : Value} {w : World} : dR b3 b5 A n c bA off e A' n' c' r s ok B 1 v w = (v = .slice A n c) := by simp [dR, dP]
theorem dR_2 {b3 b5 : Nat} {A : Option Addr} {n c bA off : Nat} {e : Evt} {A' : Option Addr} {n' c' : Nat} {r : Rule} {s : Value} {ok : Bool} {B : Nat} {v : Value} {w : World} : dR b3 b5 A n c bA off e A' n' c' r s ok B 2 v w = (v = .pointer (some ⟨b5, 1, none⟩)) := by simp [dR, dP]
theorem dR_3 {b3 b5 : Nat} {A : Option Addr} {n c bA off : Nat} {e : Evt} {A' : Option Addr} {n' c' : Nat} {r : Rule} {s : Value} {ok : Bool} {B : Nat} {v : Value} {w : World} : dR b3 b5 A n c bA off e A' n' c' r s ok B 3 v w = (v = .int .i64 e.to) := by simp [dR, dP]
theorem dR_4 {b3 b5 : Nat} {A : Option Addr} {n c bA off : Nat} {e : Evt} {A' : Option Addr} {n' c' : Nat} {r : Rule} {s : Value} {ok : Bool} {B : Nat} {v : Value} {w : World} : dR b3 b5 A n c bA off e A' n' c' r s ok B 4 v w = (v = .pointer (some ⟨bA, off + e.to.toNat, none⟩)) := by simp [dR, dP]
theorem dR_5 {b3 b5 : Nat} {A : Option Addr} {n c bA off : Nat} {e : Evt} {A' : Option Addr} {n' c' : Nat} {r : Rule} {s : Value} {ok : Bool} {B : Nat} {v : Value} {w : World} : dR b3 b5 A n c bA off e A' n' c' r s ok B 5 v w = (v = .slice A' n' c') := by simp [dR, dP]
theorem dR_6 {b3 b5 : Nat} {A : Option Addr} {n c bA off : Nat} {e : Evt} {A' : Option Addr} {n' c' : Nat} {r : Rule} {s : Value} {ok : Bool} {B : Nat} {v : Value} {w : World} : dR b3 b5 A n c bA off e A' n' c' r s ok B 6 v w = (v = .pointer (some ⟨b5, 4, none⟩)) := by simp [dR, dP]
theorem dR_7 {b3 b5 : Nat} {A : Option Addr} {n c bA off : Nat} {e : Evt} {A' : Option Addr} {n' c' : Nat} {r : Rule} {s : Value} {ok : Bool} {B : Nat} {v : Value} {w : World} : dR b3 b5 A n c bA off e A' n' c' r s ok B 7 v w = (v = .int .i64 e.kd) := by simp [dR, dP]
theorem dR_8 {b3 b5 : Nat} {A : Option Addr} {n c bA off : Nat} {e : Evt} {A' : Option Addr} {n' c' : Nat} {r : Rule} {s : Value} {ok : Bool} {B : Nat} {v : Value} {w : World} : dR b3 b5 A n c bA off e A' n' c' r s ok B 8 v w = (v = .tuple #[r.v s, .bool ok]) := by simp [dR, dP]
theorem dR_9 {b3 b5 : Nat} {A : Option Addr} {n c bA off : Nat} {e : Evt} {A' : Option Addr} {n' c' : Nat} {r : Rule} {s : Value} {ok : Bool} {B : Nat} {v : Value} {w : World} : dR b3 b5 A n c bA off e A' n' c' r s ok B 9 v w = (v = .tuple #[r.v s, .bool ok]) := by simp [dR, dP]
theorem dR_10 {b3 b5 : Nat} {A : Option Addr} {n c bA off : Nat} {e : Evt} {A' : Option Addr} {n' c' : Nat} {r : Rule} {s : Value} {ok : Bool} {B : Nat} {v : Value} {w : World} : dR b3 b5 A n c bA off e A' n' c' r s ok B 10 v w = (v = r.v s) := by simp [dR, dP]
theorem dR_11 {b3 b5 : Nat} {A : Option Addr} {n c bA off : Nat} {e : Evt} {A' : Option Addr} {n' c' : Nat} {r : Rule} {s : Value} {ok : Bool} {B : Nat} {v : Value} {w : World} : dR b3 b5 A n c bA off e A' n' c' r s ok B 11 v w = (v = .bool ok) := by simp [dR, dP]
theorem dR_12 {b3 b5 : Nat} {A : Option Addr} {n c bA off : Nat} {e : Evt} {A' : Option Addr} {n' c' : Nat} {r : Rule} {s : Value} {ok : Bool} {B : Nat} {v : Value} {w : World} : dR b3 b5 A n c bA off e A' n' c' r s ok B 12 v w = (IsNew5 B v w) := by simp [dR]
theorem dR_13 {b3 b5 : Nat} {A : Option Addr} {n c bA off : Nat} {e : Evt} {A' : Option Addr} {n' c' : Nat} {r : Rule} {s : Value} {ok : Bool} {B : Nat} {v : Value} {w : World} : dR b3 b5 A n c bA off e A' n' c' r s ok B 13 v w = (∃ b, v = .pointer (some ⟨b, 0, none⟩) ∧ Laid5 w b (.int .i64 r.kd) (.int .i64 r.a) (.int .i64 r.b) (.int .i64 r.c) s) := by simp [dR]
theorem dR_lays {b3 b5 : Nat} {A : Option Addr} {n c bA off : Nat} {e : Evt} {A' : Option Addr} {n' c' : Nat} {r : Rule} {s : Value} {ok : Bool} {B : Nat} {v : Value} {w : World} (d : Nat) {w' : World} (h : dR b3 b5 A n c bA off e A' n' c' r s ok B d v w) (u : Lays (.int .i64 r.kd) (.int .i64 r.a) (.int .i64 r.b) (.int .i64 r.c) s w w') : dR b3 b5 A n c bA off e A' n' c' r s ok B d v w' := by
  unfold dR at h ⊢
  by_cases h1 : d = 12
  · rw [if_pos h1] at h ⊢
    exact h.lays u
  · rw [if_neg h1] at h ⊢
    by_cases h2 : d = 13
    · rw [if_pos h2] at h ⊢
      obtain ⟨b, hb, hl⟩ := h
      exact ⟨b, hb, u.laid b hl⟩
    · rw [if_neg h2] at h ⊢
      exact h
end Go.Proofs.YtlkmhmiamdbhcabGreat

/-
  Lists of items compared, marked and held, in one sentence: what eqHstItemS, markHstItemS and heldHstItemS return, and what those of hosts do to empty lists; for every list that lies in memory.
  Hosts that have done nothing compared, marked and held, in one sentence: what eqHstState, markHstState and heldHstState return; for every list of waiting items.
  Simulators in rows of the call's own, in one sentence: kept where blocks are made and where numbers are written elsewhere; SeqNew's result is one; no condition is made.
-/
import Derived.Test.YtipjcjjjkkaigaaDLEhsn06
import Derived.Test.YtipjcjjjkkaigaaDLEhsn11
import Derived.Test.YtipjcjjjkkaigaaDLEhsn13
namespace Go.Proofs.Ytipjcjjjkkaigaa
set_option maxRecDepth 100000
open Go.RowKit
set_option maxHeartbeats 4000000 in
theorem eqItm_any (a b : Rec) (w : World) : Calls Try.prog 92 #[a.v, b.v] w fun x w' => x = .returned (.bool (decide (a = b))) ∧ Up w w' := by
  obtain ⟨⟨a0, a1, a2, a3, a4, a5⟩, a6⟩ := a; obtain ⟨⟨b0, b1, b2, b3, b4, b5⟩, b6⟩ := b
  have hf := Lib.hid (show decide ((⟨⟨a0, a1, a2, a3, a4, a5⟩, a6⟩ : Rec) = ⟨⟨b0, b1, b2, b3, b4, b5⟩, b6⟩) = (eqB ⟨a0, a1, a2, a3, a4, a5⟩ ⟨b0, b1, b2, b3, b4, b5⟩ && decide (a6 = b6)) by unfold eqB; rw [Bool.eq_iff_iff]; simp)
  generalize decide ((⟨⟨a0, a1, a2, a3, a4, a5⟩, a6⟩ : Rec) = ⟨⟨b0, b1, b2, b3, b4, b5⟩, b6⟩) = r at hf ⊢
  have CL := fun W => eqEvt_any ⟨a0, a1, a2, a3, a4, a5⟩ ⟨b0, b1, b2, b3, b4, b5⟩ W
  generalize eqB ⟨a0, a1, a2, a3, a4, a5⟩ ⟨b0, b1, b2, b3, b4, b5⟩ = q at hf CL
  unfold Evt.v at CL; unfold Rec.v; dsimp only at CL ⊢
  have C := Lib.hid CL
  clear CL
  go_enter Try.func92, Try.ntmps92
  go_wp2_with fail
  have ua := Lib.hid (((Up.refl w).alloc (.cells #[.int .i64 a0, .int .i64 a1, .int .i64 a2, .int .i64 a3, .int .i64 a4, .int .i64 a5, .int .i64 a6] 53)).alloc (.cells #[.int .i64 b0, .int .i64 b1, .int .i64 b2, .int .i64 b3, .int .i64 b4, .int .i64 b5, .int .i64 b6] 53))
  refine (C.out _).mono ?_; rintro x w1 ⟨rfl, u1⟩
  have U1 := Lib.hid (ua.out.trans u1)
  obtain ⟨hc, hf1, hz⟩ := u1.facts; simp at hz; clear u1 ua
  cases q
  · have HR := Lib.hid (show r = false by rw [hf.out]; rfl)
    clear hf; go_wp2; go_ret
    exact ⟨ret_bool HR.out.symm, U1.out⟩
  · by_cases h : a6 = b6
    · have HR := Lib.hid (show r = true by rw [hf.out]; simp [h])
      subst h; clear hf; go_wp2; go_ret
      exact ⟨ret_bool HR.out.symm, U1.out⟩
    · have HR := Lib.hid (show r = false by rw [hf.out]; simp [h])
      have h0' : (a6 != b6) = true := by simp [h]
      clear hf; go_wp2; go_ret
      exact ⟨ret_bool HR.out.symm, U1.out⟩
set_option maxHeartbeats 4000000 in
theorem eqI_any (A B : Option Addr) (n m capa capb : Nat) (es fs : List Rec) (w : World) (hn : n ≤ 1000000000) (hE : Recs w A n es) (hF : Recs w B m fs) :
    Calls Try.prog 47 #[.slice A n capa, .slice B m capb] w fun x w' => x = .returned (.bool (decide (es = fs))) ∧ Up w w' := by
  by_cases hnm : n = m
  · subst hnm
    have H0 := Lib.hid (show decide (es.drop 0 = fs.drop 0) = decide (es = fs) from rfl)
    have ST := Lib.hid (eqT_drop default es fs (by rw [hE.1, hF.1]))
    have HE := Lib.hid hE
    have HF := Lib.hid hF
    have LE := Lib.hid hE.1
    have LF := Lib.hid hF.1
    have CL := Lib.hid (fun a b W => eqItm_any a b W)
    generalize hr : decide (es = fs) = res at H0 ⊢
    clear hE hF hr
    go_enter Try.func47, Try.ntmps47
    go_wp2
    go_loopw [5] (fun i wr => (∃ k : Nat, k ≤ n ∧ i = .int .i64 k ∧ Hid (decide (es.drop k = fs.drop k) = res)) ∧ Up w wr) (fun i _ => n - (intOf i).toNat)
    case atStart => exact ⟨⟨0, by omega, rfl, H0⟩, Up.refl _⟩
    case round =>
      obtain ⟨⟨k, hk, rfl, HR⟩, ur⟩ := hrel
      by_cases hlt : k < n
      · obtain ⟨b, off, hA, hb, hc⟩ := HE.out.2 (by omega)
        obtain ⟨b2, off2, hA2, hb2, hc2⟩ := HF.out.2 (by omega); subst hA hA2
        have a0 := (hc k hlt).up ur hb
        have a1 := (hc2 k hlt).up ur hb2
        have hb' : b < wr.heap.size := by have := ur.size; omega
        have hb2' : b2 < wr.heap.size := by have := ur.size; omega
        clear hc hc2
        have S := ST.out k (by rw [LE.out]; exact hlt)
        have cl := CL.out (es.getD k default) (fs.getD k default)
        generalize es.getD k default = p at a0 S cl
        generalize fs.getD k default = q at a1 S cl
        have S' := Lib.hid S
        clear S
        generalize decide (p = q) = r at S' cl
        unfold RecAt at a0 a1; unfold Rec.v at cl; obtain ⟨p0, p1, p2, p3, p4, p5, p6⟩ := a0; obtain ⟨q0, q1, q2, q3, q4, q5, q6⟩ := a1
        have C := Lib.hid cl
        clear cl
        have i4 : (k : Int) < n := by omega
        have UR := Lib.hid ur
        clear ur
        go_wp2_with fail
        refine region_qw (by kernel_rfl) (by kernel_rfl) ?_; refine qWalk_step ?_; intro K hK; go_simp; apply Exists.intro; refine And.intro ?_ ?_
        · intro w1 hw1
          try go_simp
          try rfl
        try go_simp
        refine hK _ ?_; clear hK K; refine qWalk_step ?_; intro K hK; go_simp; apply Exists.intro; refine And.intro ?_ ?_
        · intro w1 hw1
          try go_simp
          try rfl
        try go_simp
        refine hK _ ?_; clear hK K; refine qWalk_step ?_; intro K hK; go_simp; apply Exists.intro; refine And.intro ?_ ?_
        · intro w1 hw1
          try go_simp
          try rfl
        try go_simp
        refine hK _ ?_; clear hK K; refine qWalk_step ?_; intro K hK; go_simp; apply Exists.intro; refine And.intro ?_ ?_
        · intro w1 hw1
          obtain ⟨hc, hf, hz⟩ := hw1.facts
          try simp at hz
          try go_simp
          try rfl
        try go_simp
        refine hK _ ?_; clear hK K; refine qWalk_step ?_; intro K hK; go_simp; apply Exists.intro; refine And.intro ?_ ?_
        · intro w1 hw1
          try go_simp
          try rfl
        try go_simp
        refine hK _ ?_; clear hK K; refine qWalk_step ?_; intro K hK; go_simp; apply Exists.intro; refine And.intro ?_ ?_
        · intro w1 hw1
          try go_simp
          try rfl
        try go_simp
        refine hK _ ?_; clear hK K; refine qWalk_step ?_; intro K hK; go_simp; apply Exists.intro; refine And.intro ?_ ?_
        · intro w1 hw1
          try go_simp
          try rfl
        try go_simp
        refine hK _ ?_; clear hK K; refine qWalk_step ?_; intro K hK; go_simp; apply Exists.intro; refine And.intro ?_ ?_
        · intro w1 hw1
          obtain ⟨hc, hf, hz⟩ := hw1.facts
          try simp at hz
          try go_simp
          try rfl
        try go_simp
        refine hK _ ?_; clear hK K; refine qWalk_step ?_; intro K hK; go_simp; apply Exists.intro; refine And.intro ?_ ?_
        · intro w1 hw1
          try go_simp
          exact up_call hw1 (C.out _)
        try go_simp
        refine hK _ ?_; clear hK K; refine qWalk_step ?_; intro K hK; go_simp; apply Exists.intro; refine And.intro ?_ ?_
        · intro w1 hw1
          try go_simp
          try rfl
        try go_simp
        refine hK _ ?_; clear hK K; refine qWalk_nil ?_; intro wA uA
        have UA := Lib.hid (UR.out.trans uA)
        clear uA p0 p1 p2 p3 p4 p5 p6 q0 q1 q2 q3 q4 q5 q6 C
        cases r
        · go_wp2
          go_ret
          exact ⟨ret_bool (by rw [← HR.out, S'.out]; rfl), UA.out⟩
        · have RN := Lib.hid (show decide (es.drop (k + 1) = fs.drop (k + 1)) = res by rw [← HR.out, S'.out]; rfl)
          go_wp2
          go_roundw
          case rel => exact ⟨⟨k + 1, by omega, by go_num, RN⟩, UA.out⟩
          case measure => simp [intOf]; omega
      · have e : decide (es.drop k = fs.drop k) = true := by rw [List.drop_eq_nil_of_le (by rw [LE.out]; omega), List.drop_eq_nil_of_le (by rw [LF.out]; omega)]; rfl
        have E := Lib.hid e
        have i4 : ¬ (k : Int) < n := by omega
        clear e; go_wp2; go_ret
        exact ⟨ret_bool (by rw [← HR.out, E.out]), ur⟩
  · have hf := Lib.hid (show decide (es = fs) = false from decide_eq_false fun h => hnm (by rw [← hE.1, ← hF.1, h]))
    generalize decide (es = fs) = r at hf ⊢
    have hne : ((n : Int) != (m : Int)) = true := by rw [bne_iff_ne]; omega
    have HN := Lib.hid hnm
    clear hE hF hnm
    go_enter Try.func47, Try.ntmps47
    go_wp2; go_ret
    exact ⟨ret_bool hf.out.symm, Up.refl _⟩
set_option maxHeartbeats 4000000 in
theorem markI_any (g n c : Nat) (k0 : Int) (w : World) (hn : n ≤ 1048576) (h0 : 0 ≤ k0) (h1 : k0 ≤ 1000000000000) (hP : IntsOwn w g (n * 7)) :
    Calls Try.prog 54 #[.slice (some ⟨g, 0, none⟩) n c, .int .i64 k0] w fun x w' => x = .returned (.int .i64 (k0 + 7 * (n : Int))) ∧ Held w' (some ⟨g, 0, none⟩) n 7 k0 ∧ Mv g w w' := by
  have HP := Lib.hid (show HeldTo w g n 7 0 k0 from ⟨hP, fun i hi => absurd hi (by omega)⟩)
  clear hP
  go_enter Try.func54, Try.ntmps54
  go_wp2
  go_loopw [1, 5] (fun m i wr => (∃ k : Nat, k ≤ n ∧ i = .int .i64 k ∧ m = .int .i64 (k0 + 7 * (k : Int)) ∧ HeldTo wr g n 7 k k0) ∧ Mv g w wr) (fun _ i _ => n - (intOf i).toNat)
  case atStart => exact ⟨⟨0, by omega, rfl, by first | rfl | simp, HP.out⟩, Mv.refl _ _⟩
  case round =>
    obtain ⟨⟨k, hk, rfl, rfl, hp⟩, mv⟩ := hrel
    have PP := Lib.hid hp
    have MV := Lib.hid mv
    have hg := hp.1.1
    clear hp mv
    by_cases hlt : k < n
    · have le1 : k * 7 + 7 ≤ n * 7 := by omega
      obtain ⟨⟨v0, s0⟩, f0⟩ := PP.out.1.2 (k * 7) (by omega); obtain ⟨⟨v1, s1⟩, f1⟩ := PP.out.1.2 (k * 7 + 1) (by omega); obtain ⟨⟨v2, s2⟩, f2⟩ := PP.out.1.2 (k * 7 + 2) (by omega); obtain ⟨⟨v3, s3⟩, f3⟩ := PP.out.1.2 (k * 7 + 3) (by omega); obtain ⟨⟨v4, s4⟩, f4⟩ := PP.out.1.2 (k * 7 + 4) (by omega); obtain ⟨⟨v5, s5⟩, f5⟩ := PP.out.1.2 (k * 7 + 5) (by omega); obtain ⟨⟨v6, s6⟩, f6⟩ := PP.out.1.2 (k * 7 + 6) (by omega)
      have NX := Lib.hid (PP.out.step hlt)
      have MX := Lib.hid (MV.out.putN (k * 7) (k0 + 7 * (k : Int)) 7)
      have cs : ((7 : Nat) : Int) = 7 := rfl
      rw [cs] at NX; simp only [putN, incr, Nat.add_zero] at NX MX
      generalize hK : k0 + 7 * (k : Int) = K at NX MX ⊢
      have HK := Lib.hid hK
      have b0 : 0 ≤ K := by omega
      have b1 : K ≤ 1000007400000 := by omega
      have i4 : (k : Int) < n := by omega
      clear hK le1 cs; go_wp2
      go_roundw
      case rel => exact ⟨⟨k + 1, by omega, by go_num, by have := HK.out; first | (congr 1; omega) | go_num, NX.out⟩, MX.out⟩
      case measure => simp [intOf]; omega
    · obtain rfl : k = n := by omega
      have i4 : ¬ (k : Int) < k := by omega
      go_wp2; go_ret
      exact ⟨rfl, PP.out.held, MV.out⟩
theorem markI_no (A : Option Addr) (c : Nat) (k0 : Int) (w : World) : Calls Try.prog 54 #[.slice A 0 c, .int .i64 k0] w fun x w' => x = .returned (.int .i64 k0) ∧ Up w w' := by
  go_enter Try.func54, Try.ntmps54
  go_wp2
  go_loopw [1, 5] (fun m i wr => m = .int .i64 k0 ∧ i = .int .i64 0 ∧ Up w wr) (fun _ _ _ => 0)
  case atStart => exact ⟨rfl, rfl, Up.refl _⟩
  case round =>
    obtain ⟨rfl, rfl, u⟩ := hrel; go_wp2; go_ret
    exact ⟨rfl, u⟩
set_option maxHeartbeats 4000000 in
theorem heldI_any (A : Option Addr) (n c : Nat) (k0 : Int) (w : World) (hn : n ≤ 1048576) (h0 : 0 ≤ k0) (h1 : k0 ≤ 1000000000000) (hE : Held w A n 7 k0) :
    Calls Try.prog 57 #[.slice A n c, .int .i64 k0] w fun x w' => x = .returned (.int .i64 (k0 + 7 * (n : Int))) ∧ Up w w' := by
  have HE := Lib.hid hE
  clear hE
  go_enter Try.func57, Try.ntmps57
  go_wp2
  go_loopw [1, 5] (fun m i wr => (∃ k : Nat, k ≤ n ∧ i = .int .i64 k ∧ m = .int .i64 (k0 + 7 * (k : Int))) ∧ Up w wr) (fun _ i _ => n - (intOf i).toNat)
  case atStart => exact ⟨⟨0, by omega, rfl, by first | rfl | simp⟩, Up.refl _⟩
  case round =>
    obtain ⟨⟨k, hk, rfl, rfl⟩, ur⟩ := hrel
    by_cases hlt : k < n
    · obtain ⟨b, off, hA, hb, hc⟩ := HE.out (by omega)
      subst hA
      have c0 := (ur.cells _ _ hb).trans (hc k hlt 0 (by omega))
      have c1 := (ur.cells _ _ hb).trans (hc k hlt 1 (by omega))
      have c2 := (ur.cells _ _ hb).trans (hc k hlt 2 (by omega))
      have c3 := (ur.cells _ _ hb).trans (hc k hlt 3 (by omega))
      have c4 := (ur.cells _ _ hb).trans (hc k hlt 4 (by omega))
      have c5 := (ur.cells _ _ hb).trans (hc k hlt 5 (by omega))
      have c6 := (ur.cells _ _ hb).trans (hc k hlt 6 (by omega))
      have hb' : b < wr.heap.size := by have := ur.size; omega
      have cs : ((7 : Nat) : Int) = 7 := rfl
      rw [cs] at c0 c1 c2 c3 c4 c5 c6; simp only [incr, Nat.add_zero] at c0 c1 c2 c3 c4 c5 c6; clear hc
      generalize hK : k0 + 7 * (k : Int) = K at c0 c1 c2 c3 c4 c5 c6 ⊢
      have HK := Lib.hid hK
      have b0 : 0 ≤ K := by omega
      have b1 : K ≤ 1000007400000 := by omega
      have i4 : (k : Int) < n := by omega
      clear hK cs; go_wp2
      go_roundw
      case rel => exact ⟨⟨k + 1, by omega, by go_num, by have := HK.out; first | (congr 1; omega) | go_num⟩, ur⟩
      case measure => simp [intOf]; omega
    · obtain rfl : k = n := by omega
      have i4 : ¬ (k : Int) < k := by omega
      go_wp2; go_ret
      exact ⟨rfl, ur⟩
theorem markI_k (lo : Nat) (A : Option Addr) (n c t : Nat) (k0 : Int) (w : World) (hn : n ≤ 1048576) (h0 : 0 ≤ k0) (h1 : k0 ≤ 1000000000000) (h : Mkb w lo A n 7 t) :
    Calls Try.prog 54 #[.slice A n c, .int .i64 k0] w fun x w' => x = .returned (.int .i64 (k0 + 7 * (n : Int))) ∧ Held w' A n 7 k0 ∧ Wr lo A n w w' := by
  rcases Nat.eq_zero_or_pos n with hz | hz
  · subst hz
    refine (markI_no A c k0 w).mono ?_; rintro x w' ⟨rfl, u⟩
    exact ⟨by simp, Held.none_ _ _ _ _, .inl ⟨rfl, u⟩⟩
  · obtain ⟨g, xs, rfl, hg, ho, _⟩ := h hz
    refine (markI_any g n c k0 w hn h0 h1 ho).mono ?_; rintro x w' ⟨rfl, hh, m⟩
    exact ⟨rfl, hh, .inr ⟨hz, g, rfl, hg, m⟩⟩
theorem eqDn_no (A B : Option Addr) (c d : Nat) (w : World) : Calls Try.prog 46 #[.slice A 0 c, .slice B 0 d] w fun x w' => x = .returned (.bool true) ∧ Up w w' := by
  go_enter Try.func46, Try.ntmps46
  go_wp2
  go_loopw [5] (fun i wr => i = .int .i64 0 ∧ Up w wr) (fun _ _ => 0)
  case atStart => exact ⟨rfl, Up.refl _⟩
  case round =>
    obtain ⟨rfl, u⟩ := hrel; go_wp2; go_ret
    exact ⟨rfl, u⟩
theorem eqKp_no (A B : Option Addr) (c d : Nat) (w : World) : Calls Try.prog 48 #[.slice A 0 c, .slice B 0 d] w fun x w' => x = .returned (.bool true) ∧ Up w w' := by
  go_enter Try.func48, Try.ntmps48
  go_wp2
  go_loopw [5] (fun i wr => i = .int .i64 0 ∧ Up w wr) (fun _ _ => 0)
  case atStart => exact ⟨rfl, Up.refl _⟩
  case round =>
    obtain ⟨rfl, u⟩ := hrel; go_wp2; go_ret
    exact ⟨rfl, u⟩
theorem markDn_no (A : Option Addr) (c : Nat) (k0 : Int) (w : World) : Calls Try.prog 53 #[.slice A 0 c, .int .i64 k0] w fun x w' => x = .returned (.int .i64 k0) ∧ Up w w' := by
  go_enter Try.func53, Try.ntmps53
  go_wp2
  go_loopw [1, 5] (fun m i wr => m = .int .i64 k0 ∧ i = .int .i64 0 ∧ Up w wr) (fun _ _ _ => 0)
  case atStart => exact ⟨rfl, rfl, Up.refl _⟩
  case round =>
    obtain ⟨rfl, rfl, u⟩ := hrel; go_wp2; go_ret
    exact ⟨rfl, u⟩
theorem markKp_no (A : Option Addr) (c : Nat) (k0 : Int) (w : World) : Calls Try.prog 55 #[.slice A 0 c, .int .i64 k0] w fun x w' => x = .returned (.int .i64 k0) ∧ Up w w' := by
  go_enter Try.func55, Try.ntmps55
  go_wp2
  go_loopw [1, 5] (fun m i wr => m = .int .i64 k0 ∧ i = .int .i64 0 ∧ Up w wr) (fun _ _ _ => 0)
  case atStart => exact ⟨rfl, rfl, Up.refl _⟩
  case round =>
    obtain ⟨rfl, rfl, u⟩ := hrel; go_wp2; go_ret
    exact ⟨rfl, u⟩
theorem heldDn_no (A : Option Addr) (c : Nat) (k0 : Int) (w : World) : Calls Try.prog 56 #[.slice A 0 c, .int .i64 k0] w fun x w' => x = .returned (.int .i64 k0) ∧ Up w w' := by
  go_enter Try.func56, Try.ntmps56
  go_wp2
  go_loopw [1, 5] (fun m i wr => m = .int .i64 k0 ∧ i = .int .i64 0 ∧ Up w wr) (fun _ _ _ => 0)
  case atStart => exact ⟨rfl, rfl, Up.refl _⟩
  case round =>
    obtain ⟨rfl, rfl, u⟩ := hrel; go_wp2; go_ret
    exact ⟨rfl, u⟩
theorem heldKp_no (A : Option Addr) (c : Nat) (k0 : Int) (w : World) : Calls Try.prog 58 #[.slice A 0 c, .int .i64 k0] w fun x w' => x = .returned (.int .i64 k0) ∧ Up w w' := by
  go_enter Try.func58, Try.ntmps58
  go_wp2
  go_loopw [1, 5] (fun m i wr => m = .int .i64 k0 ∧ i = .int .i64 0 ∧ Up w wr) (fun _ _ _ => 0)
  case atStart => exact ⟨rfl, rfl, Up.refl _⟩
  case round =>
    obtain ⟨rfl, rfl, u⟩ := hrel; go_wp2; go_ret
    exact ⟨rfl, u⟩
end Go.Proofs.Ytipjcjjjkkaigaa

namespace Go.Proofs.Ytipjcjjjkkaigaa
set_option maxRecDepth 100000
open Go.RowKit
set_option maxHeartbeats 4000000 in
theorem eqHs_any (A : Option Addr) (n c : Nat) (B : Option Addr) (d : Nat) (es : List Rec) (w : World) (hn : n ≤ 1000000000) (h : Recs w A n es) (h' : Recs w B n es) :
    Calls Try.prog 14 #[.agg #[.int .i64 0, .int .i64 0, .int .i64 0, .int .i64 0, .slice none 0 0, .slice A n c, .slice none 0 0, .slice none 0 0], .agg #[.int .i64 0, .int .i64 0, .int .i64 0, .int .i64 0, .slice none 0 0, .slice B n d, .slice none 0 0, .slice none 0 0]] w fun x w' => x = .returned (.bool true) ∧ Up w w' := by
  have X0 := Lib.hid ((Blk.new w #[.int .i64 0, .int .i64 0, .int .i64 0, .int .i64 0, .slice none 0 0, .slice A n c, .slice none 0 0, .slice none 0 0] 33).alloc (.cells #[.int .i64 0, .int .i64 0, .int .i64 0, .int .i64 0, .slice none 0 0, .slice B n d, .slice none 0 0, .slice none 0 0] 33))
  have X1 := Lib.hid (Blk.new (w.alloc (.cells #[.int .i64 0, .int .i64 0, .int .i64 0, .int .i64 0, .slice none 0 0, .slice A n c, .slice none 0 0, .slice none 0 0] 33)) #[.int .i64 0, .int .i64 0, .int .i64 0, .int .i64 0, .slice none 0 0, .slice B n d, .slice none 0 0, .slice none 0 0] 33)
  simp only [World.size_alloc] at X1
  have ua := Lib.hid (((Up.refl w).alloc (.cells #[.int .i64 0, .int .i64 0, .int .i64 0, .int .i64 0, .slice none 0 0, .slice A n c, .slice none 0 0, .slice none 0 0] 33)).alloc (.cells #[.int .i64 0, .int .i64 0, .int .i64 0, .int .i64 0, .slice none 0 0, .slice B n d, .slice none 0 0, .slice none 0 0] 33))
  have C1 := Lib.hid (fun W => eqCst_any ⟨0, 0, 0⟩ ⟨0, 0, 0⟩ W)
  rw [decide_eq_true rfl] at C1; unfold Cst.v at C1
  have C2 := Lib.hid (fun W (u : Up w W) => eqI_any A B n n c d es es W hn (h.up u) (h'.up u))
  rw [decide_eq_true rfl] at C2
  have C3 := Lib.hid (fun W => eqI_any none none 0 0 0 0 [] [] W (by omega) (Recs.none_ W) (Recs.none_ W))
  rw [decide_eq_true rfl] at C3; clear h h'
  go_enter Try.func14, Try.ntmps14
  go_wp2_with fail
  generalize (w.alloc (.cells #[.int .i64 0, .int .i64 0, .int .i64 0, .int .i64 0, .slice none 0 0, .slice A n c, .slice none 0 0, .slice none 0 0] 33)).alloc (.cells #[.int .i64 0, .int .i64 0, .int .i64 0, .int .i64 0, .slice none 0 0, .slice B n d, .slice none 0 0, .slice none 0 0] 33) = W at *
  generalize hb1 : w.heap.size + 1 = b1 at *
  generalize hb0 : w.heap.size = b0 at *
  clear hb0 hb1; refine (C1.out _).mono ?_; rintro x wA ⟨rfl, uA⟩
  replace ua := Lib.hid (ua.out.trans uA)
  replace X0 := Lib.hid (X0.out.up uA)
  replace X1 := Lib.hid (X1.out.up uA)
  clear uA
  have z0 := X0.out.cell (j := 0) rfl
  have z1 := X0.out.cell (j := 1) rfl
  have z2 := X0.out.cell (j := 2) rfl
  have z3 := X0.out.cell (j := 3) rfl
  have z4 := X0.out.cell (j := 4) rfl
  have z5 := X0.out.cell (j := 5) rfl
  have z6 := X0.out.cell (j := 6) rfl
  have z7 := X0.out.cell (j := 7) rfl
  have lz := X0.out.lt
  have y0 := X1.out.cell (j := 0) rfl
  have y1 := X1.out.cell (j := 1) rfl
  have y2 := X1.out.cell (j := 2) rfl
  have y3 := X1.out.cell (j := 3) rfl
  have y4 := X1.out.cell (j := 4) rfl
  have y5 := X1.out.cell (j := 5) rfl
  have y6 := X1.out.cell (j := 6) rfl
  have y7 := X1.out.cell (j := 7) rfl
  have ly := X1.out.lt
  go_wp2_with fail
  refine (eqDn_no none none 0 0 _).mono ?_; rintro x wA ⟨rfl, uA⟩; clear z0 z1 z2 z3 z4 z5 z6 z7 y0 y1 y2 y3 y4 y5 y6 y7 lz ly
  replace ua := Lib.hid (ua.out.trans uA)
  replace X0 := Lib.hid (X0.out.up uA)
  replace X1 := Lib.hid (X1.out.up uA)
  clear uA
  have z0 := X0.out.cell (j := 0) rfl
  have z1 := X0.out.cell (j := 1) rfl
  have z2 := X0.out.cell (j := 2) rfl
  have z3 := X0.out.cell (j := 3) rfl
  have z4 := X0.out.cell (j := 4) rfl
  have z5 := X0.out.cell (j := 5) rfl
  have z6 := X0.out.cell (j := 6) rfl
  have z7 := X0.out.cell (j := 7) rfl
  have lz := X0.out.lt
  have y0 := X1.out.cell (j := 0) rfl
  have y1 := X1.out.cell (j := 1) rfl
  have y2 := X1.out.cell (j := 2) rfl
  have y3 := X1.out.cell (j := 3) rfl
  have y4 := X1.out.cell (j := 4) rfl
  have y5 := X1.out.cell (j := 5) rfl
  have y6 := X1.out.cell (j := 6) rfl
  have y7 := X1.out.cell (j := 7) rfl
  have ly := X1.out.lt
  go_wp2_with fail
  refine (C2.out _ ua.out).mono ?_; rintro x wA ⟨rfl, uA⟩; clear z0 z1 z2 z3 z4 z5 z6 z7 y0 y1 y2 y3 y4 y5 y6 y7 lz ly
  replace ua := Lib.hid (ua.out.trans uA)
  replace X0 := Lib.hid (X0.out.up uA)
  replace X1 := Lib.hid (X1.out.up uA)
  clear uA
  have z0 := X0.out.cell (j := 0) rfl
  have z1 := X0.out.cell (j := 1) rfl
  have z2 := X0.out.cell (j := 2) rfl
  have z3 := X0.out.cell (j := 3) rfl
  have z4 := X0.out.cell (j := 4) rfl
  have z5 := X0.out.cell (j := 5) rfl
  have z6 := X0.out.cell (j := 6) rfl
  have z7 := X0.out.cell (j := 7) rfl
  have lz := X0.out.lt
  have y0 := X1.out.cell (j := 0) rfl
  have y1 := X1.out.cell (j := 1) rfl
  have y2 := X1.out.cell (j := 2) rfl
  have y3 := X1.out.cell (j := 3) rfl
  have y4 := X1.out.cell (j := 4) rfl
  have y5 := X1.out.cell (j := 5) rfl
  have y6 := X1.out.cell (j := 6) rfl
  have y7 := X1.out.cell (j := 7) rfl
  have ly := X1.out.lt
  go_wp2_with fail
  refine (C3.out _).mono ?_; rintro x wA ⟨rfl, uA⟩; clear z0 z1 z2 z3 z4 z5 z6 z7 y0 y1 y2 y3 y4 y5 y6 y7 lz ly
  replace ua := Lib.hid (ua.out.trans uA)
  replace X0 := Lib.hid (X0.out.up uA)
  replace X1 := Lib.hid (X1.out.up uA)
  clear uA
  have z0 := X0.out.cell (j := 0) rfl
  have z1 := X0.out.cell (j := 1) rfl
  have z2 := X0.out.cell (j := 2) rfl
  have z3 := X0.out.cell (j := 3) rfl
  have z4 := X0.out.cell (j := 4) rfl
  have z5 := X0.out.cell (j := 5) rfl
  have z6 := X0.out.cell (j := 6) rfl
  have z7 := X0.out.cell (j := 7) rfl
  have lz := X0.out.lt
  have y0 := X1.out.cell (j := 0) rfl
  have y1 := X1.out.cell (j := 1) rfl
  have y2 := X1.out.cell (j := 2) rfl
  have y3 := X1.out.cell (j := 3) rfl
  have y4 := X1.out.cell (j := 4) rfl
  have y5 := X1.out.cell (j := 5) rfl
  have y6 := X1.out.cell (j := 6) rfl
  have y7 := X1.out.cell (j := 7) rfl
  have ly := X1.out.lt
  go_wp2_with fail
  refine (eqKp_no none none 0 0 _).mono ?_; rintro x wA ⟨rfl, uA⟩; clear z0 z1 z2 z3 z4 z5 z6 z7 y0 y1 y2 y3 y4 y5 y6 y7 lz ly
  replace ua := Lib.hid (ua.out.trans uA)
  replace X0 := Lib.hid (X0.out.up uA)
  replace X1 := Lib.hid (X1.out.up uA)
  clear uA
  have z0 := X0.out.cell (j := 0) rfl
  have z1 := X0.out.cell (j := 1) rfl
  have z2 := X0.out.cell (j := 2) rfl
  have z3 := X0.out.cell (j := 3) rfl
  have z4 := X0.out.cell (j := 4) rfl
  have z5 := X0.out.cell (j := 5) rfl
  have z6 := X0.out.cell (j := 6) rfl
  have z7 := X0.out.cell (j := 7) rfl
  have lz := X0.out.lt
  have y0 := X1.out.cell (j := 0) rfl
  have y1 := X1.out.cell (j := 1) rfl
  have y2 := X1.out.cell (j := 2) rfl
  have y3 := X1.out.cell (j := 3) rfl
  have y4 := X1.out.cell (j := 4) rfl
  have y5 := X1.out.cell (j := 5) rfl
  have y6 := X1.out.cell (j := 6) rfl
  have y7 := X1.out.cell (j := 7) rfl
  have ly := X1.out.lt
  go_wp2; go_ret
  exact ⟨rfl, ua.out⟩
theorem Blk.wr {w w' : World} {lo b t : Nat} {A : Option Addr} {n : Nat} {arr : Array Value} (h : Blk w b t arr) (hw : Wr lo A n w w') (hne : 0 < n → ∀ g, A = some ⟨g, 0, none⟩ → g ≠ b) : Blk w' b t arr := by
  rcases hw with ⟨_, u⟩ | ⟨hn, g, hA, _, m⟩
  · exact h.up u
  · have := hne hn g hA
    exact h.mv m (by omega)
set_option maxHeartbeats 4000000 in
theorem markHs_any (lo : Nat) (A : Option Addr) (n c : Nat) (w : World) (hn : n ≤ 1048576) (h : Mkb w lo A n 7 53) :
    Calls Try.prog 17 #[.agg #[.int .i64 0, .int .i64 0, .int .i64 0, .int .i64 0, .slice none 0 0, .slice A n c, .slice none 0 0, .slice none 0 0], .int .i64 1] w fun x w' => x = .returned (.int .i64 (1 + 7 * (n : Int))) ∧ Held w' A n 7 1 ∧ (∀ a, Up a w → a.heap.size ≤ lo → lo ≤ w.heap.size → Up a w') ∧ (∀ b t arr, Blk w b t arr → (0 < n → ∀ g, A = some ⟨g, 0, none⟩ → g ≠ b) → Blk w' b t arr) ∧ w.heap.size ≤ w'.heap.size := by
  have ua := Lib.hid ((Up.refl w).alloc (.cells #[.int .i64 0, .int .i64 0, .int .i64 0, .int .i64 0, .slice none 0 0, .slice A n c, .slice none 0 0, .slice none 0 0] 33))
  have M := Lib.hid (h.up ua.out)
  have X0 := Lib.hid (Blk.new w #[.int .i64 0, .int .i64 0, .int .i64 0, .int .i64 0, .slice none 0 0, .slice A n c, .slice none 0 0, .slice none 0 0] 33)
  have NE := Lib.hid (fun (hp : 0 < n) => (show ∀ g, A = some ⟨g, 0, none⟩ → g ≠ w.heap.size from fun g hA e => by obtain ⟨g', xs, h1, _, h3, _⟩ := h hp; rw [h1] at hA; injection hA with hA; injection hA with hA _ _; have := h3.1; omega))
  have U0 := Lib.hid ua.out
  clear h
  go_enter Try.func17, Try.ntmps17
  go_wp2_with fail
  generalize hb : w.heap.size = bx at *
  generalize w.alloc (.cells #[.int .i64 0, .int .i64 0, .int .i64 0, .int .i64 0, .slice none 0 0, .slice A n c, .slice none 0 0, .slice none 0 0] 33) = W at *
  refine (markDn_no none 0 1 W).mono ?_; rintro x w1 ⟨rfl, u1⟩
  replace X0 := Lib.hid (X0.out.up u1)
  replace M := Lib.hid (M.out.up u1)
  replace U0 := Lib.hid (U0.out.trans u1)
  clear u1
  have z0 := X0.out.cell (j := 0) rfl
  have z1 := X0.out.cell (j := 1) rfl
  have z2 := X0.out.cell (j := 2) rfl
  have z3 := X0.out.cell (j := 3) rfl
  have z4 := X0.out.cell (j := 4) rfl
  have z5 := X0.out.cell (j := 5) rfl
  have z6 := X0.out.cell (j := 6) rfl
  have z7 := X0.out.cell (j := 7) rfl
  have lz := X0.out.lt
  go_wp2_with fail
  refine (markI_k lo A n c _ 1 w1 hn (by omega) (by omega) M.out).mono ?_; rintro x w2 ⟨rfl, hh1, wr1⟩; clear z0 z1 z2 z3 z4 z5 z6 z7 lz
  have H1 := Lib.hid hh1
  have R1 := Lib.hid wr1
  replace X0 := Lib.hid (X0.out.wr wr1 NE.out)
  have K1 : 0 ≤ 1 + 7 * (n : Int) ∧ 1 + 7 * (n : Int) ≤ 10000000 := by omega
  clear hh1 wr1
  have z0 := X0.out.cell (j := 0) rfl
  have z1 := X0.out.cell (j := 1) rfl
  have z2 := X0.out.cell (j := 2) rfl
  have z3 := X0.out.cell (j := 3) rfl
  have z4 := X0.out.cell (j := 4) rfl
  have z5 := X0.out.cell (j := 5) rfl
  have z6 := X0.out.cell (j := 6) rfl
  have z7 := X0.out.cell (j := 7) rfl
  have lz := X0.out.lt
  go_wp2_with fail
  refine (markI_no none 0 (1 + 7 * (n : Int)) w2).mono ?_; rintro x w3 ⟨rfl, u3⟩; clear z0 z1 z2 z3 z4 z5 z6 z7 lz
  replace X0 := Lib.hid (X0.out.up u3)
  have U3 := Lib.hid u3
  clear u3
  have z0 := X0.out.cell (j := 0) rfl
  have z1 := X0.out.cell (j := 1) rfl
  have z2 := X0.out.cell (j := 2) rfl
  have z3 := X0.out.cell (j := 3) rfl
  have z4 := X0.out.cell (j := 4) rfl
  have z5 := X0.out.cell (j := 5) rfl
  have z6 := X0.out.cell (j := 6) rfl
  have z7 := X0.out.cell (j := 7) rfl
  have lz := X0.out.lt
  go_wp2_with fail
  refine (markKp_no none 0 (1 + 7 * (n : Int)) w3).mono ?_; rintro x w4 ⟨rfl, u4⟩; clear z0 z1 z2 z3 z4 z5 z6 z7 lz
  have U4 := Lib.hid (U3.out.trans u4)
  clear u4; go_wp2; go_ret; refine ⟨rfl, H1.out.up U4.out, fun a ha hl _ => (R1.out.up (ha.trans U0.out) hl).trans U4.out, fun b t arr hb hne => ((hb.up U0.out).wr R1.out hne).up U4.out, ?_⟩
  have s0 := U0.out.size
  have s1 := R1.out.size
  have s4 := U4.out.size
  omega
set_option maxHeartbeats 4000000 in
theorem heldHs_any (A : Option Addr) (n c : Nat) (w : World) (hn : n ≤ 1048576) (h : Held w A n 7 1) :
    Calls Try.prog 18 #[.agg #[.int .i64 0, .int .i64 0, .int .i64 0, .int .i64 0, .slice none 0 0, .slice A n c, .slice none 0 0, .slice none 0 0], .int .i64 1] w fun x w' => x = .returned (.int .i64 (1 + 7 * (n : Int))) ∧ Up w w' := by
  have HH := Lib.hid h
  have ua := Lib.hid ((Up.refl w).alloc (.cells #[.int .i64 0, .int .i64 0, .int .i64 0, .int .i64 0, .slice none 0 0, .slice A n c, .slice none 0 0, .slice none 0 0] 33))
  have X0 := Lib.hid (Blk.new w #[.int .i64 0, .int .i64 0, .int .i64 0, .int .i64 0, .slice none 0 0, .slice A n c, .slice none 0 0, .slice none 0 0] 33)
  have K1 : 0 ≤ 1 + 7 * (n : Int) ∧ 1 + 7 * (n : Int) ≤ 10000000 := by omega
  have K1' : ¬ 1 + 7 * (n : Int) < 0 := by omega
  clear h
  go_enter Try.func18, Try.ntmps18
  go_wp2_with fail
  generalize w.alloc (.cells #[.int .i64 0, .int .i64 0, .int .i64 0, .int .i64 0, .slice none 0 0, .slice A n c, .slice none 0 0, .slice none 0 0] 33) = W at *
  refine (heldDn_no none 0 1 W).mono ?_; rintro x wA ⟨rfl, uA⟩
  replace ua := Lib.hid (ua.out.trans uA)
  replace X0 := Lib.hid (X0.out.up uA)
  clear uA
  have z0 := X0.out.cell (j := 0) rfl
  have z1 := X0.out.cell (j := 1) rfl
  have z2 := X0.out.cell (j := 2) rfl
  have z3 := X0.out.cell (j := 3) rfl
  have z4 := X0.out.cell (j := 4) rfl
  have z5 := X0.out.cell (j := 5) rfl
  have z6 := X0.out.cell (j := 6) rfl
  have z7 := X0.out.cell (j := 7) rfl
  have lz := X0.out.lt
  go_wp2_with fail
  refine (heldI_any A n c 1 _ hn (by omega) (by omega) (HH.out.up ua.out)).mono ?_; rintro x wA ⟨rfl, uA⟩; clear z0 z1 z2 z3 z4 z5 z6 z7 lz
  replace ua := Lib.hid (ua.out.trans uA)
  replace X0 := Lib.hid (X0.out.up uA)
  clear uA
  have z0 := X0.out.cell (j := 0) rfl
  have z1 := X0.out.cell (j := 1) rfl
  have z2 := X0.out.cell (j := 2) rfl
  have z3 := X0.out.cell (j := 3) rfl
  have z4 := X0.out.cell (j := 4) rfl
  have z5 := X0.out.cell (j := 5) rfl
  have z6 := X0.out.cell (j := 6) rfl
  have z7 := X0.out.cell (j := 7) rfl
  have lz := X0.out.lt
  go_wp2_with fail
  refine (heldI_any none 0 0 (1 + 7 * (n : Int)) _ (by omega) (by omega) (by omega) (Held.none_ _ _ _ _)).mono ?_; rintro x wA ⟨rfl, uA⟩; clear z0 z1 z2 z3 z4 z5 z6 z7 lz
  replace ua := Lib.hid (ua.out.trans uA)
  replace X0 := Lib.hid (X0.out.up uA)
  clear uA
  have z0 := X0.out.cell (j := 0) rfl
  have z1 := X0.out.cell (j := 1) rfl
  have z2 := X0.out.cell (j := 2) rfl
  have z3 := X0.out.cell (j := 3) rfl
  have z4 := X0.out.cell (j := 4) rfl
  have z5 := X0.out.cell (j := 5) rfl
  have z6 := X0.out.cell (j := 6) rfl
  have z7 := X0.out.cell (j := 7) rfl
  have lz := X0.out.lt
  go_wp2_with fail
  refine (heldKp_no none 0 (1 + 7 * (n : Int)) _).mono ?_; rintro x wA ⟨rfl, uA⟩; clear z0 z1 z2 z3 z4 z5 z6 z7 lz
  replace ua := Lib.hid (ua.out.trans uA)
  replace X0 := Lib.hid (X0.out.up uA)
  clear uA
  have z0 := X0.out.cell (j := 0) rfl
  have z1 := X0.out.cell (j := 1) rfl
  have z2 := X0.out.cell (j := 2) rfl
  have z3 := X0.out.cell (j := 3) rfl
  have z4 := X0.out.cell (j := 4) rfl
  have z5 := X0.out.cell (j := 5) rfl
  have z6 := X0.out.cell (j := 6) rfl
  have z7 := X0.out.cell (j := 7) rfl
  have lz := X0.out.lt
  go_wp2; go_ret
  exact ⟨rfl, ua.out⟩
end Go.Proofs.Ytipjcjjjkkaigaa

namespace Go.Proofs.Ytipjcjjjkkaigaa
set_option maxRecDepth 100000
open Go.RowKit
theorem Mkb.ints {lo hi : Nat} {w w' : World} {l : Nat} {A : Option Addr} {n s t : Nat} (h : Mkb w l A n s t) (m : Ints lo hi w w') (hb : hi ≤ l) : Mkb w' l A n s t := fun hn => by
  obtain ⟨g, xs, hA, hl, ho, hh⟩ := h hn; refine ⟨g, xs, hA, hl, ⟨Nat.lt_of_lt_of_le ho.1 m.size, fun j hj => (ho.2 j hj).ints m ho.1⟩, (m.block g ho.1 (.inr (by omega))).trans hh⟩
end Go.Proofs.Ytipjcjjjkkaigaa

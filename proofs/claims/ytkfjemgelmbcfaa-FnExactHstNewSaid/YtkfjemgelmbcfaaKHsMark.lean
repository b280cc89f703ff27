/-
  Lists of items compared, marked and held, in one sentence: what eqHstItemS, markHstItemS and heldHstItemS return, and what those of hosts do to empty lists; for every list that lies in memory.
-/
import Derived.Test.YtkfjemgelmbcfaaKZ2
namespace Go.Proofs.Ytkfjemgelmbcfaa
set_option maxRecDepth 100000
open Go.RowKit

set_option maxHeartbeats 4000000 in
theorem eqItm_any (a b : Rec) (w : World) : Calls Try.prog 145 #[a.v, b.v] w fun x w' => x = .returned (.bool (decide (a = b))) ∧ Up w w' := by
  obtain ⟨⟨a0, a1, a2, a3, a4, a5⟩, a6⟩ := a
  obtain ⟨⟨b0, b1, b2, b3, b4, b5⟩, b6⟩ := b
  have hf := Lib.hid (show decide ((⟨⟨a0, a1, a2, a3, a4, a5⟩, a6⟩ : Rec) = ⟨⟨b0, b1, b2, b3, b4, b5⟩, b6⟩) = (eqB ⟨a0, a1, a2, a3, a4, a5⟩ ⟨b0, b1, b2, b3, b4, b5⟩ && decide (a6 = b6)) by unfold eqB; rw [Bool.eq_iff_iff]; simp)
  generalize decide ((⟨⟨a0, a1, a2, a3, a4, a5⟩, a6⟩ : Rec) = ⟨⟨b0, b1, b2, b3, b4, b5⟩, b6⟩) = r at hf ⊢
  have CL := fun W => eqEvt_any ⟨a0, a1, a2, a3, a4, a5⟩ ⟨b0, b1, b2, b3, b4, b5⟩ W
  generalize eqB ⟨a0, a1, a2, a3, a4, a5⟩ ⟨b0, b1, b2, b3, b4, b5⟩ = q at hf CL
  unfold Evt.v at CL
  unfold Rec.v
  dsimp only at CL ⊢
  have C := Lib.hid CL
  clear CL
  go_enter Try.func145, Try.ntmps145
  go_wp2_with fail
  have ua := Lib.hid (((Up.refl w).alloc (.cells #[.int .i64 a0, .int .i64 a1, .int .i64 a2, .int .i64 a3, .int .i64 a4, .int .i64 a5, .int .i64 a6] 94)).alloc (.cells #[.int .i64 b0, .int .i64 b1, .int .i64 b2, .int .i64 b3, .int .i64 b4, .int .i64 b5, .int .i64 b6] 94))
  refine (C.out _).mono ?_
  rintro x w1 ⟨rfl, u1⟩
  have U1 := Lib.hid (ua.out.trans u1)
  obtain ⟨hc, hf1, hz⟩ := u1.facts
  simp at hz
  clear u1 ua
  cases q
  · have HR := Lib.hid (show r = false by rw [hf.out]; rfl)
    clear hf
    go_wp2
    go_ret
    exact ⟨ret_bool HR.out.symm, U1.out⟩
  · by_cases h : a6 = b6
    · have HR := Lib.hid (show r = true by rw [hf.out]; simp [h])
      subst h
      clear hf
      go_wp2
      go_ret
      exact ⟨ret_bool HR.out.symm, U1.out⟩
    · have HR := Lib.hid (show r = false by rw [hf.out]; simp [h])
      have h0' : (a6 != b6) = true := by simp [h]
      clear hf
      go_wp2
      go_ret
      exact ⟨ret_bool HR.out.symm, U1.out⟩

set_option maxHeartbeats 4000000 in
theorem eqI_any (A B : Option Addr) (n m capa capb : Nat) (es fs : List Rec) (w : World) (hn : n ≤ 1000000000) (hE : Recs w A n es) (hF : Recs w B m fs) :
    Calls Try.prog 107 #[.slice A n capa, .slice B m capb] w fun x w' => x = .returned (.bool (decide (es = fs))) ∧ Up w w' := by
  by_cases hnm : n = m
  · subst hnm
    have H0 := Lib.hid (show decide (es.drop 0 = fs.drop 0) = decide (es = fs) from rfl)
    have ST := Lib.hid (eqT_drop default es fs (by rw [hE.1, hF.1]))
    have HE := Lib.hid hE
    have HF := Lib.hid hF
    have LE := Lib.hid hE.1
    have LF := Lib.hid hF.1
    have CL := Lib.hid (fun a b W => eqItm_any a b W)
    generalize hr : decide (es = fs) = res at H0 ⊢
    clear hE hF hr
    go_enter Try.func107, Try.ntmps107
    go_wp2
    go_loopw [5] (fun i wr => (∃ k : Nat, k ≤ n ∧ i = .int .i64 k ∧ Hid (decide (es.drop k = fs.drop k) = res)) ∧ Up w wr) (fun i _ => n - (intOf i).toNat)
    case atStart => exact ⟨⟨0, by omega, rfl, H0⟩, Up.refl _⟩
    case round =>
      obtain ⟨⟨k, hk, rfl, HR⟩, ur⟩ := hrel
      by_cases hlt : k < n
      · obtain ⟨b, off, hA, hb, hc⟩ := HE.out.2 (by omega)
        obtain ⟨b2, off2, hA2, hb2, hc2⟩ := HF.out.2 (by omega)
        subst hA hA2
        have a0 := (hc k hlt).up ur hb
        have a1 := (hc2 k hlt).up ur hb2
        have hb' : b < wr.heap.size := by have := ur.size; omega
        have hb2' : b2 < wr.heap.size := by have := ur.size; omega
        clear hc hc2
        have S := ST.out k (by rw [LE.out]; exact hlt)
        have cl := CL.out (es.getD k default) (fs.getD k default)
        generalize es.getD k default = p at a0 S cl
        generalize fs.getD k default = q at a1 S cl
        have S' := Lib.hid S
        clear S
        generalize decide (p = q) = r at S' cl
        unfold RecAt at a0 a1
        unfold Rec.v at cl
        obtain ⟨p0, p1, p2, p3, p4, p5, p6⟩ := a0
        obtain ⟨q0, q1, q2, q3, q4, q5, q6⟩ := a1
        have C := Lib.hid cl
        clear cl
        have i4 : (k : Int) < n := by omega
        have UR := Lib.hid ur
        clear ur
        go_wp2_with fail
        refine region_qw (by kernel_rfl) (by kernel_rfl) ?_
        refine qWalk_step ?_
        intro K hK
        go_simp
        apply Exists.intro
        refine And.intro ?_ ?_
        · intro w1 hw1
          try go_simp
          try rfl
        try go_simp
        refine hK _ ?_
        clear hK K
        refine qWalk_step ?_
        intro K hK
        go_simp
        apply Exists.intro
        refine And.intro ?_ ?_
        · intro w1 hw1
          try go_simp
          try rfl
        try go_simp
        refine hK _ ?_
        clear hK K
        refine qWalk_step ?_
        intro K hK
        go_simp
        apply Exists.intro
        refine And.intro ?_ ?_
        · intro w1 hw1
          try go_simp
          try rfl
        try go_simp
        refine hK _ ?_
        clear hK K
        refine qWalk_step ?_
        intro K hK
        go_simp
        apply Exists.intro
        refine And.intro ?_ ?_
        · intro w1 hw1
          obtain ⟨hc, hf, hz⟩ := hw1.facts
          try simp at hz
          try go_simp
          try rfl
        try go_simp
        refine hK _ ?_
        clear hK K
        refine qWalk_step ?_
        intro K hK
        go_simp
        apply Exists.intro
        refine And.intro ?_ ?_
        · intro w1 hw1
          try go_simp
          try rfl
        try go_simp
        refine hK _ ?_
        clear hK K
        refine qWalk_step ?_
        intro K hK
        go_simp
        apply Exists.intro
        refine And.intro ?_ ?_
        · intro w1 hw1
          try go_simp
          try rfl
        try go_simp
        refine hK _ ?_
        clear hK K
        refine qWalk_step ?_
        intro K hK
        go_simp
        apply Exists.intro
        refine And.intro ?_ ?_
        · intro w1 hw1
          try go_simp
          try rfl
        try go_simp
        refine hK _ ?_
        clear hK K
        refine qWalk_step ?_
        intro K hK
        go_simp
        apply Exists.intro
        refine And.intro ?_ ?_
        · intro w1 hw1
          obtain ⟨hc, hf, hz⟩ := hw1.facts
          try simp at hz
          try go_simp
          try rfl
        try go_simp
        refine hK _ ?_
        clear hK K
        refine qWalk_step ?_
        intro K hK
        go_simp
        apply Exists.intro
        refine And.intro ?_ ?_
        · intro w1 hw1
          try go_simp
          exact up_call hw1 (C.out _)
        try go_simp
        refine hK _ ?_
        clear hK K
        refine qWalk_step ?_
        intro K hK
        go_simp
        apply Exists.intro
        refine And.intro ?_ ?_
        · intro w1 hw1
          try go_simp
          try rfl
        try go_simp
        refine hK _ ?_
        clear hK K
        refine qWalk_nil ?_
        intro wA uA
        have UA := Lib.hid (UR.out.trans uA)
        clear uA p0 p1 p2 p3 p4 p5 p6 q0 q1 q2 q3 q4 q5 q6 C
        cases r
        · go_wp2
          go_ret
          exact ⟨ret_bool (by rw [← HR.out, S'.out]; rfl), UA.out⟩
        · have RN := Lib.hid (show decide (es.drop (k + 1) = fs.drop (k + 1)) = res by rw [← HR.out, S'.out]; rfl)
          go_wp2
          go_roundw
          case rel => exact ⟨⟨k + 1, by omega, by go_num, RN⟩, UA.out⟩
          case measure => simp [intOf]; omega
      · have e : decide (es.drop k = fs.drop k) = true := by rw [List.drop_eq_nil_of_le (by rw [LE.out]; omega), List.drop_eq_nil_of_le (by rw [LF.out]; omega)]; rfl
        have E := Lib.hid e
        have i4 : ¬ (k : Int) < n := by omega
        clear e
        go_wp2
        go_ret
        exact ⟨ret_bool (by rw [← HR.out, E.out]), ur⟩
  · have hf := Lib.hid (show decide (es = fs) = false from decide_eq_false fun h => hnm (by rw [← hE.1, ← hF.1, h]))
    generalize decide (es = fs) = r at hf ⊢
    have hne : ((n : Int) != (m : Int)) = true := by rw [bne_iff_ne]; omega
    have HN := Lib.hid hnm
    clear hE hF hnm
    go_enter Try.func107, Try.ntmps107
    go_wp2
    go_ret
    exact ⟨ret_bool hf.out.symm, Up.refl _⟩

set_option maxHeartbeats 4000000 in
theorem markI_any (g n c : Nat) (k0 : Int) (w : World) (hn : n ≤ 1048576) (h0 : 0 ≤ k0) (h1 : k0 ≤ 1000000000000) (hP : IntsOwn w g (n * 7)) :
    Calls Try.prog 110 #[.slice (some ⟨g, 0, none⟩) n c, .int .i64 k0] w fun x w' => x = .returned (.int .i64 (k0 + 7 * (n : Int))) ∧ Held w' (some ⟨g, 0, none⟩) n 7 k0 ∧ Mv g w w' := by
  have HP := Lib.hid (show HeldTo w g n 7 0 k0 from ⟨hP, fun i hi => absurd hi (by omega)⟩)
  clear hP
  go_enter Try.func110, Try.ntmps110
  go_wp2
  go_loopw [1, 5] (fun m i wr => (∃ k : Nat, k ≤ n ∧ i = .int .i64 k ∧ m = .int .i64 (k0 + 7 * (k : Int)) ∧ HeldTo wr g n 7 k k0) ∧ Mv g w wr) (fun _ i _ => n - (intOf i).toNat)
  case atStart => exact ⟨⟨0, by omega, rfl, by first | rfl | simp, HP.out⟩, Mv.refl _ _⟩
  case round =>
    obtain ⟨⟨k, hk, rfl, rfl, hp⟩, mv⟩ := hrel
    have PP := Lib.hid hp
    have MV := Lib.hid mv
    have hg := hp.1.1
    clear hp mv
    by_cases hlt : k < n
    · have le1 : k * 7 + 7 ≤ n * 7 := by omega
      obtain ⟨⟨v0, s0⟩, f0⟩ := PP.out.1.2 (k * 7) (by omega)
      obtain ⟨⟨v1, s1⟩, f1⟩ := PP.out.1.2 (k * 7 + 1) (by omega)
      obtain ⟨⟨v2, s2⟩, f2⟩ := PP.out.1.2 (k * 7 + 2) (by omega)
      obtain ⟨⟨v3, s3⟩, f3⟩ := PP.out.1.2 (k * 7 + 3) (by omega)
      obtain ⟨⟨v4, s4⟩, f4⟩ := PP.out.1.2 (k * 7 + 4) (by omega)
      obtain ⟨⟨v5, s5⟩, f5⟩ := PP.out.1.2 (k * 7 + 5) (by omega)
      obtain ⟨⟨v6, s6⟩, f6⟩ := PP.out.1.2 (k * 7 + 6) (by omega)
      have NX := Lib.hid (PP.out.step hlt)
      have MX := Lib.hid (MV.out.putN (k * 7) (k0 + 7 * (k : Int)) 7)
      have cs : ((7 : Nat) : Int) = 7 := rfl
      rw [cs] at NX
      simp only [putN, incr, Nat.add_zero] at NX MX
      generalize hK : k0 + 7 * (k : Int) = K at NX MX ⊢
      have HK := Lib.hid hK
      have b0 : 0 ≤ K := by omega
      have b1 : K ≤ 1000007400000 := by omega
      have i4 : (k : Int) < n := by omega
      clear hK le1 cs
      go_wp2
      go_roundw
      case rel => exact ⟨⟨k + 1, by omega, by go_num, by have := HK.out; first | (congr 1; omega) | go_num, NX.out⟩, MX.out⟩
      case measure => simp [intOf]; omega
    · obtain rfl : k = n := by omega
      have i4 : ¬ (k : Int) < k := by omega
      go_wp2
      go_ret
      exact ⟨rfl, PP.out.held, MV.out⟩

theorem markI_no (A : Option Addr) (c : Nat) (k0 : Int) (w : World) : Calls Try.prog 110 #[.slice A 0 c, .int .i64 k0] w fun x w' => x = .returned (.int .i64 k0) ∧ Up w w' := by
  go_enter Try.func110, Try.ntmps110
  go_wp2
  go_loopw [1, 5] (fun m i wr => m = .int .i64 k0 ∧ i = .int .i64 0 ∧ Up w wr) (fun _ _ _ => 0)
  case atStart => exact ⟨rfl, rfl, Up.refl _⟩
  case round =>
    obtain ⟨rfl, rfl, u⟩ := hrel
    go_wp2
    go_ret
    exact ⟨rfl, u⟩

set_option maxHeartbeats 4000000 in
theorem heldI_any (A : Option Addr) (n c : Nat) (k0 : Int) (w : World) (hn : n ≤ 1048576) (h0 : 0 ≤ k0) (h1 : k0 ≤ 1000000000000) (hE : Held w A n 7 k0) :
    Calls Try.prog 113 #[.slice A n c, .int .i64 k0] w fun x w' => x = .returned (.int .i64 (k0 + 7 * (n : Int))) ∧ Up w w' := by
  have HE := Lib.hid hE
  clear hE
  go_enter Try.func113, Try.ntmps113
  go_wp2
  go_loopw [1, 5] (fun m i wr => (∃ k : Nat, k ≤ n ∧ i = .int .i64 k ∧ m = .int .i64 (k0 + 7 * (k : Int))) ∧ Up w wr) (fun _ i _ => n - (intOf i).toNat)
  case atStart => exact ⟨⟨0, by omega, rfl, by first | rfl | simp⟩, Up.refl _⟩
  case round =>
    obtain ⟨⟨k, hk, rfl, rfl⟩, ur⟩ := hrel
    by_cases hlt : k < n
    · obtain ⟨b, off, hA, hb, hc⟩ := HE.out (by omega)
      subst hA
      have c0 := (ur.cells _ _ hb).trans (hc k hlt 0 (by omega))
      have c1 := (ur.cells _ _ hb).trans (hc k hlt 1 (by omega))
      have c2 := (ur.cells _ _ hb).trans (hc k hlt 2 (by omega))
      have c3 := (ur.cells _ _ hb).trans (hc k hlt 3 (by omega))
      have c4 := (ur.cells _ _ hb).trans (hc k hlt 4 (by omega))
      have c5 := (ur.cells _ _ hb).trans (hc k hlt 5 (by omega))
      have c6 := (ur.cells _ _ hb).trans (hc k hlt 6 (by omega))
      have hb' : b < wr.heap.size := by have := ur.size; omega
      have cs : ((7 : Nat) : Int) = 7 := rfl
      rw [cs] at c0 c1 c2 c3 c4 c5 c6
      simp only [incr, Nat.add_zero] at c0 c1 c2 c3 c4 c5 c6
      clear hc
      generalize hK : k0 + 7 * (k : Int) = K at c0 c1 c2 c3 c4 c5 c6 ⊢
      have HK := Lib.hid hK
      have b0 : 0 ≤ K := by omega
      have b1 : K ≤ 1000007400000 := by omega
      have i4 : (k : Int) < n := by omega
      clear hK cs
      go_wp2
      go_roundw
      case rel => exact ⟨⟨k + 1, by omega, by go_num, by have := HK.out; first | (congr 1; omega) | go_num⟩, ur⟩
      case measure => simp [intOf]; omega
    · obtain rfl : k = n := by omega
      have i4 : ¬ (k : Int) < k := by omega
      go_wp2
      go_ret
      exact ⟨rfl, ur⟩

theorem markI_k (lo : Nat) (A : Option Addr) (n c t : Nat) (k0 : Int) (w : World) (hn : n ≤ 1048576) (h0 : 0 ≤ k0) (h1 : k0 ≤ 1000000000000) (h : Mkb w lo A n 7 t) :
    Calls Try.prog 110 #[.slice A n c, .int .i64 k0] w fun x w' => x = .returned (.int .i64 (k0 + 7 * (n : Int))) ∧ Held w' A n 7 k0 ∧ Wr lo A n w w' := by
  rcases Nat.eq_zero_or_pos n with hz | hz
  · subst hz
    refine (markI_no A c k0 w).mono ?_
    rintro x w' ⟨rfl, u⟩
    exact ⟨by simp, Held.none_ _ _ _ _, .inl ⟨rfl, u⟩⟩
  · obtain ⟨g, xs, rfl, hg, ho, _⟩ := h hz
    refine (markI_any g n c k0 w hn h0 h1 ho).mono ?_
    rintro x w' ⟨rfl, hh, m⟩
    exact ⟨rfl, hh, .inr ⟨hz, g, rfl, hg, m⟩⟩

theorem eqDn_no (A B : Option Addr) (c d : Nat) (w : World) : Calls Try.prog 106 #[.slice A 0 c, .slice B 0 d] w fun x w' => x = .returned (.bool true) ∧ Up w w' := by
  go_enter Try.func106, Try.ntmps106
  go_wp2
  go_loopw [5] (fun i wr => i = .int .i64 0 ∧ Up w wr) (fun _ _ => 0)
  case atStart => exact ⟨rfl, Up.refl _⟩
  case round =>
    obtain ⟨rfl, u⟩ := hrel
    go_wp2
    go_ret
    exact ⟨rfl, u⟩

theorem eqKp_no (A B : Option Addr) (c d : Nat) (w : World) : Calls Try.prog 108 #[.slice A 0 c, .slice B 0 d] w fun x w' => x = .returned (.bool true) ∧ Up w w' := by
  go_enter Try.func108, Try.ntmps108
  go_wp2
  go_loopw [5] (fun i wr => i = .int .i64 0 ∧ Up w wr) (fun _ _ => 0)
  case atStart => exact ⟨rfl, Up.refl _⟩
  case round =>
    obtain ⟨rfl, u⟩ := hrel
    go_wp2
    go_ret
    exact ⟨rfl, u⟩

theorem markDn_no (A : Option Addr) (c : Nat) (k0 : Int) (w : World) : Calls Try.prog 109 #[.slice A 0 c, .int .i64 k0] w fun x w' => x = .returned (.int .i64 k0) ∧ Up w w' := by
  go_enter Try.func109, Try.ntmps109
  go_wp2
  go_loopw [1, 5] (fun m i wr => m = .int .i64 k0 ∧ i = .int .i64 0 ∧ Up w wr) (fun _ _ _ => 0)
  case atStart => exact ⟨rfl, rfl, Up.refl _⟩
  case round =>
    obtain ⟨rfl, rfl, u⟩ := hrel
    go_wp2
    go_ret
    exact ⟨rfl, u⟩

theorem markKp_no (A : Option Addr) (c : Nat) (k0 : Int) (w : World) : Calls Try.prog 111 #[.slice A 0 c, .int .i64 k0] w fun x w' => x = .returned (.int .i64 k0) ∧ Up w w' := by
  go_enter Try.func111, Try.ntmps111
  go_wp2
  go_loopw [1, 5] (fun m i wr => m = .int .i64 k0 ∧ i = .int .i64 0 ∧ Up w wr) (fun _ _ _ => 0)
  case atStart => exact ⟨rfl, rfl, Up.refl _⟩
  case round =>
    obtain ⟨rfl, rfl, u⟩ := hrel
    go_wp2
    go_ret
    exact ⟨rfl, u⟩

theorem heldDn_no (A : Option Addr) (c : Nat) (k0 : Int) (w : World) : Calls Try.prog 112 #[.slice A 0 c, .int .i64 k0] w fun x w' => x = .returned (.int .i64 k0) ∧ Up w w' := by
  go_enter Try.func112, Try.ntmps112
  go_wp2
  go_loopw [1, 5] (fun m i wr => m = .int .i64 k0 ∧ i = .int .i64 0 ∧ Up w wr) (fun _ _ _ => 0)
  case atStart => exact ⟨rfl, rfl, Up.refl _⟩
  case round =>
    obtain ⟨rfl, rfl, u⟩ := hrel
    go_wp2
    go_ret
    exact ⟨rfl, u⟩

theorem heldKp_no (A : Option Addr) (c : Nat) (k0 : Int) (w : World) : Calls Try.prog 114 #[.slice A 0 c, .int .i64 k0] w fun x w' => x = .returned (.int .i64 k0) ∧ Up w w' := by
  go_enter Try.func114, Try.ntmps114
  go_wp2
  go_loopw [1, 5] (fun m i wr => m = .int .i64 k0 ∧ i = .int .i64 0 ∧ Up w wr) (fun _ _ _ => 0)
  case atStart => exact ⟨rfl, rfl, Up.refl _⟩
  case round =>
    obtain ⟨rfl, rfl, u⟩ := hrel
    go_wp2
    go_ret
    exact ⟨rfl, u⟩

end Go.Proofs.Ytkfjemgelmbcfaa

/-
  What symMerge does where the middle lies ahead of the border, in one sentence: the stretch is sorted, if smaller ones are; for all rising stretches.
-/
import Derived.Test.YtjdoealcmokakaaDLSeqAll32
namespace Go.Proofs.Ytjdoealcmokakaa
set_option maxRecDepth 100000
open Go.RowKit
set_option maxRecDepth 100000 in
set_option maxHeartbeats 8000000 in
theorem symC1_any (g N c a m b : Nat) (f : Nat → Evt) (w : World) (hN : N ≤ 2000000) (ham : a + 1 < m) (hmb : m + 1 < b) (hb : b ≤ N) (hmid : (a + b) / 2 < m) (hR : Row w g N f) (hl : SortF f a m) (hr : SortF f m b) (ih : SymIH g N c (b - a)) :
    Calls Try.prog 100 #[.slice (some ⟨g, 0, none⟩) N c, .int .i64 (a : Int), .int .i64 (m : Int), .int .i64 (b : Int), .func (.func 48) #[] #[]] w (SymPost g N a b f w) := by
  have HR := Lib.hid hR
  have HL := Lib.hid hl
  have HRT := Lib.hid hr
  have IH := Lib.hid ih
  have CM := Lib.hid (fun x y W => cmpE_any x y W)
  have RO := Lib.hid (fun s m e F W h1 h2 h3 h => rotate_any g N c s m e F (.func (.func 48) #[] #[]) W hN h1 h2 h3 h)
  clear hR hl hr ih; obtain ⟨d1, hd1⟩ : ∃ d, d = m - a := ⟨_, rfl⟩; obtain ⟨d2, hd2⟩ : ∃ d, d = b - m := ⟨_, rfl⟩; obtain ⟨mid, hmi⟩ : ∃ d, d = (a + b) / 2 := ⟨_, rfl⟩; obtain ⟨n, hn⟩ : ∃ n, n = mid + m := ⟨_, rfl⟩; obtain ⟨p, hp⟩ : ∃ p, p = n - 1 := ⟨_, rfl⟩
  have w0 : IntKind.i64.wrap ((m : Int) - (a : Int)) = (d1 : Int) := by rw [IntWalk.i64_in _ (by omega)]; omega
  have w1 : IntKind.i64.wrap ((b : Int) - (m : Int)) = (d2 : Int) := by rw [IntWalk.i64_in _ (by omega)]; omega
  have w2 : IntKind.i64.wrap ((a : Int) + (b : Int)) = ((a + b : Nat) : Int) := by rw [IntWalk.i64_in _ (by omega)]; omega
  have w3 : ((a : Int) + (b : Int)) / 2 = (mid : Int) := by omega
  have w4 : IntKind.i64.wrap ((mid : Int) + (m : Int)) = (n : Int) := by rw [IntWalk.i64_in _ (by omega)]; omega
  have w5 : IntKind.i64.wrap ((n : Int) - 1) = (p : Int) := by rw [IntWalk.i64_in _ (by omega)]; omega
  have x1 : ¬ (d1 : Int) = 1 := by omega
  have x2 : ((d1 : Int) == 1) = false := by simp; omega
  have x3 : ¬ (d2 : Int) = 1 := by omega
  have x4 : ((d2 : Int) == 1) = false := by simp; omega
  have x5 : ¬ d1 = 1 := by omega
  have x6 : ¬ d2 = 1 := by omega
  have x7 : (mid : Int) < (m : Int) := by omega
  obtain ⟨s0, hs0⟩ : ∃ d, d = n - b := ⟨_, rfl⟩; obtain ⟨r0, hr0⟩ : ∃ d, d = mid := ⟨_, rfl⟩
  have w6 : IntKind.i64.wrap ((n : Int) - (b : Int)) = (s0 : Int) := by rw [IntWalk.i64_in _ (by omega)]; omega
  have B1 : a ≤ s0 ∧ s0 ≤ r0 ∧ r0 ≤ m ∧ r0 ≤ mid ∧ n ≤ s0 + b := by omega
  have B2 : s0 = a ∨ s0 + b = n := by omega
  have B3 : r0 = m ∨ r0 = mid := by omega
  have B4 : a < mid ∧ mid < b := by omega
  have HS0 := Lib.hid hs0
  have HR0 := Lib.hid hr0
  have HD := Lib.hid (And.intro hn hp)
  have HX7 := Lib.hid x7
  have HB := Lib.hid (And.intro B1 (And.intro B2 (And.intro B3 B4)))
  clear hd1 hd2 hmi hn hp hmid hs0 hr0 B1 B2 B3 B4
  go_enter Try.func100, Try.ntmps100
  go_wp2
  go_loopw [20, 21, 23] (fun u v t wr => (∃ i j : Nat, u = .int .i64 (i : Int) ∧ v = .int .i64 (j : Int) ∧ s0 ≤ i ∧ i ≤ j ∧ j ≤ r0 ∧ (i = s0 ∨ leE (f (i - 1)) (f (p - (i - 1)))) ∧ (j = r0 ∨ ltE (f (p - j)) (f j) = true) ∧ Row wr g N f) ∧ Mv g w wr) (fun u v _ _ => (intOf v).toNat - (intOf u).toNat)
  case atStart => exact ⟨⟨s0, r0, by first | rfl | rw [HS0.out], by first | rfl | rw [HR0.out], Nat.le_refl _, HB.out.1.2.1, Nat.le_refl _, .inl rfl, .inl rfl, HR.out⟩, Mv.refl _ _⟩
  case round =>
    obtain ⟨⟨i, j, rfl, rfl, hi, hij, hj, hlo, hhi, hF⟩, mv⟩ := hrel
    have HW := Lib.hid hF
    have HLO := Lib.hid hlo
    have HHI := Lib.hid hhi
    have MV := Lib.hid mv
    have hg := hF.1
    clear hF hlo hhi mv HR w0 w1 w2 w3 w4 w5 x1 x2 x3 x4 x5 x6 x7; obtain ⟨⟨B1, B2, B3, B4, B5⟩, B6, B7, B8, B9⟩ := HB.out; obtain ⟨hn, hp⟩ := HD.out
    have x7 := HX7.out
    by_cases hlt : i < j
    · have j1 : (i : Int) < (j : Int) := by omega
      obtain ⟨h, hh⟩ : ∃ h, h = (i + j) / 2 := ⟨_, rfl⟩
      have h1 : i ≤ h := by omega
      have h2 : h < j := by omega
      have w1 : IntKind.i64.wrap ((i : Int) + (j : Int)) = ((i + j : Nat) : Int) := by rw [IntWalk.i64_in _ (by omega)]; omega
      have w2 : ((i : Int) + (j : Int)) / 2 = (h : Int) := by omega
      obtain ⟨q, hq⟩ : ∃ q, q = p - h := ⟨_, rfl⟩
      have w3 : IntKind.i64.wrap ((p : Int) - (h : Int)) = (q : Int) := by rw [IntWalk.i64_in _ (by omega)]; omega
      have e1 := HW.out.2.1 q (by omega)
      have e0 := HW.out.2.1 h (by omega)
      generalize hx : f q = x at e1
      generalize hy : f h = y at e0
      have HX := Lib.hid hx
      have HY := Lib.hid hy
      have C := CM.out x y
      generalize hz : cmpE x y = z at C
      have HZ := Lib.hid (show ltE x y = decide (z < 0) by unfold ltE; rw [hz])
      have HQ := Lib.hid hq
      have l3 : (h : Int) < N := by omega
      have l6 : (q : Int) < N := by omega
      clear hx hy hz hh hq hn hp x7 B1 B2 B3 B4 B5 B6 B7 B8 B9; obtain ⟨xt, xto, xfr, xsq, xkd, xdt⟩ := x; obtain ⟨yt, yto, yfr, ysq, ykd, ydt⟩ := y; unfold Evt.v at C; unfold EvAt at e1 e0; dsimp only at C e1 e0; obtain ⟨p0, p1, p2, p3, p4, p5⟩ := e1; obtain ⟨q0, q1, q2, q3, q4, q5⟩ := e0
      have CC := Lib.hid C
      clear C
      go_wp2_with fail
      refine region_qw (by kernel_rfl) (by kernel_rfl) ?_; refine qWalk_step ?_; intro K hK; go_simp; apply Exists.intro; refine And.intro ?_ ?_
      · intro w1 hw1
        try go_simp
        try rfl
      try go_simp
      refine hK _ ?_; clear hK K; refine qWalk_step ?_; intro K hK; go_simp; apply Exists.intro; refine And.intro ?_ ?_
      · intro w1 hw1
        try go_simp
        try rfl
      try go_simp
      refine hK _ ?_; clear hK K; refine qWalk_step ?_; intro K hK; go_simp; apply Exists.intro; refine And.intro ?_ ?_
      · intro w1 hw1
        try go_simp
        try rfl
      try go_simp
      refine hK _ ?_; clear hK K; refine qWalk_step ?_; intro K hK; go_simp; apply Exists.intro; refine And.intro ?_ ?_
      · intro w1 hw1
        try go_simp
        try rfl
      try go_simp
      refine hK _ ?_; clear hK K; refine qWalk_step ?_; intro K hK; go_simp; apply Exists.intro; refine And.intro ?_ ?_
      · intro w1 hw1
        try go_simp
        try rfl
      try go_simp
      refine hK _ ?_; clear hK K; refine qWalk_step ?_; intro K hK; go_simp; apply Exists.intro; refine And.intro ?_ ?_
      · intro w1 hw1
        try go_simp
        try rfl
      try go_simp
      refine hK _ ?_; clear hK K; refine qWalk_step ?_; intro K hK; go_simp; apply Exists.intro; refine And.intro ?_ ?_
      · intro w1 hw1
        obtain ⟨hc, hf, hz⟩ := hw1.facts
        try simp at hz
        try go_simp
        try rfl
      try go_simp
      refine hK _ ?_; clear hK K; refine qWalk_step ?_; intro K hK; go_simp; apply Exists.intro; refine And.intro ?_ ?_
      · intro w1 hw1
        try go_simp
        try rfl
      try go_simp
      refine hK _ ?_; clear hK K; refine qWalk_step ?_; intro K hK; go_simp; apply Exists.intro; refine And.intro ?_ ?_
      · intro w1 hw1
        try go_simp
        try rfl
      try go_simp
      refine hK _ ?_; clear hK K; refine qWalk_step ?_; intro K hK; go_simp; apply Exists.intro; refine And.intro ?_ ?_
      · intro w1 hw1
        try go_simp
        try rfl
      try go_simp
      refine hK _ ?_; clear hK K; refine qWalk_step ?_; intro K hK; go_simp; apply Exists.intro; refine And.intro ?_ ?_
      · intro w1 hw1
        obtain ⟨hc, hf, hz⟩ := hw1.facts
        try simp at hz
        try go_simp
        try rfl
      try go_simp
      refine hK _ ?_; clear hK K; refine qWalk_step ?_; intro K hK; go_simp; apply Exists.intro; refine And.intro ?_ ?_
      · intro w1 hw1
        try go_simp
        exact up_call hw1 (CC.out _)
      try go_simp
      refine hK _ ?_; clear hK K; refine qWalk_step ?_; intro K hK; go_simp; apply Exists.intro; refine And.intro ?_ ?_
      · intro w1 hw1
        try go_simp
        try rfl
      try go_simp
      refine hK _ ?_; clear hK K; refine qWalk_step ?_; intro K hK; go_simp; apply Exists.intro; refine And.intro ?_ ?_
      · intro w1 hw1
        try go_simp
        try rfl
      try go_simp
      refine hK _ ?_; clear hK K; refine qWalk_nil ?_

      intro wA uA
      have HWA := Lib.hid (HW.out.up uA)
      have MVA := Lib.hid (MV.out.trans (uA.mv g))
      clear uA p0 p1 p2 p3 p4 p5 q0 q1 q2 q3 q4 q5 CC w1 w2 w3
      generalize decide (z < 0) = dz at HZ ⊢
      cases dz
      case true =>
        have HX2 := Lib.hid (show ltE (f (p - h)) (f h) = true by rw [← HQ.out, HX.out, HY.out, HZ.out])
        go_wp2
        go_roundw
        case rel => exact ⟨⟨i, h, rfl, by first | rfl | go_num, hi, h1, by omega, HLO.out, .inr HX2.out, HWA.out⟩, MVA.out⟩
        case measure => (simp [intOf]; try omega)
      case false =>
        have HX2 := Lib.hid (show leE (f h) (f (p - h)) by unfold leE; rw [← HQ.out, HX.out, HY.out, HZ.out])
        have w3 : IntKind.i64.wrap ((h : Int) + 1) = ((h + 1 : Nat) : Int) := by rw [IntWalk.i64_in _ (by omega)]; omega
        generalize hh1 : h + 1 = h3 at w3
        have HH1 := Lib.hid hh1
        clear hh1; go_wp2
        go_roundw
        case rel => exact ⟨⟨h3, j, by first | rfl | go_num, rfl, by have := HH1.out; omega, by have := HH1.out; omega, hj, .inr (by rw [← HH1.out, Nat.add_sub_cancel]; exact HX2.out), HHI.out, HWA.out⟩, MVA.out⟩
        case measure => (have := HH1.out; simp [intOf]; try omega)
    · obtain rfl : i = j := by omega
      have j1 : ¬ (i : Int) < (i : Int) := by omega
      obtain ⟨e, he⟩ : ∃ e, e = n - i := ⟨_, rfl⟩
      have w6 : IntKind.i64.wrap ((n : Int) - (i : Int)) = (e : Int) := by rw [IntWalk.i64_in _ (by omega)]; omega
      have HI := Lib.hid (show SymI f a m b mid i e from ⟨by omega, by omega, by omega, by omega, by omega, by
          rcases HLO.out with h | h
          · rcases B6 with h6 | h6
            · exact .inl (by omega)
            · exact .inr (.inl (by omega))
          · by_cases h7 : i = a
            · exact .inl h7
            · rw [show p - (i - 1) = e by omega] at h
              exact .inr (.inr h), by
          rcases HHI.out with h | h
          · rcases B7 with h7 | h7
            · exact .inl (by omega)
            · exact .inr (.inl (by omega))
          · by_cases h7 : i = m
            · exact .inl h7
            · rw [show p - i = e - 1 by omega] at h
              exact .inr (.inr h)⟩)
      have E1 : i + e = mid + m ∧ a ≤ i ∧ i ≤ m ∧ m ≤ e ∧ e ≤ b ∧ mid < m := by omega
      clear CM HLO HHI HS0 HR0 HD HB HX7 x7 hn hp he B1 B2 B3 B4 B5 B6 B7 hi hij hj hlt
      generalize i = s at *
      obtain ⟨E1, E2, E3, E4, E5, E6⟩ := E1; obtain ⟨wr', hwr⟩ : ∃ W, W = wr := ⟨_, rfl⟩; subst hwr
      by_cases c0 : s < m
      · have c0a : (s : Int) < (m : Int) := by omega
        have c0b : (mid : Int) < (e : Int) := by omega
        by_cases c1 : s < mid
        · have c1a : (m : Int) < (e : Int) := by omega
          have c1b : (s : Int) < (mid : Int) := by omega
          by_cases c2 : a < s
          · have c2a : (a : Int) < (s : Int) := by omega
            by_cases c3 : e < b
            · have c3a : (e : Int) < (b : Int) := by omega
              go_wp2_with fail
              refine (RO.out s m e f _ (by omega) (by omega) (by omega) HW.out).mono ?_; rintro x w1 ⟨rfl, ⟨F1, r1, a1, k1⟩, mv1⟩
              have HG := Lib.hid (r1.as_ (fun k _ => k1 k))
              have MX := Lib.hid (MV.out.trans mv1)
              have AG := Lib.hid ((a1.as_ k1).widen (a' := a) (b' := b) HI.out.aS HI.out.eb)
              clear r1 a1 k1 mv1
              have S1 := Lib.hid (HI.out.s1 HL.out)
              have S2 := Lib.hid (HI.out.s2 HRT.out)
              have S3 := Lib.hid (HI.out.s3 HL.out)
              have S4 := Lib.hid (HI.out.s4 HRT.out)
              have CX := Lib.hid (HI.out.cross HL.out HRT.out)
              generalize rotF f s m e = G at HG AG S1 S2 S3 S4 CX
              go_wp2_with fail
              refine (IH.out a s mid G _ (by omega) (by omega) (by omega) (by omega) HG.out S1.out S2.out).mono ?_; rintro x w2 ⟨rfl, ⟨F2, r2, a2, s2⟩, mv2⟩
              have HG := Lib.hid r2
              have AL := Lib.hid a2
              have SL := Lib.hid s2
              have MX := Lib.hid (MX.out.trans mv2)
              clear r2 a2 s2 mv2
              have S3 := Lib.hid (AL.out.sort_out S3.out (.inl (Nat.le_refl _)))
              have S4 := Lib.hid (AL.out.sort_out S4.out (.inl (by omega)))
              go_wp2_with fail
              refine (IH.out mid e b F2 _ (by omega) (by omega) (by omega) (by omega) HG.out S3.out S4.out).mono ?_; rintro x w3 ⟨rfl, ⟨F3, r3, a3, s3⟩, mv3⟩
              have HE := Lib.hid (show ∃ F, Row w3 g N F ∧ Arr f F a b N ∧ SortF F a b from ⟨F3, r3, (AG.out.trans (AL.out.widen (Nat.le_refl _) (by omega))).trans (a3.widen (by omega) (Nat.le_refl _)), sort_halves AL.out SL.out a3 s3 CX.out⟩)
              have MX := Lib.hid (MX.out.trans mv3)
              clear r3 a3 s3 mv3; go_wp2
              exact bodyPost_end (v := .tuple #[]) (results_none Try.results100 _ _ _) rfl ⟨rfl, HE.out, MX.out⟩
            · have c3a : ¬ (e : Int) < (b : Int) := by omega
              go_wp2_with fail
              refine (RO.out s m e f _ (by omega) (by omega) (by omega) HW.out).mono ?_; rintro x w1 ⟨rfl, ⟨F1, r1, a1, k1⟩, mv1⟩
              have HG := Lib.hid (r1.as_ (fun k _ => k1 k))
              have MX := Lib.hid (MV.out.trans mv1)
              have AG := Lib.hid ((a1.as_ k1).widen (a' := a) (b' := b) HI.out.aS HI.out.eb)
              clear r1 a1 k1 mv1
              have S1 := Lib.hid (HI.out.s1 HL.out)
              have S2 := Lib.hid (HI.out.s2 HRT.out)
              have S3 := Lib.hid (HI.out.s3 HL.out)
              have S4 := Lib.hid (HI.out.s4 HRT.out)
              have CX := Lib.hid (HI.out.cross HL.out HRT.out)
              generalize rotF f s m e = G at HG AG S1 S2 S3 S4 CX
              go_wp2_with fail
              refine (IH.out a s mid G _ (by omega) (by omega) (by omega) (by omega) HG.out S1.out S2.out).mono ?_; rintro x w2 ⟨rfl, ⟨F2, r2, a2, s2⟩, mv2⟩
              have HG := Lib.hid r2
              have AL := Lib.hid a2
              have SL := Lib.hid s2
              have MX := Lib.hid (MX.out.trans mv2)
              clear r2 a2 s2 mv2
              have S3 := Lib.hid (AL.out.sort_out S3.out (.inl (Nat.le_refl _)))
              have S4 := Lib.hid (AL.out.sort_out S4.out (.inl (by omega)))
              have SR := Lib.hid (show SortF F2 mid b from by have h := S3.out; rwa [show e = b by omega] at h)
              have HE := Lib.hid (show ∃ F, Row _ g N F ∧ Arr f F a b N ∧ SortF F a b from ⟨F2, HG.out, AG.out.trans (AL.out.widen (Nat.le_refl _) (by omega)), sort_halves AL.out SL.out (Arr.refl F2 mid b N) SR.out CX.out⟩)
              go_wp2
              exact bodyPost_end (v := .tuple #[]) (results_none Try.results100 _ _ _) rfl ⟨rfl, HE.out, MX.out⟩
          · have c2a : ¬ (a : Int) < (s : Int) := by omega
            by_cases c3 : e < b
            · have c3a : (e : Int) < (b : Int) := by omega
              go_wp2_with fail
              refine (RO.out s m e f _ (by omega) (by omega) (by omega) HW.out).mono ?_; rintro x w1 ⟨rfl, ⟨F1, r1, a1, k1⟩, mv1⟩
              have HG := Lib.hid (r1.as_ (fun k _ => k1 k))
              have MX := Lib.hid (MV.out.trans mv1)
              have AG := Lib.hid ((a1.as_ k1).widen (a' := a) (b' := b) HI.out.aS HI.out.eb)
              clear r1 a1 k1 mv1
              have S1 := Lib.hid (HI.out.s1 HL.out)
              have S2 := Lib.hid (HI.out.s2 HRT.out)
              have S3 := Lib.hid (HI.out.s3 HL.out)
              have S4 := Lib.hid (HI.out.s4 HRT.out)
              have CX := Lib.hid (HI.out.cross HL.out HRT.out)
              generalize rotF f s m e = G at HG AG S1 S2 S3 S4 CX
              obtain ⟨F2, hF2⟩ : ∃ F, F = G := ⟨_, rfl⟩
              have AL := Lib.hid (show Arr G F2 a mid N from by rw [hF2]; exact Arr.refl _ _ _ _)
              have HG := Lib.hid (show Row _ g N F2 from by rw [hF2]; exact HG.out)
              have SL := Lib.hid (show SortF F2 a mid from by rw [hF2]; have h := S2.out; rwa [show s = a by omega] at h)
              clear hF2
              have S3 := Lib.hid (AL.out.sort_out S3.out (.inl (Nat.le_refl _)))
              have S4 := Lib.hid (AL.out.sort_out S4.out (.inl (by omega)))
              go_wp2_with fail
              refine (IH.out mid e b F2 _ (by omega) (by omega) (by omega) (by omega) HG.out S3.out S4.out).mono ?_; rintro x w3 ⟨rfl, ⟨F3, r3, a3, s3⟩, mv3⟩
              have HE := Lib.hid (show ∃ F, Row w3 g N F ∧ Arr f F a b N ∧ SortF F a b from ⟨F3, r3, (AG.out.trans (AL.out.widen (Nat.le_refl _) (by omega))).trans (a3.widen (by omega) (Nat.le_refl _)), sort_halves AL.out SL.out a3 s3 CX.out⟩)
              have MX := Lib.hid (MX.out.trans mv3)
              clear r3 a3 s3 mv3; go_wp2
              exact bodyPost_end (v := .tuple #[]) (results_none Try.results100 _ _ _) rfl ⟨rfl, HE.out, MX.out⟩
            · have c3a : ¬ (e : Int) < (b : Int) := by omega
              go_wp2_with fail
              refine (RO.out s m e f _ (by omega) (by omega) (by omega) HW.out).mono ?_; rintro x w1 ⟨rfl, ⟨F1, r1, a1, k1⟩, mv1⟩
              have HG := Lib.hid (r1.as_ (fun k _ => k1 k))
              have MX := Lib.hid (MV.out.trans mv1)
              have AG := Lib.hid ((a1.as_ k1).widen (a' := a) (b' := b) HI.out.aS HI.out.eb)
              clear r1 a1 k1 mv1
              have S1 := Lib.hid (HI.out.s1 HL.out)
              have S2 := Lib.hid (HI.out.s2 HRT.out)
              have S3 := Lib.hid (HI.out.s3 HL.out)
              have S4 := Lib.hid (HI.out.s4 HRT.out)
              have CX := Lib.hid (HI.out.cross HL.out HRT.out)
              generalize rotF f s m e = G at HG AG S1 S2 S3 S4 CX
              obtain ⟨F2, hF2⟩ : ∃ F, F = G := ⟨_, rfl⟩
              have AL := Lib.hid (show Arr G F2 a mid N from by rw [hF2]; exact Arr.refl _ _ _ _)
              have HG := Lib.hid (show Row _ g N F2 from by rw [hF2]; exact HG.out)
              have SL := Lib.hid (show SortF F2 a mid from by rw [hF2]; have h := S2.out; rwa [show s = a by omega] at h)
              clear hF2
              have S3 := Lib.hid (AL.out.sort_out S3.out (.inl (Nat.le_refl _)))
              have S4 := Lib.hid (AL.out.sort_out S4.out (.inl (by omega)))
              have SR := Lib.hid (show SortF F2 mid b from by have h := S3.out; rwa [show e = b by omega] at h)
              have HE := Lib.hid (show ∃ F, Row _ g N F ∧ Arr f F a b N ∧ SortF F a b from ⟨F2, HG.out, AG.out.trans (AL.out.widen (Nat.le_refl _) (by omega)), sort_halves AL.out SL.out (Arr.refl F2 mid b N) SR.out CX.out⟩)
              go_wp2
              exact bodyPost_end (v := .tuple #[]) (results_none Try.results100 _ _ _) rfl ⟨rfl, HE.out, MX.out⟩
        · have c1a : ¬ (m : Int) < (e : Int) := by omega
          have c1b : ¬ (s : Int) < (mid : Int) := by omega
          by_cases c2 : a < s
          · have c2a : (a : Int) < (s : Int) := by omega
            by_cases c3 : e < b
            · have c3a : (e : Int) < (b : Int) := by omega
              go_wp2_with fail
              have HG := Lib.hid (HW.out.as_ (fun k _ => rot_none f (m := m) (s := s) (e := e) (by omega) HI.out.sm HI.out.me k))
              have MX := Lib.hid MV.out
              have AG := Lib.hid ((Arr.refl f a b N).as_ (rot_none f (m := m) (s := s) (e := e) (by omega) HI.out.sm HI.out.me))
              have S1 := Lib.hid (HI.out.s1 HL.out)
              have S2 := Lib.hid (HI.out.s2 HRT.out)
              have S3 := Lib.hid (HI.out.s3 HL.out)
              have S4 := Lib.hid (HI.out.s4 HRT.out)
              have CX := Lib.hid (HI.out.cross HL.out HRT.out)
              generalize rotF f s m e = G at HG AG S1 S2 S3 S4 CX
              obtain ⟨F2, hF2⟩ : ∃ F, F = G := ⟨_, rfl⟩
              have AL := Lib.hid (show Arr G F2 a mid N from by rw [hF2]; exact Arr.refl _ _ _ _)
              have HG := Lib.hid (show Row _ g N F2 from by rw [hF2]; exact HG.out)
              have SL := Lib.hid (show SortF F2 a mid from by rw [hF2]; have h := S1.out; rwa [show s = mid by omega] at h)
              clear hF2
              have S3 := Lib.hid (AL.out.sort_out S3.out (.inl (Nat.le_refl _)))
              have S4 := Lib.hid (AL.out.sort_out S4.out (.inl (by omega)))
              refine (IH.out mid e b F2 _ (by omega) (by omega) (by omega) (by omega) HG.out S3.out S4.out).mono ?_; rintro x w3 ⟨rfl, ⟨F3, r3, a3, s3⟩, mv3⟩
              have HE := Lib.hid (show ∃ F, Row w3 g N F ∧ Arr f F a b N ∧ SortF F a b from ⟨F3, r3, (AG.out.trans (AL.out.widen (Nat.le_refl _) (by omega))).trans (a3.widen (by omega) (Nat.le_refl _)), sort_halves AL.out SL.out a3 s3 CX.out⟩)
              have MX := Lib.hid (MX.out.trans mv3)
              clear r3 a3 s3 mv3; go_wp2
              exact bodyPost_end (v := .tuple #[]) (results_none Try.results100 _ _ _) rfl ⟨rfl, HE.out, MX.out⟩
            · have c3a : ¬ (e : Int) < (b : Int) := by omega
              go_wp2
              have HG := Lib.hid (HW.out.as_ (fun k _ => rot_none f (m := m) (s := s) (e := e) (by omega) HI.out.sm HI.out.me k))
              have MX := Lib.hid MV.out
              have AG := Lib.hid ((Arr.refl f a b N).as_ (rot_none f (m := m) (s := s) (e := e) (by omega) HI.out.sm HI.out.me))
              have S1 := Lib.hid (HI.out.s1 HL.out)
              have S2 := Lib.hid (HI.out.s2 HRT.out)
              have S3 := Lib.hid (HI.out.s3 HL.out)
              have S4 := Lib.hid (HI.out.s4 HRT.out)
              have CX := Lib.hid (HI.out.cross HL.out HRT.out)
              generalize rotF f s m e = G at HG AG S1 S2 S3 S4 CX
              obtain ⟨F2, hF2⟩ : ∃ F, F = G := ⟨_, rfl⟩
              have AL := Lib.hid (show Arr G F2 a mid N from by rw [hF2]; exact Arr.refl _ _ _ _)
              have HG := Lib.hid (show Row _ g N F2 from by rw [hF2]; exact HG.out)
              have SL := Lib.hid (show SortF F2 a mid from by rw [hF2]; have h := S1.out; rwa [show s = mid by omega] at h)
              clear hF2
              have S3 := Lib.hid (AL.out.sort_out S3.out (.inl (Nat.le_refl _)))
              have S4 := Lib.hid (AL.out.sort_out S4.out (.inl (by omega)))
              have SR := Lib.hid (show SortF F2 mid b from by have h := S3.out; rwa [show e = b by omega] at h)
              have HE := Lib.hid (show ∃ F, Row _ g N F ∧ Arr f F a b N ∧ SortF F a b from ⟨F2, HG.out, AG.out.trans (AL.out.widen (Nat.le_refl _) (by omega)), sort_halves AL.out SL.out (Arr.refl F2 mid b N) SR.out CX.out⟩)
              exact bodyPost_end (v := .tuple #[]) (results_none Try.results100 _ _ _) rfl ⟨rfl, HE.out, MX.out⟩
          · have c2a : ¬ (a : Int) < (s : Int) := by omega
            exfalso
            omega
      · have c0a : ¬ (s : Int) < (m : Int) := by omega
        have c0b : ¬ (mid : Int) < (e : Int) := by omega
        exfalso
        omega
end Go.Proofs.Ytjdoealcmokakaa

/-
  What symMerge does where the left stretch is one event, in one sentence: it goes to its place; for every such stretch.
  What symMerge does where the right stretch is one event, in one sentence: it goes to its place; for every such stretch.
  Sorted stretches outside of what is changed, in one sentence: they stay sorted; no condition is made.
-/
import Derived.RegionTactic
import Derived.Test.YtjdoealcmokakaaDLSeqAll01
import Derived.Test.YtjdoealcmokakaaDLSeqAll10
import Derived.Test.YtjdoealcmokakaaDLSeqAll31
namespace Go.Proofs.Ytjdoealcmokakaa
set_option maxRecDepth 100000
open Go.RowKit
/-- What merging gives. -/
def SymPost (g N a b : Nat) (f : Nat → Evt) (w : World) (x : Ending) (w' : World) : Prop :=
  x = .returned (.tuple #[]) ∧ (∃ F, Row w' g N F ∧ Arr f F a b N ∧ SortF F a b) ∧ Mv g w w'
set_option maxRecDepth 100000 in
set_option maxHeartbeats 2000000 in
theorem symA_any (g N c a b : Nat) (f : Nat → Evt) (w : World) (hN : N ≤ 2000000) (hab : a + 1 < b) (hb : b ≤ N) (hR : Row w g N f) (hs : SortF f (a + 1) b) :
    Calls Try.prog 100 #[.slice (some ⟨g, 0, none⟩) N c, .int .i64 (a : Int), .int .i64 ((a + 1 : Nat) : Int), .int .i64 (b : Int), .func (.func 48) #[] #[]] w (SymPost g N a b f w) := by
  have HR := Lib.hid hR
  have HS := Lib.hid hs
  have CM := Lib.hid (fun x y W => cmpE_any x y W)
  clear hR hs; obtain ⟨m, hm⟩ : ∃ m, m = a + 1 := ⟨_, rfl⟩; obtain ⟨fa, hfa⟩ : ∃ e, e = f a := ⟨_, rfl⟩; obtain ⟨yt, yto, yfr, ysq, ykd, ydt⟩ := fa
  have HFA := Lib.hid hfa
  clear hfa; rw [← hm]
  have w0 : IntKind.i64.wrap ((m : Int) - (a : Int)) = 1 := by rw [IntWalk.i64_in _ (by omega)]; omega
  have HM := Lib.hid hm
  clear hm
  go_enter Try.func100, Try.ntmps100
  go_wp2
  go_loopw [10, 11, 12] (fun u v t wr => (∃ i j : Nat, u = .int .i64 (i : Int) ∧ v = .int .i64 (j : Int) ∧ a + 1 ≤ i ∧ i ≤ j ∧ j ≤ b ∧ (i = a + 1 ∨ ltE (f (i - 1)) (⟨yt, yto, yfr, ysq, ykd, ydt⟩ : Evt) = true) ∧ (j = b ∨ leE (⟨yt, yto, yfr, ysq, ykd, ydt⟩ : Evt) (f j)) ∧ Row wr g N f) ∧ Mv g w wr) (fun u v _ _ => (intOf v).toNat - (intOf u).toNat)
  case atStart => exact ⟨⟨m, b, rfl, rfl, by have := HM.out; omega, by have := HM.out; omega, Nat.le_refl _, .inl HM.out, .inl rfl, HR.out⟩, Mv.refl _ _⟩
  case round =>
    obtain ⟨⟨i, j, rfl, rfl, hi, hij, hj, hlo, hhi, hF⟩, mv⟩ := hrel
    have HW := Lib.hid hF
    have HLO := Lib.hid hlo
    have HHI := Lib.hid hhi
    have MV := Lib.hid mv
    have hg := hF.1
    clear hF hlo hhi mv HR w0
    by_cases hlt : i < j
    · have j1 : (i : Int) < (j : Int) := by omega
      obtain ⟨h, hh⟩ : ∃ h, h = (i + j) / 2 := ⟨_, rfl⟩
      have HH := Lib.hid hh
      have h1 : i ≤ h := by omega
      have h2 : h < j := by omega
      have w1 : IntKind.i64.wrap ((i : Int) + (j : Int)) = ((i + j : Nat) : Int) := by rw [IntWalk.i64_in _ (by omega)]; omega
      have w2 : ((i : Int) + (j : Int)) / 2 = (h : Int) := by omega
      clear hh; obtain ⟨F, hF⟩ : ∃ F, F = f := ⟨_, rfl⟩; subst hF
      have e1 := HW.out.2.1 h (by omega)
      have e0 := HW.out.2.1 a (by omega)
      rw [← HFA.out] at e0
      generalize hx : F h = x at e1
      have HX := Lib.hid hx
      have C := CM.out x (⟨yt, yto, yfr, ysq, ykd, ydt⟩ : Evt)
      generalize hz : cmpE x (⟨yt, yto, yfr, ysq, ykd, ydt⟩ : Evt) = z at C
      have HZ := Lib.hid (show ltE x (⟨yt, yto, yfr, ysq, ykd, ydt⟩ : Evt) = decide (z < 0) by unfold ltE; rw [hz])
      clear hx hz; obtain ⟨xt, xto, xfr, xsq, xkd, xdt⟩ := x; unfold Evt.v at C; unfold EvAt at e1 e0; dsimp only at C e1 e0; obtain ⟨p0, p1, p2, p3, p4, p5⟩ := e1; obtain ⟨q0, q1, q2, q3, q4, q5⟩ := e0
      have CC := Lib.hid C
      clear C
      have l3 : (h : Int) < N := by omega
      have l6 : (a : Int) < N := by omega
      go_wp2_with fail
      refine region_qw (by kernel_rfl) (by kernel_rfl) ?_; refine qWalk_step ?_; intro K hK; go_simp; apply Exists.intro; refine And.intro ?_ ?_
      · intro w1 hw1
        try go_simp
        try rfl
      try go_simp
      refine hK _ ?_; clear hK K; refine qWalk_step ?_; intro K hK; go_simp; apply Exists.intro; refine And.intro ?_ ?_
      · intro w1 hw1
        try go_simp
        try rfl
      try go_simp
      refine hK _ ?_; clear hK K; refine qWalk_step ?_; intro K hK; go_simp; apply Exists.intro; refine And.intro ?_ ?_
      · intro w1 hw1
        try go_simp
        try rfl
      try go_simp
      refine hK _ ?_; clear hK K; refine qWalk_step ?_; intro K hK; go_simp; apply Exists.intro; refine And.intro ?_ ?_
      · intro w1 hw1
        try go_simp
        try rfl
      try go_simp
      refine hK _ ?_; clear hK K; refine qWalk_step ?_; intro K hK; go_simp; apply Exists.intro; refine And.intro ?_ ?_
      · intro w1 hw1
        obtain ⟨hc, hf, hz⟩ := hw1.facts
        try simp at hz
        try go_simp
        try rfl
      try go_simp
      refine hK _ ?_; clear hK K; refine qWalk_step ?_; intro K hK; go_simp; apply Exists.intro; refine And.intro ?_ ?_
      · intro w1 hw1
        try go_simp
        try rfl
      try go_simp
      refine hK _ ?_; clear hK K; refine qWalk_step ?_; intro K hK; go_simp; apply Exists.intro; refine And.intro ?_ ?_
      · intro w1 hw1
        try go_simp
        try rfl
      try go_simp
      refine hK _ ?_; clear hK K; refine qWalk_step ?_; intro K hK; go_simp; apply Exists.intro; refine And.intro ?_ ?_
      · intro w1 hw1
        try go_simp
        try rfl
      try go_simp
      refine hK _ ?_; clear hK K; refine qWalk_step ?_; intro K hK; go_simp; apply Exists.intro; refine And.intro ?_ ?_
      · intro w1 hw1
        obtain ⟨hc, hf, hz⟩ := hw1.facts
        try simp at hz
        try go_simp
        try rfl
      try go_simp
      refine hK _ ?_; clear hK K; refine qWalk_step ?_; intro K hK; go_simp; apply Exists.intro; refine And.intro ?_ ?_
      · intro w1 hw1
        try go_simp
        exact up_call hw1 (CC.out _)
      try go_simp
      refine hK _ ?_; clear hK K; refine qWalk_step ?_; intro K hK; go_simp; apply Exists.intro; refine And.intro ?_ ?_
      · intro w1 hw1
        try go_simp
        try rfl
      try go_simp
      refine hK _ ?_; clear hK K; refine qWalk_nil ?_

      intro wA uA
      have HWA := Lib.hid (HW.out.up uA)
      have MVA := Lib.hid (MV.out.trans (uA.mv g))
      clear uA p0 p1 p2 p3 p4 p5 q0 q1 q2 q3 q4 q5 CC w1 w2
      by_cases hz : z < 0
      · have hlt2 : ltE (F h) (⟨yt, yto, yfr, ysq, ykd, ydt⟩ : Evt) = true := by rw [HX.out, HZ.out]; exact decide_eq_true hz
        have HL := Lib.hid hlt2
        have w3 : IntKind.i64.wrap ((h : Int) + 1) = ((h + 1 : Nat) : Int) := by rw [IntWalk.i64_in _ (by omega)]; omega
        generalize hh1 : h + 1 = h3 at w3
        have HH1 := Lib.hid hh1
        clear hh1 hlt2; go_wp2
        go_roundw
        case rel => exact ⟨⟨h3, j, by first | rfl | go_num, rfl, by have := HH1.out; omega, by have := HH1.out; omega, hj, .inr (by rw [← HH1.out, Nat.add_sub_cancel]; exact HL.out), HHI.out, HWA.out⟩, MVA.out⟩
        case measure => (have := HH1.out; simp [intOf]; try omega)
      · have hz' : ¬ z < 0 := hz
        have HL := Lib.hid (show leE (⟨yt, yto, yfr, ysq, ykd, ydt⟩ : Evt) (F h) by unfold leE; rw [HX.out, HZ.out]; exact decide_eq_false hz)
        go_wp2
        go_roundw
        case rel => exact ⟨⟨i, h, rfl, by first | rfl | go_num, hi, h1, by omega, HLO.out, .inr HL.out, HWA.out⟩, MVA.out⟩
        case measure => (simp [intOf]; try omega)
    · obtain rfl : i = j := by omega
      have j1 : ¬ (i : Int) < (i : Int) := by omega
      have SF := Lib.hid (sort_first HS.out hi hj (by rw [← HFA.out]; exact HLO.out) (by rw [← HFA.out]; exact HHI.out))
      have w3 : IntKind.i64.wrap ((i : Int) - 1) = ((i - 1 : Nat) : Int) := by rw [IntWalk.i64_in _ (by omega)]; omega
      generalize hi1 : i - 1 = i1 at w3
      have HI1 := Lib.hid hi1
      obtain ⟨w4, hw4⟩ : ∃ W, W = wr := ⟨_, rfl⟩; subst hw4; clear hi1 HS CM HLO HHI hij hlt; go_wp2
      go_loopw [13] (fun u wr => (∃ k : Nat, u = .int .i64 (k : Int) ∧ a ≤ k ∧ k ≤ i1 ∧ Row wr g N (rotF f a (a + 1) (k + 1)) ∧ Arr f (rotF f a (a + 1) (k + 1)) a b N) ∧ Mv g w wr) (fun u _ => i - (intOf u).toNat)
      case atStart => exact ⟨⟨a, rfl, Nat.le_refl _, by have := HI1.out; omega, HW.out.as_ (fun k _ => rot_none f (.inr rfl) (by omega) (Nat.le_refl _) k), (Arr.refl f a b N).as_ (fun k => rot_none f (.inr rfl) (by omega) (Nat.le_refl _) k)⟩, MV.out⟩
      case round =>
        clear HW MV hg; obtain ⟨⟨k, rfl, hk1, hk2, hF, hA⟩, mv⟩ := hrel
        have HW := Lib.hid hF
        have HA := Lib.hid hA
        have MV := Lib.hid mv
        have hg := hF.1
        clear hF hA mv
        by_cases hlt : k < i1
        · have j2 : (k : Int) < (i1 : Int) := by omega
          have ST := Lib.hid (fun l => rot_grow f a k hk1 l)
          have AX := Lib.hid ((HA.out.trans (swp_arr (rotF f a (a + 1) (k + 1)) (i := k) (j := k + 1) (by omega) hk1 (by have := HI1.out; omega) (by have := HI1.out; omega))).as_ (rot_grow f a k hk1))
          generalize rotF f a (a + 1) (k + 1) = G at HW ST
          have hk3 : k + 1 < N := by have := HI1.out; omega
          have e1 := HW.out.2.1 (k + 1) hk3
          have e0 := HW.out.2.1 k (by omega)
          generalize hx : G (k + 1) = x at e1
          generalize hy : G k = y at e0
          have HX := Lib.hid hx
          have HY := Lib.hid hy
          have AA := Lib.hid ((HW.out.put (k := k) (e := x) (by omega)).put (k := k + 1) (e := y) hk3)
          clear hx hy; obtain ⟨xt, xto, xfr, xsq, xkd, xdt⟩ := x; obtain ⟨yt, yto, yfr, ysq, ykd, ydt⟩ := y; unfold EvAt at e1 e0; dsimp only at e1 e0; obtain ⟨p0, p1, p2, p3, p4, p5⟩ := e1; obtain ⟨q0, q1, q2, q3, q4, q5⟩ := e0
          have f0 := HW.out.2.2 ((k + 1) * 6) (by omega)
          have f1 := HW.out.2.2 ((k + 1) * 6 + 1) (by omega)
          have f2 := HW.out.2.2 ((k + 1) * 6 + 2) (by omega)
          have f3 := HW.out.2.2 ((k + 1) * 6 + 3) (by omega)
          have f4 := HW.out.2.2 ((k + 1) * 6 + 4) (by omega)
          have f5 := HW.out.2.2 ((k + 1) * 6 + 5) (by omega)
          have g0 := HW.out.2.2 (k * 6) (by omega)
          have g1 := HW.out.2.2 (k * 6 + 1) (by omega)
          have g2 := HW.out.2.2 (k * 6 + 2) (by omega)
          have g3 := HW.out.2.2 (k * 6 + 3) (by omega)
          have g4 := HW.out.2.2 (k * 6 + 4) (by omega)
          have g5 := HW.out.2.2 (k * 6 + 5) (by omega)
          have l3 : (k : Int) + 1 < N := by omega
          have l4 : (0 : Int) ≤ (k : Int) + 1 := by omega
          have l5 : ((k : Int) + 1).toNat = k + 1 := by omega
          have l6 : (k : Int) < N := by omega
          have l7 : IntKind.i64.wrap ((k : Int) + 1) = (k : Int) + 1 := IntWalk.i64_in _ (by omega)
          go_wp2_with fail
          go_region
          have A2 := (AA.out.up (Up.refl _).drew)
          unfold putEv at A2
          have A3 := Lib.hid A2
          clear A2 AA p0 p1 p2 p3 p4 p5 q0 q1 q2 q3 q4 q5 f0 f1 f2 f3 f4 f5 g0 g1 g2 g3 g4 g5; go_wp2
          go_roundw
          case rel =>
            refine ⟨⟨k + 1, by first | rfl | go_num, by omega, by omega, A3.out.as_ ?_, AX.out⟩, ?_⟩
            · intro l hl
              rw [← ST.out l]; unfold swp; rw [HX.out, HY.out]
              by_cases h1 : l = k
              · rw [if_pos h1, if_neg (by omega), if_pos h1]
              · by_cases h2 : l = k + 1
                · rw [if_pos h2, if_neg h1, if_pos h2]
                · rw [if_neg h2, if_neg h1, if_neg h1, if_neg h2]
            · exact ((((((((((((MV.out.setCell _).setCell _).setCell _).setCell _).setCell _).setCell _).setCell _).setCell _).setCell _).setCell _).setCell _).setCell _).drew
          case measure => (have := HI1.out; simp [intOf]; try omega)
        · obtain rfl : k = i1 := by omega
          have j2 : ¬ (k : Int) < (k : Int) := by omega
          have e : k + 1 = i := by have := HI1.out; omega
          have HE := Lib.hid (show ∃ F, Row wr g N F ∧ Arr f F a b N ∧ SortF F a b from ⟨_, HW.out, HA.out, by rw [e]; exact SF.out⟩)
          clear e; go_wp2
          exact bodyPost_end (v := .tuple #[]) (results_none Try.results100 _ _ _) rfl ⟨rfl, HE.out, MV.out⟩
end Go.Proofs.Ytjdoealcmokakaa

namespace Go.Proofs.Ytjdoealcmokakaa
set_option maxRecDepth 100000
open Go.RowKit
set_option maxRecDepth 100000 in
set_option maxHeartbeats 2000000 in
theorem symB_any (g N c a m : Nat) (f : Nat → Evt) (w : World) (hN : N ≤ 2000000) (ham : a + 1 < m) (hb : m + 1 ≤ N) (hR : Row w g N f) (hs : SortF f a m) :
    Calls Try.prog 100 #[.slice (some ⟨g, 0, none⟩) N c, .int .i64 (a : Int), .int .i64 (m : Int), .int .i64 ((m + 1 : Nat) : Int), .func (.func 48) #[] #[]] w (SymPost g N a (m + 1) f w) := by
  have HR := Lib.hid hR
  have HS := Lib.hid hs
  have CM := Lib.hid (fun x y W => cmpE_any x y W)
  clear hR hs; obtain ⟨b, hbm⟩ : ∃ b, b = m + 1 := ⟨_, rfl⟩; rw [← hbm]; obtain ⟨fm, hfm⟩ : ∃ e, e = f m := ⟨_, rfl⟩; obtain ⟨xt, xto, xfr, xsq, xkd, xdt⟩ := fm
  have HFM := Lib.hid hfm
  clear hfm; obtain ⟨d, hd⟩ : ∃ d, d = m - a := ⟨_, rfl⟩
  have w0 : IntKind.i64.wrap ((m : Int) - (a : Int)) = (d : Int) := by rw [IntWalk.i64_in _ (by omega)]; omega
  have hd1 : ¬ d = 1 := by omega
  have hd2 : ¬ (d : Int) = 1 := by omega
  have hd3 : ((d : Int) == 1) = false := by simp; omega
  have w1 : IntKind.i64.wrap ((b : Int) - (m : Int)) = 1 := by rw [IntWalk.i64_in _ (by omega)]; omega
  have HB := Lib.hid hbm
  clear hbm hd
  go_enter Try.func100, Try.ntmps100
  go_wp2
  go_loopw [14, 15, 16] (fun u v t wr => (∃ i j : Nat, u = .int .i64 (i : Int) ∧ v = .int .i64 (j : Int) ∧ a ≤ i ∧ i ≤ j ∧ j ≤ m ∧ (i = a ∨ leE (f (i - 1)) (⟨xt, xto, xfr, xsq, xkd, xdt⟩ : Evt)) ∧ (j = m ∨ ltE (⟨xt, xto, xfr, xsq, xkd, xdt⟩ : Evt) (f j) = true) ∧ Row wr g N f) ∧ Mv g w wr) (fun u v _ _ => (intOf v).toNat - (intOf u).toNat)
  case atStart => exact ⟨⟨a, m, rfl, rfl, Nat.le_refl _, by omega, Nat.le_refl _, .inl rfl, .inl rfl, HR.out⟩, Mv.refl _ _⟩
  case round =>
    obtain ⟨⟨i, j, rfl, rfl, hi, hij, hj, hlo, hhi, hF⟩, mv⟩ := hrel
    have HW := Lib.hid hF
    have HLO := Lib.hid hlo
    have HHI := Lib.hid hhi
    have MV := Lib.hid mv
    have hg := hF.1
    clear hF hlo hhi mv HR w0 w1
    by_cases hlt : i < j
    · have j1 : (i : Int) < (j : Int) := by omega
      obtain ⟨h, hh⟩ : ∃ h, h = (i + j) / 2 := ⟨_, rfl⟩
      have h1 : i ≤ h := by omega
      have h2 : h < j := by omega
      have w1 : IntKind.i64.wrap ((i : Int) + (j : Int)) = ((i + j : Nat) : Int) := by rw [IntWalk.i64_in _ (by omega)]; omega
      have w2 : ((i : Int) + (j : Int)) / 2 = (h : Int) := by omega
      clear hh
      have e1 := HW.out.2.1 m (by omega)
      have e0 := HW.out.2.1 h (by omega)
      rw [← HFM.out] at e1
      generalize hy : f h = y at e0
      have HY := Lib.hid hy
      have C := CM.out (⟨xt, xto, xfr, xsq, xkd, xdt⟩ : Evt) y
      generalize hz : cmpE (⟨xt, xto, xfr, xsq, xkd, xdt⟩ : Evt) y = z at C
      have HZ := Lib.hid (show ltE (⟨xt, xto, xfr, xsq, xkd, xdt⟩ : Evt) y = decide (z < 0) by unfold ltE; rw [hz])
      clear hy hz; obtain ⟨yt, yto, yfr, ysq, ykd, ydt⟩ := y; unfold Evt.v at C; unfold EvAt at e1 e0; dsimp only at C e1 e0; obtain ⟨p0, p1, p2, p3, p4, p5⟩ := e1; obtain ⟨q0, q1, q2, q3, q4, q5⟩ := e0
      have CC := Lib.hid C
      clear C
      have l3 : (h : Int) < N := by omega
      have l6 : (m : Int) < N := by omega
      go_wp2_with fail
      refine region_qw (by kernel_rfl) (by kernel_rfl) ?_; refine qWalk_step ?_; intro K hK; go_simp; apply Exists.intro; refine And.intro ?_ ?_
      · intro w1 hw1
        try go_simp
        try rfl
      try go_simp
      refine hK _ ?_; clear hK K; refine qWalk_step ?_; intro K hK; go_simp; apply Exists.intro; refine And.intro ?_ ?_
      · intro w1 hw1
        try go_simp
        try rfl
      try go_simp
      refine hK _ ?_; clear hK K; refine qWalk_step ?_; intro K hK; go_simp; apply Exists.intro; refine And.intro ?_ ?_
      · intro w1 hw1
        try go_simp
        try rfl
      try go_simp
      refine hK _ ?_; clear hK K; refine qWalk_step ?_; intro K hK; go_simp; apply Exists.intro; refine And.intro ?_ ?_
      · intro w1 hw1
        try go_simp
        try rfl
      try go_simp
      refine hK _ ?_; clear hK K; refine qWalk_step ?_; intro K hK; go_simp; apply Exists.intro; refine And.intro ?_ ?_
      · intro w1 hw1
        obtain ⟨hc, hf, hz⟩ := hw1.facts
        try simp at hz
        try go_simp
        try rfl
      try go_simp
      refine hK _ ?_; clear hK K; refine qWalk_step ?_; intro K hK; go_simp; apply Exists.intro; refine And.intro ?_ ?_
      · intro w1 hw1
        try go_simp
        try rfl
      try go_simp
      refine hK _ ?_; clear hK K; refine qWalk_step ?_; intro K hK; go_simp; apply Exists.intro; refine And.intro ?_ ?_
      · intro w1 hw1
        try go_simp
        try rfl
      try go_simp
      refine hK _ ?_; clear hK K; refine qWalk_step ?_; intro K hK; go_simp; apply Exists.intro; refine And.intro ?_ ?_
      · intro w1 hw1
        try go_simp
        try rfl
      try go_simp
      refine hK _ ?_; clear hK K; refine qWalk_step ?_; intro K hK; go_simp; apply Exists.intro; refine And.intro ?_ ?_
      · intro w1 hw1
        obtain ⟨hc, hf, hz⟩ := hw1.facts
        try simp at hz
        try go_simp
        try rfl
      try go_simp
      refine hK _ ?_; clear hK K; refine qWalk_step ?_; intro K hK; go_simp; apply Exists.intro; refine And.intro ?_ ?_
      · intro w1 hw1
        try go_simp
        exact up_call hw1 (CC.out _)
      try go_simp
      refine hK _ ?_; clear hK K; refine qWalk_step ?_; intro K hK; go_simp; apply Exists.intro; refine And.intro ?_ ?_
      · intro w1 hw1
        try go_simp
        try rfl
      try go_simp
      refine hK _ ?_; clear hK K; refine qWalk_step ?_; intro K hK; go_simp; apply Exists.intro; refine And.intro ?_ ?_
      · intro w1 hw1
        try go_simp
        try rfl
      try go_simp
      refine hK _ ?_; clear hK K; refine qWalk_nil ?_

      intro wA uA
      have HWA := Lib.hid (HW.out.up uA)
      have MVA := Lib.hid (MV.out.trans (uA.mv g))
      clear uA p0 p1 p2 p3 p4 p5 q0 q1 q2 q3 q4 q5 CC w1 w2
      generalize decide (z < 0) = dz at HZ ⊢
      cases dz
      case true =>
        have HL := Lib.hid (show ltE (⟨xt, xto, xfr, xsq, xkd, xdt⟩ : Evt) (f h) = true by rw [HY.out, HZ.out])
        go_wp2
        go_roundw
        case rel => exact ⟨⟨i, h, rfl, by first | rfl | go_num, hi, h1, by omega, HLO.out, .inr HL.out, HWA.out⟩, MVA.out⟩
        case measure => (simp [intOf]; try omega)
      case false =>
        have HL := Lib.hid (show leE (f h) (⟨xt, xto, xfr, xsq, xkd, xdt⟩ : Evt) by unfold leE; rw [HY.out, HZ.out])
        have w3 : IntKind.i64.wrap ((h : Int) + 1) = ((h + 1 : Nat) : Int) := by rw [IntWalk.i64_in _ (by omega)]; omega
        generalize hh1 : h + 1 = h3 at w3
        have HH1 := Lib.hid hh1
        clear hh1; go_wp2
        go_roundw
        case rel => exact ⟨⟨h3, j, by first | rfl | go_num, rfl, by have := HH1.out; omega, by have := HH1.out; omega, hj, .inr (by rw [← HH1.out, Nat.add_sub_cancel]; exact HL.out), HHI.out, HWA.out⟩, MVA.out⟩
        case measure => (have := HH1.out; simp [intOf]; try omega)
    · obtain rfl : i = j := by omega
      have j1 : ¬ (i : Int) < (i : Int) := by omega
      have SF := Lib.hid (sort_last HS.out hi hj (by rw [← HFM.out]; exact HLO.out) (by rw [← HFM.out]; exact HHI.out))
      obtain ⟨w4, hw4⟩ : ∃ W, W = wr := ⟨_, rfl⟩; subst hw4; clear HS CM HLO HHI hij hlt; go_wp2
      go_loopw [17] (fun u wr => (∃ k : Nat, u = .int .i64 (k : Int) ∧ i ≤ k ∧ k ≤ m ∧ Row wr g N (rotF f k m (m + 1)) ∧ Arr f (rotF f k m (m + 1)) a (m + 1) N) ∧ Mv g w wr) (fun u _ => (intOf u).toNat)
      case atStart => exact ⟨⟨m, rfl, hj, Nat.le_refl _, HW.out.as_ (fun k _ => rot_none f (.inl rfl) (Nat.le_refl _) (by omega) k), (Arr.refl f a (m + 1) N).as_ (fun k => rot_none f (.inl rfl) (Nat.le_refl _) (by omega) k)⟩, MV.out⟩
      case round =>
        clear HW MV hg; obtain ⟨⟨k, rfl, hk1, hk2, hF, hA⟩, mv⟩ := hrel
        have HW := Lib.hid hF
        have HA := Lib.hid hA
        have MV := Lib.hid mv
        have hg := hF.1
        clear hF hA mv
        by_cases hlt : i < k
        · obtain ⟨k, rfl⟩ : ∃ l, k = l + 1 := ⟨k - 1, by omega⟩
          have j2 : (i : Int) < (k : Int) + 1 := by omega
          have ST := Lib.hid (fun l => rot_down f m k (by omega) l)
          have AX := Lib.hid ((HA.out.trans (swp_arr (rotF f (k + 1) m (m + 1)) (i := k) (j := k + 1) (by omega) (by omega) (by omega) (by omega))).as_ (rot_down f m k (by omega)))
          generalize rotF f (k + 1) m (m + 1) = G at HW ST
          have hk3 : k + 1 < N := by omega
          have e1 := HW.out.2.1 (k + 1) hk3
          have e0 := HW.out.2.1 k (by omega)
          generalize hx : G (k + 1) = x at e1
          generalize hy : G k = y at e0
          have HX := Lib.hid hx
          have HY := Lib.hid hy
          have AA := Lib.hid ((HW.out.put (k := k + 1) (e := y) hk3).put (k := k) (e := x) (by omega))
          clear hx hy HFM; obtain ⟨xt, xto, xfr, xsq, xkd, xdt⟩ := x; obtain ⟨yt, yto, yfr, ysq, ykd, ydt⟩ := y; unfold EvAt at e1 e0; dsimp only at e1 e0; obtain ⟨p0, p1, p2, p3, p4, p5⟩ := e1; obtain ⟨q0, q1, q2, q3, q4, q5⟩ := e0
          have f0 := HW.out.2.2 ((k + 1) * 6) (by omega)
          have f1 := HW.out.2.2 ((k + 1) * 6 + 1) (by omega)
          have f2 := HW.out.2.2 ((k + 1) * 6 + 2) (by omega)
          have f3 := HW.out.2.2 ((k + 1) * 6 + 3) (by omega)
          have f4 := HW.out.2.2 ((k + 1) * 6 + 4) (by omega)
          have f5 := HW.out.2.2 ((k + 1) * 6 + 5) (by omega)
          have g0 := HW.out.2.2 (k * 6) (by omega)
          have g1 := HW.out.2.2 (k * 6 + 1) (by omega)
          have g2 := HW.out.2.2 (k * 6 + 2) (by omega)
          have g3 := HW.out.2.2 (k * 6 + 3) (by omega)
          have g4 := HW.out.2.2 (k * 6 + 4) (by omega)
          have g5 := HW.out.2.2 (k * 6 + 5) (by omega)
          have l3 : (k : Int) + 1 < N := by omega
          have l4 : (0 : Int) ≤ (k : Int) + 1 := by omega
          have l5 : ((k : Int) + 1).toNat = k + 1 := by omega
          have l6 : (k : Int) < N := by omega
          have l7 : IntKind.i64.wrap (k : Int) = k := IntWalk.i64_in _ (by omega)
          go_wp2_with fail
          go_region
          have A2 := (AA.out.up (Up.refl _).drew)
          unfold putEv at A2
          have A3 := Lib.hid A2
          clear A2 AA p0 p1 p2 p3 p4 p5 q0 q1 q2 q3 q4 q5 f0 f1 f2 f3 f4 f5 g0 g1 g2 g3 g4 g5; go_wp2
          go_roundw
          case rel =>
            refine ⟨⟨k, by first | rfl | go_num, by omega, by omega, A3.out.as_ ?_, AX.out⟩, ?_⟩
            · intro l hl
              rw [← ST.out l]; unfold swp; rw [HX.out, HY.out]
            · exact ((((((((((((MV.out.setCell _).setCell _).setCell _).setCell _).setCell _).setCell _).setCell _).setCell _).setCell _).setCell _).setCell _).setCell _).drew
          case measure => (simp [intOf]; try omega)
        · obtain rfl : k = i := by omega
          have j2 : ¬ (k : Int) < (k : Int) := by omega
          have HE := Lib.hid (show ∃ F, Row wr g N F ∧ Arr f F a b N ∧ SortF F a b from by rw [HB.out]; exact ⟨_, HW.out, HA.out, SF.out⟩)
          go_wp2
          exact bodyPost_end (v := .tuple #[]) (results_none Try.results100 _ _ _) rfl ⟨rfl, HE.out, MV.out⟩
end Go.Proofs.Ytjdoealcmokakaa

namespace Go.Proofs.Ytjdoealcmokakaa
set_option maxRecDepth 100000
open Go.RowKit
theorem Arr.sort_out {f f' : Nat → Evt} {a b c d N : Nat} (h : Arr f f' a b N) (hs : SortF f c d) (hd : b ≤ c ∨ d ≤ a) : SortF f' c d := fun k h1 h2 => by
  rw [h.out k (by omega), h.out (k + 1) (by omega)]
  exact hs k h1 h2
/-- What merging of a smaller stretch gives. -/
def SymIH (g N c L : Nat) : Prop := ∀ (a m b : Nat) (f : Nat → Evt) (w : World), b - a < L → a < m → m < b → b ≤ N → Row w g N f → SortF f a m → SortF f m b →
    Calls Try.prog 100 #[.slice (some ⟨g, 0, none⟩) N c, .int .i64 (a : Int), .int .i64 (m : Int), .int .i64 (b : Int), .func (.func 48) #[] #[]] w (SymPost g N a b f w)
end Go.Proofs.Ytjdoealcmokakaa

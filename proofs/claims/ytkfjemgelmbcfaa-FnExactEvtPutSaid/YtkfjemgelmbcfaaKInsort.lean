/-
  What the insertion sort does with a stretch of a row, in one sentence: it is sorted, none is lost, and nothing else is changed; for every stretch.
-/
import Derived.Test.YtkfjemgelmbcfaaKArr
import Derived.Test.YtkfjemgelmbcfaaKA
import Derived.RegionTactic
namespace Go.Proofs.Ytkfjemgelmbcfaa
set_option maxRecDepth 100000
open Go.RowKit

/-- The inner loop's relation. -/
def InR (f : Nat → Evt) (a b i g N : Nat) (v : Value) (wr : World) : Prop :=
  ∃ (j : Nat) (F : Nat → Evt), v = .int .i64 (j : Int) ∧ a ≤ j ∧ j ≤ i ∧ Row wr g N F ∧ Arr f F a b N ∧ NearF F a j i
/-- The outer loop's relation. -/
def OutR (f : Nat → Evt) (a b g N : Nat) (v : Value) (wr : World) : Prop :=
  ∃ (i : Nat) (F : Nat → Evt), v = .int .i64 (i : Int) ∧ a + 1 ≤ i ∧ (i ≤ b ∨ i = a + 1) ∧ Row wr g N F ∧ Arr f F a b N ∧ SortF F a i

set_option maxRecDepth 100000 in
set_option maxHeartbeats 8000000 in
theorem insort_any (g N c a b : Nat) (f : Nat → Evt) (w : World) (hN : N ≤ 2000000) (hab : a ≤ b) (hb : b ≤ N) (hR : Row w g N f) :
    Calls Try.prog 167 #[.slice (some ⟨g, 0, none⟩) N c, .int .i64 (a : Int), .int .i64 (b : Int), .func (.func 73) #[] #[]] w
      fun x w' => x = .returned (.tuple #[]) ∧ (∃ F, Row w' g N F ∧ Arr f F a b N ∧ SortF F a b) ∧ Mv g w w' := by
  have HR := Lib.hid hR
  have CM := Lib.hid (fun x y W => cmpE_any x y W)
  clear hR
  have i1 : IntKind.i64.wrap ((a : Int) + 1) = (a : Int) + 1 := IntWalk.i64_in _ (by omega)
  go_enter Try.func167, Try.ntmps167
  go_wp2
  go_loopw [8] (fun v wr => OutR f a b g N v wr ∧ Mv g w wr) (fun v _ => b - (intOf v).toNat)
  case atStart => exact ⟨⟨a + 1, f, by go_num, by omega, .inr rfl, HR.out, Arr.refl _ _ _ _, fun k h1 h2 => by omega⟩, Mv.refl _ _⟩
  case round =>
    obtain ⟨⟨i, F0, rfl, hi, hib, hrow, harr, hsort⟩, mv⟩ := hrel
    have HW := Lib.hid hrow
    have HA0 := Lib.hid harr
    have HS0 := Lib.hid hsort
    have MV := Lib.hid mv
    clear hrow mv i1 HR harr hsort
    by_cases hip : i < b
    · have j1 : (i : Int) < (b : Int) := by omega
      go_wp2_with fail
      go_loopw [9] (fun v wr => InR f a b i g N v wr ∧ Mv g w wr) (fun v _ => (intOf v).toNat)
      case atStart => exact ⟨⟨i, F0, rfl, by omega, Nat.le_refl _, HW.out, HA0.out, NearF.start HS0.out⟩, MV.out⟩
      case round =>
        obtain ⟨⟨j, F, rfl, haj, hji, hF, hA, hNr⟩, mv⟩ := hrel
        have MV := Lib.hid mv
        have HW := Lib.hid hF
        have HA := Lib.hid hA
        have HN := Lib.hid hNr
        have hg := hF.1
        clear mv hF hA hNr
        have w1 : IntKind.i64.wrap ((i : Int) + 1) = (i : Int) + 1 := IntWalk.i64_in _ (by omega)
        by_cases hja : a < j
        · obtain ⟨k, rfl⟩ : ∃ k, j = k + 1 := ⟨j - 1, by omega⟩
          have hk1 : k + 1 < N := by omega
          have e1 := HW.out.2.1 (k + 1) hk1
          have e0 := HW.out.2.1 k (by omega)
          generalize hx : F (k + 1) = x at e1
          generalize hy : F k = y at e0
          have HX := Lib.hid hx
          have HY := Lib.hid hy
          have C := CM.out x y
          generalize hz : cmpE x y = z at C
          have HZ := Lib.hid (show ltE x y = decide (z < 0) by unfold ltE; rw [hz])
          clear hx hy hz
          obtain ⟨xt, xto, xfr, xsq, xkd, xdt⟩ := x
          obtain ⟨yt, yto, yfr, ysq, ykd, ydt⟩ := y
          unfold Evt.v at C
          unfold EvAt at e1 e0
          dsimp only at C e1 e0
          obtain ⟨p0, p1, p2, p3, p4, p5⟩ := e1
          obtain ⟨q0, q1, q2, q3, q4, q5⟩ := e0
          have CC := Lib.hid C
          clear C
          have l1 : (a : Int) < (k : Int) + 1 := by omega
          have l3 : (k : Int) + 1 < N := by omega
          have l4 : (0 : Int) ≤ (k : Int) + 1 := by omega
          have l5 : ((k : Int) + 1).toNat = k + 1 := by omega
          have l6 : (k : Int) < N := by omega
          have l7 : IntKind.i64.wrap (k : Int) = k := IntWalk.i64_in _ (by omega)
          go_wp2_with fail
          rename_i ka Qa Kb kb Kc kc
          have KA := Lib.hid ka
          have KB := Lib.hid kb
          have KC := Lib.hid kc
          clear ka kb kc
          refine region_up (by kernel_rfl) (by kernel_rfl) ?_
          refine wpQuiet_step (fun K hK => ?_)
          go_simp
          apply Exists.intro
          refine ⟨fun w1 hw1 => ?_, hK _ ?_⟩
          · try go_simp
            try rfl
          clear hK K
          refine wpQuiet_step (fun K hK => ?_)
          go_simp
          apply Exists.intro
          refine ⟨fun w1 hw1 => ?_, hK _ ?_⟩
          · try go_simp
            try rfl
          clear hK K
          refine wpQuiet_step (fun K hK => ?_)
          go_simp
          apply Exists.intro
          refine ⟨fun w1 hw1 => ?_, hK _ ?_⟩
          · try go_simp
            try rfl
          clear hK K
          refine wpQuiet_step (fun K hK => ?_)
          go_simp
          apply Exists.intro
          refine ⟨fun w1 hw1 => ?_, hK _ ?_⟩
          · try go_simp
            try rfl
          clear hK K
          refine wpQuiet_step (fun K hK => ?_)
          go_simp
          apply Exists.intro
          refine ⟨fun w1 hw1 => ?_, hK _ ?_⟩
          · try go_simp
            try rfl
          clear hK K
          refine wpQuiet_step (fun K hK => ?_)
          go_simp
          apply Exists.intro
          refine ⟨fun w1 hw1 => ?_, hK _ ?_⟩
          · try go_simp
            try rfl
          clear hK K
          refine wpQuiet_step (fun K hK => ?_)
          go_simp
          apply Exists.intro
          refine ⟨fun w1 hw1 => ?_, hK _ ?_⟩
          · try go_simp
            try rfl
          clear hK K
          refine wpQuiet_step (fun K hK => ?_)
          go_simp
          apply Exists.intro
          refine ⟨fun w1 hw1 => ?_, hK _ ?_⟩
          · try go_simp
            try rfl
          clear hK K
          refine wpQuiet_step (fun K hK => ?_)
          go_simp
          apply Exists.intro
          refine ⟨fun w1 hw1 => ?_, hK _ ?_⟩
          · obtain ⟨hc, hf, hz⟩ := hw1.facts
            try simp at hz
            try go_simp
            try rfl
          clear hK K
          refine wpQuiet_step (fun K hK => ?_)
          go_simp
          apply Exists.intro
          refine ⟨fun w1 hw1 => ?_, hK _ ?_⟩
          · try go_simp
            try rfl
          clear hK K
          refine wpQuiet_step (fun K hK => ?_)
          go_simp
          apply Exists.intro
          refine ⟨fun w1 hw1 => ?_, hK _ ?_⟩
          · try go_simp
            try rfl
          clear hK K
          refine wpQuiet_step (fun K hK => ?_)
          go_simp
          apply Exists.intro
          refine ⟨fun w1 hw1 => ?_, hK _ ?_⟩
          · try go_simp
            try rfl
          clear hK K
          refine wpQuiet_step (fun K hK => ?_)
          go_simp
          apply Exists.intro
          refine ⟨fun w1 hw1 => ?_, hK _ ?_⟩
          · try go_simp
            try rfl
          clear hK K
          refine wpQuiet_step (fun K hK => ?_)
          go_simp
          apply Exists.intro
          refine ⟨fun w1 hw1 => ?_, hK _ ?_⟩
          · obtain ⟨hc, hf, hz⟩ := hw1.facts
            try simp at hz
            try go_simp
            try rfl
          clear hK K
          refine wpQuiet_step (fun K hK => ?_)
          go_simp
          apply Exists.intro
          refine ⟨fun w1 hw1 => ?_, hK _ ?_⟩
          · try go_simp
            exact up_call hw1 (CC.out _)
          clear hK K
          refine wpQuiet_step (fun K hK => ?_)
          go_simp
          apply Exists.intro
          refine ⟨fun w1 hw1 => ?_, hK _ ?_⟩
          · try go_simp
            try rfl
          clear hK K
          refine wpQuiet_step (fun K hK => ?_)
          go_simp
          apply Exists.intro
          refine ⟨fun w1 hw1 => ?_, hK _ ?_⟩
          · try go_simp
            try rfl
          clear hK K
          refine wpQuiet_nil ?_
          intro wA uA
          have ka := KA.out
          have kb := KB.out
          have kc := KC.out
          clear KA KB KC
          have HWA := Lib.hid (HW.out.up uA)
          have MVA := Lib.hid (MV.out.trans (uA.mv g))
          clear uA p0 p1 p2 p3 p4 p5 q0 q1 q2 q3 q4 q5 CC
          by_cases hz : z < 0
          · have hlt : ltE (⟨xt, xto, xfr, xsq, xkd, xdt⟩ : Evt) ⟨yt, yto, yfr, ysq, ykd, ydt⟩ = true := by rw [HZ.out]; exact decide_eq_true hz
            have ex := HX.out
            have ey := HY.out
            have E1 := HWA.out.2.1 (k + 1) hk1
            rw [ex] at E1
            have E0 := HWA.out.2.1 k (by omega)
            rw [ey] at E0
            have NX := Lib.hid (HN.out.step (by omega) hji (by rw [ex, ey]; exact hlt))
            have AX := Lib.hid (HA.out.trans (swp_arr F (i := k) (j := k + 1) (a := a) (b := b) (N := N) (by omega) (by omega) (by omega) (by omega)))
            have EX := Lib.hid ex
            have EY := Lib.hid ey
            clear ex ey hlt
            unfold EvAt at E1 E0
            dsimp only at E1 E0
            obtain ⟨p0, p1, p2, p3, p4, p5⟩ := E1
            obtain ⟨q0, q1, q2, q3, q4, q5⟩ := E0
            have f0 := HWA.out.2.2 ((k + 1) * 6) (by omega)
            have f1 := HWA.out.2.2 ((k + 1) * 6 + 1) (by omega)
            have f2 := HWA.out.2.2 ((k + 1) * 6 + 2) (by omega)
            have f3 := HWA.out.2.2 ((k + 1) * 6 + 3) (by omega)
            have f4 := HWA.out.2.2 ((k + 1) * 6 + 4) (by omega)
            have f5 := HWA.out.2.2 ((k + 1) * 6 + 5) (by omega)
            have g0 := HWA.out.2.2 (k * 6) (by omega)
            have g1 := HWA.out.2.2 (k * 6 + 1) (by omega)
            have g2 := HWA.out.2.2 (k * 6 + 2) (by omega)
            have g3 := HWA.out.2.2 (k * 6 + 3) (by omega)
            have g4 := HWA.out.2.2 (k * 6 + 4) (by omega)
            have g5 := HWA.out.2.2 (k * 6 + 5) (by omega)
            have AA := Lib.hid ((HWA.out.put (k := k + 1) (e := ⟨yt, yto, yfr, ysq, ykd, ydt⟩) hk1).put (k := k) (e := ⟨xt, xto, xfr, xsq, xkd, xdt⟩) (by omega))
            go_wp2_with fail
            go_region
            have A2 := (AA.out.up (Up.refl _).drew)
            unfold putEv at A2
            have A3 := Lib.hid A2
            clear A2 AA p0 p1 p2 p3 p4 p5 q0 q1 q2 q3 q4 q5 f0 f1 f2 f3 f4 f5 g0 g1 g2 g3 g4 g5
            go_wp2
            go_roundw
            case rel =>
              refine ⟨⟨k, swp F k (k + 1), by first | rfl | go_num, by omega, by omega, A3.out.as_ ?_, AX.out, NX.out⟩, ?_⟩
              · intro m hm
                unfold swp
                rw [EX.out, EY.out]
              · exact ((((((((((((MVA.out.setCell _).setCell _).setCell _).setCell _).setCell _).setCell _).setCell _).setCell _).setCell _).setCell _).setCell _).setCell _).drew
            case measure => (simp [intOf]; try omega)
          · have hz' : ¬ z < 0 := hz
            have hlt : ltE (⟨xt, xto, xfr, xsq, xkd, xdt⟩ : Evt) ⟨yt, yto, yfr, ysq, ykd, ydt⟩ = false := by rw [HZ.out]; exact decide_eq_false hz
            have SX := Lib.hid (HN.out.stop (fun _ => by rw [Nat.add_sub_cancel, HX.out, HY.out]; exact hlt))
            clear hlt
            go_wp2
            go_roundw
            case rel => exact ⟨⟨i + 1, F, by first | rfl | go_num, by omega, .inl (by omega), HWA.out, HA.out, SX.out⟩, MVA.out⟩
            case measure => (simp [intOf]; try omega)
        · obtain rfl : j = a := by omega
          have l1 : ¬ (j : Int) < (j : Int) := by omega
          have SX := Lib.hid (HN.out.stop (fun h => absurd h (by omega)))
          clear hja haj CM
          go_wp2_with fail
          go_quiet (fail)
          have uA := (Up.refl wr).drewN nq
          generalize wr.drewN nq = wA at uA ⊢
          have HWA := Lib.hid (HW.out.up uA)
          have MVA := Lib.hid (MV.out.trans (uA.mv g))
          clear uA
          go_wp2
          go_roundw
          case rel => exact ⟨⟨i + 1, F, by first | rfl | go_num, by omega, .inl (by omega), HWA.out, HA.out, SX.out⟩, MVA.out⟩
          case measure => (simp [intOf]; try omega)
    · have j1 : ¬ (i : Int) < (b : Int) := by omega
      go_wp2
      exact bodyPost_end (v := .tuple #[]) (results_none Try.results167 _ _ _) rfl ⟨rfl, ⟨F0, HW.out, HA0.out, fun k h1 h2 => HS0.out k h1 (by omega)⟩, MV.out⟩

end Go.Proofs.Ytkfjemgelmbcfaa

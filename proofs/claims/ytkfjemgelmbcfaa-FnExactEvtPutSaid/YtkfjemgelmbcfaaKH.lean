/-
  What the insertion sort does with a rising stretch and one event behind it, in one sentence: the event slides down to its place; for every such stretch of a row.
-/
import Derived.Test.YtkfjemgelmbcfaaKC
import Derived.Test.YtkfjemgelmbcfaaKA
import Derived.RegionTactic
namespace Go.Proofs.Ytkfjemgelmbcfaa
set_option maxRecDepth 100000
open Go.RowKit

/-- q is the place for the event at p, over a rising stretch from a on. -/
def Place (f : Nat → Evt) (a p q : Nat) : Prop := a ≤ q ∧ q ≤ p ∧ (q = a ∨ ltE (f p) (f (q - 1)) = false) ∧ ∀ k, q ≤ k → k < p → ltE (f p) (f k) = true

/-- The inner loop's relation: at i, of the stretch up to p. -/
def InRel (f : Nat → Evt) (a p i g N : Nat) (v : Value) (wr : World) : Prop :=
  ∃ j : Nat, v = .int .i64 (j : Int) ∧ a ≤ j ∧ j ≤ i ∧ ((i < p ∧ j = i ∧ Row wr g N f) ∨ (i = p ∧ Row wr g N (slid f p j) ∧ ∀ k, j ≤ k → k < p → ltE (f p) (f k) = true))
/-- The outer loop's relation. -/
def OutRel (f : Nat → Evt) (a p g N : Nat) (v : Value) (wr : World) : Prop :=
  ∃ i : Nat, v = .int .i64 (i : Int) ∧ a + 1 ≤ i ∧ ((i ≤ p ∧ Row wr g N f) ∨ (i = p + 1 ∧ ∃ q, Place f a p q ∧ Row wr g N (slid f p q)))

set_option maxRecDepth 100000 in
set_option maxHeartbeats 8000000 in
theorem insertion_any (g N c a p : Nat) (f : Nat → Evt) (w : World) (hN : N ≤ 2000000) (hab : a ≤ p) (hp : p < N) (hR : Row w g N f) (rise : ∀ k, a ≤ k → k + 1 < p → ltE (f k) (f (k + 1)) = true) :
    Calls Try.prog 167 #[.slice (some ⟨g, 0, none⟩) N c, .int .i64 (a : Int), .int .i64 ((p : Int) + 1), .func (.func 73) #[] #[]] w
      fun x w' => x = .returned (.tuple #[]) ∧ (∃ q, Place f a p q ∧ Row w' g N (slid f p q)) ∧ Mv g w w' := by
  have HR := Lib.hid hR
  have RI := Lib.hid rise
  have CM := Lib.hid (fun x y W => cmpE_any x y W)
  clear hR rise
  have i1 : IntKind.i64.wrap ((a : Int) + 1) = (a : Int) + 1 := IntWalk.i64_in _ (by omega)
  go_enter Try.func167, Try.ntmps167
  go_wp2
  go_loopw [8] (fun v wr => OutRel f a p g N v wr ∧ Mv g w wr) (fun v _ => p + 1 - (intOf v).toNat)
  case atStart =>
    refine ⟨⟨a + 1, by go_num, by omega, ?_⟩, Mv.refl _ _⟩
    by_cases h : a + 1 ≤ p
    · exact .inl ⟨h, HR.out⟩
    · exact .inr ⟨by omega, p, ⟨hab, Nat.le_refl _, .inl (by omega), fun k h1 h2 => absurd h2 (by omega)⟩, HR.out.as_ fun i _ => (slid_self f p i).symm⟩
  case round =>
    obtain ⟨⟨i, rfl, hi, hrow⟩, mv⟩ := hrel
    rcases hrow with ⟨hip, hrow⟩ | ⟨rfl, hq⟩
    · have HW := Lib.hid hrow
      have MV := Lib.hid mv
      clear hrow mv i1 HR
      have j1 : (i : Int) < (p : Int) + 1 := by omega
      go_wp2_with fail
      go_loopw [9] (fun v wr => InRel f a p i g N v wr ∧ Mv g w wr) (fun v _ => (intOf v).toNat)
      case atStart =>
        refine ⟨⟨i, rfl, by omega, Nat.le_refl _, ?_⟩, MV.out⟩
        by_cases h : i < p
        · exact .inl ⟨h, rfl, HW.out⟩
        · obtain rfl : i = p := by omega
          exact .inr ⟨rfl, HW.out.as_ fun k _ => (slid_self f i k).symm, fun k h1 h2 => absurd h2 (by omega)⟩
      case round =>
        obtain ⟨⟨j, rfl, haj, hji, hr⟩, mv⟩ := hrel
        have MV := Lib.hid mv
        have HRR := Lib.hid hr
        have hwr : ∃ F, Row wr g N F ∧ (i < p ∧ j = i ∧ F = f ∨ i = p ∧ F = slid f p j) := by
          rcases hr with ⟨h1, h2, h3⟩ | ⟨h1, h3, _⟩
          · exact ⟨f, h3, .inl ⟨h1, h2, rfl⟩⟩
          · exact ⟨_, h3, .inr ⟨h1, rfl⟩⟩
        obtain ⟨F, hF, hFF⟩ := hwr
        have HW := Lib.hid hF
        have HFF := Lib.hid hFF
        have hg := hF.1
        clear mv hr hF hFF
        have w1 : IntKind.i64.wrap ((i : Int) + 1) = (i : Int) + 1 := IntWalk.i64_in _ (by omega)
        by_cases hja : a < j
        · obtain ⟨k, rfl⟩ : ∃ k, j = k + 1 := ⟨j - 1, by omega⟩
          have hk1 : k + 1 < N := by omega
          have e1 := HW.out.2.1 (k + 1) hk1
          have e0 := HW.out.2.1 k (by omega)
          generalize hx : F (k + 1) = x at e1
          generalize hy : F k = y at e0
          have HX := Lib.hid hx
          have HY := Lib.hid hy
          have C := CM.out x y
          generalize hz : cmpE x y = z at C
          have HZ := Lib.hid (show ltE x y = decide (z < 0) by unfold ltE; rw [hz])
          clear hx hy hz
          obtain ⟨xt, xto, xfr, xsq, xkd, xdt⟩ := x
          obtain ⟨yt, yto, yfr, ysq, ykd, ydt⟩ := y
          unfold Evt.v at C
          unfold EvAt at e1 e0
          dsimp only at C e1 e0
          obtain ⟨p0, p1, p2, p3, p4, p5⟩ := e1
          obtain ⟨q0, q1, q2, q3, q4, q5⟩ := e0
          have CC := Lib.hid C
          clear C
          have l1 : (a : Int) < (k : Int) + 1 := by omega
          have l3 : (k : Int) + 1 < N := by omega
          have l4 : (0 : Int) ≤ (k : Int) + 1 := by omega
          have l5 : ((k : Int) + 1).toNat = k + 1 := by omega
          have l6 : (k : Int) < N := by omega
          have l7 : IntKind.i64.wrap (k : Int) = k := IntWalk.i64_in _ (by omega)
          go_wp2_with fail
          rename_i ka Qa Kb kb Kc kc
          have KA := Lib.hid ka
          have KB := Lib.hid kb
          have KC := Lib.hid kc
          clear ka kb kc
          refine region_up (by kernel_rfl) (by kernel_rfl) ?_
          refine wpQuiet_step (fun K hK => ?_)
          go_simp
          apply Exists.intro
          refine ⟨fun w1 hw1 => ?_, hK _ ?_⟩
          · try go_simp
            try rfl
          clear hK K
          refine wpQuiet_step (fun K hK => ?_)
          go_simp
          apply Exists.intro
          refine ⟨fun w1 hw1 => ?_, hK _ ?_⟩
          · try go_simp
            try rfl
          clear hK K
          refine wpQuiet_step (fun K hK => ?_)
          go_simp
          apply Exists.intro
          refine ⟨fun w1 hw1 => ?_, hK _ ?_⟩
          · try go_simp
            try rfl
          clear hK K
          refine wpQuiet_step (fun K hK => ?_)
          go_simp
          apply Exists.intro
          refine ⟨fun w1 hw1 => ?_, hK _ ?_⟩
          · try go_simp
            try rfl
          clear hK K
          refine wpQuiet_step (fun K hK => ?_)
          go_simp
          apply Exists.intro
          refine ⟨fun w1 hw1 => ?_, hK _ ?_⟩
          · try go_simp
            try rfl
          clear hK K
          refine wpQuiet_step (fun K hK => ?_)
          go_simp
          apply Exists.intro
          refine ⟨fun w1 hw1 => ?_, hK _ ?_⟩
          · try go_simp
            try rfl
          clear hK K
          refine wpQuiet_step (fun K hK => ?_)
          go_simp
          apply Exists.intro
          refine ⟨fun w1 hw1 => ?_, hK _ ?_⟩
          · try go_simp
            try rfl
          clear hK K
          refine wpQuiet_step (fun K hK => ?_)
          go_simp
          apply Exists.intro
          refine ⟨fun w1 hw1 => ?_, hK _ ?_⟩
          · try go_simp
            try rfl
          clear hK K
          refine wpQuiet_step (fun K hK => ?_)
          go_simp
          apply Exists.intro
          refine ⟨fun w1 hw1 => ?_, hK _ ?_⟩
          · obtain ⟨hc, hf, hz⟩ := hw1.facts
            try simp at hz
            try go_simp
            try rfl
          clear hK K
          refine wpQuiet_step (fun K hK => ?_)
          go_simp
          apply Exists.intro
          refine ⟨fun w1 hw1 => ?_, hK _ ?_⟩
          · try go_simp
            try rfl
          clear hK K
          refine wpQuiet_step (fun K hK => ?_)
          go_simp
          apply Exists.intro
          refine ⟨fun w1 hw1 => ?_, hK _ ?_⟩
          · try go_simp
            try rfl
          clear hK K
          refine wpQuiet_step (fun K hK => ?_)
          go_simp
          apply Exists.intro
          refine ⟨fun w1 hw1 => ?_, hK _ ?_⟩
          · try go_simp
            try rfl
          clear hK K
          refine wpQuiet_step (fun K hK => ?_)
          go_simp
          apply Exists.intro
          refine ⟨fun w1 hw1 => ?_, hK _ ?_⟩
          · try go_simp
            try rfl
          clear hK K
          refine wpQuiet_step (fun K hK => ?_)
          go_simp
          apply Exists.intro
          refine ⟨fun w1 hw1 => ?_, hK _ ?_⟩
          · obtain ⟨hc, hf, hz⟩ := hw1.facts
            try simp at hz
            try go_simp
            try rfl
          clear hK K
          refine wpQuiet_step (fun K hK => ?_)
          go_simp
          apply Exists.intro
          refine ⟨fun w1 hw1 => ?_, hK _ ?_⟩
          · try go_simp
            exact up_call hw1 (CC.out _)
          clear hK K
          refine wpQuiet_step (fun K hK => ?_)
          go_simp
          apply Exists.intro
          refine ⟨fun w1 hw1 => ?_, hK _ ?_⟩
          · try go_simp
            try rfl
          clear hK K
          refine wpQuiet_step (fun K hK => ?_)
          go_simp
          apply Exists.intro
          refine ⟨fun w1 hw1 => ?_, hK _ ?_⟩
          · try go_simp
            try rfl
          clear hK K
          refine wpQuiet_nil ?_
          intro wA uA
          have ka := KA.out
          have kb := KB.out
          have kc := KC.out
          clear KA KB KC
          have HWA := Lib.hid (HW.out.up uA)
          have MVA := Lib.hid (MV.out.trans (uA.mv g))
          clear uA p0 p1 p2 p3 p4 p5 q0 q1 q2 q3 q4 q5 CC
          by_cases hz : z < 0
          · have hlt : ltE (⟨xt, xto, xfr, xsq, xkd, xdt⟩ : Evt) ⟨yt, yto, yfr, ysq, ykd, ydt⟩ = true := by rw [HZ.out]; exact decide_eq_true hz
            have hip : i = p := by
              rcases HFF.out with ⟨h1, h2, h3⟩ | ⟨h1, _⟩
              · have := ltE_asym _ _ (RI.out k (by omega) (by omega))
                rw [← h3, HX.out, HY.out] at this
                rw [this] at hlt
                cases hlt
              · exact h1
            have ex := HX.out
            have ey := HY.out
            have E1 := HWA.out.2.1 (k + 1) hk1
            rw [ex] at E1
            have E0 := HWA.out.2.1 k (by omega)
            rw [ey] at E0
            have hFs : F = slid f p (k + 1) := by
              rcases HFF.out with ⟨h1, _⟩ | ⟨_, h3⟩
              · omega
              · exact h3
            rw [hFs, slid_at] at ex
            rw [hFs, slid_pre f p (k + 1) k (by omega)] at ey
            have EX := Lib.hid ex
            have EY := Lib.hid ey
            have HFS := Lib.hid hFs
            have HLT := Lib.hid hlt
            clear ex ey hFs hlt
            unfold EvAt at E1 E0
            dsimp only at E1 E0
            obtain ⟨p0, p1, p2, p3, p4, p5⟩ := E1
            obtain ⟨q0, q1, q2, q3, q4, q5⟩ := E0
            have f0 := HWA.out.2.2 ((k + 1) * 6) (by omega)
            have f1 := HWA.out.2.2 ((k + 1) * 6 + 1) (by omega)
            have f2 := HWA.out.2.2 ((k + 1) * 6 + 2) (by omega)
            have f3 := HWA.out.2.2 ((k + 1) * 6 + 3) (by omega)
            have f4 := HWA.out.2.2 ((k + 1) * 6 + 4) (by omega)
            have f5 := HWA.out.2.2 ((k + 1) * 6 + 5) (by omega)
            have g0 := HWA.out.2.2 (k * 6) (by omega)
            have g1 := HWA.out.2.2 (k * 6 + 1) (by omega)
            have g2 := HWA.out.2.2 (k * 6 + 2) (by omega)
            have g3 := HWA.out.2.2 (k * 6 + 3) (by omega)
            have g4 := HWA.out.2.2 (k * 6 + 4) (by omega)
            have g5 := HWA.out.2.2 (k * 6 + 5) (by omega)
            have AA := Lib.hid ((HWA.out.put (k := k + 1) (e := ⟨yt, yto, yfr, ysq, ykd, ydt⟩) hk1).put (k := k) (e := ⟨xt, xto, xfr, xsq, xkd, xdt⟩) (by omega))
            go_wp2_with fail
            go_region
            have A2 := (AA.out.up (Up.refl _).drew)
            unfold putEv at A2
            have A3 := Lib.hid A2
            clear A2 AA p0 p1 p2 p3 p4 p5 q0 q1 q2 q3 q4 q5 f0 f1 f2 f3 f4 f5 g0 g1 g2 g3 g4 g5
            go_wp2
            go_roundw
            case rel =>
              refine ⟨⟨k, by first | rfl | go_num, by omega, by omega, .inr ⟨hip, A3.out.as_ ?_, ?_⟩⟩, ?_⟩
              · intro m hm
                rw [HFS.out, ← EX.out, ← EY.out]
                exact slid_step f p k (by omega) m
              · intro m h1 h2
                by_cases hmk : m = k
                · subst hmk
                  rw [EX.out, EY.out]
                  exact HLT.out
                · rcases HRR.out with ⟨h4, _⟩ | ⟨_, _, h5⟩
                  · omega
                  · exact h5 m (by omega) h2
              · exact ((((((((((((MVA.out.setCell _).setCell _).setCell _).setCell _).setCell _).setCell _).setCell _).setCell _).setCell _).setCell _).setCell _).setCell _).drew
            case measure => (simp [intOf]; try omega)
          · have hz' : ¬ z < 0 := hz
            have hlt : ltE (⟨xt, xto, xfr, xsq, xkd, xdt⟩ : Evt) ⟨yt, yto, yfr, ysq, ykd, ydt⟩ = false := by rw [HZ.out]; exact decide_eq_false hz
            go_wp2
            go_roundw
            case rel =>
              refine ⟨⟨i + 1, by first | rfl | go_num, by omega, ?_⟩, MVA.out⟩
              rcases HFF.out with ⟨h1, h2, h3⟩ | ⟨h1, h3⟩
              · exact .inl ⟨by omega, h3 ▸ HWA.out⟩
              · refine .inr ⟨by omega, k + 1, ⟨haj, by omega, .inr ?_, ?_⟩, h3 ▸ HWA.out⟩
                · have ex := HX.out
                  have ey := HY.out
                  rw [h3, slid_at] at ex
                  rw [h3, slid_pre f p (k + 1) k (by omega)] at ey
                  rw [Nat.add_sub_cancel, ex, ey]
                  exact hlt
                · rcases HRR.out with ⟨h4, _⟩ | ⟨_, _, h5⟩
                  · omega
                  · exact h5
            case measure => (simp [intOf]; try omega)
        · obtain rfl : j = a := by omega
          have l1 : ¬ (j : Int) < (j : Int) := by omega
          clear hja haj RI CM
          go_wp2_with fail
          go_quiet (fail)
          have uA := (Up.refl wr).drewN nq
          generalize wr.drewN nq = wA at uA ⊢
          have HWA := Lib.hid (HW.out.up uA)
          have MVA := Lib.hid (MV.out.trans (uA.mv g))
          clear uA
          go_wp2
          go_roundw
          case rel =>
            refine ⟨⟨i + 1, by first | rfl | go_num, by omega, ?_⟩, MVA.out⟩
            rcases HFF.out with ⟨h1, h2, h3⟩ | ⟨h1, h3⟩
            · exact .inl ⟨by omega, h3 ▸ HWA.out⟩
            · refine .inr ⟨by omega, j, ⟨Nat.le_refl _, by omega, .inl rfl, ?_⟩, h3 ▸ HWA.out⟩
              rcases HRR.out with ⟨h4, _⟩ | ⟨_, _, h5⟩
              · omega
              · exact h5
          case measure => (simp [intOf]; try omega)
    · have HQ := Lib.hid hq
      have j1 : ¬ (p : Int) + 1 < (p : Int) + 1 := by omega
      clear hq
      go_wp2
      exact bodyPost_end (v := .tuple #[]) (results_none Try.results167 _ _ _) rfl ⟨rfl, HQ.out, mv⟩

end Go.Proofs.Ytkfjemgelmbcfaa

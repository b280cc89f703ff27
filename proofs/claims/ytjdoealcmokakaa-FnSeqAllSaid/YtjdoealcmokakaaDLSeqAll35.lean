/-
  What the insertion sort does with a stretch of a row, in one sentence: it is sorted, none is lost, and nothing else is changed; for every stretch.
  What the stable sort does with a row, in one sentence: it is sorted and none is lost; for every row.
  What impl.sortBy of one list returns, in one sentence: its events in order, in a block of the call's own; for every list that lies in memory.
  What impl.sortBy of one list returns, in one sentence: its events in order, in a row of the call's own; for every list that lies in memory, the empty one included, and wherever the row of one lies.
-/
import Derived.RegionTactic
import Derived.Test.YtjdoealcmokakaaDLSeqAll01
import Derived.Test.YtjdoealcmokakaaDLSeqAll02
import Derived.Test.YtjdoealcmokakaaDLSeqAll18
import Derived.Test.YtjdoealcmokakaaDLSeqAll19
import Derived.Test.YtjdoealcmokakaaDLSeqAll21
import Derived.Test.YtjdoealcmokakaaDLSeqAll33
import Derived.Test.YtjdoealcmokakaaDLSeqAll34
namespace Go.Proofs.Ytjdoealcmokakaa
set_option maxRecDepth 100000
open Go.RowKit
/-- The inner loop's relation. -/
def InR (f : Nat → Evt) (a b i g N : Nat) (v : Value) (wr : World) : Prop :=
  ∃ (j : Nat) (F : Nat → Evt), v = .int .i64 (j : Int) ∧ a ≤ j ∧ j ≤ i ∧ Row wr g N F ∧ Arr f F a b N ∧ NearF F a j i
/-- The outer loop's relation. -/
def OutR (f : Nat → Evt) (a b g N : Nat) (v : Value) (wr : World) : Prop :=
  ∃ (i : Nat) (F : Nat → Evt), v = .int .i64 (i : Int) ∧ a + 1 ≤ i ∧ (i ≤ b ∨ i = a + 1) ∧ Row wr g N F ∧ Arr f F a b N ∧ SortF F a i
set_option maxRecDepth 100000 in
set_option maxHeartbeats 8000000 in
theorem insort_any (g N c a b : Nat) (f : Nat → Evt) (w : World) (hN : N ≤ 2000000) (hab : a ≤ b) (hb : b ≤ N) (hR : Row w g N f) :
    Calls Try.prog 99 #[.slice (some ⟨g, 0, none⟩) N c, .int .i64 (a : Int), .int .i64 (b : Int), .func (.func 48) #[] #[]] w
      fun x w' => x = .returned (.tuple #[]) ∧ (∃ F, Row w' g N F ∧ Arr f F a b N ∧ SortF F a b) ∧ Mv g w w' := by
  have HR := Lib.hid hR
  have CM := Lib.hid (fun x y W => cmpE_any x y W)
  clear hR
  have i1 : IntKind.i64.wrap ((a : Int) + 1) = (a : Int) + 1 := IntWalk.i64_in _ (by omega)
  go_enter Try.func99, Try.ntmps99
  go_wp2
  go_loopw [8] (fun v wr => OutR f a b g N v wr ∧ Mv g w wr) (fun v _ => b - (intOf v).toNat)
  case atStart => exact ⟨⟨a + 1, f, by go_num, by omega, .inr rfl, HR.out, Arr.refl _ _ _ _, fun k h1 h2 => by omega⟩, Mv.refl _ _⟩
  case round =>
    obtain ⟨⟨i, F0, rfl, hi, hib, hrow, harr, hsort⟩, mv⟩ := hrel
    have HW := Lib.hid hrow
    have HA0 := Lib.hid harr
    have HS0 := Lib.hid hsort
    have MV := Lib.hid mv
    clear hrow mv i1 HR harr hsort
    by_cases hip : i < b
    · have j1 : (i : Int) < (b : Int) := by omega
      go_wp2_with fail
      go_loopw [9] (fun v wr => InR f a b i g N v wr ∧ Mv g w wr) (fun v _ => (intOf v).toNat)
      case atStart => exact ⟨⟨i, F0, rfl, by omega, Nat.le_refl _, HW.out, HA0.out, NearF.start HS0.out⟩, MV.out⟩
      case round =>
        obtain ⟨⟨j, F, rfl, haj, hji, hF, hA, hNr⟩, mv⟩ := hrel
        have MV := Lib.hid mv
        have HW := Lib.hid hF
        have HA := Lib.hid hA
        have HN := Lib.hid hNr
        have hg := hF.1
        clear mv hF hA hNr
        have w1 : IntKind.i64.wrap ((i : Int) + 1) = (i : Int) + 1 := IntWalk.i64_in _ (by omega)
        by_cases hja : a < j
        · obtain ⟨k, rfl⟩ : ∃ k, j = k + 1 := ⟨j - 1, by omega⟩
          have hk1 : k + 1 < N := by omega
          have e1 := HW.out.2.1 (k + 1) hk1
          have e0 := HW.out.2.1 k (by omega)
          generalize hx : F (k + 1) = x at e1
          generalize hy : F k = y at e0
          have HX := Lib.hid hx
          have HY := Lib.hid hy
          have C := CM.out x y
          generalize hz : cmpE x y = z at C
          have HZ := Lib.hid (show ltE x y = decide (z < 0) by unfold ltE; rw [hz])
          clear hx hy hz; obtain ⟨xt, xto, xfr, xsq, xkd, xdt⟩ := x; obtain ⟨yt, yto, yfr, ysq, ykd, ydt⟩ := y; unfold Evt.v at C; unfold EvAt at e1 e0; dsimp only at C e1 e0; obtain ⟨p0, p1, p2, p3, p4, p5⟩ := e1; obtain ⟨q0, q1, q2, q3, q4, q5⟩ := e0
          have CC := Lib.hid C
          clear C
          have l1 : (a : Int) < (k : Int) + 1 := by omega
          have l3 : (k : Int) + 1 < N := by omega
          have l4 : (0 : Int) ≤ (k : Int) + 1 := by omega
          have l5 : ((k : Int) + 1).toNat = k + 1 := by omega
          have l6 : (k : Int) < N := by omega
          have l7 : IntKind.i64.wrap (k : Int) = k := IntWalk.i64_in _ (by omega)
          go_wp2_with fail
          rename_i ka Qa Kb kb Kc kc
          have KA := Lib.hid ka
          have KB := Lib.hid kb
          have KC := Lib.hid kc
          clear ka kb kc; refine region_up (by kernel_rfl) (by kernel_rfl) ?_; refine wpQuiet_step (fun K hK => ?_); go_simp; apply Exists.intro; refine ⟨fun w1 hw1 => ?_, hK _ ?_⟩
          · try go_simp
            try rfl
          clear hK K; refine wpQuiet_step (fun K hK => ?_); go_simp; apply Exists.intro; refine ⟨fun w1 hw1 => ?_, hK _ ?_⟩
          · try go_simp
            try rfl
          clear hK K; refine wpQuiet_step (fun K hK => ?_); go_simp; apply Exists.intro; refine ⟨fun w1 hw1 => ?_, hK _ ?_⟩
          · try go_simp
            try rfl
          clear hK K; refine wpQuiet_step (fun K hK => ?_); go_simp; apply Exists.intro; refine ⟨fun w1 hw1 => ?_, hK _ ?_⟩
          · try go_simp
            try rfl
          clear hK K; refine wpQuiet_step (fun K hK => ?_); go_simp; apply Exists.intro; refine ⟨fun w1 hw1 => ?_, hK _ ?_⟩
          · try go_simp
            try rfl
          clear hK K; refine wpQuiet_step (fun K hK => ?_); go_simp; apply Exists.intro; refine ⟨fun w1 hw1 => ?_, hK _ ?_⟩
          · try go_simp
            try rfl
          clear hK K; refine wpQuiet_step (fun K hK => ?_); go_simp; apply Exists.intro; refine ⟨fun w1 hw1 => ?_, hK _ ?_⟩
          · try go_simp
            try rfl
          clear hK K; refine wpQuiet_step (fun K hK => ?_); go_simp; apply Exists.intro; refine ⟨fun w1 hw1 => ?_, hK _ ?_⟩
          · try go_simp
            try rfl
          clear hK K; refine wpQuiet_step (fun K hK => ?_); go_simp; apply Exists.intro; refine ⟨fun w1 hw1 => ?_, hK _ ?_⟩
          · obtain ⟨hc, hf, hz⟩ := hw1.facts
            try simp at hz
            try go_simp
            try rfl
          clear hK K; refine wpQuiet_step (fun K hK => ?_); go_simp; apply Exists.intro; refine ⟨fun w1 hw1 => ?_, hK _ ?_⟩
          · try go_simp
            try rfl
          clear hK K; refine wpQuiet_step (fun K hK => ?_); go_simp; apply Exists.intro; refine ⟨fun w1 hw1 => ?_, hK _ ?_⟩
          · try go_simp
            try rfl
          clear hK K; refine wpQuiet_step (fun K hK => ?_); go_simp; apply Exists.intro; refine ⟨fun w1 hw1 => ?_, hK _ ?_⟩
          · try go_simp
            try rfl
          clear hK K; refine wpQuiet_step (fun K hK => ?_); go_simp; apply Exists.intro; refine ⟨fun w1 hw1 => ?_, hK _ ?_⟩
          · try go_simp
            try rfl
          clear hK K; refine wpQuiet_step (fun K hK => ?_); go_simp; apply Exists.intro; refine ⟨fun w1 hw1 => ?_, hK _ ?_⟩
          · obtain ⟨hc, hf, hz⟩ := hw1.facts
            try simp at hz
            try go_simp
            try rfl
          clear hK K; refine wpQuiet_step (fun K hK => ?_); go_simp; apply Exists.intro; refine ⟨fun w1 hw1 => ?_, hK _ ?_⟩
          · try go_simp
            exact up_call hw1 (CC.out _)
          clear hK K; refine wpQuiet_step (fun K hK => ?_); go_simp; apply Exists.intro; refine ⟨fun w1 hw1 => ?_, hK _ ?_⟩
          · try go_simp
            try rfl
          clear hK K; refine wpQuiet_step (fun K hK => ?_); go_simp; apply Exists.intro; refine ⟨fun w1 hw1 => ?_, hK _ ?_⟩
          · try go_simp
            try rfl
          clear hK K; refine wpQuiet_nil ?_; intro wA uA
          have ka := KA.out
          have kb := KB.out
          have kc := KC.out
          clear KA KB KC
          have HWA := Lib.hid (HW.out.up uA)
          have MVA := Lib.hid (MV.out.trans (uA.mv g))
          clear uA p0 p1 p2 p3 p4 p5 q0 q1 q2 q3 q4 q5 CC
          by_cases hz : z < 0
          · have hlt : ltE (⟨xt, xto, xfr, xsq, xkd, xdt⟩ : Evt) ⟨yt, yto, yfr, ysq, ykd, ydt⟩ = true := by rw [HZ.out]; exact decide_eq_true hz
            have ex := HX.out
            have ey := HY.out
            have E1 := HWA.out.2.1 (k + 1) hk1
            rw [ex] at E1
            have E0 := HWA.out.2.1 k (by omega)
            rw [ey] at E0
            have NX := Lib.hid (HN.out.step (by omega) hji (by rw [ex, ey]; exact hlt))
            have AX := Lib.hid (HA.out.trans (swp_arr F (i := k) (j := k + 1) (a := a) (b := b) (N := N) (by omega) (by omega) (by omega) (by omega)))
            have EX := Lib.hid ex
            have EY := Lib.hid ey
            clear ex ey hlt; unfold EvAt at E1 E0; dsimp only at E1 E0; obtain ⟨p0, p1, p2, p3, p4, p5⟩ := E1; obtain ⟨q0, q1, q2, q3, q4, q5⟩ := E0
            have f0 := HWA.out.2.2 ((k + 1) * 6) (by omega)
            have f1 := HWA.out.2.2 ((k + 1) * 6 + 1) (by omega)
            have f2 := HWA.out.2.2 ((k + 1) * 6 + 2) (by omega)
            have f3 := HWA.out.2.2 ((k + 1) * 6 + 3) (by omega)
            have f4 := HWA.out.2.2 ((k + 1) * 6 + 4) (by omega)
            have f5 := HWA.out.2.2 ((k + 1) * 6 + 5) (by omega)
            have g0 := HWA.out.2.2 (k * 6) (by omega)
            have g1 := HWA.out.2.2 (k * 6 + 1) (by omega)
            have g2 := HWA.out.2.2 (k * 6 + 2) (by omega)
            have g3 := HWA.out.2.2 (k * 6 + 3) (by omega)
            have g4 := HWA.out.2.2 (k * 6 + 4) (by omega)
            have g5 := HWA.out.2.2 (k * 6 + 5) (by omega)
            have AA := Lib.hid ((HWA.out.put (k := k + 1) (e := ⟨yt, yto, yfr, ysq, ykd, ydt⟩) hk1).put (k := k) (e := ⟨xt, xto, xfr, xsq, xkd, xdt⟩) (by omega))
            go_wp2_with fail
            go_region
            have A2 := (AA.out.up (Up.refl _).drew)
            unfold putEv at A2
            have A3 := Lib.hid A2
            clear A2 AA p0 p1 p2 p3 p4 p5 q0 q1 q2 q3 q4 q5 f0 f1 f2 f3 f4 f5 g0 g1 g2 g3 g4 g5; go_wp2
            go_roundw
            case rel =>
              refine ⟨⟨k, swp F k (k + 1), by first | rfl | go_num, by omega, by omega, A3.out.as_ ?_, AX.out, NX.out⟩, ?_⟩
              · intro m hm
                unfold swp; rw [EX.out, EY.out]
              · exact ((((((((((((MVA.out.setCell _).setCell _).setCell _).setCell _).setCell _).setCell _).setCell _).setCell _).setCell _).setCell _).setCell _).setCell _).drew
            case measure => (simp [intOf]; try omega)
          · have hz' : ¬ z < 0 := hz
            have hlt : ltE (⟨xt, xto, xfr, xsq, xkd, xdt⟩ : Evt) ⟨yt, yto, yfr, ysq, ykd, ydt⟩ = false := by rw [HZ.out]; exact decide_eq_false hz
            have SX := Lib.hid (HN.out.stop (fun _ => by rw [Nat.add_sub_cancel, HX.out, HY.out]; exact hlt))
            clear hlt; go_wp2
            go_roundw
            case rel => exact ⟨⟨i + 1, F, by first | rfl | go_num, by omega, .inl (by omega), HWA.out, HA.out, SX.out⟩, MVA.out⟩
            case measure => (simp [intOf]; try omega)
        · obtain rfl : j = a := by omega
          have l1 : ¬ (j : Int) < (j : Int) := by omega
          have SX := Lib.hid (HN.out.stop (fun h => absurd h (by omega)))
          clear hja haj CM
          go_wp2_with fail
          go_quiet (fail)
          have uA := (Up.refl wr).drewN nq
          generalize wr.drewN nq = wA at uA ⊢
          have HWA := Lib.hid (HW.out.up uA)
          have MVA := Lib.hid (MV.out.trans (uA.mv g))
          clear uA; go_wp2
          go_roundw
          case rel => exact ⟨⟨i + 1, F, by first | rfl | go_num, by omega, .inl (by omega), HWA.out, HA.out, SX.out⟩, MVA.out⟩
          case measure => (simp [intOf]; try omega)
    · have j1 : ¬ (i : Int) < (b : Int) := by omega
      go_wp2
      exact bodyPost_end (v := .tuple #[]) (results_none Try.results99 _ _ _) rfl ⟨rfl, ⟨F0, HW.out, HA0.out, fun k h1 h2 => HS0.out k h1 (by omega)⟩, MV.out⟩
end Go.Proofs.Ytjdoealcmokakaa

namespace Go.Proofs.Ytjdoealcmokakaa
set_option maxRecDepth 100000
open Go.RowKit
theorem symMerge_all (g N c : Nat) (hN : N ≤ 2000000) : ∀ L, SymIH g N c L := by
  intro L
  induction L with
  | zero => intro a m b f w h; omega
  | succ L ih =>
    intro a m b f w hL ham hmb hb hR hl hr
    by_cases h1 : m = a + 1
    · subst h1
      exact symA_any g N c a b f w hN hmb hb hR hr
    · by_cases h2 : b = m + 1
      · subst h2
        exact symB_any g N c a m f w hN (by omega) hb hR hl
      · have IH : SymIH g N c (b - a) := fun a' m' b' f' w' h => ih a' m' b' f' w' (by omega)
        by_cases h3 : (a + b) / 2 < m
        · exact symC1_any g N c a m b f w hN (by omega) (by omega) hb h3 hR hl hr IH
        · exact symC2_any g N c a m b f w hN (by omega) (by omega) hb (by omega) hR hl hr IH
/-- Every stretch of s, counted from the front, is sorted. -/
def Runs (F : Nat → Evt) (s N : Nat) : Prop := ∀ j, SortF F (j * s) (min (j * s + s) N)
theorem mul_step (k s : Nat) : (k + 1) * (2 * s) = k * (2 * s) + 2 * s := by rw [Nat.add_mul, Nat.one_mul]
theorem mul_two (k s : Nat) : (2 * k) * s = k * (2 * s) := by rw [Nat.mul_comm 2 k, Nat.mul_assoc]
theorem mul_two1 (k s : Nat) : (2 * k + 1) * s = k * (2 * s) + s := by rw [Nat.add_mul, Nat.one_mul, mul_two]
/-- The merging under way: k pairs of stretches are merged. -/
structure Half (F : Nat → Evt) (s k N : Nat) : Prop where
  done : ∀ j, j < k → SortF F (j * (2 * s)) (j * (2 * s) + 2 * s)
  todo : ∀ j, 2 * k ≤ j → SortF F (j * s) (min (j * s + s) N)
theorem Half.start {F : Nat → Evt} {s N : Nat} (h : Runs F s N) : Half F s 0 N := ⟨fun j hj => absurd hj (by omega), fun j _ => h j⟩
theorem Half.left {F : Nat → Evt} {s k N : Nat} (h : Half F s k N) (hb : k * (2 * s) + s ≤ N) : SortF F (k * (2 * s)) (k * (2 * s) + s) := by
  have := h.todo (2 * k) (Nat.le_refl _)
  rwa [mul_two, Nat.min_eq_left hb] at this
theorem Half.right {F : Nat → Evt} {s k N : Nat} (h : Half F s k N) : SortF F (k * (2 * s) + s) (min (k * (2 * s) + 2 * s) N) := by
  have := h.todo (2 * k + 1) (by omega)
  rwa [mul_two1, show k * (2 * s) + s + s = k * (2 * s) + 2 * s by omega] at this
theorem Half.step {F F' : Nat → Evt} {s k N : Nat} (h : Half F s k N) (ha : Arr F F' (k * (2 * s)) (k * (2 * s) + 2 * s) N) (hs : SortF F' (k * (2 * s)) (k * (2 * s) + 2 * s)) : Half F' s (k + 1) N := by
  refine ⟨fun j hj => ?_, fun j hj => ?_⟩
  · by_cases e : j = k
    · subst e
      exact hs
    · refine ha.sort_out (h.done j (by omega)) (.inr ?_)
      have := Nat.mul_le_mul_right (2 * s) (show j + 1 ≤ k by omega)
      rwa [mul_step] at this
  · refine ha.sort_out (h.todo j (by omega)) (.inl ?_)
    have := Nat.mul_le_mul_right s (show 2 * (k + 1) ≤ j by omega)
    rwa [mul_two, mul_step] at this
theorem Half.stop {F : Nat → Evt} {s k N : Nat} (h : Half F s k N) (hs : SortF F (k * (2 * s)) N) (hN : N < k * (2 * s) + 2 * s) : Runs F (2 * s) N := fun j => by
  by_cases h1 : j < k
  · intro l h2 h3
    exact h.done j h1 l h2 (by omega)
  · by_cases h2 : j = k
    · subst h2
      intro l h3 h4
      exact hs l h3 (by omega)
    · have := Nat.mul_le_mul_right (2 * s) (show k + 1 ≤ j by omega)
      rw [mul_step] at this; intro l h3 h4
      omega
/-- What sorting gives. -/
def StPost (g N : Nat) (f : Nat → Evt) (w : World) (x : Ending) (w' : World) : Prop :=
  x = .returned (.tuple #[]) ∧ (∃ F, Row w' g N F ∧ Arr f F 0 N N ∧ SortF F 0 N) ∧ Mv g w w'
set_option maxRecDepth 100000 in
set_option maxHeartbeats 4000000 in
theorem stable_all (g N c : Nat) (f : Nat → Evt) (w : World) (hN : N ≤ 2000000) (hR : Row w g N f) :
    Calls Try.prog 98 #[.slice (some ⟨g, 0, none⟩) N c, .int .i64 (N : Int), .func (.func 48) #[] #[]] w (StPost g N f w) := by
  have HR := Lib.hid hR
  have IN := Lib.hid (fun a b F W h1 h2 h => insort_any g N c a b F W hN h1 h2 h)
  have SM := Lib.hid (fun a m b F W h1 h2 h3 h4 h5 h6 => symMerge_all g N c hN (b - a + 1) a m b F W (by omega) h1 h2 h3 h4 h5 h6)
  unfold SymPost at SM; clear hR
  go_enter Try.func98, Try.ntmps98
  go_wp2
  go_loopw [7, 8] (fun u v wr => (∃ (k a b : Nat) (F : Nat → Evt), u = .int .i64 (a : Int) ∧ v = .int .i64 (b : Int) ∧ a = k * 20 ∧ b = k * 20 + 20 ∧ a ≤ N ∧ Row wr g N F ∧ Arr f F 0 N N ∧ ∀ j, j < k → SortF F (j * 20) (j * 20 + 20)) ∧ Mv g w wr) (fun u _ _ => N + 1 - (intOf u).toNat)
  case atStart => exact ⟨⟨0, 0, 20, f, by first | rfl | go_num, by first | rfl | go_num, rfl, rfl, by omega, HR.out, Arr.refl _ _ _ _, fun j hj => absurd hj (by omega)⟩, Mv.refl _ _⟩
  case round =>
    obtain ⟨⟨k, a, b, F, rfl, rfl, ha, hb, hk, hF, hA, hD⟩, mv⟩ := hrel
    have HW := Lib.hid hF
    have HA := Lib.hid hA
    have HD := Lib.hid hD
    have MV := Lib.hid mv
    clear hF hA hD mv HR
    have HAB := Lib.hid (And.intro ha hb)
    by_cases hle : b ≤ N
    · have j1 : (b : Int) ≤ (N : Int) := by omega
      have j2 : ¬ (N : Int) < (b : Int) := by omega
      have w1 : IntKind.i64.wrap ((b : Int) + 20) = ((b + 20 : Nat) : Int) := by rw [IntWalk.i64_in _ (by omega)]; omega
      generalize hb2 : b + 20 = b2 at w1
      have HB2 := Lib.hid hb2
      clear ha hb hb2
      go_wp2_with fail
      refine (IN.out a b F _ (by have := HAB.out; omega) hle HW.out).mono ?_; rintro x w1 ⟨rfl, ⟨F1, r1, a1, s1⟩, m1⟩
      have HW := Lib.hid r1
      have MX := Lib.hid (MV.out.trans m1)
      have HD2 := Lib.hid (show ∀ j, j < k + 1 → SortF F1 (j * 20) (j * 20 + 20) from fun j hj => by
        obtain ⟨ha, hb⟩ := HAB.out
        by_cases e : j = k
        · subst e
          rwa [ha, hb] at s1
        · exact a1.sort_out (HD.out j (by omega)) (.inr (by omega)))
      have AX := Lib.hid (HA.out.trans (a1.widen (Nat.zero_le _) hle))
      clear r1 a1 s1 m1; go_wp2
      go_roundw
      case rel => exact ⟨⟨k + 1, b, b2, F1, rfl, by first | rfl | go_num, by have := HAB.out; omega, by have := HAB.out; have := HB2.out; omega, hle, HW.out, AX.out, HD2.out⟩, MX.out⟩
      case measure => (have := HAB.out; simp [intOf]; omega)
    · have j1 : ¬ (b : Int) ≤ (N : Int) := by omega
      have j2 : (N : Int) < (b : Int) := by omega
      clear ha hb
      go_wp2_with fail
      refine (IN.out a N F _ (by have := HAB.out; omega) (Nat.le_refl _) HW.out).mono ?_; rintro x w1 ⟨rfl, ⟨F1, r1, a1, s1⟩, m1⟩
      have RU := Lib.hid (show Runs F1 20 N from fun j => by
        obtain ⟨ha, hb⟩ := HAB.out
        by_cases e : j < k
        · have h := a1.sort_out (HD.out j e) (.inr (by omega))
          intro l h1 h2
          exact h l h1 (by omega)
        · by_cases e2 : j = k
          · subst e2
            intro l h1 h2
            exact s1 l (by omega) (by omega)
          · intro l h1 h2
            omega)
      have HW := Lib.hid r1
      have MX := Lib.hid (MV.out.trans m1)
      have AX := Lib.hid (HA.out.trans (a1.widen (Nat.zero_le _) (Nat.le_refl _)))
      clear r1 a1 s1 m1 HA HD MV IN HAB j1 j2 hle hk; go_wp2
      go_loopw [6, 7, 8, 9] (fun s _ _ _ wr => (∃ (s' : Nat) (F : Nat → Evt), s = .int .i64 (s' : Int) ∧ 20 ≤ s' ∧ (s' = 20 ∨ s' < 2 * N) ∧ Row wr g N F ∧ Arr f F 0 N N ∧ Runs F s' N) ∧ Mv g w wr) (fun s _ _ _ _ => N - (intOf s).toNat)
      case atStart => exact ⟨⟨20, F1, by first | rfl | go_num, by omega, .inl rfl, HW.out, AX.out, RU.out⟩, MX.out⟩
      case round =>
        clear HW MX AX RU; obtain ⟨⟨s', F, rfl, hs1, hs2, hF, hA, hRU⟩, mv⟩ := hrel
        have HW := Lib.hid hF
        have HA := Lib.hid hA
        have HU := Lib.hid hRU
        have MV := Lib.hid mv
        clear hF hA hRU mv
        by_cases hlt : s' < N
        · have j1 : (s' : Int) < (N : Int) := by omega
          obtain ⟨t, ht⟩ : ∃ t, t = 2 * s' := ⟨_, rfl⟩
          have w2 : IntKind.i64.wrap (2 * (s' : Int)) = (t : Int) := by rw [IntWalk.i64_in _ (by omega)]; omega
          have w3 : IntKind.i64.wrap ((s' : Int) * 2) = (t : Int) := by rw [IntWalk.i64_in _ (by omega)]; omega
          have HT := Lib.hid ht
          have ht1 : t ≤ 4 * N := by omega
          clear ht; obtain ⟨w4, hw4⟩ : ∃ W, W = wr := ⟨_, rfl⟩; subst hw4; go_wp2
          go_loopw [7, 8] (fun u v wr => (∃ (k a b : Nat) (F : Nat → Evt), u = .int .i64 (a : Int) ∧ v = .int .i64 (b : Int) ∧ a = k * (2 * s') ∧ b = k * (2 * s') + 2 * s' ∧ a ≤ N ∧ Row wr g N F ∧ Arr f F 0 N N ∧ Half F s' k N) ∧ Mv g w wr) (fun u _ _ => N + 1 - (intOf u).toNat)
          case atStart => exact ⟨⟨0, 0, t, F, by first | rfl | go_num, by first | rfl | go_num, by omega, by have := HT.out; omega, by omega, HW.out, HA.out, Half.start HU.out⟩, MV.out⟩
          case round =>
            clear HW MV HA HU; obtain ⟨⟨k, a, b, F, rfl, rfl, ha, hb, hk, hF, hA, hH⟩, mv⟩ := hrel
            have HW := Lib.hid hF
            have HA := Lib.hid hA
            have HH := Lib.hid hH
            have MV := Lib.hid mv
            have HAB := Lib.hid (And.intro ha hb)
            have hbt : b = a + t := by have := HT.out; omega
            have HBT := Lib.hid hbt
            clear hF hA hH mv ha hb; obtain ⟨m, hm⟩ : ∃ m, m = a + s' := ⟨_, rfl⟩
            have w5 : IntKind.i64.wrap ((a : Int) + (s' : Int)) = (m : Int) := by rw [IntWalk.i64_in _ (by omega)]; omega
            have HM := Lib.hid hm
            by_cases hle : b ≤ N
            · have i1 : (b : Int) ≤ (N : Int) := by omega
              have i2 : ¬ (N : Int) < (b : Int) := by omega
              have w6 : IntKind.i64.wrap ((b : Int) + (t : Int)) = ((b + t : Nat) : Int) := by rw [IntWalk.i64_in _ (by omega)]; omega
              generalize hb2 : b + t = b2 at w6
              have HB2 := Lib.hid hb2
              clear hb2 hbt hm
              go_wp2_with fail
              refine (SM.out a m b F _ (by have := HM.out; omega) (by have := HM.out; have := HBT.out; have := HT.out; omega) hle HW.out (by
                have h := HH.out.left (by have := HAB.out; omega)
                rw [HM.out, HAB.out.1]
                exact h) (by
                have h := HH.out.right
                rw [Nat.min_eq_left (by have := HAB.out; omega)] at h; rw [HM.out, HAB.out.2, HAB.out.1]
                exact h)).mono ?_
              rintro x w7 ⟨rfl, ⟨F1, r1, a1, s1⟩, m1⟩
              have HW := Lib.hid r1
              have MX := Lib.hid (MV.out.trans m1)
              have AX := Lib.hid (HA.out.trans (a1.widen (Nat.zero_le _) hle))
              have HX := Lib.hid (show Half F1 s' (k + 1) N from by
                obtain ⟨ha, hb⟩ := HAB.out; rw [ha, hb] at a1 s1
                exact HH.out.step a1 s1)
              clear r1 a1 s1 m1; go_wp2
              go_roundw
              case rel => exact ⟨⟨k + 1, b, b2, F1, rfl, by first | rfl | go_num, by rw [mul_step]; exact HAB.out.2, by rw [mul_step, ← HAB.out.2, ← HT.out]; exact HB2.out.symm, hle, HW.out, AX.out, HX.out⟩, MX.out⟩
              case measure => (have := HBT.out; have := HT.out; simp [intOf]; omega)
            · have i1 : ¬ (b : Int) ≤ (N : Int) := by omega
              have i2 : (N : Int) < (b : Int) := by omega
              by_cases hmN : m < N
              · have i3 : (m : Int) < (N : Int) := by omega
                clear hbt hm
                go_wp2_with fail
                refine (SM.out a m N F _ (by have := HM.out; omega) hmN (Nat.le_refl _) HW.out (by
                  have h := HH.out.left (by have := HAB.out; have := HM.out; omega)
                  rw [HM.out, HAB.out.1]
                  exact h) (by
                  have h := HH.out.right
                  rw [Nat.min_eq_right (by have := HAB.out; omega)] at h; rw [HM.out, HAB.out.1]
                  exact h)).mono ?_
                rintro x w7 ⟨rfl, ⟨F1, r1, a1, s1⟩, m1⟩
                have HW := Lib.hid r1
                have MX := Lib.hid (MV.out.trans m1)
                have AX := Lib.hid (HA.out.trans (a1.widen (Nat.zero_le _) (Nat.le_refl _)))
                have HX := Lib.hid (show Runs F1 t N from by
                  obtain ⟨ha, hb⟩ := HAB.out; rw [HT.out]; intro j
                  by_cases h1 : j < k
                  · intro l h2 h3
                    refine (a1.sort_out (HH.out.done j h1) (.inr ?_)) l h2 (by omega)
                    have := Nat.mul_le_mul_right (2 * s') (show j + 1 ≤ k by omega)
                    rw [mul_step] at this
                    omega
                  · by_cases h2 : j = k
                    · subst h2
                      intro l h3 h4
                      exact s1 l (by omega) (by omega)
                    · have := Nat.mul_le_mul_right (2 * s') (show k + 1 ≤ j by omega)
                      rw [mul_step] at this; intro l h3 h4
                      omega)
                clear r1 a1 s1 m1; go_wp2
                go_roundw
                case rel => exact ⟨⟨t, F1, by first | rfl | go_num, by have := HT.out; omega, .inr (by have := HT.out; omega), HW.out, AX.out, HX.out⟩, MX.out⟩
                case measure => (have := HT.out; simp [intOf]; omega)
              · have i3 : ¬ (m : Int) < (N : Int) := by omega
                have HX := Lib.hid (show Runs F t N from by
                  rw [HT.out]; refine HH.out.stop ?_ (by have := HAB.out; omega)
                  have h := HH.out.todo (2 * k) (Nat.le_refl _)
                  rwa [mul_two, Nat.min_eq_right (by have := HAB.out; omega)] at h)
                clear hbt hm; go_wp2
                go_roundw
                case rel => exact ⟨⟨t, F, by first | rfl | go_num, by have := HT.out; omega, .inr (by have := HT.out; omega), HW.out, HA.out, HX.out⟩, MV.out⟩
                case measure => (have := HT.out; simp [intOf]; omega)
        · have j1 : ¬ (s' : Int) < (N : Int) := by omega
          have HE := Lib.hid (show ∃ F, Row wr g N F ∧ Arr f F 0 N N ∧ SortF F 0 N from ⟨F, HW.out, HA.out, by
            have h := HU.out 0
            rwa [Nat.zero_mul, Nat.zero_add, Nat.min_eq_right (by omega)] at h⟩)
          go_wp2
          exact bodyPost_end (v := .tuple #[]) (results_none Try.results98 _ _ _) rfl ⟨rfl, HE.out, MV.out⟩
theorem sortStable_all (g N c : Nat) (f : Nat → Evt) (w : World) (hN : N ≤ 2000000) (hR : Row w g N f) :
    Calls Try.prog 86 #[.slice (some ⟨g, 0, none⟩) N c, .func (.func 48) #[] #[]] w (StPost g N f w) := by
  have ST := Lib.hid (stable_all g N c f w hN hR)
  clear hR
  go_enter Try.func86, Try.ntmps86
  go_wp2_with fail
  refine ST.out.mono ?_; rintro x w1 ⟨rfl, hs, mv⟩
  have HS := Lib.hid hs
  have MV := Lib.hid mv
  clear hs mv ST; go_wp2
  exact bodyPost_end (v := .tuple #[]) (results_none Try.results86 _ _ _) rfl ⟨rfl, HS.out, MV.out⟩
end Go.Proofs.Ytjdoealcmokakaa

namespace Go.Proofs.Ytjdoealcmokakaa
set_option maxRecDepth 100000
open Go.RowKit
theorem sort_perm {F : Nat → Evt} {es : List Evt} {N : Nat} (hl : es.length = N) (ha : Arr (fun i => es.getD i default) F 0 N N) : ((List.range N).map F).Perm es := by
  have p := ha.perm
  have e1 := range_getD es
  rw [hl] at e1; rw [e1] at p
  exact p.symm
end Go.Proofs.Ytjdoealcmokakaa

namespace Go.Proofs.Ytjdoealcmokakaa
set_option maxRecDepth 100000
open Go.RowKit
theorem insort_none (A : Option Addr) (c : Nat) (w : World) :
    Calls Try.prog 99 #[.slice A 0 c, .int .i64 0, .int .i64 0, .func (.func 48) #[] #[]] w fun x w' => x = .returned (.tuple #[]) ∧ w' = w := by
  go_enter Try.func99, Try.ntmps99
  go_wp2
  go_loopw [8] (fun v wr => v = .int .i64 1 ∧ wr = w) (fun _ _ => 0)
  case atStart => exact ⟨by first | rfl | go_num, rfl⟩
  case round =>
    obtain ⟨rfl, rfl⟩ := hrel; go_wp2
    exact bodyPost_end (v := .tuple #[]) (results_none Try.results99 _ _ _) rfl ⟨rfl, rfl⟩
theorem stable_none (A : Option Addr) (c : Nat) (w : World) :
    Calls Try.prog 98 #[.slice A 0 c, .int .i64 0, .func (.func 48) #[] #[]] w fun x w' => x = .returned (.tuple #[]) ∧ w' = w := by
  have IN := Lib.hid (insort_none A c w)
  go_enter Try.func98, Try.ntmps98
  go_wp2
  go_loopw [7, 8] (fun a b wr => (a = .int .i64 0 ∧ b = .int .i64 20) ∧ wr = w) (fun _ _ _ => 0)
  case atStart => exact ⟨⟨rfl, rfl⟩, rfl⟩
  case round =>
    obtain ⟨⟨rfl, rfl⟩, rfl⟩ := hrel
    go_wp2_with fail
    refine IN.out.mono ?_; rintro x w1 ⟨rfl, rfl⟩; clear IN; go_wp2
    go_loopw [6, 7, 8, 9] (fun s a b m wr => s = .int .i64 20 ∧ wr = w1) (fun _ _ _ _ _ => 0)
    case atStart => exact ⟨rfl, rfl⟩
    case round =>
      obtain ⟨rfl, rfl⟩ := hrel; go_wp2
      exact bodyPost_end (v := .tuple #[]) (results_none Try.results98 _ _ _) rfl ⟨rfl, rfl⟩
theorem sortStable_none (A : Option Addr) (c : Nat) (w : World) :
    Calls Try.prog 86 #[.slice A 0 c, .func (.func 48) #[] #[]] w fun x w' => x = .returned (.tuple #[]) ∧ w' = w := by
  have ST := Lib.hid (stable_none A c w)
  go_enter Try.func86, Try.ntmps86
  go_wp2_with fail
  refine ST.out.mono ?_; rintro x w1 ⟨rfl, rfl⟩; clear ST; go_wp2
  exact bodyPost_end (v := .tuple #[]) (results_none Try.results86 _ _ _) rfl ⟨rfl, rfl⟩
theorem own_evs9 {w : World} {g n : Nat} {es : List Evt} (h : Own w g n es) : Evs w (some ⟨g, 0, none⟩) n es :=
  ⟨h.1, fun _ => ⟨g, 0, rfl, h.2.1, fun i hi => by rw [Nat.zero_add]; exact h.2.2.1 i hi⟩⟩
/-- What a sorting of one list leaves. -/
def SortedO (es : List Evt) (p : Nat) (w : World) (x : Ending) (w' : World) : Prop :=
  ∃ fs A c, x = .returned (.slice A p c) ∧ p ≤ c ∧ c ≤ 9223372036854775807 ∧ fs.Perm es ∧ fs.Pairwise leE ∧ Evs w' A p fs ∧ (0 < p → ∃ g, A = some ⟨g, 0, none⟩ ∧ w.heap.size ≤ g ∧ Own w' g p fs) ∧ Up w w'
set_option maxHeartbeats 2000000 in
theorem sortAny (b : Nat) (A1 : Option Addr) (p c1 : Nat) (es : List Evt) (w : World) (hb : b < w.heap.size) (hc : w.cell? ⟨b, 0, none⟩ = some (.slice A1 p c1)) (h1 : Evs w A1 p es) (hp : p ≤ 1100000) :
    Calls Try.prog 61 #[.func (.func 48) #[] #[], .slice (some ⟨b, 0, none⟩) 1 1] w (SortedO es p w) := by
  have hl := h1.1
  have C := Lib.hid (show Calls Try.prog 62 #[.slice (some ⟨b, 0, none⟩) 1 1] w (NewSl es w) from by
    have := concat_any b 1 [es] w (by simp) hb (fun j hj => by
      obtain rfl : j = 0 := by simpa using hj
      exact ⟨A1, c1, by simpa [hl] using hc, by simpa [hl] using h1⟩) (by simp [hl]; omega)
    simpa using this)
  have SP := Lib.hid (fun F ha => sort_perm (F := F) (es := es) (N := p) hl ha)
  have FL := Lib.hid hl
  clear h1 hl hc hb
  go_enter Try.func61, Try.ntmps61
  go_wp2_with fail
  refine C.out.mono ?_; rintro x w2 ⟨A, c, rfl, hc, hm, ev, ow, up⟩; rw [FL.out] at hc ev ow ⊢
  by_cases h0 : p = 0
  · subst h0
    have SN := Lib.hid (sortStable_none A c w2)
    have EV := Lib.hid ev
    have HC := Lib.hid (And.intro hc hm)
    have U2 := Lib.hid up
    have NE := Lib.hid (show es = [] from List.eq_nil_of_length_eq_zero FL.out)
    clear ow up ev C SP FL
    go_wp2_with fail
    refine SN.out.mono ?_; rintro x w3 ⟨rfl, rfl⟩; clear SN; go_wp2; go_ret
    exact ⟨es, A, c, rfl, HC.out.1, HC.out.2, List.Perm.refl _, by rw [NE.out]; exact List.Pairwise.nil, EV.out, fun h => absurd h (Nat.lt_irrefl _), U2.out⟩
  · obtain ⟨g, cap, hv, hg, hlt⟩ := ow.form (by omega)
    injection hv with hA _ hcp
    subst hA; subst hcp
    have RO := Lib.hid (Row.of_own ow (by omega))
    have HC := Lib.hid (And.intro hc hm)
    have HG := Lib.hid hg
    have U2 := Lib.hid up
    have HP := Lib.hid (And.intro hp h0)
    clear ow up hg C ev h0
    go_wp2_with fail
    have SA := sortStable_all g p c _ _ (by omega) RO.out
    refine SA.mono ?_; rintro x w3 ⟨rfl, ⟨F, row, arr, srt⟩, mv⟩
    have OE := Lib.hid (show Own w3 g p ((List.range p).map F) from ⟨by simp, row.1, fun i hi => by
      have e : ((List.range p).map F).getD i default = F i := by simp [hi]
      rw [e]
      exact row.2.1 i hi, row.2.2⟩)
    have PE := Lib.hid (SP.out F arr)
    have SE := Lib.hid (sortF_pairwise srt)
    have U3 := Lib.hid (mv.up U2.out HG.out)
    clear row arr srt mv U2 RO SA SP; go_wp2; go_ret
    exact ⟨_, some ⟨g, 0, none⟩, c, rfl, HC.out.1, HC.out.2, PE.out, SE.out, own_evs9 OE.out, fun _ => ⟨g, rfl, HG.out, OE.out⟩, U3.out⟩
end Go.Proofs.Ytjdoealcmokakaa

/-
  What the stable sort does with a row, in one sentence: it is sorted and none is lost; for every row.
-/
import Derived.Test.YtkfjemgelmbcfaaKSymC1
import Derived.Test.YtkfjemgelmbcfaaKSymC2
import Derived.Test.YtkfjemgelmbcfaaKInsort
namespace Go.Proofs.Ytkfjemgelmbcfaa
set_option maxRecDepth 100000
open Go.RowKit

theorem symMerge_all (g N c : Nat) (hN : N ≤ 2000000) : ∀ L, SymIH g N c L := by
  intro L
  induction L with
  | zero => intro a m b f w h; omega
  | succ L ih =>
    intro a m b f w hL ham hmb hb hR hl hr
    by_cases h1 : m = a + 1
    · subst h1
      exact symA_any g N c a b f w hN hmb hb hR hr
    · by_cases h2 : b = m + 1
      · subst h2
        exact symB_any g N c a m f w hN (by omega) hb hR hl
      · have IH : SymIH g N c (b - a) := fun a' m' b' f' w' h => ih a' m' b' f' w' (by omega)
        by_cases h3 : (a + b) / 2 < m
        · exact symC1_any g N c a m b f w hN (by omega) (by omega) hb h3 hR hl hr IH
        · exact symC2_any g N c a m b f w hN (by omega) (by omega) hb (by omega) hR hl hr IH

/-- Every stretch of s, counted from the front, is sorted. -/
def Runs (F : Nat → Evt) (s N : Nat) : Prop := ∀ j, SortF F (j * s) (min (j * s + s) N)
theorem mul_step (k s : Nat) : (k + 1) * (2 * s) = k * (2 * s) + 2 * s := by rw [Nat.add_mul, Nat.one_mul]
theorem mul_two (k s : Nat) : (2 * k) * s = k * (2 * s) := by rw [Nat.mul_comm 2 k, Nat.mul_assoc]
theorem mul_two1 (k s : Nat) : (2 * k + 1) * s = k * (2 * s) + s := by rw [Nat.add_mul, Nat.one_mul, mul_two]
/-- The merging under way: k pairs of stretches are merged. -/
structure Half (F : Nat → Evt) (s k N : Nat) : Prop where
  done : ∀ j, j < k → SortF F (j * (2 * s)) (j * (2 * s) + 2 * s)
  todo : ∀ j, 2 * k ≤ j → SortF F (j * s) (min (j * s + s) N)
theorem Half.start {F : Nat → Evt} {s N : Nat} (h : Runs F s N) : Half F s 0 N := ⟨fun j hj => absurd hj (by omega), fun j _ => h j⟩
theorem Half.left {F : Nat → Evt} {s k N : Nat} (h : Half F s k N) (hb : k * (2 * s) + s ≤ N) : SortF F (k * (2 * s)) (k * (2 * s) + s) := by
  have := h.todo (2 * k) (Nat.le_refl _)
  rwa [mul_two, Nat.min_eq_left hb] at this
theorem Half.right {F : Nat → Evt} {s k N : Nat} (h : Half F s k N) : SortF F (k * (2 * s) + s) (min (k * (2 * s) + 2 * s) N) := by
  have := h.todo (2 * k + 1) (by omega)
  rwa [mul_two1, show k * (2 * s) + s + s = k * (2 * s) + 2 * s by omega] at this
theorem Half.step {F F' : Nat → Evt} {s k N : Nat} (h : Half F s k N) (ha : Arr F F' (k * (2 * s)) (k * (2 * s) + 2 * s) N) (hs : SortF F' (k * (2 * s)) (k * (2 * s) + 2 * s)) : Half F' s (k + 1) N := by
  refine ⟨fun j hj => ?_, fun j hj => ?_⟩
  · by_cases e : j = k
    · subst e
      exact hs
    · refine ha.sort_out (h.done j (by omega)) (.inr ?_)
      have := Nat.mul_le_mul_right (2 * s) (show j + 1 ≤ k by omega)
      rwa [mul_step] at this
  · refine ha.sort_out (h.todo j (by omega)) (.inl ?_)
    have := Nat.mul_le_mul_right s (show 2 * (k + 1) ≤ j by omega)
    rwa [mul_two, mul_step] at this
theorem Half.stop {F : Nat → Evt} {s k N : Nat} (h : Half F s k N) (hs : SortF F (k * (2 * s)) N) (hN : N < k * (2 * s) + 2 * s) : Runs F (2 * s) N := fun j => by
  by_cases h1 : j < k
  · intro l h2 h3
    exact h.done j h1 l h2 (by omega)
  · by_cases h2 : j = k
    · subst h2
      intro l h3 h4
      exact hs l h3 (by omega)
    · have := Nat.mul_le_mul_right (2 * s) (show k + 1 ≤ j by omega)
      rw [mul_step] at this
      intro l h3 h4
      omega

/-- What sorting gives. -/
def StPost (g N : Nat) (f : Nat → Evt) (w : World) (x : Ending) (w' : World) : Prop :=
  x = .returned (.tuple #[]) ∧ (∃ F, Row w' g N F ∧ Arr f F 0 N N ∧ SortF F 0 N) ∧ Mv g w w'

set_option maxRecDepth 100000 in
set_option maxHeartbeats 4000000 in
theorem stable_all (g N c : Nat) (f : Nat → Evt) (w : World) (hN : N ≤ 2000000) (hR : Row w g N f) :
    Calls Try.prog 152 #[.slice (some ⟨g, 0, none⟩) N c, .int .i64 (N : Int), .func (.func 73) #[] #[]] w (StPost g N f w) := by
  have HR := Lib.hid hR
  have IN := Lib.hid (fun a b F W h1 h2 h => insort_any g N c a b F W hN h1 h2 h)
  have SM := Lib.hid (fun a m b F W h1 h2 h3 h4 h5 h6 => symMerge_all g N c hN (b - a + 1) a m b F W (by omega) h1 h2 h3 h4 h5 h6)
  unfold SymPost at SM
  clear hR
  go_enter Try.func152, Try.ntmps152
  go_wp2
  go_loopw [7, 8] (fun u v wr => (∃ (k a b : Nat) (F : Nat → Evt), u = .int .i64 (a : Int) ∧ v = .int .i64 (b : Int) ∧ a = k * 20 ∧ b = k * 20 + 20 ∧ a ≤ N ∧ Row wr g N F ∧ Arr f F 0 N N ∧ ∀ j, j < k → SortF F (j * 20) (j * 20 + 20)) ∧ Mv g w wr) (fun u _ _ => N + 1 - (intOf u).toNat)
  case atStart => exact ⟨⟨0, 0, 20, f, by first | rfl | go_num, by first | rfl | go_num, rfl, rfl, by omega, HR.out, Arr.refl _ _ _ _, fun j hj => absurd hj (by omega)⟩, Mv.refl _ _⟩
  case round =>
    obtain ⟨⟨k, a, b, F, rfl, rfl, ha, hb, hk, hF, hA, hD⟩, mv⟩ := hrel
    have HW := Lib.hid hF
    have HA := Lib.hid hA
    have HD := Lib.hid hD
    have MV := Lib.hid mv
    clear hF hA hD mv HR
    have HAB := Lib.hid (And.intro ha hb)
    by_cases hle : b ≤ N
    · have j1 : (b : Int) ≤ (N : Int) := by omega
      have j2 : ¬ (N : Int) < (b : Int) := by omega
      have w1 : IntKind.i64.wrap ((b : Int) + 20) = ((b + 20 : Nat) : Int) := by rw [IntWalk.i64_in _ (by omega)]; omega
      generalize hb2 : b + 20 = b2 at w1
      have HB2 := Lib.hid hb2
      clear ha hb hb2
      go_wp2_with fail
      refine (IN.out a b F _ (by have := HAB.out; omega) hle HW.out).mono ?_
      rintro x w1 ⟨rfl, ⟨F1, r1, a1, s1⟩, m1⟩
      have HW := Lib.hid r1
      have MX := Lib.hid (MV.out.trans m1)
      have HD2 := Lib.hid (show ∀ j, j < k + 1 → SortF F1 (j * 20) (j * 20 + 20) from fun j hj => by
        obtain ⟨ha, hb⟩ := HAB.out
        by_cases e : j = k
        · subst e
          rwa [ha, hb] at s1
        · exact a1.sort_out (HD.out j (by omega)) (.inr (by omega)))
      have AX := Lib.hid (HA.out.trans (a1.widen (Nat.zero_le _) hle))
      clear r1 a1 s1 m1
      go_wp2
      go_roundw
      case rel => exact ⟨⟨k + 1, b, b2, F1, rfl, by first | rfl | go_num, by have := HAB.out; omega, by have := HAB.out; have := HB2.out; omega, hle, HW.out, AX.out, HD2.out⟩, MX.out⟩
      case measure => (have := HAB.out; simp [intOf]; omega)
    · have j1 : ¬ (b : Int) ≤ (N : Int) := by omega
      have j2 : (N : Int) < (b : Int) := by omega
      clear ha hb
      go_wp2_with fail
      refine (IN.out a N F _ (by have := HAB.out; omega) (Nat.le_refl _) HW.out).mono ?_
      rintro x w1 ⟨rfl, ⟨F1, r1, a1, s1⟩, m1⟩
      have RU := Lib.hid (show Runs F1 20 N from fun j => by
        obtain ⟨ha, hb⟩ := HAB.out
        by_cases e : j < k
        · have h := a1.sort_out (HD.out j e) (.inr (by omega))
          intro l h1 h2
          exact h l h1 (by omega)
        · by_cases e2 : j = k
          · subst e2
            intro l h1 h2
            exact s1 l (by omega) (by omega)
          · intro l h1 h2
            omega)
      have HW := Lib.hid r1
      have MX := Lib.hid (MV.out.trans m1)
      have AX := Lib.hid (HA.out.trans (a1.widen (Nat.zero_le _) (Nat.le_refl _)))
      clear r1 a1 s1 m1 HA HD MV IN HAB j1 j2 hle hk
      go_wp2
      go_loopw [6, 7, 8, 9] (fun s _ _ _ wr => (∃ (s' : Nat) (F : Nat → Evt), s = .int .i64 (s' : Int) ∧ 20 ≤ s' ∧ (s' = 20 ∨ s' < 2 * N) ∧ Row wr g N F ∧ Arr f F 0 N N ∧ Runs F s' N) ∧ Mv g w wr) (fun s _ _ _ _ => N - (intOf s).toNat)
      case atStart => exact ⟨⟨20, F1, by first | rfl | go_num, by omega, .inl rfl, HW.out, AX.out, RU.out⟩, MX.out⟩
      case round =>
        clear HW MX AX RU
        obtain ⟨⟨s', F, rfl, hs1, hs2, hF, hA, hRU⟩, mv⟩ := hrel
        have HW := Lib.hid hF
        have HA := Lib.hid hA
        have HU := Lib.hid hRU
        have MV := Lib.hid mv
        clear hF hA hRU mv
        by_cases hlt : s' < N
        · have j1 : (s' : Int) < (N : Int) := by omega
          obtain ⟨t, ht⟩ : ∃ t, t = 2 * s' := ⟨_, rfl⟩
          have w2 : IntKind.i64.wrap (2 * (s' : Int)) = (t : Int) := by rw [IntWalk.i64_in _ (by omega)]; omega
          have w3 : IntKind.i64.wrap ((s' : Int) * 2) = (t : Int) := by rw [IntWalk.i64_in _ (by omega)]; omega
          have HT := Lib.hid ht
          have ht1 : t ≤ 4 * N := by omega
          clear ht
          obtain ⟨w4, hw4⟩ : ∃ W, W = wr := ⟨_, rfl⟩
          subst hw4
          go_wp2
          go_loopw [7, 8] (fun u v wr => (∃ (k a b : Nat) (F : Nat → Evt), u = .int .i64 (a : Int) ∧ v = .int .i64 (b : Int) ∧ a = k * (2 * s') ∧ b = k * (2 * s') + 2 * s' ∧ a ≤ N ∧ Row wr g N F ∧ Arr f F 0 N N ∧ Half F s' k N) ∧ Mv g w wr) (fun u _ _ => N + 1 - (intOf u).toNat)
          case atStart => exact ⟨⟨0, 0, t, F, by first | rfl | go_num, by first | rfl | go_num, by omega, by have := HT.out; omega, by omega, HW.out, HA.out, Half.start HU.out⟩, MV.out⟩
          case round =>
            clear HW MV HA HU
            obtain ⟨⟨k, a, b, F, rfl, rfl, ha, hb, hk, hF, hA, hH⟩, mv⟩ := hrel
            have HW := Lib.hid hF
            have HA := Lib.hid hA
            have HH := Lib.hid hH
            have MV := Lib.hid mv
            have HAB := Lib.hid (And.intro ha hb)
            have hbt : b = a + t := by have := HT.out; omega
            have HBT := Lib.hid hbt
            clear hF hA hH mv ha hb
            obtain ⟨m, hm⟩ : ∃ m, m = a + s' := ⟨_, rfl⟩
            have w5 : IntKind.i64.wrap ((a : Int) + (s' : Int)) = (m : Int) := by rw [IntWalk.i64_in _ (by omega)]; omega
            have HM := Lib.hid hm
            by_cases hle : b ≤ N
            · have i1 : (b : Int) ≤ (N : Int) := by omega
              have i2 : ¬ (N : Int) < (b : Int) := by omega
              have w6 : IntKind.i64.wrap ((b : Int) + (t : Int)) = ((b + t : Nat) : Int) := by rw [IntWalk.i64_in _ (by omega)]; omega
              generalize hb2 : b + t = b2 at w6
              have HB2 := Lib.hid hb2
              clear hb2 hbt hm
              go_wp2_with fail
              refine (SM.out a m b F _ (by have := HM.out; omega) (by have := HM.out; have := HBT.out; have := HT.out; omega) hle HW.out (by
                have h := HH.out.left (by have := HAB.out; omega)
                rw [HM.out, HAB.out.1]
                exact h) (by
                have h := HH.out.right
                rw [Nat.min_eq_left (by have := HAB.out; omega)] at h
                rw [HM.out, HAB.out.2, HAB.out.1]
                exact h)).mono ?_
              rintro x w7 ⟨rfl, ⟨F1, r1, a1, s1⟩, m1⟩
              have HW := Lib.hid r1
              have MX := Lib.hid (MV.out.trans m1)
              have AX := Lib.hid (HA.out.trans (a1.widen (Nat.zero_le _) hle))
              have HX := Lib.hid (show Half F1 s' (k + 1) N from by
                obtain ⟨ha, hb⟩ := HAB.out
                rw [ha, hb] at a1 s1
                exact HH.out.step a1 s1)
              clear r1 a1 s1 m1
              go_wp2
              go_roundw
              case rel => exact ⟨⟨k + 1, b, b2, F1, rfl, by first | rfl | go_num, by rw [mul_step]; exact HAB.out.2, by rw [mul_step, ← HAB.out.2, ← HT.out]; exact HB2.out.symm, hle, HW.out, AX.out, HX.out⟩, MX.out⟩
              case measure => (have := HBT.out; have := HT.out; simp [intOf]; omega)
            · have i1 : ¬ (b : Int) ≤ (N : Int) := by omega
              have i2 : (N : Int) < (b : Int) := by omega
              by_cases hmN : m < N
              · have i3 : (m : Int) < (N : Int) := by omega
                clear hbt hm
                go_wp2_with fail
                refine (SM.out a m N F _ (by have := HM.out; omega) hmN (Nat.le_refl _) HW.out (by
                  have h := HH.out.left (by have := HAB.out; have := HM.out; omega)
                  rw [HM.out, HAB.out.1]
                  exact h) (by
                  have h := HH.out.right
                  rw [Nat.min_eq_right (by have := HAB.out; omega)] at h
                  rw [HM.out, HAB.out.1]
                  exact h)).mono ?_
                rintro x w7 ⟨rfl, ⟨F1, r1, a1, s1⟩, m1⟩
                have HW := Lib.hid r1
                have MX := Lib.hid (MV.out.trans m1)
                have AX := Lib.hid (HA.out.trans (a1.widen (Nat.zero_le _) (Nat.le_refl _)))
                have HX := Lib.hid (show Runs F1 t N from by
                  obtain ⟨ha, hb⟩ := HAB.out
                  rw [HT.out]
                  intro j
                  by_cases h1 : j < k
                  · intro l h2 h3
                    refine (a1.sort_out (HH.out.done j h1) (.inr ?_)) l h2 (by omega)
                    have := Nat.mul_le_mul_right (2 * s') (show j + 1 ≤ k by omega)
                    rw [mul_step] at this
                    omega
                  · by_cases h2 : j = k
                    · subst h2
                      intro l h3 h4
                      exact s1 l (by omega) (by omega)
                    · have := Nat.mul_le_mul_right (2 * s') (show k + 1 ≤ j by omega)
                      rw [mul_step] at this
                      intro l h3 h4
                      omega)
                clear r1 a1 s1 m1
                go_wp2
                go_roundw
                case rel => exact ⟨⟨t, F1, by first | rfl | go_num, by have := HT.out; omega, .inr (by have := HT.out; omega), HW.out, AX.out, HX.out⟩, MX.out⟩
                case measure => (have := HT.out; simp [intOf]; omega)
              · have i3 : ¬ (m : Int) < (N : Int) := by omega
                have HX := Lib.hid (show Runs F t N from by
                  rw [HT.out]
                  refine HH.out.stop ?_ (by have := HAB.out; omega)
                  have h := HH.out.todo (2 * k) (Nat.le_refl _)
                  rwa [mul_two, Nat.min_eq_right (by have := HAB.out; omega)] at h)
                clear hbt hm
                go_wp2
                go_roundw
                case rel => exact ⟨⟨t, F, by first | rfl | go_num, by have := HT.out; omega, .inr (by have := HT.out; omega), HW.out, HA.out, HX.out⟩, MV.out⟩
                case measure => (have := HT.out; simp [intOf]; omega)
        · have j1 : ¬ (s' : Int) < (N : Int) := by omega
          have HE := Lib.hid (show ∃ F, Row wr g N F ∧ Arr f F 0 N N ∧ SortF F 0 N from ⟨F, HW.out, HA.out, by
            have h := HU.out 0
            rwa [Nat.zero_mul, Nat.zero_add, Nat.min_eq_right (by omega)] at h⟩)
          go_wp2
          exact bodyPost_end (v := .tuple #[]) (results_none Try.results152 _ _ _) rfl ⟨rfl, HE.out, MV.out⟩

theorem sortStable_all (g N c : Nat) (f : Nat → Evt) (w : World) (hN : N ≤ 2000000) (hR : Row w g N f) :
    Calls Try.prog 124 #[.slice (some ⟨g, 0, none⟩) N c, .func (.func 73) #[] #[]] w (StPost g N f w) := by
  have ST := Lib.hid (stable_all g N c f w hN hR)
  clear hR
  go_enter Try.func124, Try.ntmps124
  go_wp2_with fail
  refine ST.out.mono ?_
  rintro x w1 ⟨rfl, hs, mv⟩
  have HS := Lib.hid hs
  have MV := Lib.hid mv
  clear hs mv ST
  go_wp2
  exact bodyPost_end (v := .tuple #[]) (results_none Try.results124 _ _ _) rfl ⟨rfl, HS.out, MV.out⟩

end Go.Proofs.Ytkfjemgelmbcfaa

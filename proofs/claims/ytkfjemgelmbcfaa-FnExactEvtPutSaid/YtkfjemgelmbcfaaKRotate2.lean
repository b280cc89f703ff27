/-
  What rotate does with a row, in one sentence: two neighbouring stretches change places; for all that lie in it.
-/
import Derived.Test.YtkfjemgelmbcfaaKRotate
namespace Go.Proofs.Ytkfjemgelmbcfaa
set_option maxRecDepth 100000
open Go.RowKit

/-- The stretches from a up to m and from m up to b change places. -/
def rotF (f : Nat → Evt) (a m b : Nat) : Nat → Evt := fun k => if a ≤ k ∧ k < a + (b - m) then f (k + (m - a)) else if a + (b - m) ≤ k ∧ k < b then f (k - (b - m)) else f k
theorem rot_end (f : Nat → Evt) (m i : Nat) (h : i ≤ m) (k : Nat) : swpR f (m - i) m i k = rotF f (m - i) m (m + i) k := by
  unfold rotF swpR
  (repeat' split) <;> first | (exfalso; omega) | (congr 1; omega) | rfl
theorem rot_more (f : Nat → Evt) (m i j : Nat) (h : i ≤ m) (hj : j < i) (k : Nat) : rotF (swpR f (m - i) m j) (m - (i - j)) m (m + j) k = rotF f (m - i) m (m + j) k := by
  unfold rotF swpR
  (repeat' split) <;> first | (exfalso; omega) | (congr 1; omega) | rfl
theorem rot_less (f : Nat → Evt) (m i j : Nat) (h : i ≤ m) (hj : i < j) (k : Nat) : rotF (swpR f (m - i) (m + j - i) i) (m - i) m (m + (j - i)) k = rotF f (m - i) m (m + j) k := by
  unfold rotF swpR
  (repeat' split) <;> first | (exfalso; omega) | (congr 1; omega) | rfl

/-- The loop's relation. -/
def RotR (f : Nat → Evt) (a m b g N : Nat) (u v : Value) (wr : World) : Prop :=
  ∃ (i j : Nat) (F : Nat → Evt), u = .int .i64 (i : Int) ∧ v = .int .i64 (j : Int) ∧ 1 ≤ i ∧ 1 ≤ j ∧ a + i ≤ m ∧ m + j ≤ b ∧ Row wr g N F ∧ Arr f F a b N ∧ ∀ k, rotF F (m - i) m (m + j) k = rotF f a m b k

set_option maxRecDepth 100000 in
set_option maxHeartbeats 4000000 in
theorem rotate_any (g N c a m b : Nat) (f : Nat → Evt) (C : Value) (w : World) (hN : N ≤ 2000000) (ham : a < m) (hmb : m < b) (hb : b ≤ N) (hR : Row w g N f) :
    Calls Try.prog 173 #[.slice (some ⟨g, 0, none⟩) N c, .int .i64 (a : Int), .int .i64 (m : Int), .int .i64 (b : Int), C] w
      fun x w' => x = .returned (.tuple #[]) ∧ (∃ F, Row w' g N F ∧ Arr f F a b N ∧ ∀ k, F k = rotF f a m b k) ∧ Mv g w w' := by
  have HR := Lib.hid hR
  have SW := Lib.hid (fun p q n F W h1 h2 h => swapRange_any g N c p q n F C W hN h1 h2 h)
  clear hR
  have w1 : IntKind.i64.wrap ((m : Int) - (a : Int)) = ((m - a : Nat) : Int) := by rw [IntWalk.i64_in _ (by omega)]; omega
  have w2 : IntKind.i64.wrap ((b : Int) - (m : Int)) = ((b - m : Nat) : Int) := by rw [IntWalk.i64_in _ (by omega)]; omega
  have H0 := Lib.hid (show RotR f a m b g N (.int .i64 ((m - a : Nat) : Int)) (.int .i64 ((b - m : Nat) : Int)) w from ⟨m - a, b - m, f, rfl, rfl, by omega, by omega, by omega, by omega, HR.out, Arr.refl _ _ _ _, fun k => by rw [show m - (m - a) = a by omega, show m + (b - m) = b by omega]⟩)
  generalize m - a = i0 at w1 H0
  generalize b - m = j0 at w2 H0
  clear HR
  go_enter Try.func173, Try.ntmps173
  go_wp2
  go_loopw [10, 11] (fun u v wr => RotR f a m b g N u v wr ∧ Mv g w wr) (fun u v _ => (intOf u).toNat + (intOf v).toNat)
  case atStart => exact ⟨H0.out, Mv.refl _ _⟩
  case round =>
    obtain ⟨⟨i, j, F, rfl, rfl, hi, hj, him, hjb, hF, hA, hK⟩, mv⟩ := hrel
    have HW := Lib.hid hF
    have HA := Lib.hid hA
    have HK := Lib.hid hK
    have MV := Lib.hid mv
    clear hF hA hK mv H0 w1 w2
    obtain ⟨p, hp⟩ : ∃ p, p = m - i := ⟨_, rfl⟩
    have w3 : IntKind.i64.wrap ((m : Int) - (i : Int)) = (p : Int) := by rw [IntWalk.i64_in _ (by omega)]; omega
    have HP := Lib.hid hp
    by_cases hij : i = j
    · subst hij
      have SE := Lib.hid (SW.out p m i F wr (by omega) (by omega) HW.out)
      have AE := Lib.hid (HA.out.trans (swpR_arr F (a := p) (b := m) (lo := a) (hi := b) (N := N) (by omega) hb i (by omega) (by omega)))
      have KE := Lib.hid (fun k => show swpR F p m i k = rotF f a m b k by rw [hp, rot_end F m i (by omega) k, HK.out k])
      clear hp
      go_wp2_with fail
      refine SE.out.mono ?_
      rintro x w4 ⟨rfl, hr, mv⟩
      have HR := Lib.hid hr
      have ME := Lib.hid (MV.out.trans mv)
      clear hr mv
      go_wp2
      exact bodyPost_end (v := .tuple #[]) (results_none Try.results173 _ _ _) rfl ⟨rfl, ⟨_, HR.out, AE.out, KE.out⟩, ME.out⟩
    · have hij2 : ¬ (i : Int) = (j : Int) := by omega
      have hij3 : ((i : Int) != (j : Int)) = true := by simp; omega
      by_cases hgt : j < i
      · have j1 : (j : Int) < (i : Int) := by omega
        have SE := Lib.hid (SW.out p m j F wr (by omega) (by omega) HW.out)
        have AE := Lib.hid (HA.out.trans (swpR_arr F (a := p) (b := m) (lo := a) (hi := b) (N := N) (by omega) hb j (by omega) (by omega)))
        have KE := Lib.hid (fun k => show rotF (swpR F p m j) (m - (i - j)) m (m + j) k = rotF f a m b k by rw [hp, rot_more F m i j (by omega) hgt k, HK.out k])
        obtain ⟨d, hd⟩ : ∃ d, d = i - j := ⟨_, rfl⟩
        have w4 : IntKind.i64.wrap ((i : Int) - (j : Int)) = (d : Int) := by rw [IntWalk.i64_in _ (by omega)]; omega
        rw [← hd] at KE
        have HD := Lib.hid hd
        clear hp hd
        go_wp2_with fail
        refine SE.out.mono ?_
        rintro x w5 ⟨rfl, hr, mv⟩
        have HR := Lib.hid hr
        have ME := Lib.hid (MV.out.trans mv)
        clear hr mv
        go_wp2
        go_roundw
        case rel => exact ⟨⟨d, j, _, by first | rfl | go_num, by first | rfl | go_num, by have := HD.out; omega, by omega, by have := HD.out; omega, by omega, HR.out, AE.out, KE.out⟩, ME.out⟩
        case measure => (have := HD.out; simp [intOf]; omega)
      · have j1 : ¬ (j : Int) < (i : Int) := by omega
        obtain ⟨q, hq⟩ : ∃ q, q = m + j - i := ⟨_, rfl⟩
        have w5 : IntKind.i64.wrap ((m : Int) + (j : Int)) = ((m + j : Nat) : Int) := by rw [IntWalk.i64_in _ (by omega)]; omega
        have w6 : IntKind.i64.wrap (((m + j : Nat) : Int) - (i : Int)) = (q : Int) := by rw [IntWalk.i64_in _ (by omega)]; omega
        have SE := Lib.hid (SW.out p q i F wr (by omega) (by omega) HW.out)
        have AE := Lib.hid (HA.out.trans (swpR_arr F (a := p) (b := q) (lo := a) (hi := b) (N := N) (by omega) hb i (by omega) (by omega)))
        have KE := Lib.hid (fun k => show rotF (swpR F p q i) (m - i) m (m + (j - i)) k = rotF f a m b k by rw [hp, hq, rot_less F m i j (by omega) (by omega) k, HK.out k])
        obtain ⟨d, hd⟩ : ∃ d, d = j - i := ⟨_, rfl⟩
        have w4 : IntKind.i64.wrap ((j : Int) - (i : Int)) = (d : Int) := by rw [IntWalk.i64_in _ (by omega)]; omega
        rw [← hd] at KE
        have HD := Lib.hid hd
        generalize hmj : m + j = mj at w5 w6
        clear hp hd hq
        have HMJ := Lib.hid hmj
        clear hmj
        go_wp2_with fail
        refine SE.out.mono ?_
        rintro x w7 ⟨rfl, hr, mv⟩
        have HR := Lib.hid hr
        have ME := Lib.hid (MV.out.trans mv)
        clear hr mv
        go_wp2
        go_roundw
        case rel => exact ⟨⟨i, d, _, by first | rfl | go_num, by first | rfl | go_num, by omega, by have := HD.out; omega, by omega, by have := HD.out; omega, HR.out, AE.out, KE.out⟩, ME.out⟩
        case measure => (have := HD.out; simp [intOf]; omega)

end Go.Proofs.Ytkfjemgelmbcfaa

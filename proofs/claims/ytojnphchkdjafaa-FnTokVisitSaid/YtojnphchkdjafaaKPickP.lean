/-
  What pick and odd give, in one sentence: a number below its bound, a bool, the reader is one further, and no block is made; for every reader that lies in memory.
-/
import Derived.Test.YtojnphchkdjafaaKNu
import Derived.Test.YtojnphchkdjafaaKC
namespace Go.Proofs.Ytojnphchkdjafaa
set_option maxRecDepth 100000
open Go.RowKit

set_option maxHeartbeats 2000000 in
theorem pickP_any (g N : Nat) (m : Int) (w : World) (hm : I64 m) (hN : N ≤ 1000000) (hR : Rd w g N) :
    Calls Try.prog 42 #[.pointer (some ⟨g, 0, none⟩), .int .i64 m] w (PickedP g N m w) := by
  obtain ⟨A, n, cap, p, h0, h1, hf, hp, hg, hn, hb⟩ := hR
  have R := Lib.hid (Rd.step h0 h1 hf hp hg hn hb)
  have HM := Lib.hid hm
  clear hm
  by_cases hm1 : m < 1
  · go_enter Try.func42, Try.ntmps42
    go_wp2
    go_ret
    exact ⟨0, rfl, by omega, .inr rfl, R.out, (Pk.refl _ _).set _ _⟩
  · by_cases hn0 : n = 0
    · subst hn0
      go_enter Try.func42, Try.ntmps42
      go_wp2
      go_ret
      exact ⟨0, rfl, by omega, .inr rfl, R.out, (Pk.refl _ _).set _ _⟩
    · obtain ⟨b, off, rfl, hbg, hc⟩ := hb (by omega)
      have hn0' : ((n : Int) == 0) = false := by simp; omega
      have HC := Lib.hid hc
      clear hc
      have hne : b ≠ g := by omega
      by_cases hpn : p < n
      · obtain ⟨z, hz, hcz⟩ := HC.out p hpn
        go_enter Try.func42, Try.ntmps42
        go_wp2
        go_ret
        exact ⟨_, rfl, Int.emod_nonneg _ (by omega), .inl (Int.emod_lt_of_pos _ (by omega)), R.out, (Pk.refl _ _).set _ _⟩
      · obtain ⟨q1, hq1, e1⟩ : ∃ q : Nat, q < n ∧ (p : Int).tmod (n : Int) = (q : Int) := ⟨p % n, Nat.mod_lt _ (by omega), by rw [Int.tmod_eq_emod_of_nonneg (by omega)]; rfl⟩
        obtain ⟨q2, hq2, e2⟩ : ∃ q : Nat, q < n ∧ ((p * 7 + 3 : Nat) : Int).tmod (n : Int) = (q : Int) := ⟨(p * 7 + 3) % n, Nat.mod_lt _ (by omega), by rw [Int.tmod_eq_emod_of_nonneg (by omega)]; rfl⟩
        obtain ⟨q3, hq3, e3⟩ : ∃ q : Nat, q ≤ p ∧ (p : Int).tdiv (n : Int) = (q : Int) := ⟨p / n, Nat.div_le_self _ _, by rw [Int.tdiv_eq_ediv_of_nonneg (by omega)]; rfl⟩
        obtain ⟨z1, hz1, hcz1⟩ := HC.out q1 hq1
        obtain ⟨z2, hz2, hcz2⟩ := HC.out q2 hq2
        have w1 : IntKind.i64.wrap (z1 : Int) = z1 := wr _ _ rfl (by omega)
        have w2 : IntKind.i64.wrap (z2 : Int) = z2 := wr _ _ rfl (by omega)
        obtain ⟨y1, hy1, w3⟩ : ∃ y : Nat, y ≤ 1000000 ∧ IntKind.i64.wrap ((z1 : Int) * 131) = (y : Int) := ⟨z1 * 131, by omega, wr _ _ (by omega) (by omega)⟩
        obtain ⟨y2, hy2, w4⟩ : ∃ y : Nat, y ≤ 1000000 ∧ IntKind.i64.wrap ((z2 : Int) * 1117) = (y : Int) := ⟨z2 * 1117, by omega, wr _ _ (by omega) (by omega)⟩
        obtain ⟨s1, hs1, w5⟩ : ∃ s : Nat, s = p * 7 ∧ IntKind.i64.wrap ((p : Int) * 7) = (s : Int) := ⟨p * 7, rfl, wr _ _ (by omega) (by omega)⟩
        obtain ⟨s2, hs2, w6⟩ : ∃ s : Nat, s = p * 7 + 3 ∧ IntKind.i64.wrap ((s1 : Int) + 3) = (s : Int) := ⟨p * 7 + 3, rfl, wr _ _ (by omega) (by omega)⟩
        rw [← hs2] at e2
        obtain ⟨y3, hy3, w7⟩ : ∃ y : Nat, y ≤ 2000000 ∧ IntKind.i64.wrap ((y1 : Int) + (y2 : Int)) = (y : Int) := ⟨y1 + y2, by omega, wr _ _ (by omega) (by omega)⟩
        obtain ⟨y4, hy4, w8⟩ : ∃ y : Nat, y ≤ 29000000 ∧ IntKind.i64.wrap ((p : Int) * 29) = (y : Int) := ⟨p * 29, by omega, wr _ _ (by omega) (by omega)⟩
        obtain ⟨y5, hy5, w9⟩ : ∃ y : Nat, y ≤ 31000000 ∧ IntKind.i64.wrap ((y3 : Int) + (y4 : Int)) = (y : Int) := ⟨y3 + y4, by omega, wr _ _ (by omega) (by omega)⟩
        have wq : IntKind.i64.wrap (q3 : Int) = q3 := wr _ _ rfl (by omega)
        obtain ⟨y6, hy6, w10⟩ : ∃ y : Nat, y ≤ 53000000 ∧ IntKind.i64.wrap ((q3 : Int) * 53) = (y : Int) := ⟨q3 * 53, by omega, wr _ _ (by omega) (by omega)⟩
        obtain ⟨y7, hy7, w11⟩ : ∃ y : Nat, y ≤ 90000000 ∧ IntKind.i64.wrap ((y5 : Int) + (y6 : Int)) = (y : Int) := ⟨y5 + y6, by omega, wr _ _ (by omega) (by omega)⟩
        obtain ⟨y8, hy8, w12⟩ : ∃ y : Nat, y ≤ 90000000 ∧ (y7 : Int) / 64 = (y : Int) := ⟨y7 / 64, by omega, by omega⟩
        obtain ⟨y9, hy9, w13⟩ := xor_i64 y7 y8 (by omega) (by omega)
        have hbw : b < w.heap.size := by omega
        have lq1 : (q1 : Int) < n := by omega
        have lq2 : (q2 : Int) < n := by omega
        have nn : ((n : Int) == 0) = false := hn0'
        clear hs1 hs2
        go_enter Try.func42, Try.ntmps42
        go_wp2
        refine region_nu (by kernel_rfl) (by kernel_rfl) ?_
        refine nu_step rfl ?_
        apply Exists.intro
        refine ⟨fun w1 hw1 => ?_, ?_⟩
        · go_simp
          try rfl
        go_simp
        refine nu_step rfl ?_
        apply Exists.intro
        refine ⟨fun w1 hw1 => ?_, ?_⟩
        · go_simp
          try rfl
        go_simp
        refine nu_step rfl ?_
        apply Exists.intro
        refine ⟨fun w1 hw1 => ?_, ?_⟩
        · go_simp
          try rfl
        go_simp
        refine nu_step rfl ?_
        apply Exists.intro
        refine ⟨fun w1 hw1 => ?_, ?_⟩
        · obtain ⟨hc, hf, hz⟩ := hw1.facts
          try simp at hz
          go_simp
          try rfl
        go_simp
        refine nu_step rfl ?_
        apply Exists.intro
        refine ⟨fun w1 hw1 => ?_, ?_⟩
        · go_simp
          try rfl
        go_simp
        refine nu_step rfl ?_
        apply Exists.intro
        refine ⟨fun w1 hw1 => ?_, ?_⟩
        · go_simp
          try rfl
        go_simp
        refine nu_step rfl ?_
        apply Exists.intro
        refine ⟨fun w1 hw1 => ?_, ?_⟩
        · go_simp
          try rfl
        go_simp
        refine nu_step rfl ?_
        apply Exists.intro
        refine ⟨fun w1 hw1 => ?_, ?_⟩
        · go_simp
          try rfl
        go_simp
        refine nu_step rfl ?_
        apply Exists.intro
        refine ⟨fun w1 hw1 => ?_, ?_⟩
        · obtain ⟨hc, hf, hz⟩ := hw1.facts
          try simp at hz
          go_simp
          try rfl
        go_simp
        refine nu_step rfl ?_
        apply Exists.intro
        refine ⟨fun w1 hw1 => ?_, ?_⟩
        · go_simp
          try rfl
        go_simp
        refine nu_step rfl ?_
        apply Exists.intro
        refine ⟨fun w1 hw1 => ?_, ?_⟩
        · go_simp
          try rfl
        go_simp
        refine nu_step rfl ?_
        apply Exists.intro
        refine ⟨fun w1 hw1 => ?_, ?_⟩
        · go_simp
          try rfl
        go_simp
        refine nu_step rfl ?_
        apply Exists.intro
        refine ⟨fun w1 hw1 => ?_, ?_⟩
        · obtain ⟨hc, hf, hz⟩ := hw1.facts
          try simp at hz
          go_simp
          try rfl
        go_simp
        refine nu_step rfl ?_
        apply Exists.intro
        refine ⟨fun w1 hw1 => ?_, ?_⟩
        · go_simp
          try rfl
        go_simp
        refine nu_step rfl ?_
        apply Exists.intro
        refine ⟨fun w1 hw1 => ?_, ?_⟩
        · go_simp
          try rfl
        go_simp
        refine nu_step rfl ?_
        apply Exists.intro
        refine ⟨fun w1 hw1 => ?_, ?_⟩
        · go_simp
          try rfl
        go_simp
        refine nu_step rfl ?_
        apply Exists.intro
        refine ⟨fun w1 hw1 => ?_, ?_⟩
        · go_simp
          try rfl
        go_simp
        refine nu_step rfl ?_
        apply Exists.intro
        refine ⟨fun w1 hw1 => ?_, ?_⟩
        · go_simp
          try rfl
        go_simp
        refine nu_step rfl ?_
        apply Exists.intro
        refine ⟨fun w1 hw1 => ?_, ?_⟩
        · obtain ⟨hc, hf, hz⟩ := hw1.facts
          try simp at hz
          go_simp
          try rfl
        go_simp
        refine nu_step rfl ?_
        apply Exists.intro
        refine ⟨fun w1 hw1 => ?_, ?_⟩
        · go_simp
          try rfl
        go_simp
        refine nu_step rfl ?_
        apply Exists.intro
        refine ⟨fun w1 hw1 => ?_, ?_⟩
        · go_simp
          try rfl
        go_simp
        refine nu_step rfl ?_
        apply Exists.intro
        refine ⟨fun w1 hw1 => ?_, ?_⟩
        · go_simp
          try rfl
        go_simp
        refine nu_step rfl ?_
        apply Exists.intro
        refine ⟨fun w1 hw1 => ?_, ?_⟩
        · go_simp
          try rfl
        go_simp
        refine nu_step rfl ?_
        apply Exists.intro
        refine ⟨fun w1 hw1 => ?_, ?_⟩
        · go_simp
          try rfl
        go_simp
        refine nu_step rfl ?_
        apply Exists.intro
        refine ⟨fun w1 hw1 => ?_, ?_⟩
        · go_simp
          try rfl
        go_simp
        refine nu_step rfl ?_
        apply Exists.intro
        refine ⟨fun w1 hw1 => ?_, ?_⟩
        · obtain ⟨hc, hf, hz⟩ := hw1.facts
          try simp at hz
          go_simp
          try rfl
        go_simp
        refine nu_step rfl ?_
        apply Exists.intro
        refine ⟨fun w1 hw1 => ?_, ?_⟩
        · go_simp
          try rfl
        go_simp
        refine nu_step rfl ?_
        apply Exists.intro
        refine ⟨fun w1 hw1 => ?_, ?_⟩
        · go_simp
          try rfl
        go_simp
        refine nu_step rfl ?_
        apply Exists.intro
        refine ⟨fun w1 hw1 => ?_, ?_⟩
        · go_simp
          try rfl
        go_simp
        refine nu_step rfl ?_
        apply Exists.intro
        refine ⟨fun w1 hw1 => ?_, ?_⟩
        · obtain ⟨hc, hf, hz⟩ := hw1.facts
          try simp at hz
          go_simp
          try rfl
        go_simp
        refine nu_step rfl ?_
        apply Exists.intro
        refine ⟨fun w1 hw1 => ?_, ?_⟩
        · go_simp
          try rfl
        go_simp
        refine nu_step rfl ?_
        apply Exists.intro
        refine ⟨fun w1 hw1 => ?_, ?_⟩
        · go_simp
          try rfl
        go_simp
        refine nu_step rfl ?_
        apply Exists.intro
        refine ⟨fun w1 hw1 => ?_, ?_⟩
        · go_simp
          try rfl
        go_simp
        refine nu_step rfl ?_
        apply Exists.intro
        refine ⟨fun w1 hw1 => ?_, ?_⟩
        · go_simp
          try rfl
        go_simp
        refine nu_step rfl ?_
        apply Exists.intro
        refine ⟨fun w1 hw1 => ?_, ?_⟩
        · go_simp
          try rfl
        go_simp
        refine nu_step rfl ?_
        apply Exists.intro
        refine ⟨fun w1 hw1 => ?_, ?_⟩
        · go_simp
          try rfl
        go_simp
        refine nu_step rfl ?_
        apply Exists.intro
        refine ⟨fun w1 hw1 => ?_, ?_⟩
        · go_simp
          try rfl
        go_simp
        refine nu_step rfl ?_
        apply Exists.intro
        refine ⟨fun w1 hw1 => ?_, ?_⟩
        · go_simp
          try rfl
        go_simp
        refine nu_step rfl ?_
        apply Exists.intro
        refine ⟨fun w1 hw1 => ?_, ?_⟩
        · go_simp
          try rfl
        go_simp
        refine nu_step rfl ?_
        apply Exists.intro
        refine ⟨fun w1 hw1 => ?_, ?_⟩
        · go_simp
          try rfl
        go_simp
        refine nu_step rfl ?_
        apply Exists.intro
        refine ⟨fun w1 hw1 => ?_, ?_⟩
        · obtain ⟨hc, hf, hz⟩ := hw1.facts
          try simp at hz
          go_simp
          try rfl
        go_simp
        refine nu_step rfl ?_
        apply Exists.intro
        refine ⟨fun w1 hw1 => ?_, ?_⟩
        · go_simp
          try rfl
        go_simp
        refine nu_step rfl ?_
        apply Exists.intro
        refine ⟨fun w1 hw1 => ?_, ?_⟩
        · go_simp
          try rfl
        go_simp
        refine nu_step rfl ?_
        apply Exists.intro
        refine ⟨fun w1 hw1 => ?_, ?_⟩
        · go_simp
          try rfl
        go_simp
        refine nu_step rfl ?_
        apply Exists.intro
        refine ⟨fun w1 hw1 => ?_, ?_⟩
        · go_simp
          try rfl
        go_simp
        refine nu_step rfl ?_
        apply Exists.intro
        refine ⟨fun w1 hw1 => ?_, ?_⟩
        · go_simp
          try rfl
        go_simp
        refine wpQuiet_nil ?_
        intro wA uA
        clear w1 w2 w3 w4 w5 w6 w7 w8 w9 wq w10 w11 e1 e2 e3
        go_wp2
        go_ret
        exact ⟨_, rfl, Int.emod_nonneg _ (by omega), .inl (Int.emod_lt_of_pos _ (by omega)), R.out.nu uA, ((Pk.refl _ _).set _ _).nu uA⟩

set_option maxHeartbeats 400000 in
theorem oddP_any (g N : Nat) (m : Int) (w : World) (hm : I64 m) (hN : N ≤ 1000000) (hR : Rd w g N) :
    Calls Try.prog 61 #[.pointer (some ⟨g, 0, none⟩), .int .i64 m] w (TossedP g (N + 1) w) := by
  have R := Lib.hid hR
  clear hR
  by_cases h : 0 < m
  · have hm2 : m ≤ 9223372036854775807 := hm.2
    have HM := Lib.hid hm
    clear hm
    go_enter Try.func61, Try.ntmps61
    go_wp2_with fail
    refine (pickP_any g N m _ HM.out hN R.out).mono ?_
    rintro x w1 ⟨v, rfl, _, _, R1, M1⟩
    have RR := Lib.hid R1
    have MM := Lib.hid M1
    clear R1 M1
    go_wp2
    all_goals go_ret
    all_goals exact ⟨_, rfl, RR.out, MM.out⟩
  · have HM := Lib.hid hm
    clear hm
    go_enter Try.func61, Try.ntmps61
    go_wp2
    go_ret
    exact ⟨_, rfl, R.out.mono (by omega), Pk.refl _ _⟩


end Go.Proofs.Ytojnphchkdjafaa

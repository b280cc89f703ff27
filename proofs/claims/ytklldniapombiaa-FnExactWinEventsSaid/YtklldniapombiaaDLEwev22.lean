/-
  What markSeqState does behind another mark, in one sentence: the marks are laid one behind the other in its three blocks, and no other block changes; for simulators of the call's own.
  What szSeqState returns, in one sentence: -1, or what is left, and then all lists together are short; for every simulator.
-/
import Derived.Test.YtklldniapombiaaDLEwev03
import Derived.Test.YtklldniapombiaaDLEwev07
import Derived.Test.YtklldniapombiaaDLEwev08
import Derived.Test.YtklldniapombiaaDLEwev10
import Derived.Test.YtklldniapombiaaDLEwev11
import Derived.Test.YtklldniapombiaaDLEwev16
namespace Go.Proofs.Ytklldniapombiaa
set_option maxRecDepth 100000
open Go.RowKit
theorem Wr.block {lo : Nat} {A : Option Addr} {n b : Nat} {w w' : World} (h : Wr lo A n w w') (hb : b < w.heap.size) (hne : 0 < n → ∀ g, A = some ⟨g, 0, none⟩ → b ≠ g) : w'.heap[b]? = w.heap[b]? := by
  rcases h with ⟨_, u⟩ | ⟨hn, g, hA, _, m⟩
  · exact u.below.block b hb
  · exact m.block b hb (hne hn g hA)
set_option maxHeartbeats 4000000 in
theorem markC_lg (g n c : Nat) (k0 : Int) (w : World) (hn : n ≤ 1048576) (h0 : 0 ≤ k0) (h1 : k0 ≤ 9000000000000000000) (hP : IntsOwn w g (n * 3)) :
    Calls Try.prog 87 #[.slice (some ⟨g, 0, none⟩) n c, .int .i64 k0] w fun x w' => x = .returned (.int .i64 (k0 + 3 * (n : Int))) ∧ Held w' (some ⟨g, 0, none⟩) n 3 k0 ∧ Mv g w w' := by
  have HP := Lib.hid (show HeldTo w g n 3 0 k0 from ⟨hP, fun i hi => absurd hi (by omega)⟩)
  clear hP
  go_enter Try.func87, Try.ntmps87
  go_wp2
  go_loopw [1, 5] (fun m i wr => (∃ k : Nat, k ≤ n ∧ i = .int .i64 k ∧ m = .int .i64 (k0 + 3 * (k : Int)) ∧ HeldTo wr g n 3 k k0) ∧ Mv g w wr) (fun _ i _ => n - (intOf i).toNat)
  case atStart => exact ⟨⟨0, by omega, rfl, by first | rfl | simp, HP.out⟩, Mv.refl _ _⟩
  case round =>
    obtain ⟨⟨k, hk, rfl, rfl, hp⟩, mv⟩ := hrel
    have PP := Lib.hid hp
    have MV := Lib.hid mv
    have hg := hp.1.1
    clear hp mv
    by_cases hlt : k < n
    · have le1 : k * 3 + 3 ≤ n * 3 := by omega
      obtain ⟨⟨v0, s0⟩, f0⟩ := PP.out.1.2 (k * 3) (by omega); obtain ⟨⟨v1, s1⟩, f1⟩ := PP.out.1.2 (k * 3 + 1) (by omega); obtain ⟨⟨v2, s2⟩, f2⟩ := PP.out.1.2 (k * 3 + 2) (by omega)
      have NX := Lib.hid (PP.out.step hlt)
      have MX := Lib.hid (MV.out.putN (k * 3) (k0 + 3 * (k : Int)) 3)
      have cs : ((3 : Nat) : Int) = 3 := rfl
      rw [cs] at NX; simp only [putN, incr, Nat.add_zero] at NX MX
      generalize hK : k0 + 3 * (k : Int) = K at NX MX ⊢
      have HK := Lib.hid hK
      have b0 : 0 ≤ K := by omega
      have b1 : K ≤ 9000000000007400000 := by omega
      have i4 : (k : Int) < n := by omega
      clear hK le1 cs; go_wp2
      go_roundw
      case rel => exact ⟨⟨k + 1, by omega, by go_num, by have := HK.out; first | (congr 1; omega) | go_num, NX.out⟩, MX.out⟩
      case measure => simp [intOf]; omega
    · obtain rfl : k = n := by omega
      have i4 : ¬ (k : Int) < k := by omega
      go_wp2; go_ret
      exact ⟨rfl, PP.out.held, MV.out⟩
set_option maxHeartbeats 4000000 in
theorem markE_lg (g n c : Nat) (k0 : Int) (w : World) (hn : n ≤ 1048576) (h0 : 0 ≤ k0) (h1 : k0 ≤ 9000000000000000000) (hP : IntsOwn w g (n * 6)) :
    Calls Try.prog 32 #[.slice (some ⟨g, 0, none⟩) n c, .int .i64 k0] w fun x w' => x = .returned (.int .i64 (k0 + 6 * (n : Int))) ∧ Held w' (some ⟨g, 0, none⟩) n 6 k0 ∧ Mv g w w' := by
  have HP := Lib.hid (show HeldTo w g n 6 0 k0 from ⟨hP, fun i hi => absurd hi (by omega)⟩)
  clear hP
  go_enter Try.func32, Try.ntmps32
  go_wp2
  go_loopw [1, 5] (fun m i wr => (∃ k : Nat, k ≤ n ∧ i = .int .i64 k ∧ m = .int .i64 (k0 + 6 * (k : Int)) ∧ HeldTo wr g n 6 k k0) ∧ Mv g w wr) (fun _ i _ => n - (intOf i).toNat)
  case atStart => exact ⟨⟨0, by omega, rfl, by first | rfl | simp, HP.out⟩, Mv.refl _ _⟩
  case round =>
    obtain ⟨⟨k, hk, rfl, rfl, hp⟩, mv⟩ := hrel
    have PP := Lib.hid hp
    have MV := Lib.hid mv
    have hg := hp.1.1
    clear hp mv
    by_cases hlt : k < n
    · have le1 : k * 6 + 6 ≤ n * 6 := by omega
      obtain ⟨⟨v0, s0⟩, f0⟩ := PP.out.1.2 (k * 6) (by omega); obtain ⟨⟨v1, s1⟩, f1⟩ := PP.out.1.2 (k * 6 + 1) (by omega); obtain ⟨⟨v2, s2⟩, f2⟩ := PP.out.1.2 (k * 6 + 2) (by omega); obtain ⟨⟨v3, s3⟩, f3⟩ := PP.out.1.2 (k * 6 + 3) (by omega); obtain ⟨⟨v4, s4⟩, f4⟩ := PP.out.1.2 (k * 6 + 4) (by omega); obtain ⟨⟨v5, s5⟩, f5⟩ := PP.out.1.2 (k * 6 + 5) (by omega)
      have NX := Lib.hid (PP.out.step hlt)
      have MX := Lib.hid (MV.out.putN (k * 6) (k0 + 6 * (k : Int)) 6)
      have cs : ((6 : Nat) : Int) = 6 := rfl
      rw [cs] at NX; simp only [putN, incr, Nat.add_zero] at NX MX
      generalize hK : k0 + 6 * (k : Int) = K at NX MX ⊢
      have HK := Lib.hid hK
      have b0 : 0 ≤ K := by omega
      have b1 : K ≤ 9000000000007400000 := by omega
      have i4 : (k : Int) < n := by omega
      clear hK le1 cs; go_wp2
      go_roundw
      case rel => exact ⟨⟨k + 1, by omega, by go_num, by have := HK.out; first | (congr 1; omega) | go_num, NX.out⟩, MX.out⟩
      case measure => simp [intOf]; omega
    · obtain rfl : k = n := by omega
      have i4 : ¬ (k : Int) < k := by omega
      go_wp2; go_ret
      exact ⟨rfl, PP.out.held, MV.out⟩
set_option maxHeartbeats 4000000 in
theorem markR_lg (g n c : Nat) (k0 : Int) (w : World) (hn : n ≤ 1048576) (h0 : 0 ≤ k0) (h1 : k0 ≤ 9000000000000000000) (hP : IntsOwn w g (n * 7)) :
    Calls Try.prog 88 #[.slice (some ⟨g, 0, none⟩) n c, .int .i64 k0] w fun x w' => x = .returned (.int .i64 (k0 + 7 * (n : Int))) ∧ Held w' (some ⟨g, 0, none⟩) n 7 k0 ∧ Mv g w w' := by
  have HP := Lib.hid (show HeldTo w g n 7 0 k0 from ⟨hP, fun i hi => absurd hi (by omega)⟩)
  clear hP
  go_enter Try.func88, Try.ntmps88
  go_wp2
  go_loopw [1, 5] (fun m i wr => (∃ k : Nat, k ≤ n ∧ i = .int .i64 k ∧ m = .int .i64 (k0 + 7 * (k : Int)) ∧ HeldTo wr g n 7 k k0) ∧ Mv g w wr) (fun _ i _ => n - (intOf i).toNat)
  case atStart => exact ⟨⟨0, by omega, rfl, by first | rfl | simp, HP.out⟩, Mv.refl _ _⟩
  case round =>
    obtain ⟨⟨k, hk, rfl, rfl, hp⟩, mv⟩ := hrel
    have PP := Lib.hid hp
    have MV := Lib.hid mv
    have hg := hp.1.1
    clear hp mv
    by_cases hlt : k < n
    · have le1 : k * 7 + 7 ≤ n * 7 := by omega
      obtain ⟨⟨v0, s0⟩, f0⟩ := PP.out.1.2 (k * 7) (by omega); obtain ⟨⟨v1, s1⟩, f1⟩ := PP.out.1.2 (k * 7 + 1) (by omega); obtain ⟨⟨v2, s2⟩, f2⟩ := PP.out.1.2 (k * 7 + 2) (by omega); obtain ⟨⟨v3, s3⟩, f3⟩ := PP.out.1.2 (k * 7 + 3) (by omega); obtain ⟨⟨v4, s4⟩, f4⟩ := PP.out.1.2 (k * 7 + 4) (by omega); obtain ⟨⟨v5, s5⟩, f5⟩ := PP.out.1.2 (k * 7 + 5) (by omega); obtain ⟨⟨v6, s6⟩, f6⟩ := PP.out.1.2 (k * 7 + 6) (by omega)
      have NX := Lib.hid (PP.out.step hlt)
      have MX := Lib.hid (MV.out.putN (k * 7) (k0 + 7 * (k : Int)) 7)
      have cs : ((7 : Nat) : Int) = 7 := rfl
      rw [cs] at NX; simp only [putN, incr, Nat.add_zero] at NX MX
      generalize hK : k0 + 7 * (k : Int) = K at NX MX ⊢
      have HK := Lib.hid hK
      have b0 : 0 ≤ K := by omega
      have b1 : K ≤ 9000000000007400000 := by omega
      have i4 : (k : Int) < n := by omega
      clear hK le1 cs; go_wp2
      go_roundw
      case rel => exact ⟨⟨k + 1, by omega, by go_num, by have := HK.out; first | (congr 1; omega) | go_num, NX.out⟩, MX.out⟩
      case measure => simp [intOf]; omega
    · obtain rfl : k = n := by omega
      have i4 : ¬ (k : Int) < k := by omega
      go_wp2; go_ret
      exact ⟨rfl, PP.out.held, MV.out⟩
theorem markC_kl (lo : Nat) (A : Option Addr) (n c : Nat) (k0 : Int) (w : World) (hn : n ≤ 1048576) (h0 : 0 ≤ k0) (h1 : k0 ≤ 9000000000000000000) (h : Mkc w lo A n 3) :
    Calls Try.prog 87 #[.slice A n c, .int .i64 k0] w fun x w' => x = .returned (.int .i64 (k0 + 3 * (n : Int))) ∧ Held w' A n 3 k0 ∧ Wr lo A n w w' := by
  rcases Nat.eq_zero_or_pos n with hz | hz
  · subst hz
    refine (markC_no A c k0 w).mono ?_; rintro x w' ⟨rfl, u⟩
    exact ⟨by simp, Held.none_ _ _ _ _, .inl ⟨rfl, u⟩⟩
  · obtain ⟨g, rfl, hg, ho⟩ := h hz
    refine (markC_lg g n c k0 w hn h0 h1 ho).mono ?_; rintro x w' ⟨rfl, hh, m⟩
    exact ⟨rfl, hh, .inr ⟨hz, g, rfl, hg, m⟩⟩
theorem markE_kl (lo : Nat) (A : Option Addr) (n c : Nat) (k0 : Int) (w : World) (hn : n ≤ 1048576) (h0 : 0 ≤ k0) (h1 : k0 ≤ 9000000000000000000) (h : Mkc w lo A n 6) :
    Calls Try.prog 32 #[.slice A n c, .int .i64 k0] w fun x w' => x = .returned (.int .i64 (k0 + 6 * (n : Int))) ∧ Held w' A n 6 k0 ∧ Wr lo A n w w' := by
  rcases Nat.eq_zero_or_pos n with hz | hz
  · subst hz
    refine (markE_no A c k0 w).mono ?_; rintro x w' ⟨rfl, u⟩
    exact ⟨by simp, Held.none_ _ _ _ _, .inl ⟨rfl, u⟩⟩
  · obtain ⟨g, rfl, hg, ho⟩ := h hz
    refine (markE_lg g n c k0 w hn h0 h1 ho).mono ?_; rintro x w' ⟨rfl, hh, m⟩
    exact ⟨rfl, hh, .inr ⟨hz, g, rfl, hg, m⟩⟩
theorem markR_kl (lo : Nat) (A : Option Addr) (n c : Nat) (k0 : Int) (w : World) (hn : n ≤ 1048576) (h0 : 0 ≤ k0) (h1 : k0 ≤ 9000000000000000000) (h : Mkc w lo A n 7) :
    Calls Try.prog 88 #[.slice A n c, .int .i64 k0] w fun x w' => x = .returned (.int .i64 (k0 + 7 * (n : Int))) ∧ Held w' A n 7 k0 ∧ Wr lo A n w w' := by
  rcases Nat.eq_zero_or_pos n with hz | hz
  · subst hz
    refine (markR_no A c k0 w).mono ?_; rintro x w' ⟨rfl, u⟩
    exact ⟨by simp, Held.none_ _ _ _ _, .inl ⟨rfl, u⟩⟩
  · obtain ⟨g, rfl, hg, ho⟩ := h hz
    refine (markR_lg g n c k0 w hn h0 h1 ho).mono ?_; rintro x w' ⟨rfl, hh, m⟩
    exact ⟨rfl, hh, .inr ⟨hz, g, rfl, hg, m⟩⟩
set_option maxHeartbeats 4000000 in
theorem markSq_k (lo : Nat) (k0 : Int) (Ac : Option Addr) (nc cc : Nat) (Aw : Option Addr) (nw cw : Nat) (Al : Option Addr) (nl cl : Nat) (w : World) (hk : 0 ≤ k0 ∧ k0 ≤ 8000000000000000000) (h1 : nc ≤ 1048576) (h2 : nw ≤ 1048576) (h3 : nl ≤ 1048576)
    (m1 : Mkc w lo Ac nc 3) (m2 : Mkc w lo Aw nw 6) (m3 : Mkc w lo Al nl 7) (p12 : Ap Ac nc Aw nw) (p13 : Ap Ac nc Al nl) (p23 : Ap Aw nw Al nl) :
    Calls Try.prog 31 #[.agg #[.slice Ac nc cc, .slice Aw nw cw, .slice Al nl cl], .int .i64 k0] w fun x w' => x = .returned (.int .i64 (k0 + 3 * (nc : Int) + 6 * (nw : Int) + 7 * (nl : Int))) ∧ (∀ a, Up a w → a.heap.size ≤ lo → Up a w') ∧
      (∀ b, b < w.heap.size → (0 < nc → ∀ g, Ac = some ⟨g, 0, none⟩ → b ≠ g) → (0 < nw → ∀ g, Aw = some ⟨g, 0, none⟩ → b ≠ g) → (0 < nl → ∀ g, Al = some ⟨g, 0, none⟩ → b ≠ g) → w'.heap[b]? = w.heap[b]?) ∧ w.heap.size ≤ w'.heap.size := by
  have a12 := Lib.hid p12
  have a13 := Lib.hid p13
  have a21 := Lib.hid p12.symm
  have a23 := Lib.hid p23
  have a31 := Lib.hid p13.symm
  have a32 := Lib.hid p23.symm
  clear p12 p13 p23
  have ua := Lib.hid ((Up.refl w).alloc (.cells #[.slice Ac nc cc, .slice Aw nw cw, .slice Al nl cl] 62))
  have M1 := Lib.hid (m1.up ua.out)
  have M2 := Lib.hid (m2.up ua.out)
  have M3 := Lib.hid (m3.up ua.out)
  have BX := Lib.hid (Box3.new w (.slice Ac nc cc) (.slice Aw nw cw) (.slice Al nl cl) 62)
  have N2 := Lib.hid (fun b (hb : w.heap.size ≤ b) (h : 0 < nw) => (show ∀ g, Aw = some ⟨g, 0, none⟩ → g ≠ b from fun g hA e => by obtain ⟨g', h1, _, h3⟩ := m2 h; rw [h1] at hA; injection hA with hA; injection hA with hA _ _; have := h3.1; omega))
  have N1 := Lib.hid (fun b (hb : w.heap.size ≤ b) (h : 0 < nc) => (show ∀ g, Ac = some ⟨g, 0, none⟩ → g ≠ b from fun g hA e => by obtain ⟨g', h1, _, h3⟩ := m1 h; rw [h1] at hA; injection hA with hA; injection hA with hA _ _; have := h3.1; omega))
  clear m1 m2 m3
  go_enter Try.func31, Try.ntmps31
  go_wp2_with fail
  generalize hb : w.heap.size = bx at *
  generalize w.alloc (.cells #[.slice Ac nc cc, .slice Aw nw cw, .slice Al nl cl] 62) = W at *
  refine (markC_kl lo Ac nc cc k0 W h1 (by omega) (by omega) M1.out).mono ?_; rintro x w1 ⟨rfl, hh1, wr1⟩
  have H1 := Lib.hid hh1
  have R1 := Lib.hid wr1
  have M2 := Lib.hid (M2.out.wr wr1 a21.out)
  have M3 := Lib.hid (M3.out.wr wr1 a31.out)
  have BX := Lib.hid (BX.out.wr wr1 (fun h => N1.out bx (by omega) h))
  obtain ⟨q0, q1, q2⟩ := And.intro BX.out.c0 (And.intro BX.out.c1 BX.out.c2); clear hh1 wr1
  have K1 : 0 ≤ k0 + 3 * (nc : Int) ∧ k0 + 3 * (nc : Int) ≤ 8500000000000000000 := by omega
  go_wp2_with fail
  refine (markE_kl lo Aw nw cw (k0 + 3 * (nc : Int)) w1 h2 (by omega) (by omega) M2.out).mono ?_; rintro x w2 ⟨rfl, hh1, wr1⟩
  have H2 := Lib.hid hh1
  have R2 := Lib.hid wr1
  have H1 := Lib.hid (H1.out.wr wr1 a12.out)
  have M3 := Lib.hid (M3.out.wr wr1 a32.out)
  have BX := Lib.hid (BX.out.wr wr1 (fun h => N2.out bx (by omega) h))
  clear q0 q1 q2; obtain ⟨q0, q1, q2⟩ := And.intro BX.out.c0 (And.intro BX.out.c1 BX.out.c2); clear hh1 wr1
  have K2 : 0 ≤ k0 + 3 * (nc : Int) + 6 * (nw : Int) ∧ k0 + 3 * (nc : Int) + 6 * (nw : Int) ≤ 8600000000000000000 := by omega
  go_wp2_with fail
  refine (markR_kl lo Al nl cl (k0 + 3 * (nc : Int) + 6 * (nw : Int)) w2 h3 (by omega) (by omega) M3.out).mono ?_; rintro x w3 ⟨rfl, hh1, wr1⟩
  have UE := Lib.hid (fun a (ha : Up a w) (hl : a.heap.size ≤ lo) => (show Up a w3 from wr1.up (R2.out.up (R1.out.up (ha.trans ua.out) hl) hl) hl))
  have KB := Lib.hid (fun b (hb : b < w.heap.size) n1 n2 n3 => (wr1.block (Nat.lt_of_lt_of_le hb (Nat.le_trans ua.out.size (Nat.le_trans R1.out.size R2.out.size))) n3).trans ((R2.out.block (Nat.lt_of_lt_of_le hb (Nat.le_trans ua.out.size R1.out.size)) n2).trans ((R1.out.block (Nat.lt_of_lt_of_le hb ua.out.size) n1).trans (ua.out.below.block b hb))))
  have SE := Lib.hid (show w.heap.size ≤ w3.heap.size from Nat.le_trans ua.out.size (Nat.le_trans R1.out.size (Nat.le_trans R2.out.size wr1.size)))
  clear hh1 wr1 q0 q1 q2; go_wp2; go_ret
  exact ⟨rfl, UE.out, KB.out, SE.out⟩
end Go.Proofs.Ytklldniapombiaa

namespace Go.Proofs.Ytklldniapombiaa
set_option maxRecDepth 100000
open Go.RowKit
set_option maxHeartbeats 1000000 in
theorem szSq_sum (Ac : Option Addr) (nc cc : Nat) (Aw : Option Addr) (nw cw : Nat) (Al : Option Addr) (nl cl : Nat) (left : Int) (w : World) (h0 : 0 ≤ left) (h1 : left ≤ 1048576) (bc : nc ≤ 9223372036854775807) (bw : nw ≤ 9223372036854775807) (bl : nl ≤ 9223372036854775807) :
    Calls Try.prog 24 #[.agg #[.slice Ac nc cc, .slice Aw nw cw, .slice Al nl cl], .int .i64 left] w (Sized (ShortSq nc nw nl ∧ (nc : Int) + nw + nl ≤ left) left w) := by
  have C1 := Lib.hid (fun l W a b => szC_any Ac nc cc l W a b bc)
  have C2 := Lib.hid (fun l W a b => sz_any Aw nw cw l W a b bw)
  have C3 := Lib.hid (fun l W a b => szR_any Al nl cl l W a b bl)
  have BX := Lib.hid (Box3.new w (.slice Ac nc cc) (.slice Aw nw cw) (.slice Al nl cl) 56)
  have U1 := Lib.hid ((Up.refl w).alloc (.cells #[.slice Ac nc cc, .slice Aw nw cw, .slice Al nl cl] 56))
  have jm : (-1 : Int) < 0 := by omega
  go_enter Try.func24, Try.ntmps24
  go_wp2_with fail
  generalize w.alloc (.cells #[.slice Ac nc cc, .slice Aw nw cw, .slice Al nl cl] 56) = W at *
  obtain ⟨q0, q1, q2⟩ := And.intro BX.out.c0 (And.intro BX.out.c1 BX.out.c2); refine (C1.out left _ h0 h1).mono ?_; rintro x w1 ⟨rfl, rfl⟩
  by_cases i1 : left < nc
  · rw [if_pos i1]
    go_wp2; go_ret
    exact ⟨-1, rfl, .inl rfl, U1.out⟩
  · rw [if_neg i1]
    have j1 : ¬ left - nc < 0 := by omega
    generalize hl1 : left - (nc : Int) = l1 at j1 ⊢
    have k1 : 0 ≤ l1 ∧ l1 ≤ 1048576 ∧ l1 ≤ left := by omega
    go_wp2_with fail
    refine (C2.out l1 _ k1.1 (by omega)).mono ?_; rintro x w1 ⟨rfl, rfl⟩
    by_cases i2 : l1 < nw
    · rw [if_pos i2]
      go_wp2; go_ret
      exact ⟨-1, rfl, .inl rfl, U1.out⟩
    · rw [if_neg i2]
      have j2 : ¬ l1 - nw < 0 := by omega
      generalize hl2 : l1 - (nw : Int) = l2 at j2 ⊢
      have k2 : 0 ≤ l2 ∧ l2 ≤ 1048576 ∧ l2 ≤ left := by omega
      go_wp2_with fail
      refine (C3.out l2 _ k2.1 k2.2.1).mono ?_; rintro x w1 ⟨rfl, rfl⟩
      by_cases i3 : l2 < nl
      · rw [if_pos i3]
        go_wp2; go_ret
        exact ⟨-1, rfl, .inl rfl, U1.out⟩
      · rw [if_neg i3]
        have j3 : ¬ l2 - nl < 0 := by omega
        generalize hl3 : l2 - (nl : Int) = l3 at j3 ⊢
        have k3 : 0 ≤ l3 ∧ l3 ≤ left := by omega
        have SS := Lib.hid (show ShortSq nc nw nl ∧ (nc : Int) + nw + nl ≤ left from ⟨⟨by omega, by omega, by omega⟩, by omega⟩)
        go_wp2; go_ret
        exact ⟨l3, rfl, .inr ⟨k3.1, k3.2, SS.out⟩, U1.out⟩
end Go.Proofs.Ytklldniapombiaa

/-
  What markMdlModel returns, in one sentence: a number that is not negative, and only numbers in the model's own blocks are written; for every model of the call's own.
  The first rule of a kind and where it stands, in one sentence: defined over lists; no condition is made.
  What the two EvtRise return, in one sentence: whether each event is less than the next one; for every list that lies in memory.
-/
import Derived.Test.YtakmlfgkppekoaaDLEcdo01
import Derived.Test.YtakmlfgkppekoaaDLEcdo03
import Derived.Test.YtakmlfgkppekoaaDLEcdo04
import Derived.Test.YtakmlfgkppekoaaDLEcdo06
namespace Go.Proofs.Ytakmlfgkppekoaa
set_option maxRecDepth 100000
open Go.RowKit
set_option maxHeartbeats 4000000 in
theorem markSnd_any (lo hi : Nat) (A : Option Addr) (n c : Nat) (k0 : Int) (w : World) (hn : n ≤ 1048576) (h0 : 0 ≤ k0) (h1 : k0 ≤ 9000000000000000000) (hP : ShE lo hi w A n) :
    Calls Try.prog 151 #[.slice A n c, .int .i64 k0] w fun x w' => x = .returned (.int .i64 (k0 + 6 * (n : Int))) ∧ Ints lo hi w w' := by
  have HP := Lib.hid hP
  clear hP
  go_enter Try.func151, Try.ntmps151
  go_wp2
  go_loopw [1, 5] (fun m i wr => (∃ k : Nat, k ≤ n ∧ i = .int .i64 k ∧ m = .int .i64 (k0 + 6 * (k : Int))) ∧ Ints lo hi w wr) (fun _ i _ => n - (intOf i).toNat)
  case atStart => exact ⟨⟨0, by omega, rfl, by first | rfl | simp⟩, Ints.refl _⟩
  case round =>
    obtain ⟨⟨k, hk, rfl, rfl⟩, mv⟩ := hrel
    have MV := Lib.hid mv
    clear mv
    by_cases hlt : k < n
    · obtain ⟨b, off, hA, ⟨hl1, hl2, hl3⟩, hc⟩ := (HP.out.ints MV.out) (by omega)
      subst hA; obtain ⟨⟨v0, s0⟩, f0⟩ := hc k hlt 0 (by omega); obtain ⟨⟨v1, s1⟩, f1⟩ := hc k hlt 1 (by omega); obtain ⟨⟨v2, s2⟩, f2⟩ := hc k hlt 2 (by omega); obtain ⟨⟨v3, s3⟩, f3⟩ := hc k hlt 3 (by omega); obtain ⟨⟨v4, s4⟩, f4⟩ := hc k hlt 4 (by omega); obtain ⟨⟨v5, s5⟩, f5⟩ := hc k hlt 5 (by omega); rw [Nat.add_zero] at s0 f0; clear hc
      generalize hK : k0 + 6 * (k : Int) = K
      generalize ho : off + k * 6 = o at s0 s1 s2 s3 s4 s5 f0 f1 f2 f3 f4 f5
      have HO := Lib.hid ho
      have HK := Lib.hid hK
      have ne : ∀ i j, i ≠ j → (⟨b, o + i, none⟩ : Addr) ≠ ⟨b, o + j, none⟩ := fun i j hij => addr_ne (by omega)
      have ne0 : ∀ j, 0 ≠ j → (⟨b, o, none⟩ : Addr) ≠ ⟨b, o + j, none⟩ := fun j hj => addr_ne (by omega)
      have MX := Lib.hid (((((((MV.out.set (z' := K) s0 hl1 hl2).set (z' := K + 1) ((World.cell?_setCell_other _ _ _ _ (ne0 1 (by omega))).trans s1) hl1 hl2).set (z' := K + 1 + 1) ((World.cell?_setCell_other _ _ _ _ (ne 1 2 (by omega))).trans ((World.cell?_setCell_other _ _ _ _ (ne0 2 (by omega))).trans s2)) hl1 hl2).set (z' := K + 1 + 1 + 1) ((World.cell?_setCell_other _ _ _ _ (ne 2 3 (by omega))).trans ((World.cell?_setCell_other _ _ _ _ (ne 1 3 (by omega))).trans ((World.cell?_setCell_other _ _ _ _ (ne0 3 (by omega))).trans s3))) hl1 hl2).set (z' := K + 1 + 1 + 1 + 1) ((World.cell?_setCell_other _ _ _ _ (ne 3 4 (by omega))).trans ((World.cell?_setCell_other _ _ _ _ (ne 2 4 (by omega))).trans ((World.cell?_setCell_other _ _ _ _ (ne 1 4 (by omega))).trans ((World.cell?_setCell_other _ _ _ _ (ne0 4 (by omega))).trans s4)))) hl1 hl2).set (z' := K + 1 + 1 + 1 + 1 + 1) ((World.cell?_setCell_other _ _ _ _ (ne 4 5 (by omega))).trans ((World.cell?_setCell_other _ _ _ _ (ne 3 5 (by omega))).trans ((World.cell?_setCell_other _ _ _ _ (ne 2 5 (by omega))).trans ((World.cell?_setCell_other _ _ _ _ (ne 1 5 (by omega))).trans ((World.cell?_setCell_other _ _ _ _ (ne0 5 (by omega))).trans s5))))) hl1 hl2))
      have b0 : 0 ≤ K := by omega
      have b1 : K ≤ 9000000000007000000 := by omega
      have i4 : (k : Int) < n := by omega
      clear hK ne ne0; subst ho; go_wp2
      go_roundw
      case rel => exact ⟨⟨k + 1, by omega, by go_num, by have := HK.out; first | (congr 1; omega) | go_num⟩, MX.out⟩
      case measure => simp [intOf]; omega
    · obtain rfl : k = n := by omega
      have i4 : ¬ (k : Int) < k := by omega
      go_wp2; go_ret
      exact ⟨rfl, MV.out⟩
set_option maxHeartbeats 4000000 in
theorem markEvt_any (lo hi : Nat) (A : Option Addr) (n c : Nat) (k0 : Int) (w : World) (hn : n ≤ 1048576) (h0 : 0 ≤ k0) (h1 : k0 ≤ 9000000000000000000) (hP : ShE lo hi w A n) :
    Calls Try.prog 62 #[.slice A n c, .int .i64 k0] w fun x w' => x = .returned (.int .i64 (k0 + 6 * (n : Int))) ∧ Ints lo hi w w' := by
  have HP := Lib.hid hP
  clear hP
  go_enter Try.func62, Try.ntmps62
  go_wp2
  go_loopw [1, 5] (fun m i wr => (∃ k : Nat, k ≤ n ∧ i = .int .i64 k ∧ m = .int .i64 (k0 + 6 * (k : Int))) ∧ Ints lo hi w wr) (fun _ i _ => n - (intOf i).toNat)
  case atStart => exact ⟨⟨0, by omega, rfl, by first | rfl | simp⟩, Ints.refl _⟩
  case round =>
    obtain ⟨⟨k, hk, rfl, rfl⟩, mv⟩ := hrel
    have MV := Lib.hid mv
    clear mv
    by_cases hlt : k < n
    · obtain ⟨b, off, hA, ⟨hl1, hl2, hl3⟩, hc⟩ := (HP.out.ints MV.out) (by omega)
      subst hA; obtain ⟨⟨v0, s0⟩, f0⟩ := hc k hlt 0 (by omega); obtain ⟨⟨v1, s1⟩, f1⟩ := hc k hlt 1 (by omega); obtain ⟨⟨v2, s2⟩, f2⟩ := hc k hlt 2 (by omega); obtain ⟨⟨v3, s3⟩, f3⟩ := hc k hlt 3 (by omega); obtain ⟨⟨v4, s4⟩, f4⟩ := hc k hlt 4 (by omega); obtain ⟨⟨v5, s5⟩, f5⟩ := hc k hlt 5 (by omega); rw [Nat.add_zero] at s0 f0; clear hc
      generalize hK : k0 + 6 * (k : Int) = K
      generalize ho : off + k * 6 = o at s0 s1 s2 s3 s4 s5 f0 f1 f2 f3 f4 f5
      have HO := Lib.hid ho
      have HK := Lib.hid hK
      have ne : ∀ i j, i ≠ j → (⟨b, o + i, none⟩ : Addr) ≠ ⟨b, o + j, none⟩ := fun i j hij => addr_ne (by omega)
      have ne0 : ∀ j, 0 ≠ j → (⟨b, o, none⟩ : Addr) ≠ ⟨b, o + j, none⟩ := fun j hj => addr_ne (by omega)
      have MX := Lib.hid (((((((MV.out.set (z' := K) s0 hl1 hl2).set (z' := K + 1) ((World.cell?_setCell_other _ _ _ _ (ne0 1 (by omega))).trans s1) hl1 hl2).set (z' := K + 1 + 1) ((World.cell?_setCell_other _ _ _ _ (ne 1 2 (by omega))).trans ((World.cell?_setCell_other _ _ _ _ (ne0 2 (by omega))).trans s2)) hl1 hl2).set (z' := K + 1 + 1 + 1) ((World.cell?_setCell_other _ _ _ _ (ne 2 3 (by omega))).trans ((World.cell?_setCell_other _ _ _ _ (ne 1 3 (by omega))).trans ((World.cell?_setCell_other _ _ _ _ (ne0 3 (by omega))).trans s3))) hl1 hl2).set (z' := K + 1 + 1 + 1 + 1) ((World.cell?_setCell_other _ _ _ _ (ne 3 4 (by omega))).trans ((World.cell?_setCell_other _ _ _ _ (ne 2 4 (by omega))).trans ((World.cell?_setCell_other _ _ _ _ (ne 1 4 (by omega))).trans ((World.cell?_setCell_other _ _ _ _ (ne0 4 (by omega))).trans s4)))) hl1 hl2).set (z' := K + 1 + 1 + 1 + 1 + 1) ((World.cell?_setCell_other _ _ _ _ (ne 4 5 (by omega))).trans ((World.cell?_setCell_other _ _ _ _ (ne 3 5 (by omega))).trans ((World.cell?_setCell_other _ _ _ _ (ne 2 5 (by omega))).trans ((World.cell?_setCell_other _ _ _ _ (ne 1 5 (by omega))).trans ((World.cell?_setCell_other _ _ _ _ (ne0 5 (by omega))).trans s5))))) hl1 hl2))
      have b0 : 0 ≤ K := by omega
      have b1 : K ≤ 9000000000007000000 := by omega
      have i4 : (k : Int) < n := by omega
      clear hK ne ne0; subst ho; go_wp2
      go_roundw
      case rel => exact ⟨⟨k + 1, by omega, by go_num, by have := HK.out; first | (congr 1; omega) | go_num⟩, MX.out⟩
      case measure => simp [intOf]; omega
    · obtain rfl : k = n := by omega
      have i4 : ¬ (k : Int) < k := by omega
      go_wp2; go_ret
      exact ⟨rfl, MV.out⟩
set_option maxHeartbeats 4000000 in
theorem markRule_any (lo hi : Nat) (A : Option Addr) (n c : Nat) (k0 : Int) (w : World) (hn : n ≤ 1048576) (h0 : 0 ≤ k0) (h1 : k0 ≤ 7000000000000000000) (hP : ShR lo hi w A n) :
    Calls Try.prog 138 #[.slice A n c, .int .i64 k0] w fun x w' => ∃ z : Int, x = .returned (.int .i64 z) ∧ k0 ≤ z ∧ z ≤ k0 + 6291460 * (n : Int) ∧ Ints lo hi w w' := by
  have HP := Lib.hid hP
  have CL := Lib.hid (fun A n c k0 W a b d h => markSnd_any lo hi A n c k0 W a b d h)
  clear hP
  go_enter Try.func138, Try.ntmps138
  go_wp2
  go_loopw [1, 5] (fun m i wr => (∃ (k : Nat) (z : Int), k ≤ n ∧ i = .int .i64 k ∧ m = .int .i64 z ∧ k0 ≤ z ∧ z ≤ k0 + 6291460 * (k : Int)) ∧ Ints lo hi w wr) (fun _ i _ => n - (intOf i).toNat)
  case atStart => exact ⟨⟨0, k0, by omega, rfl, rfl, by omega, by omega⟩, Ints.refl _⟩
  case round =>
    obtain ⟨⟨k, K, hk, rfl, rfl, hz0, hz1⟩, mv⟩ := hrel
    have MV := Lib.hid mv
    clear mv
    by_cases hlt : k < n
    · obtain ⟨b, off, hA, ⟨hl1, hl2, hl3⟩, hc⟩ := (HP.out.ints MV.out) (by omega)
      subst hA; obtain ⟨hj, A', n', c', hs, hn', he⟩ := hc k hlt; obtain ⟨⟨v0, s0⟩, f0⟩ := hj 0 (by omega); obtain ⟨⟨v1, s1⟩, f1⟩ := hj 1 (by omega); obtain ⟨⟨v2, s2⟩, f2⟩ := hj 2 (by omega); obtain ⟨⟨v3, s3⟩, f3⟩ := hj 3 (by omega); rw [Nat.add_zero] at s0 f0; clear hc hj
      generalize ho : off + k * 5 = o at s0 s1 s2 s3 f0 f1 f2 f3 hs
      have ne : ∀ i j, i ≠ j → (⟨b, o + i, none⟩ : Addr) ≠ ⟨b, o + j, none⟩ := fun i j hij => addr_ne (by omega)
      have ne0 : ∀ j, 0 ≠ j → (⟨b, o, none⟩ : Addr) ≠ ⟨b, o + j, none⟩ := fun j hj => addr_ne (by omega)
      have mx := (((((Ints.refl (lo := lo) (hi := hi) wr).set (z' := K) s0 hl1 hl2).set (z' := K + 1) ((World.cell?_setCell_other _ _ _ _ (ne0 1 (by omega))).trans s1) hl1 hl2).set (z' := K + 1 + 1) ((World.cell?_setCell_other _ _ _ _ (ne 1 2 (by omega))).trans ((World.cell?_setCell_other _ _ _ _ (ne0 2 (by omega))).trans s2)) hl1 hl2).set (z' := K + 1 + 1 + 1) ((World.cell?_setCell_other _ _ _ _ (ne 2 3 (by omega))).trans ((World.cell?_setCell_other _ _ _ _ (ne 1 3 (by omega))).trans ((World.cell?_setCell_other _ _ _ _ (ne0 3 (by omega))).trans s3))) hl1 hl2)
      have HE := Lib.hid (he.ints mx)
      have MX := Lib.hid (MV.out.trans mx)
      have b0 : 0 ≤ K := by omega
      have b1 : K ≤ 7000007000000000000 := by omega
      have i4 : (k : Int) < n := by omega
      clear ne ne0 mx he; subst ho
      go_wp2_with fail
      refine (CL.out A' n' c' (K + 1 + 1 + 1 + 1) _ hn' (by omega) (by omega) HE.out).mono ?_; rintro x w1 ⟨rfl, m1⟩
      have MY := Lib.hid (MX.out.trans m1)
      clear m1
      generalize hK2 : K + 1 + 1 + 1 + 1 + 6 * (n' : Int) = K2
      have hK2a : k0 ≤ K2 := by omega
      have hK2b : K2 ≤ k0 + 6291460 * ((k + 1 : Nat) : Int) := by omega
      clear hK2; go_wp2
      go_roundw
      case rel => exact ⟨⟨k + 1, K2, by omega, by go_num, rfl, hK2a, hK2b⟩, MY.out⟩
      case measure => simp [intOf]; omega
    · obtain rfl : k = n := by omega
      have i4 : ¬ (k : Int) < k := by omega
      go_wp2; go_ret
      exact ⟨K, rfl, hz0, hz1, MV.out⟩
set_option maxHeartbeats 4000000 in
theorem markRulz_any (lo hi : Nat) (A : Option Addr) (n c : Nat) (w : World) (hn : n ≤ 1048576) (hP : ShZ lo hi w A n) :
    Calls Try.prog 107 #[.slice A n c, .int .i64 1] w fun x w' => ∃ z : Int, x = .returned (.int .i64 z) ∧ 1 ≤ z ∧ z ≤ 7000000000000000000 ∧ Ints lo hi w w' := by
  have HP := Lib.hid hP
  have CL := Lib.hid (fun A n c k0 W a b d h => markRule_any lo hi A n c k0 W a b d h)
  clear hP
  go_enter Try.func107, Try.ntmps107
  go_wp2
  go_loopw [1, 5] (fun m i wr => (∃ (k : Nat) (z : Int), k ≤ n ∧ i = .int .i64 k ∧ m = .int .i64 z ∧ 1 ≤ z ∧ z ≤ 1 + 6597073960960 * (k : Int)) ∧ Ints lo hi w wr) (fun _ i _ => n - (intOf i).toNat)
  case atStart => exact ⟨⟨0, 1, by omega, rfl, rfl, by omega, by omega⟩, Ints.refl _⟩
  case round =>
    obtain ⟨⟨k, K, hk, rfl, rfl, hz0, hz1⟩, mv⟩ := hrel
    have MV := Lib.hid mv
    clear mv
    by_cases hlt : k < n
    · obtain ⟨b, off, hA, hl3, hc⟩ := (HP.out.ints MV.out) (by omega)
      subst hA; obtain ⟨A', n', c', hs, hn', he⟩ := hc k hlt
      have HE := Lib.hid he
      have i4 : (k : Int) < n := by omega
      clear hc he
      go_wp2_with fail
      refine (CL.out A' n' c' K _ hn' (by omega) (by omega) HE.out).mono ?_; rintro x w1 ⟨K2, rfl, y0, y1, m1⟩
      have MY := Lib.hid (MV.out.trans m1)
      clear m1
      have hK2b : K2 ≤ 1 + 6597073960960 * ((k + 1 : Nat) : Int) := by omega
      go_wp2
      go_roundw
      case rel => exact ⟨⟨k + 1, K2, by omega, by go_num, rfl, by omega, hK2b⟩, MY.out⟩
      case measure => simp [intOf]; omega
    · obtain rfl : k = n := by omega
      have i4 : ¬ (k : Int) < k := by omega
      go_wp2; go_ret
      exact ⟨K, rfl, hz0, by omega, MV.out⟩
set_option maxHeartbeats 4000000 in
theorem markMdl_any (lo hi g1 g2 n c k d : Nat) (til : Int) (w : World) (hn : n ≤ 1048576) (hk : k ≤ 1048576) (h1 : ShZ lo hi w (some ⟨g1, 0, none⟩) n) (h2 : ShE lo hi w (some ⟨g2, 0, none⟩) k) (hw : hi ≤ w.heap.size) :
    Calls Try.prog 61 #[.agg #[.slice (some ⟨g1, 0, none⟩) n c, .slice (some ⟨g2, 0, none⟩) k d, .int .i64 til], .int .i64 1] w fun x w' => ∃ z : Int, x = .returned (.int .i64 z) ∧ 0 ≤ z ∧ z ≤ 8000000000000000000 ∧ Ints lo hi w w' := by
  have H1 := Lib.hid h1
  have H2 := Lib.hid h2
  have C1 := Lib.hid (fun W h => markRulz_any lo hi (some ⟨g1, 0, none⟩) n c W hn h)
  have C2 := Lib.hid (fun k0 W a b h => markEvt_any lo hi (some ⟨g2, 0, none⟩) k d k0 W hk a b h)
  have B0 := Lib.hid (Box3.new w (.slice (some ⟨g1, 0, none⟩) n c) (.slice (some ⟨g2, 0, none⟩) k d) (.int .i64 til) 33)
  clear h1 h2
  go_enter Try.func61, Try.ntmps61
  go_wp2_with fail
  refine (C1.out _ (H1.out.ints (((Up.refl w).alloc _).ints))).mono ?_; rintro x w1 ⟨K, rfl, y0, y1, m1⟩
  have MY := Lib.hid ((((Up.refl w).alloc _).ints (lo := lo) (hi := hi)).trans m1)
  have q1 := (m1.cells w.heap.size 1 (by simp) (.inr hw)).trans B0.out.c1
  have q2 := (m1.cells w.heap.size 0 (by simp) (.inr hw)).trans B0.out.c0
  clear m1
  go_wp2_with fail
  refine (C2.out K _ (by omega) (by omega) (H2.out.ints MY.out)).mono ?_; rintro x w2 ⟨rfl, m2⟩
  have MZ := Lib.hid (MY.out.trans m2)
  clear m2
  generalize hK2 : K + 6 * (k : Int) = K2
  have z0 : 0 ≤ K2 := by omega
  have z1 : K2 ≤ 8000000000000000000 := by omega
  clear hK2; go_wp2; go_ret
  exact ⟨K2, rfl, z0, z1, MZ.out⟩
end Go.Proofs.Ytakmlfgkppekoaa

namespace Go.Proofs.Ytakmlfgkppekoaa
set_option maxRecDepth 100000
open Go.RowKit
/-- The first rule of a kind. -/
def ruleOf (kd : Int) : List Rule → Option Rule
  | [] => none
  | r :: rs => if r.kd = kd then some r else ruleOf kd rs
theorem ruleOf_drop (kd : Int) (rs : List Rule) (k : Nat) (h : k < rs.length) : ruleOf kd (rs.drop k) = if (rs.getD k default).kd = kd then some (rs.getD k default) else ruleOf kd (rs.drop (k + 1)) := by
  rw [List.drop_eq_getElem_cons h, ruleOf]; simp [h]
/-- Where it stands. -/
def ixOf (kd : Int) : List Rule → Nat
  | [] => 0
  | r :: rs => if r.kd = kd then 0 else ixOf kd rs + 1
theorem ixOf_drop (kd : Int) (rs : List Rule) (k : Nat) (h : k < rs.length) : ixOf kd (rs.drop k) = if (rs.getD k default).kd = kd then 0 else ixOf kd (rs.drop (k + 1)) + 1 := by
  rw [List.drop_eq_getElem_cons h, ixOf]; simp [h]
theorem ixOf_at (kd : Int) : ∀ (rs : List Rule) (r : Rule), ruleOf kd rs = some r → ixOf kd rs < rs.length ∧ rs.getD (ixOf kd rs) default = r
  | [], _, h => by cases h
  | x :: rs, r, h => by
    rw [ruleOf] at h; rw [ixOf]
    by_cases hk : x.kd = kd
    · rw [if_pos hk] at h ⊢
      injection h with h
      exact ⟨by simp, by simpa using h⟩
    · rw [if_neg hk] at h ⊢
      obtain ⟨h1, h2⟩ := ixOf_at kd rs r h
      exact ⟨by simpa using h1, by simpa using h2⟩
/-- What the search gives. -/
def Found (A0 : Option Addr) (kd : Int) (rs : List Rule) (w : World) (x : Ending) (w' : World) : Prop :=
  Up w w' ∧ ((∃ r A n c, ruleOf kd rs = some r ∧ x = .returned (.tuple #[r.v (.slice A n c), .bool true]) ∧ n ≤ 9223372036854775807 ∧ Evs w' A n r.sends ∧ ∀ b off, A0 = some ⟨b, off, none⟩ → w.cell? ⟨b, off + ixOf kd rs * 5 + 4, none⟩ = some (.slice A n c)) ∨ (ruleOf kd rs = none ∧ x = .returned (.tuple #[.agg #[.int .i64 0, .int .i64 0, .int .i64 0, .int .i64 0, .slice none 0 0], .bool false])))
end Go.Proofs.Ytakmlfgkppekoaa

namespace Go.Proofs.Ytakmlfgkppekoaa
set_option maxRecDepth 100000
open Go.RowKit
set_option maxHeartbeats 1000000 in
theorem ascE_any (A : Option Addr) (n cap : Nat) (es : List Evt) (w : World) (hn : n ≤ 1000000000) (hE : Evs w A n es) :
    Calls Try.prog 132 #[.func (.func 102) #[] #[], .slice A n cap] w fun x w' => x = .returned (.bool (riseB es)) ∧ Up w w' := by
  have H0 := Lib.hid (show riseB (es.drop 0) = riseB es from rfl)
  have ST := Lib.hid (riseB_drop es)
  have EN := Lib.hid (riseB_end es)
  have HE := Lib.hid hE
  have LE := Lib.hid hE.1
  have CL := Lib.hid (fun a b W => cmpE_any a b W)
  clear hE
  go_enter Try.func132, Try.ntmps132
  go_wp2
  go_loopw [5] (fun i wr => (∃ j : Nat, (j = 0 ∨ j + 1 ≤ n) ∧ i = .int .i64 ((j : Int) + 1) ∧ riseB (es.drop j) = riseB es) ∧ Up w wr) (fun i _ => n + 1 - (intOf i).toNat)
  case atStart => exact ⟨⟨0, .inl rfl, rfl, H0.out⟩, Up.refl _⟩
  case round =>
    obtain ⟨⟨j, hj, rfl, hr⟩, ur⟩ := hrel
    have HR := Lib.hid hr
    clear hr
    by_cases hlt : j + 1 < n
    · obtain ⟨b, off, hA, hb, hc⟩ := HE.out.2 (by omega)
      subst hA
      have a0 := (hc j (by omega)).up ur hb
      have a1 := (hc (j + 1) hlt).up ur hb
      have hb' : b < wr.heap.size := by have := ur.size; omega
      clear hc
      have S := ST.out j (by rw [LE.out]; exact hlt)
      have cl := CL.out (es.getD j default) (es.getD (j + 1) default)
      generalize es.getD j default = p at a0 S cl
      generalize es.getD (j + 1) default = q at a1 S cl
      have S' := Lib.hid S
      clear S
      generalize hz : cmpE p q = z at cl
      have HZ := Lib.hid (show ltE p q = decide (z < 0) by unfold ltE; rw [hz])
      clear hz
      generalize ltE p q = r at S' HZ
      obtain ⟨pt, pto, pfr, psq, pkd, pdt⟩ := p; obtain ⟨qt, qto, qfr, qsq, qkd, qdt⟩ := q; unfold EvAt at a0 a1; unfold Evt.v at cl; dsimp only at a0 a1 cl; obtain ⟨p0, p1, p2, p3, p4, p5⟩ := a0; obtain ⟨q0, q1, q2, q3, q4, q5⟩ := a1
      have C := Lib.hid cl
      clear cl
      have i0 : IntKind.i64.wrap (j : Int) = j := IntWalk.i64_in _ (by omega)
      have i1 : (0 : Int) ≤ (j : Int) + 1 := by omega
      have i2 : ((j : Int) + 1).toNat = j + 1 := by omega
      have i3 : (j : Int) + 1 < n := by omega
      have i4 : (j : Int) < n := by omega
      go_wp2
      by_cases hz : z < 0
      · have hr : r = true := by rw [HZ.out]; exact decide_eq_true hz
        have HR2 := Lib.hid hr
        clear hr; refine region_up (by kernel_rfl) (by kernel_rfl) ?_; refine up_step rfl ?_; apply Exists.intro; refine ⟨fun w1 hw1 => ?_, ?_⟩
        · go_simp
          try rfl
        go_simp; refine up_step rfl ?_; apply Exists.intro; refine ⟨fun w1 hw1 => ?_, ?_⟩
        · go_simp
          try rfl
        go_simp; refine up_step rfl ?_; apply Exists.intro; refine ⟨fun w1 hw1 => ?_, ?_⟩
        · go_simp
          try rfl
        go_simp; refine up_step rfl ?_; apply Exists.intro; refine ⟨fun w1 hw1 => ?_, ?_⟩
        · go_simp
          try rfl
        go_simp; refine up_step rfl ?_; apply Exists.intro; refine ⟨fun w1 hw1 => ?_, ?_⟩
        · go_simp
          try rfl
        go_simp; refine up_step rfl ?_; apply Exists.intro; refine ⟨fun w1 hw1 => ?_, ?_⟩
        · obtain ⟨hc, hf, hz⟩ := hw1.facts
          try simp at hz
          go_simp
          try rfl
        go_simp; refine up_step rfl ?_; apply Exists.intro; refine ⟨fun w1 hw1 => ?_, ?_⟩
        · go_simp
          try rfl
        go_simp; refine up_step rfl ?_; apply Exists.intro; refine ⟨fun w1 hw1 => ?_, ?_⟩
        · go_simp
          try rfl
        go_simp; refine up_step rfl ?_; apply Exists.intro; refine ⟨fun w1 hw1 => ?_, ?_⟩
        · go_simp
          try rfl
        go_simp; refine up_step rfl ?_; apply Exists.intro; refine ⟨fun w1 hw1 => ?_, ?_⟩
        · obtain ⟨hc, hf, hz⟩ := hw1.facts
          try simp at hz
          go_simp
          try rfl
        go_simp; refine up_step rfl ?_; apply Exists.intro; refine ⟨fun w1 hw1 => ?_, ?_⟩
        · go_simp
          exact up_call hw1 (C.out _)
        go_simp; refine up_step rfl ?_; apply Exists.intro; refine ⟨fun w1 hw1 => ?_, ?_⟩
        · go_simp
          try rfl
        go_simp; refine wpQuiet_nil ?_; intro wA uA; clear i0 i1 i2 i3 i4 p0 p1 p2 p3 p4 p5 q0 q1 q2 q3 q4 q5 C; go_wp2
        go_roundw
        case rel => exact ⟨⟨j + 1, .inr (by omega), by go_num, by rw [← HR.out, S'.out, HR2.out]; rfl⟩, ur.trans uA⟩
        case measure => simp [intOf]; omega
      · have hz0 : 0 ≤ z := by omega
        have hr : r = false := by rw [HZ.out]; exact decide_eq_false hz
        have HR2 := Lib.hid hr
        clear hr; refine region_up (by kernel_rfl) (by kernel_rfl) ?_; refine up_step rfl ?_; apply Exists.intro; refine ⟨fun w1 hw1 => ?_, ?_⟩
        · go_simp
          try rfl
        go_simp; refine up_step rfl ?_; apply Exists.intro; refine ⟨fun w1 hw1 => ?_, ?_⟩
        · go_simp
          try rfl
        go_simp; refine up_step rfl ?_; apply Exists.intro; refine ⟨fun w1 hw1 => ?_, ?_⟩
        · go_simp
          try rfl
        go_simp; refine up_step rfl ?_; apply Exists.intro; refine ⟨fun w1 hw1 => ?_, ?_⟩
        · go_simp
          try rfl
        go_simp; refine up_step rfl ?_; apply Exists.intro; refine ⟨fun w1 hw1 => ?_, ?_⟩
        · go_simp
          try rfl
        go_simp; refine up_step rfl ?_; apply Exists.intro; refine ⟨fun w1 hw1 => ?_, ?_⟩
        · obtain ⟨hc, hf, hz⟩ := hw1.facts
          try simp at hz
          go_simp
          try rfl
        go_simp; refine up_step rfl ?_; apply Exists.intro; refine ⟨fun w1 hw1 => ?_, ?_⟩
        · go_simp
          try rfl
        go_simp; refine up_step rfl ?_; apply Exists.intro; refine ⟨fun w1 hw1 => ?_, ?_⟩
        · go_simp
          try rfl
        go_simp; refine up_step rfl ?_; apply Exists.intro; refine ⟨fun w1 hw1 => ?_, ?_⟩
        · go_simp
          try rfl
        go_simp; refine up_step rfl ?_; apply Exists.intro; refine ⟨fun w1 hw1 => ?_, ?_⟩
        · obtain ⟨hc, hf, hz⟩ := hw1.facts
          try simp at hz
          go_simp
          try rfl
        go_simp; refine up_step rfl ?_; apply Exists.intro; refine ⟨fun w1 hw1 => ?_, ?_⟩
        · go_simp
          exact up_call hw1 (C.out _)
        go_simp; refine up_step rfl ?_; apply Exists.intro; refine ⟨fun w1 hw1 => ?_, ?_⟩
        · go_simp
          try rfl
        go_simp; refine wpQuiet_nil ?_; intro wA uA; clear i0 i1 i2 i3 i4 p0 p1 p2 p3 p4 p5 q0 q1 q2 q3 q4 q5 C; go_wp2; go_ret
        exact ⟨ret_bool (by rw [← HR.out, S'.out, HR2.out]; rfl), ur.trans uA⟩
    · have e := EN.out j (by rw [LE.out]; omega)
      have E := Lib.hid e
      clear e; go_wp2; go_ret
      exact ⟨ret_bool (by rw [← HR.out, E.out]), ur⟩
theorem implRise_any (A : Option Addr) (n cap : Nat) (es : List Evt) (w : World) (hn : n ≤ 1000000000) (hE : Evs w A n es) :
    Calls Try.prog 100 #[.slice A n cap] w fun x w' => x = .returned (.bool (riseB es)) ∧ Up w w' := by
  have C := Lib.hid (ascE_any A n cap es w hn hE)
  generalize riseB es = r at C ⊢
  clear hE
  go_enter Try.func100, Try.ntmps100
  go_wp2_with fail
  refine C.out.mono ?_; rintro x w1 ⟨rfl, u⟩; go_wp2; go_ret
  exact ⟨rfl, u⟩
set_option maxHeartbeats 1000000 in
theorem specRise_any (A : Option Addr) (n cap : Nat) (es : List Evt) (w : World) (hn : n ≤ 1000000000) (hE : Evs w A n es) :
    Calls Try.prog 82 #[.slice A n cap] w fun x w' => x = .returned (.bool (riseB es)) ∧ Up w w' := by
  have H0 := Lib.hid (show riseB (es.drop 0) = riseB es from rfl)
  have ST := Lib.hid (riseB_drop es)
  have EN := Lib.hid (riseB_end es)
  have HE := Lib.hid hE
  have LE := Lib.hid hE.1
  have CL := Lib.hid (fun a b W => specLess_any a b W)
  clear hE
  go_enter Try.func82, Try.ntmps82
  go_wp2
  go_loopw [3] (fun i wr => (∃ j : Nat, (j = 0 ∨ j + 1 ≤ n) ∧ i = .int .i64 ((j : Int) + 1) ∧ riseB (es.drop j) = riseB es) ∧ Up w wr) (fun i _ => n + 1 - (intOf i).toNat)
  case atStart => exact ⟨⟨0, .inl rfl, rfl, H0.out⟩, Up.refl _⟩
  case round =>
    obtain ⟨⟨j, hj, rfl, hr⟩, ur⟩ := hrel
    have HR := Lib.hid hr
    clear hr
    by_cases hlt : j + 1 < n
    · obtain ⟨b, off, hA, hb, hc⟩ := HE.out.2 (by omega)
      subst hA
      have a0 := (hc j (by omega)).up ur hb
      have a1 := (hc (j + 1) hlt).up ur hb
      have hb' : b < wr.heap.size := by have := ur.size; omega
      clear hc
      have S := ST.out j (by rw [LE.out]; exact hlt)
      have cl := CL.out (es.getD j default) (es.getD (j + 1) default)
      generalize es.getD j default = p at a0 S cl
      generalize es.getD (j + 1) default = q at a1 S cl
      have S' := Lib.hid S
      clear S
      generalize ltE p q = r at S' cl
      obtain ⟨pt, pto, pfr, psq, pkd, pdt⟩ := p; obtain ⟨qt, qto, qfr, qsq, qkd, qdt⟩ := q; unfold EvAt at a0 a1; unfold Evt.v at cl; dsimp only at a0 a1 cl; obtain ⟨p0, p1, p2, p3, p4, p5⟩ := a0; obtain ⟨q0, q1, q2, q3, q4, q5⟩ := a1
      have C := Lib.hid cl
      clear cl
      have i0 : IntKind.i64.wrap (j : Int) = j := IntWalk.i64_in _ (by omega)
      have i1 : (0 : Int) ≤ (j : Int) + 1 := by omega
      have i2 : ((j : Int) + 1).toNat = j + 1 := by omega
      have i3 : (j : Int) + 1 < n := by omega
      have i4 : (j : Int) < n := by omega
      go_wp2; refine region_up (by kernel_rfl) (by kernel_rfl) ?_; refine up_step rfl ?_; apply Exists.intro; refine ⟨fun w1 hw1 => ?_, ?_⟩
      · go_simp
        try rfl
      go_simp; refine up_step rfl ?_; apply Exists.intro; refine ⟨fun w1 hw1 => ?_, ?_⟩
      · go_simp
        try rfl
      go_simp; refine up_step rfl ?_; apply Exists.intro; refine ⟨fun w1 hw1 => ?_, ?_⟩
      · go_simp
        try rfl
      go_simp; refine up_step rfl ?_; apply Exists.intro; refine ⟨fun w1 hw1 => ?_, ?_⟩
      · go_simp
        try rfl
      go_simp; refine up_step rfl ?_; apply Exists.intro; refine ⟨fun w1 hw1 => ?_, ?_⟩
      · obtain ⟨hc, hf, hz⟩ := hw1.facts
        try simp at hz
        go_simp
        try rfl
      go_simp; refine up_step rfl ?_; apply Exists.intro; refine ⟨fun w1 hw1 => ?_, ?_⟩
      · go_simp
        try rfl
      go_simp; refine up_step rfl ?_; apply Exists.intro; refine ⟨fun w1 hw1 => ?_, ?_⟩
      · go_simp
        try rfl
      go_simp; refine up_step rfl ?_; apply Exists.intro; refine ⟨fun w1 hw1 => ?_, ?_⟩
      · go_simp
        try rfl
      go_simp; refine up_step rfl ?_; apply Exists.intro; refine ⟨fun w1 hw1 => ?_, ?_⟩
      · obtain ⟨hc, hf, hz⟩ := hw1.facts
        try simp at hz
        go_simp
        try rfl
      go_simp; refine up_step rfl ?_; apply Exists.intro; refine ⟨fun w1 hw1 => ?_, ?_⟩
      · go_simp
        exact up_call hw1 (C.out _)
      go_simp; refine up_step rfl ?_; apply Exists.intro; refine ⟨fun w1 hw1 => ?_, ?_⟩
      · go_simp
        try rfl
      go_simp; refine wpQuiet_nil ?_; intro wA uA; clear i0 i1 i2 i3 i4 p0 p1 p2 p3 p4 p5 q0 q1 q2 q3 q4 q5 C
      cases r
      · go_wp2
        go_ret
        exact ⟨ret_bool (by rw [← HR.out, S'.out]; rfl), ur.trans uA⟩
      · go_wp2
        go_roundw
        case rel => exact ⟨⟨j + 1, .inr (by omega), by go_num, by rw [← HR.out, S'.out]; rfl⟩, ur.trans uA⟩
        case measure => simp [intOf]; omega
    · have e := EN.out j (by rw [LE.out]; omega)
      have E := Lib.hid e
      clear e; go_wp2; go_ret
      exact ⟨ret_bool (by rw [← HR.out, E.out]), ur⟩
end Go.Proofs.Ytakmlfgkppekoaa

/-
  What spec.l8Num returns, in one sentence: the number of a plain numeral of at most three digits, else -1; for every string.
-/
import Derived.Test.YtlkmhmiamdbhcaaDoorDLDsk06
namespace Go.Proofs.YtlkmhmiamdbhcaaDoor
set_option maxRecDepth 100000
open Go.RowKit
theorem val_snoc (l : List UInt8) (c : UInt8) : valN (l ++ [c]) = valN l * 10 + ((c.toNat : Int) - 48) := by
  unfold valN; rw [List.foldl_append]
  rfl
set_option maxHeartbeats 2000000 in
theorem num_any (t : List UInt8) (hl : t.length ≤ 2000000) (w : World) : Calls Tryd.prog 26 #[.string ⟨t.toArray⟩] w fun x w' => (∃ z, x = .returned (.int .i64 z) ∧ NumR t z) ∧ Up w w' := by
  have sz : (⟨t.toArray⟩ : ByteArray).size = t.length := by simp [ByteArray.size]
  by_cases h0 : t = []
  · subst h0
    go_enter Tryd.func26, Tryd.ntmps26
    go_wp2; go_ret
    exact ⟨⟨-1, rfl, .inl ⟨rfl, .inl rfl⟩⟩, Up.refl _⟩
  have l0 : 1 ≤ t.length := by cases t with | nil => exact absurd rfl h0 | cons c r => simp
  have e0 : ¬ (t.length : Int) = 0 := by omega
  have e1 : t.isEmpty = false := by cases t with | nil => exact absurd rfl h0 | cons c r => rfl
  by_cases h3 : 3 < t.length
  · have e3 : (3 : Int) < t.length := by omega
    go_enter Tryd.func26, Tryd.ntmps26
    go_wp2; go_ret
    exact ⟨⟨-1, rfl, .inl ⟨rfl, .inr (.inl h3)⟩⟩, Up.refl _⟩
  have e3 : ¬ (3 : Int) < t.length := by omega
  go_enter Tryd.func26, Tryd.ntmps26
  go_wp2
  go_loopw [3, 4] (fun nv iv wr => ∃ i : Nat, iv = .int .i64 i ∧ i ≤ t.length ∧ nv = .int .i64 (valN (t.take i)) ∧ (0 ≤ valN (t.take i) ∧ valN (t.take i) < (10 : Int) ^ i) ∧ Up w wr) (fun _ iv _ => t.length - (intOf iv).toNat)
  case atStart => exact ⟨0, rfl, by omega, rfl, by simp [valN], Up.refl _⟩
  case round =>
    obtain ⟨i, rfl, hi, rfl, hv, ur⟩ := hrel
    have UR := Lib.hid ur
    have p10 : (10 : Int) ^ i ≤ 1000 := by
      have : i = 0 ∨ i = 1 ∨ i = 2 ∨ i = 3 := by omega
      rcases this with rfl | rfl | rfl | rfl <;> decide
    clear ur
    by_cases hq : i = t.length
    · subst hq
      have tk : t.take t.length = t := List.take_length
      rw [tk] at hv ⊢
      have CP := Lib.hid (fun W => plain_any (valN t) (by omega) W)
      have NN := Lib.hid (fun (h : plainS (valN t) ≠ t) => (show NumR t (-1) from .inl ⟨rfl, .inr (.inr (.inr h))⟩))
      have NY := Lib.hid (show NumR t (valN t) from .inr ⟨rfl, by omega, by omega⟩)
      generalize hp : plainS (valN t) = l at CP NN
      go_wp2_with fail
      refine (CP.out _).mono ?_; rintro x w2 ⟨rfl, u⟩
      by_cases hd : l = t
      · have hd1 : (l == t) = true := by rw [hd]; exact BEq.rfl
        go_wp2; go_ret
        exact ⟨⟨_, rfl, NY.out⟩, UR.out.trans u⟩
      · have hd1 : (l == t) = false := by rw [beq_eq_false_iff_ne]; exact hd
        have hd2 : ¬ t = l := fun e => hd e.symm
        have NR := Lib.hid (NN.out hd)
        go_wp2; go_ret
        exact ⟨⟨_, rfl, NR.out⟩, UR.out.trans u⟩
    · have lt : i < t.length := by omega
      have lt2 : (i : Int) < t.length := by omega
      obtain ⟨c, hc⟩ : ∃ c, t[i]? = some c := ⟨_, List.getElem?_eq_getElem lt⟩
      have hg : (⟨t.toArray⟩ : ByteArray)[i]'(by omega) = c := by
        have h1 : t[i]'lt = c := by rw [List.getElem?_eq_getElem lt] at hc; exact Option.some.inj hc
        rw [← h1]
        rfl
      have hm : c ∈ t := List.mem_of_getElem? hc
      have tk : t.take (i + 1) = t.take i ++ [c] := by rw [List.take_add_one, hc]; rfl
      have i1 : IntKind.i64.wrap ((i : Int) + 1) = (i : Int) + 1 := IntWalk.i64_in _ (by omega)
      by_cases c48 : (c.toNat : Int) < 48
      · have NR := Lib.hid (show NumR t (-1) from .inl ⟨rfl, .inr (.inr (.inl ⟨c, hm, .inl (by omega)⟩))⟩)
        go_wp2; go_ret
        exact ⟨⟨_, rfl, NR.out⟩, UR.out⟩
      by_cases c57 : (57 : Int) < c.toNat
      · have NR := Lib.hid (show NumR t (-1) from .inl ⟨rfl, .inr (.inr (.inl ⟨c, hm, .inr (by omega)⟩))⟩)
        go_wp2; go_ret
        exact ⟨⟨_, rfl, NR.out⟩, UR.out⟩
      have VS := Lib.hid (show valN (t.take (i + 1)) = valN (t.take i) * 10 + ((c.toNat : Int) - 48) by rw [tk, val_snoc])
      generalize valN (t.take i) = v at hv VS ⊢
      have P := Lib.hid (show (10 : Int) ^ (i + 1) = 10 * (10 : Int) ^ i by rw [Int.pow_succ]; omega)
      have HC := Lib.hid (show 48 ≤ c.toNat ∧ c.toNat ≤ 57 by omega)
      go_wp2
      go_roundw
      case rel =>
        have := HC.out
        exact ⟨i + 1, rfl, by omega, by rw [VS.out], ⟨by rw [VS.out]; omega, by rw [VS.out, P.out]; omega⟩, UR.out⟩
      case measure => simp [intOf]; omega
end Go.Proofs.YtlkmhmiamdbhcaaDoor

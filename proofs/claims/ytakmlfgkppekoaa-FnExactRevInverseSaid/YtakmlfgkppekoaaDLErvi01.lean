/-
  What all texts of this seat share, in one sentence: the event as six numbers, its cells, and small facts on memory; no condition is made.
  How a law's arguments are opened, in one sentence: an event by value gives its six numbers, a slice of events its cells; no condition is made.
  What within, l1In and the two EvtOk return, in one sentence: the bool that the fields' bounds give; for every event and every number of components of 64 bits.
  Inverses modulo 97, in one sentence: numbers, and one step of the Euclidean algorithm; no condition is made.
  What spec.RevInverse returns, in one sentence: the inverse modulo 97, and 0 where there is none; for every number.
  What minus, inverse and impl.RevInverse return, in one sentence: the difference and the inverse modulo 97, and 0 where there is none; for numbers in bounds, RevInverse for every number.
  What FnExactRevInverse returns, in one sentence: true, with new blocks alone; for every number.
  For every number the law FnExactRevInverse returns true and leaves its argument as it was; no condition.
-/
import Derived.Below
import Derived.BigQuiet
import Derived.ChangeOld
import Derived.ChangeSame
import Derived.Deep.Fields
import Derived.Deep.QuietTactic
import Derived.Deep.Slices
import Derived.Laws.Bits64
import Derived.Lib.Hide
import Derived.Lib.SmallJoins
import Derived.OpenShut
import Derived.Outline
import Derived.ProofKit
import Derived.ShutString
import Derived.StillTailTactics
import Derived.Test.YtakmlfgkppekoaaChecked
import Derived.Test.YtakmlfgkppekoaaProg
import Derived.Test.YtakmlfgkppekoaaRows
import Derived.WalkKit
import Derived.WalkSmall
namespace Go.Proofs.Ytakmlfgkppekoaa
set_option maxRecDepth 100000
open Go.RowKit
/-- An event: its six numbers. -/
structure Evt where
  t : Int
  to : Int
  fr : Int
  sq : Int
  kd : Int
  dt : Int
deriving DecidableEq
instance : Inhabited Evt := ⟨⟨0, 0, 0, 0, 0, 0⟩⟩
/-- A number of 64 bits. -/
def I64 (n : Int) : Prop := -9223372036854775808 ≤ n ∧ n ≤ 9223372036854775807
/-- lo ≤ n ≤ hi. -/
def inB (n lo hi : Int) : Bool := decide (lo ≤ n) && decide (n ≤ hi)
theorem inB_iff {n lo hi : Int} : inB n lo hi = true ↔ lo ≤ n ∧ n ≤ hi := by simp [inB]
theorem inB_no {n lo hi : Int} : inB n lo hi = false ↔ ¬ (lo ≤ n ∧ n ≤ hi) := by rw [← inB_iff]; simp
/-- w' is w with new blocks; all that was there is as it was. -/
def Up (w w' : World) : Prop := Below w.heap.size w w'
theorem Up.refl (w : World) : Up w w := Below.refl _ _
theorem Up.size {w w' : World} (h : Up w w') : w.heap.size ≤ w'.heap.size := Below.size h
theorem Up.trans {a b c : World} (h : Up a b) (k : Up b c) : Up a c := Below.trans h (Below.mono k h.size)
theorem Up.drewN {a w : World} (h : Up a w) (n : Nat) : Up a (w.drewN n) := below_drewN h n
theorem ret_bool {a b : Bool} (h : a = b) : Ending.returned (.bool a) = .returned (.bool b) := by rw [h]
theorem ret_int {a b : Int} (h : a = b) : Ending.returned (.int .i64 a) = .returned (.int .i64 b) := by rw [h]
end Go.Proofs.Ytakmlfgkppekoaa

namespace Go.Proofs.Ytakmlfgkppekoaa
set_option maxRecDepth 100000
open Go.ChangeShapes Go.WideShapes Go.ChangeAt Go.RowKit Go.Joins Go.Deep
set_option linter.unusedVariables false
theorem own : ownKnob Try.prog.godebug = none := by kernel_rfl
theorem laidOut : laidOutB Try.prog = true := by kernel_rfl
section
variable {H : Type} {enc : TypeId × Value → H} {P : Program} {w : World} {base : Nat} {spare : Nat → Bool} {held : Bool}
end
theorem i64_of_wf {n : Int} (h : (Lit.int .i64 n).wf = true) : I64 n := by
  simpa [I64, Lit.wf, IntKind.min, IntKind.max, IntKind.signed, IntKind.bits] using h
end Go.Proofs.Ytakmlfgkppekoaa

namespace Go.Proofs.Ytakmlfgkppekoaa
set_option maxRecDepth 100000
open Go.RowKit
theorem within_any (n lo hi : Int) (w : World) :
    Calls Try.prog 65 #[.int .i64 n, .int .i64 lo, .int .i64 hi] w fun e w' => e = .returned (.bool (inB n lo hi)) ∧ w = w' := by
  by_cases h1 : lo ≤ n
  · by_cases h2 : n ≤ hi
    · have hf := inB_iff.2 ⟨h1, h2⟩
      go_enter Try.func65, Try.ntmps65
      go_wp2; go_ret
      exact ⟨by first | rfl | exact ret_bool hf.symm, rfl⟩
    · have hf : inB n lo hi = false := inB_no.2 fun h => h2 h.2
      go_enter Try.func65, Try.ntmps65
      go_wp2; go_ret
      exact ⟨by first | rfl | exact ret_bool hf.symm, rfl⟩
  · have hf : inB n lo hi = false := inB_no.2 fun h => h1 h.1
    go_enter Try.func65, Try.ntmps65
    go_wp2; go_ret
    exact ⟨by first | rfl | exact ret_bool hf.symm, rfl⟩
theorem l1In_any (n lo hi : Int) (w : World) :
    Calls Try.prog 64 #[.int .i64 n, .int .i64 lo, .int .i64 hi] w fun e w' => e = .returned (.bool (inB n lo hi)) ∧ w = w' := by
  by_cases h1 : lo ≤ n
  · by_cases h2 : n ≤ hi
    · have hf := inB_iff.2 ⟨h1, h2⟩
      go_enter Try.func64, Try.ntmps64
      go_wp2; go_ret
      exact ⟨by first | rfl | exact ret_bool hf.symm, rfl⟩
    · have hf : inB n lo hi = false := inB_no.2 fun h => h2 h.2
      go_enter Try.func64, Try.ntmps64
      go_wp2; go_ret
      exact ⟨by first | rfl | exact ret_bool hf.symm, rfl⟩
  · have hf : inB n lo hi = false := inB_no.2 fun h => h1 h.1
    go_enter Try.func64, Try.ntmps64
    go_wp2; go_ret
    exact ⟨by first | rfl | exact ret_bool hf.symm, rfl⟩
end Go.Proofs.Ytakmlfgkppekoaa

namespace Go.Proofs.Ytakmlfgkppekoaa
set_option maxRecDepth 100000
open Go.RowKit
/-- The inverse modulo 97. -/
def invN (a : Nat) : Nat := a ^ 95 % 97
def invT : Bool := (List.range 97).all fun a => a == 0 || (List.range 97).all fun b => (a * b % 97 == 1) == (b == invN a)
theorem invT_true : invT = true := by decide +kernel
theorem invN_iff {a b : Nat} (ha : 0 < a) (h97 : a < 97) (hb : b < 97) : a * b % 97 = 1 ↔ b = invN a := by
  have h := invT_true
  unfold invT at h; rw [List.all_eq_true] at h
  have h1 := h a (List.mem_range.2 h97)
  rw [Bool.or_eq_true] at h1
  rcases h1 with h1 | h1
  · have h1 := eq_of_beq h1
    omega
  · rw [List.all_eq_true] at h1
    have h2 := eq_of_beq (h1 b (List.mem_range.2 hb))
    rw [Bool.eq_iff_iff, beq_iff_eq, beq_iff_eq] at h2
    exact h2
theorem invN_lt (a : Nat) : invN a < 97 := Nat.mod_lt _ (by decide)
theorem invN_mul {a : Nat} (ha : 0 < a) (h97 : a < 97) : a * invN a % 97 = 1 := (invN_iff ha h97 (invN_lt a)).2 rfl
theorem invN_pos {a : Nat} (ha : 0 < a) (h97 : a < 97) : 0 < invN a := by
  rcases Nat.eq_zero_or_pos (invN a) with h | h
  · have := invN_mul ha h97
    rw [h] at this; simp at this
  · exact h
/-- What RevInverse returns. -/
def invV (a : Int) : Int := if inB a 1 96 = true then ((invN a.toNat : Nat) : Int) else 0
theorem invV_in {a : Int} (h : 1 ≤ a ∧ a ≤ 96) : invV a = ((invN a.toNat : Nat) : Int) := by
  unfold invV; rw [if_pos (inB_iff.2 h)]
theorem invV_no {a : Int} (h : ¬ (1 ≤ a ∧ a ≤ 96)) : invV a = 0 := by
  unfold invV; rw [if_neg (by rw [inB_iff]; exact h)]
theorem invV_le (a : Int) : 0 ≤ invV a ∧ invV a ≤ 96 := by
  by_cases h : 1 ≤ a ∧ a ≤ 96
  · rw [invV_in h]
    have := invN_lt a.toNat
    omega
  · rw [invV_no h]
    omega
theorem invV_pos {a : Int} (h : 1 ≤ a ∧ a ≤ 96) : 1 ≤ invV a := by
  rw [invV_in h]
  have := @invN_pos a.toNat (by omega) (by omega)
  omega
theorem castm (a b : Nat) : ((a : Int) * (b : Int)) % 97 = ((a * b % 97 : Nat) : Int) := by
  rw [Int.natCast_emod, Int.natCast_mul]
  rfl
theorem invV_iff {a b : Int} (h : 1 ≤ a ∧ a ≤ 96) (hb : 0 ≤ b ∧ b ≤ 96) : a * b % 97 = 1 ↔ b = invV a := by
  obtain ⟨x, rfl⟩ : ∃ x : Nat, a = x := ⟨a.toNat, by omega⟩; obtain ⟨y, rfl⟩ : ∃ y : Nat, b = y := ⟨b.toNat, by omega⟩; rw [invV_in h, castm, Int.toNat_natCast]
  have := @invN_iff x y (by omega) (by omega) (by omega)
  omega
/-- A step of the Euclidean algorithm. -/
structure Eu (r a b s t : Nat) : Prop where
  a97 : a ≤ 97
  b97 : b < 97
  s97 : s < 97
  t97 : t < 97
  sa : s * r % 97 = a % 97
  tb : t * r % 97 = b % 97
  one : Nat.gcd a b = 1
theorem Eu.start {r : Nat} (h : 0 < r) (h97 : r < 97) : Eu r 97 r 0 1 :=
  ⟨by omega, h97, by omega, by omega, by simp, by simp, by
    have hall : ((List.range 97).all fun r => r == 0 || Nat.gcd 97 r == 1) = true := by decide +kernel
    rw [List.all_eq_true] at hall
    have h1 := hall r (List.mem_range.2 h97)
    rw [Bool.or_eq_true] at h1
    rcases h1 with h1 | h1
    · have h1 := eq_of_beq h1
      omega
    · exact eq_of_beq h1⟩
theorem Eu.next {r a b s t : Nat} (h : Eu r a b s t) (hb : 0 < b) : Eu r b (a % b) t ((s + 97 - a / b * t % 97) % 97) := by
  have hlt := Nat.mod_lt a hb
  have h97 := h.b97
  refine ⟨by omega, by omega, h.t97, Nat.mod_lt _ (by decide), h.tb, ?_, ?_⟩
  · have y97 : a / b * t % 97 < 97 := Nat.mod_lt _ (by decide)
    have e1 : ((s + 97 - a / b * t % 97) % 97 + a / b * t % 97) % 97 = s % 97 := by
      have := h.s97
      omega
    have e2 : (((s + 97 - a / b * t % 97) % 97 + a / b * t % 97) * r) % 97 = (s * r) % 97 := by
      rw [Nat.mul_mod, e1, ← Nat.mul_mod]
    rw [Nat.add_mul, Nat.add_mod, h.sa] at e2
    have e3 : (a / b * t % 97 * r) % 97 = (a / b * b) % 97 := by
      rw [Nat.mul_mod, Nat.mod_mod, ← Nat.mul_mod, Nat.mul_assoc, Nat.mul_mod, h.tb, ← Nat.mul_mod]
    rw [e3] at e2
    have e4 : a / b * b + a % b = a := by
      rw [Nat.mul_comm]
      exact Nat.div_add_mod a b
    generalize (s + 97 - a / b * t % 97) % 97 * r = X at *
    generalize a / b * b = Y at *
    generalize a % b = Z at *
    omega
  · rw [← h.one, Nat.gcd_comm a b, Nat.gcd_rec b a, Nat.gcd_comm]
theorem Eu.done {r a s t : Nat} (h : Eu r a 0 s t) (hr : 0 < r) (h97 : r < 97) : s = invN r := by
  have h1 := h.one
  rw [Nat.gcd_zero_right] at h1
  have h2 := h.sa
  rw [h1, Nat.mul_comm] at h2
  exact (invN_iff hr h97 h.s97).1 h2
end Go.Proofs.Ytakmlfgkppekoaa

namespace Go.Proofs.Ytakmlfgkppekoaa
set_option maxRecDepth 100000
open Go.RowKit
set_option maxHeartbeats 4000000 in
theorem specRvi_any (a : Int) (w : World) :
    Calls Try.prog 16 #[.int .i64 a] w fun x w' => x = .returned (.int .i64 (invV a)) ∧ w = w' := by
  by_cases hin : 1 ≤ a ∧ a ≤ 96
  · have HV := Lib.hid (fun b hb => invV_iff (b := b) hin hb)
    have HP := Lib.hid (And.intro (invV_pos hin) (invV_le a).2)
    generalize invV a = r at HV HP ⊢
    have hb : inB a 1 96 = true := inB_iff.2 hin
    go_enter Try.func16, Try.ntmps16
    go_wp2
    go_loopw [3] (fun i wr => (∃ q : Nat, 1 ≤ q ∧ (q : Int) ≤ r ∧ i = .int .i64 q) ∧ w = wr) (fun i _ => 97 - (intOf i).toNat)
    case atStart => exact ⟨⟨1, by omega, by have := HP.out; omega, rfl⟩, rfl⟩
    case round =>
      obtain ⟨⟨q, hq, hqr, rfl⟩, rfl⟩ := hrel
      have hp := HP.out
      have i4 : (q : Int) < 97 := by omega
      have h0 : 0 ≤ a * (q : Int) := Int.mul_nonneg (by omega) (by omega)
      have h1 : a * (q : Int) ≤ 96 * 96 := Int.mul_le_mul hin.2 (by omega) (by omega) (by omega)
      have i1 : IntKind.i64.wrap (a * (q : Int)) = a * (q : Int) := IntWalk.i64_in _ (by omega)
      have i2 : (a * (q : Int)).tmod 97 = a * (q : Int) % 97 := Int.tmod_eq_emod_of_nonneg h0
      have i3 : IntKind.i64.wrap (a * (q : Int) % 97) = a * (q : Int) % 97 := IntWalk.i64_in _ (by omega)
      have i5 : IntKind.i64.wrap ((q : Int) + 1) = (q : Int) + 1 := IntWalk.i64_in _ (by omega)
      have hv := HV.out q (by omega)
      by_cases hq2 : (q : Int) = r
      · have hv1 : a * (q : Int) % 97 = 1 := hv.2 hq2
        have EQ := Lib.hid hq2
        clear hv hp hq2 h0 h1
        go_wp2_with (go_at_call 64; refine (l1In_any _ _ _ _).mono ?_; rintro e w' ⟨rfl, rfl⟩)
        go_ret
        exact ⟨ret_int EQ.out, rfl⟩
      · have hv1 : (a * (q : Int) % 97 == 1) = false := by
          rw [beq_eq_false_iff_ne]
          exact fun h => hq2 (hv.1 h)
        have LT := Lib.hid (show ((q + 1 : Nat) : Int) ≤ r by omega)
        clear hv hp hq2 h0 h1
        go_wp2_with (go_at_call 64; refine (l1In_any _ _ _ _).mono ?_; rintro e w' ⟨rfl, rfl⟩)
        go_roundw
        case rel => exact ⟨⟨q + 1, by omega, LT.out, by go_num⟩, by first | rfl | trivial⟩
        case measure => simp [intOf]; omega
  · have HV := Lib.hid (invV_no hin)
    have hb : inB a 1 96 = false := inB_no.2 hin
    clear hin
    go_enter Try.func16, Try.ntmps16
    go_wp2
    go_loopw [3] (fun i wr => (∃ q : Nat, q ≤ 97 ∧ i = .int .i64 q) ∧ w = wr) (fun i _ => 97 - (intOf i).toNat)
    case atStart => exact ⟨⟨1, by omega, rfl⟩, rfl⟩
    case round =>
      obtain ⟨⟨q, hq, rfl⟩, rfl⟩ := hrel
      by_cases hlt : q < 97
      · have i4 : (q : Int) < 97 := by omega
        have i5 : IntKind.i64.wrap ((q : Int) + 1) = (q : Int) + 1 := IntWalk.i64_in _ (by omega)
        go_wp2_with (go_at_call 64; refine (l1In_any _ _ _ _).mono ?_; rintro e w' ⟨rfl, rfl⟩)
        go_roundw
        case rel => exact ⟨⟨q + 1, by omega, by go_num⟩, by first | rfl | trivial⟩
        case measure => simp [intOf]; omega
      · have i4 : ¬ (q : Int) < 97 := by omega
        go_wp2; go_ret
        exact ⟨ret_int HV.out.symm, rfl⟩
end Go.Proofs.Ytakmlfgkppekoaa

namespace Go.Proofs.Ytakmlfgkppekoaa
set_option maxRecDepth 100000
open Go.RowKit
theorem timesw_any (x y : Int) (hx : 0 ≤ x ∧ x ≤ 1000) (hy : 0 ≤ y ∧ y ≤ 1000) (w : World) :
    Calls Try.prog 109 #[.int .i64 x, .int .i64 y] w fun z w' => z = .returned (.int .i64 (x * y % 97)) ∧ w = w' := by
  have h0 : 0 ≤ x * y := Int.mul_nonneg hx.1 hy.1
  have h1 : x * y ≤ 1000 * 1000 := Int.mul_le_mul hx.2 hy.2 hy.1 (by omega)
  have i1 : IntKind.i64.wrap (x * y) = x * y := IntWalk.i64_in _ (by omega)
  have i2 : (x * y).tmod 97 = x * y % 97 := Int.tmod_eq_emod_of_nonneg h0
  have i3 : IntKind.i64.wrap (x * y % 97) = x * y % 97 := IntWalk.i64_in _ (by omega)
  go_enter Try.func109, Try.ntmps109
  go_wp2; go_ret
  exact ⟨by first | rfl | simp [*], rfl⟩
theorem minus_any (x y : Int) (hx : 0 ≤ x ∧ x ≤ 1000) (hy : 0 ≤ y ∧ y ≤ 96) (w : World) :
    Calls Try.prog 108 #[.int .i64 x, .int .i64 y] w fun z w' => z = .returned (.int .i64 ((x - y + 97) % 97)) ∧ w = w' := by
  have i1 : IntKind.i64.wrap (x - y) = x - y := IntWalk.i64_in _ (by omega)
  have i4 : IntKind.i64.wrap (x - y + 97) = x - y + 97 := IntWalk.i64_in _ (by omega)
  have i2 : (x - y + 97).tmod 97 = (x - y + 97) % 97 := Int.tmod_eq_emod_of_nonneg (by omega)
  have i3 : IntKind.i64.wrap ((x - y + 97) % 97) = (x - y + 97) % 97 := IntWalk.i64_in _ (by omega)
  go_enter Try.func108, Try.ntmps108
  go_wp2; go_ret
  exact ⟨by first | rfl | simp [*], rfl⟩
set_option maxHeartbeats 4000000 in
theorem inverse_any (r : Int) (hr : 1 ≤ r ∧ r ≤ 96) (w : World) :
    Calls Try.prog 66 #[.int .i64 r] w fun x w' => x = .returned (.int .i64 (invV r)) ∧ Up w w' := by
  obtain ⟨r, rfl⟩ : ∃ x : Nat, r = x := ⟨r.toNat, by omega⟩
  have R0 : 0 < r := by omega
  have R9 : r < 97 := by omega
  have HV := Lib.hid (show invV (r : Int) = ((invN r : Nat) : Int) by rw [invV_in hr, Int.toNat_natCast])
  generalize invV (r : Int) = res at HV ⊢
  have HS := Lib.hid (Eu.start R0 R9)
  have HD := Lib.hid (fun a s t (h : Eu r a 0 s t) => h.done R0 R9)
  clear hr R0 R9
  go_enter Try.func66, Try.ntmps66
  go_wp2
  go_loopw [3, 4, 5, 6] (fun va vs vb vt wr => (∃ a s b t : Nat, va = .int .i64 a ∧ vs = .int .i64 s ∧ vb = .int .i64 b ∧ vt = .int .i64 t ∧ Hid (Eu r a b s t)) ∧ Up w wr) (fun _ _ vb _ _ => (intOf vb).toNat)
  case atStart => exact ⟨⟨97, 0, r, 1, rfl, rfl, rfl, rfl, HS⟩, Up.refl _⟩
  case round =>
    obtain ⟨⟨a, s, b, t, rfl, rfl, rfl, rfl, HE⟩, ur⟩ := hrel
    have E := HE.out
    have a97 := E.a97
    have b97 := E.b97
    have s97 := E.s97
    have t97 := E.t97
    by_cases hb : b = 0
    · subst hb
      have HZ := Lib.hid (HV.out.trans (by rw [HD.out a s t E]) : res = ((s : Nat) : Int))
      clear E; go_wp2; go_ret
      exact ⟨ret_int HZ.out.symm, ur⟩
    · have HN := Lib.hid (E.next (by omega))
      have hq : a / b ≤ 97 := Nat.le_trans (Nat.div_le_self _ _) a97
      have hbi : ¬ (b : Int) = 0 := by omega
      have hbb : ((b : Int) != 0) = true := by simp; omega
      have d1 : (a : Int).tdiv b = ((a / b : Nat) : Int) := by rw [Int.tdiv_eq_ediv_of_nonneg (by omega), Int.natCast_ediv]
      have d2 : (a : Int).tmod b = ((a % b : Nat) : Int) := by rw [Int.tmod_eq_emod_of_nonneg (by omega), Int.natCast_emod]
      have hml := Nat.mod_lt a (show b > 0 by omega)
      clear E
      generalize a / b = qn at *
      generalize a % b = rn at *
      have i1 : IntKind.i64.wrap (qn : Int) = qn := IntWalk.i64_in _ (by clear d1 d2; omega)
      have i2 : IntKind.i64.wrap (rn : Int) = rn := IntWalk.i64_in _ (by clear d1 d2; omega)
      have T1 := Lib.hid (fun W => (timesw_any (qn : Int) (t : Int) (by omega) (by omega) W))
      rw [castm] at T1
      have hy := Nat.mod_lt (qn * t) (show 97 > 0 by omega)
      generalize qn * t % 97 = y at *
      have M1 := Lib.hid (fun W => minus_any (s : Int) (y : Int) (by omega) (by omega) W)
      rw [show ((s : Int) - (y : Int) + 97) % 97 = (((s + 97 - y) % 97 : Nat) : Int) by omega] at M1
      generalize (s + 97 - y) % 97 = t2 at *
      have ML := Lib.hid hml
      clear hy hq a97 b97 s97 t97 hml HE HS
      go_wp2_with fail
      go_quiet (fail)
      go_wp2_with fail
      refine (T1.out _).mono ?_; rintro x w2 ⟨rfl, rfl⟩
      go_wp2_with fail
      refine (M1.out _).mono ?_; rintro x w3 ⟨rfl, rfl⟩; go_wp2
      go_roundw
      case rel => exact ⟨⟨b, t, rn, t2, rfl, rfl, rfl, rfl, HN⟩, ur.trans ((Up.refl _).drewN _)⟩
      case measure => have := ML.out; simp [intOf]; omega
theorem implRvi_any (a : Int) (w : World) :
    Calls Try.prog 17 #[.int .i64 a] w fun x w' => x = .returned (.int .i64 (invV a)) ∧ Up w w' := by
  by_cases hin : 1 ≤ a ∧ a ≤ 96
  · have CI := Lib.hid (fun W => inverse_any a hin W)
    have hb : inB a 1 96 = true := inB_iff.2 hin
    generalize invV a = r at CI ⊢
    go_enter Try.func17, Try.ntmps17
    go_wp2_with (go_at_call 65; refine (within_any _ _ _ _).mono ?_; rintro e w' ⟨rfl, rfl⟩)
    refine (CI.out _).mono ?_; rintro x w1 ⟨rfl, u1⟩; go_wp2; go_ret
    exact ⟨rfl, u1⟩
  · have HV := Lib.hid (invV_no hin)
    have hb : inB a 1 96 = false := inB_no.2 hin
    clear hin
    go_enter Try.func17, Try.ntmps17
    go_wp2_with (go_at_call 65; refine (within_any _ _ _ _).mono ?_; rintro e w' ⟨rfl, rfl⟩)
    go_ret
    exact ⟨ret_int HV.out.symm, Up.refl _⟩
end Go.Proofs.Ytakmlfgkppekoaa

namespace Go.Proofs.Ytakmlfgkppekoaa
set_option maxRecDepth 100000
open Go.RowKit
theorem walkErvi (a : Int) (w : World) :
    Calls Try.prog 3 #[.int .i64 a] w fun x w' => x = .returned (.bool true) ∧ Up w w' := by
  have CS := Lib.hid (fun W => specRvi_any a W)
  have CI := Lib.hid (fun W => implRvi_any a W)
  generalize invV a = r at CS CI
  have e0 : (r != r) = false := by simp
  go_enter Try.func3, Try.ntmps3
  go_wp2_with fail
  refine (CS.out _).mono ?_; rintro x w1 ⟨rfl, rfl⟩
  go_wp2_with fail
  refine (CI.out _).mono ?_; rintro x w2 ⟨rfl, u⟩; go_wp2; go_ret
  exact ⟨rfl, u⟩
end Go.Proofs.Ytakmlfgkppekoaa

namespace Go.Proofs.Ytakmlfgkppekoaa.fnExactRevInverse
set_option maxRecDepth 100000
open Go.ChangeShapes Go.WideShapes Go.ChangeAt Go.RowKit Go.Joins Go.Deep
set_option linter.unusedVariables false
set_option maxRecDepth 100000 in
theorem lifted (os : Os) (started : os.Started) (H : Type) (enc : TypeId × Value → H) :
    ReturnsInHanded {} Try.checked os 3 .any (Rows.fnExactRevInverseSpec.pre6 enc Try.prog Try.f3 Rows.fnExactRevInverseRow.domain false) (Rows.fnExactRevInverseSpec.post enc Try.prog Try.f3 false true false false) := by
  refine returnsInHanded_of_change (C := Try.checked) own started (by kernel_rfl) Try.func3
    (ChangeSpec.witness6 (enc := enc) (C := Try.checked) false ⟨#[], #[.int .i64 0], []⟩ 8 (by kernel_rfl) (by kernel_rfl) (by kernel_rfl) (by kernel_rfl)) ?_
  intro W base args ds gs before hval0 hW hcnd _
  have hval : ∀ (j : Nat) t v, Try.f3.params[j]? = some t → args[j]? = some v → Value.okWide Try.prog W .any base t v := hval0
  have hW' := hW
  obtain ⟨p, q, hA0, hV, rfl, hfz, hnd⟩ := hW
  have hA : DataW.TrodAll enc Try.prog W 0 (fun _ => true) true Try.f3.params.toList args.toList ds p := hA0
  rw [Try.params3] at hA hval; obtain ⟨v0, vs0, d0, ds0, p0, q0, hargs, rfl, rfl, h0, r0⟩ := trodAll_cons hA; obtain ⟨rfl, rfl, rfl⟩ := trodAll_nil r0
  obtain rfl : args = #[v0] := by cases args; simp_all
  obtain ⟨rfl, rfl⟩ := trodVars_none hV
  have k0 := h0
  have lt0 : ∀ x ∈ p0, x.block < W.heap.size := by obtain ⟨m, hm⟩ := k0; exact DataW.trod_lt m _ _ _ hm
  obtain ⟨a0, rfl, rfl, rfl, w0'⟩ := open_int Try.underlying3 (hval 0 3 v0 rfl rfl) h0
  have w0 := i64_of_wf w0'
  clear hA0 hval0
  refine (walkErvi a0 W).mono fun e W' ⟨he, bel⟩ => ?_
  subst he
  exact ⟨_, rfl, _, _, _, [], _, [], hW', trodAll_mk1 (shut_bool Try.underlying4 _), (trodAll_cons_mk (Below.trod laidOut (by kernel_rfl) (of_decide_eq_true (by kernel_rfl)) k0 bel lt0) trodAll_mk0), rfl, bel.frame _, fun h => by cases h⟩
theorem over : Rows.fnExactRevInverseRow.holds Try.pinned (OpenSpec.ofChange Rows.fnExactRevInverseSpec) :=
  OpenClaim.holds_of_wide 3 Try.f3 rfl rfl rfl rfl rfl rfl rfl ⟨rfl, rfl, rfl, rfl, rfl⟩ rfl rfl rfl rfl rfl (by kernel_rfl) Try.func3 (by kernel_rfl)
    (of_decide_eq_true (by kernel_rfl)) (by unfold Func.isWrapper; first | (rw [if_pos (by decide +kernel)]; kernel_rfl) | (rw [if_neg (by decide +kernel)]; exact ⟨rfl, rfl⟩))
    (fun os started H enc _ => lifted os started H enc)
theorem proved : Rows.FnExactRevInverseSaid := over
end Go.Proofs.Ytakmlfgkppekoaa.fnExactRevInverse

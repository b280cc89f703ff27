/-
  What spec.RevInverse returns, in one sentence: the inverse modulo 97, and 0 where there is none; for every number.
  What minus, inverse and impl.RevInverse return, in one sentence: the difference and the inverse modulo 97, and 0 where there is none; for numbers in bounds, RevInverse for every number.
  What FnRevInverse returns, in one sentence: true, with new blocks alone; for every code.
  For every code the law FnRevInverse returns true and leaves its argument as it was; no condition.
-/
import Derived.Test.YtakmlfgkppekoaaDLRvi01
import Derived.Test.YtakmlfgkppekoaaRows
namespace Go.Proofs.Ytakmlfgkppekoaa
set_option maxRecDepth 100000
open Go.RowKit
set_option maxHeartbeats 4000000 in
theorem specRvi_any (a : Int) (w : World) :
    Calls Try.prog 16 #[.int .i64 a] w fun x w' => x = .returned (.int .i64 (invV a)) ∧ w = w' := by
  by_cases hin : 1 ≤ a ∧ a ≤ 96
  · have HV := Lib.hid (fun b hb => invV_iff (b := b) hin hb)
    have HP := Lib.hid (And.intro (invV_pos hin) (invV_le a).2)
    generalize invV a = r at HV HP ⊢
    have hb : inB a 1 96 = true := inB_iff.2 hin
    go_enter Try.func16, Try.ntmps16
    go_wp2
    go_loopw [3] (fun i wr => (∃ q : Nat, 1 ≤ q ∧ (q : Int) ≤ r ∧ i = .int .i64 q) ∧ w = wr) (fun i _ => 97 - (intOf i).toNat)
    case atStart => exact ⟨⟨1, by omega, by have := HP.out; omega, rfl⟩, rfl⟩
    case round =>
      obtain ⟨⟨q, hq, hqr, rfl⟩, rfl⟩ := hrel
      have hp := HP.out
      have i4 : (q : Int) < 97 := by omega
      have h0 : 0 ≤ a * (q : Int) := Int.mul_nonneg (by omega) (by omega)
      have h1 : a * (q : Int) ≤ 96 * 96 := Int.mul_le_mul hin.2 (by omega) (by omega) (by omega)
      have i1 : IntKind.i64.wrap (a * (q : Int)) = a * (q : Int) := IntWalk.i64_in _ (by omega)
      have i2 : (a * (q : Int)).tmod 97 = a * (q : Int) % 97 := Int.tmod_eq_emod_of_nonneg h0
      have i3 : IntKind.i64.wrap (a * (q : Int) % 97) = a * (q : Int) % 97 := IntWalk.i64_in _ (by omega)
      have i5 : IntKind.i64.wrap ((q : Int) + 1) = (q : Int) + 1 := IntWalk.i64_in _ (by omega)
      have hv := HV.out q (by omega)
      by_cases hq2 : (q : Int) = r
      · have hv1 : a * (q : Int) % 97 = 1 := hv.2 hq2
        have EQ := Lib.hid hq2
        clear hv hp hq2 h0 h1
        go_wp2_with (go_at_call 64; refine (l1In_any _ _ _ _).mono ?_; rintro e w' ⟨rfl, rfl⟩)
        go_ret
        exact ⟨ret_int EQ.out, rfl⟩
      · have hv1 : (a * (q : Int) % 97 == 1) = false := by
          rw [beq_eq_false_iff_ne]
          exact fun h => hq2 (hv.1 h)
        have LT := Lib.hid (show ((q + 1 : Nat) : Int) ≤ r by omega)
        clear hv hp hq2 h0 h1
        go_wp2_with (go_at_call 64; refine (l1In_any _ _ _ _).mono ?_; rintro e w' ⟨rfl, rfl⟩)
        go_roundw
        case rel => exact ⟨⟨q + 1, by omega, LT.out, by go_num⟩, by first | rfl | trivial⟩
        case measure => simp [intOf]; omega
  · have HV := Lib.hid (invV_no hin)
    have hb : inB a 1 96 = false := inB_no.2 hin
    clear hin
    go_enter Try.func16, Try.ntmps16
    go_wp2
    go_loopw [3] (fun i wr => (∃ q : Nat, q ≤ 97 ∧ i = .int .i64 q) ∧ w = wr) (fun i _ => 97 - (intOf i).toNat)
    case atStart => exact ⟨⟨1, by omega, rfl⟩, rfl⟩
    case round =>
      obtain ⟨⟨q, hq, rfl⟩, rfl⟩ := hrel
      by_cases hlt : q < 97
      · have i4 : (q : Int) < 97 := by omega
        have i5 : IntKind.i64.wrap ((q : Int) + 1) = (q : Int) + 1 := IntWalk.i64_in _ (by omega)
        go_wp2_with (go_at_call 64; refine (l1In_any _ _ _ _).mono ?_; rintro e w' ⟨rfl, rfl⟩)
        go_roundw
        case rel => exact ⟨⟨q + 1, by omega, by go_num⟩, by first | rfl | trivial⟩
        case measure => simp [intOf]; omega
      · have i4 : ¬ (q : Int) < 97 := by omega
        go_wp2; go_ret
        exact ⟨ret_int HV.out.symm, rfl⟩
end Go.Proofs.Ytakmlfgkppekoaa

namespace Go.Proofs.Ytakmlfgkppekoaa
set_option maxRecDepth 100000
open Go.RowKit
theorem timesw_any (x y : Int) (hx : 0 ≤ x ∧ x ≤ 1000) (hy : 0 ≤ y ∧ y ≤ 1000) (w : World) :
    Calls Try.prog 109 #[.int .i64 x, .int .i64 y] w fun z w' => z = .returned (.int .i64 (x * y % 97)) ∧ w = w' := by
  have h0 : 0 ≤ x * y := Int.mul_nonneg hx.1 hy.1
  have h1 : x * y ≤ 1000 * 1000 := Int.mul_le_mul hx.2 hy.2 hy.1 (by omega)
  have i1 : IntKind.i64.wrap (x * y) = x * y := IntWalk.i64_in _ (by omega)
  have i2 : (x * y).tmod 97 = x * y % 97 := Int.tmod_eq_emod_of_nonneg h0
  have i3 : IntKind.i64.wrap (x * y % 97) = x * y % 97 := IntWalk.i64_in _ (by omega)
  go_enter Try.func109, Try.ntmps109
  go_wp2; go_ret
  exact ⟨by first | rfl | simp [*], rfl⟩
theorem minus_any (x y : Int) (hx : 0 ≤ x ∧ x ≤ 1000) (hy : 0 ≤ y ∧ y ≤ 96) (w : World) :
    Calls Try.prog 108 #[.int .i64 x, .int .i64 y] w fun z w' => z = .returned (.int .i64 ((x - y + 97) % 97)) ∧ w = w' := by
  have i1 : IntKind.i64.wrap (x - y) = x - y := IntWalk.i64_in _ (by omega)
  have i4 : IntKind.i64.wrap (x - y + 97) = x - y + 97 := IntWalk.i64_in _ (by omega)
  have i2 : (x - y + 97).tmod 97 = (x - y + 97) % 97 := Int.tmod_eq_emod_of_nonneg (by omega)
  have i3 : IntKind.i64.wrap ((x - y + 97) % 97) = (x - y + 97) % 97 := IntWalk.i64_in _ (by omega)
  go_enter Try.func108, Try.ntmps108
  go_wp2; go_ret
  exact ⟨by first | rfl | simp [*], rfl⟩
set_option maxHeartbeats 4000000 in
theorem inverse_any (r : Int) (hr : 1 ≤ r ∧ r ≤ 96) (w : World) :
    Calls Try.prog 66 #[.int .i64 r] w fun x w' => x = .returned (.int .i64 (invV r)) ∧ Up w w' := by
  obtain ⟨r, rfl⟩ : ∃ x : Nat, r = x := ⟨r.toNat, by omega⟩
  have R0 : 0 < r := by omega
  have R9 : r < 97 := by omega
  have HV := Lib.hid (show invV (r : Int) = ((invN r : Nat) : Int) by rw [invV_in hr, Int.toNat_natCast])
  generalize invV (r : Int) = res at HV ⊢
  have HS := Lib.hid (Eu.start R0 R9)
  have HD := Lib.hid (fun a s t (h : Eu r a 0 s t) => h.done R0 R9)
  clear hr R0 R9
  go_enter Try.func66, Try.ntmps66
  go_wp2
  go_loopw [3, 4, 5, 6] (fun va vs vb vt wr => (∃ a s b t : Nat, va = .int .i64 a ∧ vs = .int .i64 s ∧ vb = .int .i64 b ∧ vt = .int .i64 t ∧ Hid (Eu r a b s t)) ∧ Up w wr) (fun _ _ vb _ _ => (intOf vb).toNat)
  case atStart => exact ⟨⟨97, 0, r, 1, rfl, rfl, rfl, rfl, HS⟩, Up.refl _⟩
  case round =>
    obtain ⟨⟨a, s, b, t, rfl, rfl, rfl, rfl, HE⟩, ur⟩ := hrel
    have E := HE.out
    have a97 := E.a97
    have b97 := E.b97
    have s97 := E.s97
    have t97 := E.t97
    by_cases hb : b = 0
    · subst hb
      have HZ := Lib.hid (HV.out.trans (by rw [HD.out a s t E]) : res = ((s : Nat) : Int))
      clear E; go_wp2; go_ret
      exact ⟨ret_int HZ.out.symm, ur⟩
    · have HN := Lib.hid (E.next (by omega))
      have hq : a / b ≤ 97 := Nat.le_trans (Nat.div_le_self _ _) a97
      have hbi : ¬ (b : Int) = 0 := by omega
      have hbb : ((b : Int) != 0) = true := by simp; omega
      have d1 : (a : Int).tdiv b = ((a / b : Nat) : Int) := by rw [Int.tdiv_eq_ediv_of_nonneg (by omega), Int.natCast_ediv]
      have d2 : (a : Int).tmod b = ((a % b : Nat) : Int) := by rw [Int.tmod_eq_emod_of_nonneg (by omega), Int.natCast_emod]
      have hml := Nat.mod_lt a (show b > 0 by omega)
      clear E
      generalize a / b = qn at *
      generalize a % b = rn at *
      have i1 : IntKind.i64.wrap (qn : Int) = qn := IntWalk.i64_in _ (by clear d1 d2; omega)
      have i2 : IntKind.i64.wrap (rn : Int) = rn := IntWalk.i64_in _ (by clear d1 d2; omega)
      have T1 := Lib.hid (fun W => (timesw_any (qn : Int) (t : Int) (by omega) (by omega) W))
      rw [castm] at T1
      have hy := Nat.mod_lt (qn * t) (show 97 > 0 by omega)
      generalize qn * t % 97 = y at *
      have M1 := Lib.hid (fun W => minus_any (s : Int) (y : Int) (by omega) (by omega) W)
      rw [show ((s : Int) - (y : Int) + 97) % 97 = (((s + 97 - y) % 97 : Nat) : Int) by omega] at M1
      generalize (s + 97 - y) % 97 = t2 at *
      have ML := Lib.hid hml
      clear hy hq a97 b97 s97 t97 hml HE HS
      go_wp2_with fail
      go_quiet (fail)
      go_wp2_with fail
      refine (T1.out _).mono ?_; rintro x w2 ⟨rfl, rfl⟩
      go_wp2_with fail
      refine (M1.out _).mono ?_; rintro x w3 ⟨rfl, rfl⟩; go_wp2
      go_roundw
      case rel => exact ⟨⟨b, t, rn, t2, rfl, rfl, rfl, rfl, HN⟩, ur.trans ((Up.refl _).drewN _)⟩
      case measure => have := ML.out; simp [intOf]; omega
theorem implRvi_any (a : Int) (w : World) :
    Calls Try.prog 17 #[.int .i64 a] w fun x w' => x = .returned (.int .i64 (invV a)) ∧ Up w w' := by
  by_cases hin : 1 ≤ a ∧ a ≤ 96
  · have CI := Lib.hid (fun W => inverse_any a hin W)
    have hb : inB a 1 96 = true := inB_iff.2 hin
    generalize invV a = r at CI ⊢
    go_enter Try.func17, Try.ntmps17
    go_wp2_with (go_at_call 65; refine (within_any _ _ _ _).mono ?_; rintro e w' ⟨rfl, rfl⟩)
    refine (CI.out _).mono ?_; rintro x w1 ⟨rfl, u1⟩; go_wp2; go_ret
    exact ⟨rfl, u1⟩
  · have HV := Lib.hid (invV_no hin)
    have hb : inB a 1 96 = false := inB_no.2 hin
    clear hin
    go_enter Try.func17, Try.ntmps17
    go_wp2_with (go_at_call 65; refine (within_any _ _ _ _).mono ?_; rintro e w' ⟨rfl, rfl⟩)
    go_ret
    exact ⟨ret_int HV.out.symm, Up.refl _⟩
end Go.Proofs.Ytakmlfgkppekoaa

namespace Go.Proofs.Ytakmlfgkppekoaa
set_option maxRecDepth 100000
open Go.RowKit
set_option maxHeartbeats 4000000 in
theorem walkRvi {w : World} (A : Option Addr) (n cap : Nat) (hc : n ≤ cap) (hmax : cap ≤ 9223372036854775807) (hB : Bys w A n w.heap.size) :
    Calls Try.prog 7 #[.slice A n cap] w fun x w' => x = .returned (.bool true) ∧ Up w w' := by
  have HB := Lib.hid hB
  clear hB
  by_cases h : 1048576 < n
  · have h' : (1048576 : Int) < n := by omega
    go_enter Try.func7, Try.ntmps7
    go_wp2; go_ret
    exact ⟨rfl, Up.refl _⟩
  · have h' : ¬ (1048576 : Int) < n := by omega
    go_enter Try.func7, Try.ntmps7
    go_wp2_with fail
    refine (drawRvi_any A n cap _ hc hmax HB.out).mono ?_; rintro x w1 ⟨⟨a, rfl, a0, a9⟩, u1⟩
    have U1 := Lib.hid u1
    clear u1
    have CS := Lib.hid (fun W => specRvi_any a W)
    have CI := Lib.hid (fun W => implRvi_any a W)
    by_cases hin : 1 ≤ a ∧ a ≤ 96
    · have CI2 := Lib.hid (fun W => implRvi_any (invV a) W)
      have hp := invV_pos hin
      have hl := invV_le a
      have hm := invV_mul hin
      rw [invV_inv hin] at CI2
      generalize invV a = b at *
      obtain ⟨hin1, hin2⟩ := hin
      have bne : (b != b) = false := by simp
      have aeq : (a == a) = true := by simp
      have j1 : ¬ a < 1 := by omega
      have j2 : ¬ 97 ≤ a := by omega
      have j3 : 1 ≤ b := hp
      have j4 : b < 97 := by omega
      have h0 : 0 ≤ a * b := Int.mul_nonneg (by omega) (by omega)
      have h1 : a * b ≤ 96 * 96 := Int.mul_le_mul (by omega) (by omega) (by omega) (by omega)
      have i1 : IntKind.i64.wrap (a * b) = a * b := IntWalk.i64_in _ (by omega)
      have i2 : (a * b).tmod 97 = 1 := (Int.tmod_eq_emod_of_nonneg h0).trans hm
      have i3 : decide (97 ≤ a) = false := decide_eq_false j2
      have i4 : decide (1 ≤ b) = true := decide_eq_true j3
      clear h0 h1 hm hl hp
      go_wp2_with fail
      refine (CI.out _).mono ?_; rintro x w2 ⟨rfl, u2⟩
      replace U1 := Lib.hid (U1.out.trans u2)
      clear u2
      go_wp2_with fail
      refine (CS.out _).mono ?_; rintro x w3 ⟨rfl, rfl⟩
      go_wp2_with fail
      refine (CI2.out _).mono ?_; rintro x w4 ⟨rfl, u4⟩
      replace U1 := Lib.hid (U1.out.trans u4)
      clear u4; go_wp2; go_ret
      exact ⟨rfl, U1.out⟩
    · rw [invV_no hin] at CS CI
      by_cases hlo : a < 1
      · go_wp2_with fail
        refine (CI.out _).mono ?_; rintro x w2 ⟨rfl, u2⟩
        replace U1 := Lib.hid (U1.out.trans u2)
        clear u2
        go_wp2_with fail
        refine (CS.out _).mono ?_; rintro x w3 ⟨rfl, rfl⟩; go_wp2; go_ret
        exact ⟨rfl, U1.out⟩
      · have hhi : 97 ≤ a := by omega
        have i3 : decide (97 ≤ a) = true := decide_eq_true hhi
        go_wp2_with fail
        refine (CI.out _).mono ?_; rintro x w2 ⟨rfl, u2⟩
        replace U1 := Lib.hid (U1.out.trans u2)
        clear u2
        go_wp2_with fail
        refine (CS.out _).mono ?_; rintro x w3 ⟨rfl, rfl⟩; go_wp2; go_ret
        exact ⟨rfl, U1.out⟩
end Go.Proofs.Ytakmlfgkppekoaa

namespace Go.Proofs.Ytakmlfgkppekoaa.fnRevInverse
set_option maxRecDepth 100000
open Go.ChangeShapes Go.WideShapes Go.ChangeAt Go.RowKit Go.Joins Go.Deep
set_option linter.unusedVariables false
set_option maxRecDepth 100000 in
theorem lifted (os : Os) (started : os.Started) (H : Type) (enc : TypeId × Value → H) :
    ReturnsInHanded {} Try.checked os 7 .any (Rows.fnRevInverseSpec.pre6 enc Try.prog Try.f7 Rows.fnRevInverseRow.domain false) (Rows.fnRevInverseSpec.post enc Try.prog Try.f7 false true false false) := by
  refine returnsInHanded_of_change (C := Try.checked) own started (by kernel_rfl) Try.func7
    (ChangeSpec.witness6 (enc := enc) (C := Try.checked) false ⟨#[], #[.slice none 0 0], []⟩ 8 (by kernel_rfl) (by kernel_rfl) (by kernel_rfl) (by kernel_rfl)) ?_
  intro W base args ds gs before hval0 hW hcnd _
  have hval : ∀ (j : Nat) t v, Try.f7.params[j]? = some t → args[j]? = some v → Value.okWide Try.prog W .any base t v := hval0
  have hW' := hW
  obtain ⟨p, q, hA0, hV, rfl, hfz, hnd⟩ := hW
  have hA : DataW.TrodAll enc Try.prog W 0 (fun _ => true) true Try.f7.params.toList args.toList ds p := hA0
  rw [Try.params7] at hA hval; obtain ⟨v0, vs0, d0, ds0, p0, q0, hargs, rfl, rfl, h0, r0⟩ := trodAll_cons hA; obtain ⟨rfl, rfl, rfl⟩ := trodAll_nil r0
  obtain rfl : args = #[v0] := by cases args; simp_all
  obtain ⟨rfl, rfl⟩ := trodVars_none hV
  have k0 := h0
  have lt0 : ∀ x ∈ p0, x.block < W.heap.size := by obtain ⟨m, hm⟩ := k0; exact DataW.trod_lt m _ _ _ hm
  obtain ⟨A0, len0, cap0, rfl⟩ := okWide_slice Try.underlying54 (hval 0 54 v0 rfl rfl)
  have w0 := open_bytes h0
  clear hA0 hval0
  refine (walkRvi A0 len0 cap0 w0.2.1 w0.2.2 w0.1).mono fun e W' ⟨he, bel⟩ => ?_
  subst he
  exact ⟨_, rfl, _, _, _, [], _, [], hW', trodAll_mk1 (shut_bool Try.underlying4 _), (trodAll_cons_mk (Below.trod laidOut (by kernel_rfl) (of_decide_eq_true (by kernel_rfl)) k0 bel lt0) trodAll_mk0), rfl, bel.frame _, fun h => by cases h⟩
theorem over : Rows.fnRevInverseRow.holds Try.pinned (OpenSpec.ofChange Rows.fnRevInverseSpec) :=
  OpenClaim.holds_of_wide 7 Try.f7 rfl rfl rfl rfl rfl rfl rfl ⟨rfl, rfl, rfl, rfl, rfl⟩ rfl rfl rfl rfl rfl (by kernel_rfl) Try.func7 (by kernel_rfl)
    (of_decide_eq_true (by kernel_rfl)) (by unfold Func.isWrapper; first | (rw [if_pos (by decide +kernel)]; kernel_rfl) | (rw [if_neg (by decide +kernel)]; exact ⟨rfl, rfl⟩))
    (fun os started H enc _ => lifted os started H enc)
theorem proved : Rows.FnRevInverseSaid := over
end Go.Proofs.Ytakmlfgkppekoaa.fnRevInverse

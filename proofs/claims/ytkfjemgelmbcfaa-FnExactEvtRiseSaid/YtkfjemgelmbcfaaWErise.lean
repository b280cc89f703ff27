/-
  What FnExactEvtRise returns, in one sentence: true, with new blocks alone; for every list of events.
-/
import Derived.Test.YtkfjemgelmbcfaaRise
import Derived.Test.YtkfjemgelmbcfaaEqS
import Derived.Test.YtkfjemgelmbcfaaToS
namespace Go.Proofs.Ytkfjemgelmbcfaa
set_option maxRecDepth 100000
open Go.RowKit

theorem Own.evs {w : World} {g n : Nat} {es : List Evt} (h : Own w g n es) : Evs w (some ⟨g, 0, none⟩) n es :=
  ⟨h.1, fun _ => ⟨g, 0, rfl, h.2.1, fun i hi => by rw [Nat.zero_add]; exact h.2.2.1 i hi⟩⟩
theorem Own.up {w w' : World} {g n : Nat} {es : List Evt} (h : Own w g n es) (u : Up w w') : Own w' g n es :=
  ⟨h.1, by have := u.size; have := h.2.1; omega, fun i hi => (h.2.2.1 i hi).up u h.2.1, fun j hj => (u.frozens _ _ h.2.1).trans (h.2.2.2 j hj)⟩

set_option maxHeartbeats 1000000 in
theorem walkErise {w : World} (A : Option Addr) (n cap : Nat) (es : List Evt) (hE : Evs w A n es) (hn : n ≤ 9223372036854775807) :
    Calls Try.prog 6 #[.slice A n cap] w fun x w' => x = .returned (.bool true) ∧ Up w w' := by
  by_cases h : 1048576 < n
  · have c0 := fun W => sz_any A n cap 1048576 W (by omega) (by omega) hn
    rw [if_pos (by omega)] at c0
    have C0 := Lib.hid c0
    clear c0
    go_enter Try.func6, Try.ntmps6
    go_wp2_with fail
    refine (C0.out _).mono ?_
    rintro x w1 ⟨rfl, rfl⟩
    go_wp2
    go_ret
    exact ⟨rfl, Up.refl _⟩
  · have c0 := fun W => sz_any A n cap 1048576 W (by omega) (by omega) hn
    rw [if_neg (by omega)] at c0
    have hlt : ¬ (1048576 - (n : Int) < 0) := by omega
    have C0 := Lib.hid c0
    have HE := Lib.hid hE
    clear c0 hE
    generalize hr : riseB es = r
    have HR := Lib.hid hr
    clear hr
    go_enter Try.func6, Try.ntmps6
    go_wp2_with fail
    refine (C0.out _).mono ?_
    rintro x w1 ⟨rfl, rfl⟩
    go_wp2_with fail
    refine (toS_any A n cap es _ (by omega) HE.out).mono ?_
    rintro x w1 ⟨g1, rfl, _, o1, u1⟩
    have O1 := Lib.hid o1
    clear o1
    go_wp2_with fail
    refine (specRise_any _ n n es _ (by omega) O1.out.evs).mono ?_
    rw [HR.out]
    rintro x w2 ⟨rfl, u2⟩
    have U2 := u1.trans u2
    clear u1 u2 O1
    go_wp2_with fail
    refine (toS_any A n cap es _ (by omega) (HE.out.up U2)).mono ?_
    rintro x w3 ⟨g3, rfl, _, o3, u3⟩
    have O3 := Lib.hid o3
    have U3 := U2.trans u3
    clear o3 u3 U2
    go_wp2_with fail
    refine (implRise_any _ n n es _ (by omega) O3.out.evs).mono ?_
    rw [HR.out]
    rintro x w4 ⟨rfl, u4⟩
    have U4 := U3.trans u4
    have O4 := Lib.hid (O3.out.up u4)
    clear U3 u4 O3
    cases r
    all_goals
      go_wp2_with fail
      refine (toS_any A n cap es _ (by omega) (HE.out.up U4)).mono ?_
      rintro x w5 ⟨g5, rfl, _, o5, u5⟩
      have O5 := Lib.hid o5
      have U5 := U4.trans u5
      have O6 := Lib.hid (O4.out.up u5)
      clear o5 u5
      go_wp2_with fail
      refine (eqS_any _ _ n n n n es es _ (by omega) O6.out.evs O5.out.evs).mono ?_
      rw [decide_eq_true (rfl : es = es)]
      rintro x w6 ⟨rfl, u6⟩
      go_wp2
      go_ret
      exact ⟨rfl, U5.trans u6⟩

end Go.Proofs.Ytkfjemgelmbcfaa

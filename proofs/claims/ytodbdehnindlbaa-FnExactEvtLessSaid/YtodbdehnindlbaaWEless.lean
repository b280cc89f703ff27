/-
  What FnExactEvtLess returns, in one sentence: true, with new blocks alone; for every two events.
-/
import Derived.Test.YtodbdehnindlbaaLess
import Derived.Test.YtodbdehnindlbaaTo
import Derived.Test.YtodbdehnindlbaaUp
namespace Go.Proofs.Ytodbdehnindlbaa
open Go.RowKit

theorem walkEless (a : Evt) (_ha : a.ok) (b : Evt) (_hb : b.ok) (w : World) :
    Calls Try.prog 10 #[a.v, b.v] w fun x w' => x = .returned (.bool true) ∧ Up w w' := by
  have ca := fun W => toEvt_any a W
  have cb := fun W => toEvt_any b W
  have c1 := fun W => specLess_any a b W
  have c2 := fun W => implLess_any a b W
  generalize ltE a b = r at c1 c2
  obtain ⟨at_, ato, afr, asq, akd, adt⟩ := a
  obtain ⟨bt, bto, bfr, bsq, bkd, bdt⟩ := b
  unfold Evt.v at ca cb c1 c2 ⊢
  dsimp only at ca cb c1 c2 ⊢
  have CA := Lib.hid ca
  have CB := Lib.hid cb
  have C1 := Lib.hid c1
  have C2 := Lib.hid c2
  clear ca cb c1 c2
  go_enter Try.func10, Try.ntmps10
  go_wp2_with fail
  refine region_up (by kernel_rfl) (by kernel_rfl) ?_
  refine up_step rfl ?_
  apply Exists.intro
  refine ⟨fun w1 hw1 => ?_, ?_⟩
  · obtain ⟨hc, hf, hz⟩ := hw1.facts
    try simp at hz
    go_simp
    try rfl
  go_simp
  refine up_step rfl ?_
  apply Exists.intro
  refine ⟨fun w1 hw1 => ?_, ?_⟩
  · go_simp
    exact up_call hw1 (CA.out _)
  go_simp
  refine up_step rfl ?_
  apply Exists.intro
  refine ⟨fun w1 hw1 => ?_, ?_⟩
  · obtain ⟨hc, hf, hz⟩ := hw1.facts
    try simp at hz
    go_simp
    try rfl
  go_simp
  refine up_step rfl ?_
  apply Exists.intro
  refine ⟨fun w1 hw1 => ?_, ?_⟩
  · go_simp
    exact up_call hw1 (CB.out _)
  go_simp
  refine up_step rfl ?_
  apply Exists.intro
  refine ⟨fun w1 hw1 => ?_, ?_⟩
  · go_simp
    exact up_call hw1 (C1.out _)
  go_simp
  refine up_step rfl ?_
  apply Exists.intro
  refine ⟨fun w1 hw1 => ?_, ?_⟩
  · go_simp
    try rfl
  go_simp
  refine wpQuiet_nil ?_
  intro wA uA
  go_wp2_with fail
  refine region_up (by kernel_rfl) (by kernel_rfl) ?_
  refine up_step rfl ?_
  apply Exists.intro
  refine ⟨fun w1 hw1 => ?_, ?_⟩
  · obtain ⟨hc, hf, hz⟩ := (uA.trans hw1).facts
    try simp at hz
    go_simp
    try rfl
  go_simp
  refine up_step rfl ?_
  apply Exists.intro
  refine ⟨fun w1 hw1 => ?_, ?_⟩
  · go_simp
    exact up_call hw1 (CA.out _)
  go_simp
  refine up_step rfl ?_
  apply Exists.intro
  refine ⟨fun w1 hw1 => ?_, ?_⟩
  · obtain ⟨hc, hf, hz⟩ := (uA.trans hw1).facts
    try simp at hz
    go_simp
    try rfl
  go_simp
  refine up_step rfl ?_
  apply Exists.intro
  refine ⟨fun w1 hw1 => ?_, ?_⟩
  · go_simp
    exact up_call hw1 (CB.out _)
  go_simp
  refine up_step rfl ?_
  apply Exists.intro
  refine ⟨fun w1 hw1 => ?_, ?_⟩
  · go_simp
    exact up_call hw1 (C2.out _)
  go_simp
  refine up_step rfl ?_
  apply Exists.intro
  refine ⟨fun w1 hw1 => ?_, ?_⟩
  · go_simp
    try rfl
  go_simp
  refine wpQuiet_nil ?_
  intro wB uB
  go_wp2
  go_ret
  exact ⟨rfl, ((((Up.refl _).alloc _).alloc _).trans uA).trans uB⟩

end Go.Proofs.Ytodbdehnindlbaa

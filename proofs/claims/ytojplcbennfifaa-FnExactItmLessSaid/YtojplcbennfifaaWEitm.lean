/-
  What FnExactItmLess returns, in one sentence: true, with new blocks alone; for every two items.
-/
import Derived.Test.YtojplcbennfifaaItm
import Derived.Test.YtojplcbennfifaaQw
namespace Go.Proofs.Ytojplcbennfifaa
set_option maxRecDepth 100000
open Go.RowKit

theorem walkEitm (a : Itm) (_ha : True) (b : Itm) (_hb : True) (w : World) :
    Calls Try.prog 9 #[a.v, b.v] w fun x w' => x = .returned (.bool true) ∧ Up w w' := by
  have ca := fun W => toItm_any a W
  have cb := fun W => toItm_any b W
  have c1 := fun W => specItmLess_any a b W
  have c2 := fun W => implItmLess_any a b W
  generalize ltT a b = r at c1 c2
  obtain ⟨⟨at_, ato, afr, asq, akd, adt⟩, aid⟩ := a
  obtain ⟨⟨bt, bto, bfr, bsq, bkd, bdt⟩, bid⟩ := b
  unfold Itm.v at ca cb c1 c2 ⊢
  dsimp only at ca cb c1 c2 ⊢
  have CA := Lib.hid ca
  have CB := Lib.hid cb
  have C1 := Lib.hid c1
  have C2 := Lib.hid c2
  clear ca cb c1 c2
  go_enter Try.func9, Try.ntmps9
  go_wp2_with fail
  refine region_qw (by kernel_rfl) (by kernel_rfl) ?_
  refine qWalk_step ?_
  intro K hK
  go_simp
  apply Exists.intro
  refine And.intro ?_ ?_
  · intro w1 hw1
    obtain ⟨hc, hf, hz⟩ := hw1.facts
    try simp at hz
    try go_simp
    try rfl
  try go_simp
  refine hK _ ?_
  clear hK K
  refine qWalk_step ?_
  intro K hK
  go_simp
  apply Exists.intro
  refine And.intro ?_ ?_
  · intro w1 hw1
    try go_simp
    exact up_call hw1 (CA.out _)
  try go_simp
  refine hK _ ?_
  clear hK K
  refine qWalk_step ?_
  intro K hK
  go_simp
  apply Exists.intro
  refine And.intro ?_ ?_
  · intro w1 hw1
    obtain ⟨hc, hf, hz⟩ := hw1.facts
    try simp at hz
    try go_simp
    try rfl
  try go_simp
  refine hK _ ?_
  clear hK K
  refine qWalk_step ?_
  intro K hK
  go_simp
  apply Exists.intro
  refine And.intro ?_ ?_
  · intro w1 hw1
    try go_simp
    exact up_call hw1 (CB.out _)
  try go_simp
  refine hK _ ?_
  clear hK K
  refine qWalk_step ?_
  intro K hK
  go_simp
  apply Exists.intro
  refine And.intro ?_ ?_
  · intro w1 hw1
    try go_simp
    exact up_call hw1 (C1.out _)
  try go_simp
  refine hK _ ?_
  clear hK K
  refine qWalk_step ?_
  intro K hK
  go_simp
  apply Exists.intro
  refine And.intro ?_ ?_
  · intro w1 hw1
    try go_simp
    try rfl
  try go_simp
  refine hK _ ?_
  clear hK K
  refine qWalk_nil ?_
  intro wA uA
  go_wp2_with fail
  refine region_qw (by kernel_rfl) (by kernel_rfl) ?_
  refine qWalk_step ?_
  intro K hK
  go_simp
  apply Exists.intro
  refine And.intro ?_ ?_
  · intro w1 hw1
    obtain ⟨hc, hf, hz⟩ := (uA.trans hw1).facts
    try simp at hz
    try go_simp
    try rfl
  try go_simp
  refine hK _ ?_
  clear hK K
  refine qWalk_step ?_
  intro K hK
  go_simp
  apply Exists.intro
  refine And.intro ?_ ?_
  · intro w1 hw1
    try go_simp
    exact up_call hw1 (CA.out _)
  try go_simp
  refine hK _ ?_
  clear hK K
  refine qWalk_step ?_
  intro K hK
  go_simp
  apply Exists.intro
  refine And.intro ?_ ?_
  · intro w1 hw1
    obtain ⟨hc, hf, hz⟩ := (uA.trans hw1).facts
    try simp at hz
    try go_simp
    try rfl
  try go_simp
  refine hK _ ?_
  clear hK K
  refine qWalk_step ?_
  intro K hK
  go_simp
  apply Exists.intro
  refine And.intro ?_ ?_
  · intro w1 hw1
    try go_simp
    exact up_call hw1 (CB.out _)
  try go_simp
  refine hK _ ?_
  clear hK K
  refine qWalk_step ?_
  intro K hK
  go_simp
  apply Exists.intro
  refine And.intro ?_ ?_
  · intro w1 hw1
    try go_simp
    exact up_call hw1 (C2.out _)
  try go_simp
  refine hK _ ?_
  clear hK K
  refine qWalk_step ?_
  intro K hK
  go_simp
  apply Exists.intro
  refine And.intro ?_ ?_
  · intro w1 hw1
    try go_simp
    try rfl
  try go_simp
  refine hK _ ?_
  clear hK K
  refine qWalk_nil ?_
  intro wB uB
  have e : (r != r) = false := by cases r <;> rfl
  go_wp2
  go_ret
  exact ⟨rfl, ((((Up.refl _).alloc _).alloc _).trans uA).trans uB⟩

end Go.Proofs.Ytojplcbennfifaa

/-
  For every model and every time the law FnExactSeqUpto returns true and leaves its arguments as they were; no condition.
-/
import Derived.Test.YtlikekmhccnilaaGreatDLEsup01
import Derived.Test.YtlikekmhccnilaaGreatDLEsup02
import Derived.Test.YtlikekmhccnilaaGreatDLEsup39
import Derived.Test.YtlikekmhccnilaaGreatRows
namespace Go.Proofs.YtlikekmhccnilaaGreat.fnExactSeqUpto
set_option maxRecDepth 100000
open Go.ChangeShapes Go.WideShapes Go.ChangeAt Go.RowKit Go.Joins Go.Deep
set_option linter.unusedVariables false
set_option maxRecDepth 100000 in
theorem lifted (os : Os) (started : os.Started) (H : Type) (enc : TypeId × Value → H) :
    ReturnsInHanded {} Tryz.checked os 5 .any (Rows.fnExactSeqUptoSpec.pre6 enc Tryz.prog Tryz.f5 Rows.fnExactSeqUptoRow.domain false) (Rows.fnExactSeqUptoSpec.post enc Tryz.prog Tryz.f5 false true false false) := by
  refine returnsInHanded_of_change (C := Tryz.checked) own started (by kernel_rfl) Tryz.func5
    (ChangeSpec.witness6 (enc := enc) (C := Tryz.checked) false ⟨#[], #[.agg #[.slice none 0 0, .slice none 0 0, .int .i64 0], .int .i64 0], []⟩ 8 (by kernel_rfl) (by kernel_rfl) (by kernel_rfl) (by kernel_rfl)) ?_
  intro W base args ds gs before hval0 hW hcnd _
  have hval : ∀ (j : Nat) t v, Tryz.f5.params[j]? = some t → args[j]? = some v → Value.okWide Tryz.prog W .any base t v := hval0
  have hW' := hW
  obtain ⟨p, q, hA0, hV, rfl, hfz, hnd⟩ := hW
  have hA : DataW.TrodAll enc Tryz.prog W 0 (fun _ => true) true Tryz.f5.params.toList args.toList ds p := hA0
  rw [Tryz.params5] at hA hval; obtain ⟨v0, vs0, d0, ds0, p0, q0, hargs, rfl, rfl, h0, r0⟩ := trodAll_cons hA; obtain ⟨v1, vs1, d1, ds1, p1, q1, rfl, rfl, rfl, h1, r1⟩ := trodAll_cons r0; obtain ⟨rfl, rfl, rfl⟩ := trodAll_nil r1
  obtain rfl : args = #[v0, v1] := by cases args; simp_all
  obtain ⟨rfl, rfl⟩ := trodVars_none hV
  have k0 := h0
  have lt0 : ∀ x ∈ p0, x.block < W.heap.size := by obtain ⟨m, hm⟩ := k0; exact DataW.trod_lt m _ _ _ hm
  obtain ⟨a0, w0⟩ := open_mdl (hval 0 25 v0 rfl rfl) h0
  have k1 := h1
  have lt1 : ∀ x ∈ p1, x.block < W.heap.size := by obtain ⟨m, hm⟩ := k1; exact DataW.trod_lt m _ _ _ hm
  obtain ⟨a1, rfl, rfl, rfl, w1'⟩ := open_int Tryz.underlying3 (hval 1 3 v1 rfl rfl) h1
  have w1 := i64_of_wf w1'
  clear hA0 hval0
  refine (walkEsup v0 a0 a1 w0).mono fun e W' ⟨he, bel⟩ => ?_
  subst he
  exact ⟨_, rfl, _, _, _, [], _, [], hW', trodAll_mk1 (shut_bool Tryz.underlying4 _), (trodAll_cons_mk (Below.trod laidOut (by kernel_rfl) (of_decide_eq_true (by kernel_rfl)) k0 bel lt0) (trodAll_cons_mk (Below.trod laidOut (by kernel_rfl) (of_decide_eq_true (by kernel_rfl)) k1 bel lt1) trodAll_mk0)), rfl, bel.frame _, fun h => by cases h⟩
theorem fact0 : (Rows.fnExactSeqUptoRow.inPlace == Tryz.checked.prog.inPlace 5) = true := by kernel_rfl
theorem fact1 : (Rows.fnExactSeqUptoRow.unfollowed == Tryz.checked.prog.unfollowed 5) = true := by kernel_rfl
theorem fact2 : (Rows.fnExactSeqUptoRow.recurses == Tryz.checked.prog.recurses 5) = true := by kernel_rfl
theorem fact3 : (Rows.fnExactSeqUptoRow.named == Tryz.checked.prog.varsNamed 5) = true := by kernel_rfl
theorem named_ : Tryz.checked.prog.funcNamed Rows.fnExactSeqUptoRow.func = some 5 := by kernel_rfl
theorem facts : joinedFacts Tryz.checked.prog 5 Tryz.f5 Rows.fnExactSeqUptoSpec Rows.fnExactSeqUptoRow = true := by
  unfold joinedFacts; rw [fact0, fact1, fact2, fact3]
  kernel_rfl
theorem over : Rows.fnExactSeqUptoRow.holds Tryz.pinned (OpenSpec.ofChange Rows.fnExactSeqUptoSpec) :=
  OpenClaim.holds_of_wide 5 Tryz.f5 rfl rfl rfl rfl rfl rfl rfl ⟨rfl, rfl, rfl, rfl, rfl⟩ rfl rfl rfl rfl rfl named_ Tryz.func5 facts
    (of_decide_eq_true (by kernel_rfl)) (by unfold Func.isWrapper; first | (rw [if_pos (by decide +kernel)]; kernel_rfl) | (rw [if_neg (by decide +kernel)]; exact ⟨rfl, rfl⟩))
    (fun os started H enc _ => lifted os started H enc)
theorem proved : Rows.FnExactSeqUptoSaid := over
end Go.Proofs.YtlikekmhccnilaaGreat.fnExactSeqUpto

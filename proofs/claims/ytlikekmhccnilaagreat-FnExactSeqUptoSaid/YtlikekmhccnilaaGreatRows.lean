/-
  No cell of these rows narrows 'for every input' (looked for: loops, veiled, ifaces, maps, wideKeys, modest, calm, conditions, laid).
  DERIVED. THE GIVEN ROWS OF THIS SEAT. 8 by the template 'for every input the law returns true; each argument reads behind the call as it read before'; 0 by the template 'total and deterministic' (their statements: YtlikekmhccnilaaGreatTotals.lean).
  GIVEN WITH THE SEED: the statements are not yours to turn. If you find one false, say at which input.
  Laid BY PROGRAM, IN A SANDBOX (cutbox-rows.mjs): the forced cells as the released guide's own fill.sh prints them over the translation 9aec456e8c95ffb5… (all of the seat's roots in one cut). By AI agents, Wed Nov 11 2026. No macro, syntax, notation, axiom, sorry.
-/
import Derived.Test.YtlikekmhccnilaaGreatChecked
import GoSem.Claim
import GoSem.ClaimJoined
import GoSem.ClaimMapViews
import Derived.JoinedTies
import Derived.KernelRfl
namespace Go.Proofs.YtlikekmhccnilaaGreat
/- THE CELL 'sum', in the pinned program and in every row, IS THE sha256 OF THE DUMP (.gsa) THAT YtlikekmhccnilaaGreatProg.lean LOADS. Nothing in Lean hashes anything: it is a label: what it is worth is what the hold of that sum in a sandbox is worth. -/
noncomputable def Tryz.pinned : Pinned := { name := "ytlikekmhccnilaagreat", sum := "9aec456e8c95ffb541179caee515f7ea2177a0c4f63916bbf740038e4dbde046", checked := Tryz.checked }
namespace Rows
def none {H : Type} : Left H := { results := [], args := [] }

/-- 'laws.FnExactSeqStep': WHATEVER THE INPUT: true; the input reads as it did. -/
def fnExactSeqStepSpec : ChangeSpec := { name := "fnExactSeqStep", fn := fun _ => fun
  | [d1, d2] => { results := [.lit (.bool true)], args := [d1, d2] }
  | _ => none }
def fnExactSeqStepRow : OpenClaim := { program := "ytlikekmhccnilaagreat", sum := "9aec456e8c95ffb541179caee515f7ea2177a0c4f63916bbf740038e4dbde046", func := "loop.example/turnback/laws.FnExactSeqStep", spec := "fnExactSeqStep", unfollowed := true, recurses := true, plainKeys := false, apart := false }
def FnExactSeqStepSaid : Prop := fnExactSeqStepRow.holds Tryz.pinned (OpenSpec.ofChange fnExactSeqStepSpec)

/-- ITS FALSE NEIGHBOUR: 'it returns false'. Refute it at one input. -/
def fnExactSeqStepWrong : ChangeSpec := { name := "fnExactSeqStep", fn := fun _ => fun
  | [d1, d2] => { results := [.lit (.bool false)], args := [d1, d2] }
  | _ => none }
def FnExactSeqStepWrongFalsely : Prop := fnExactSeqStepRow.holds Tryz.pinned (OpenSpec.ofChange fnExactSeqStepWrong)

/-- 'laws.FnExactSeqAll': WHATEVER THE INPUT: true; the input reads as it did. -/
def fnExactSeqAllSpec : ChangeSpec := { name := "fnExactSeqAll", fn := fun _ => fun
  | [d] => { results := [.lit (.bool true)], args := [d] }
  | _ => none }
def fnExactSeqAllRow : OpenClaim := { program := "ytlikekmhccnilaagreat", sum := "9aec456e8c95ffb541179caee515f7ea2177a0c4f63916bbf740038e4dbde046", func := "loop.example/turnback/laws.FnExactSeqAll", spec := "fnExactSeqAll", unfollowed := true, recurses := true, plainKeys := false, apart := false }
def FnExactSeqAllSaid : Prop := fnExactSeqAllRow.holds Tryz.pinned (OpenSpec.ofChange fnExactSeqAllSpec)

/-- ITS FALSE NEIGHBOUR: 'it returns false'. Refute it at one input. -/
def fnExactSeqAllWrong : ChangeSpec := { name := "fnExactSeqAll", fn := fun _ => fun
  | [d] => { results := [.lit (.bool false)], args := [d] }
  | _ => none }
def FnExactSeqAllWrongFalsely : Prop := fnExactSeqAllRow.holds Tryz.pinned (OpenSpec.ofChange fnExactSeqAllWrong)

/-- 'laws.FnExactSeqUpto': WHATEVER THE INPUT: true; the input reads as it did. -/
def fnExactSeqUptoSpec : ChangeSpec := { name := "fnExactSeqUpto", fn := fun _ => fun
  | [d1, d2] => { results := [.lit (.bool true)], args := [d1, d2] }
  | _ => none }
def fnExactSeqUptoRow : OpenClaim := { program := "ytlikekmhccnilaagreat", sum := "9aec456e8c95ffb541179caee515f7ea2177a0c4f63916bbf740038e4dbde046", func := "loop.example/turnback/laws.FnExactSeqUpto", spec := "fnExactSeqUpto", unfollowed := true, recurses := true, plainKeys := false, apart := false }
def FnExactSeqUptoSaid : Prop := fnExactSeqUptoRow.holds Tryz.pinned (OpenSpec.ofChange fnExactSeqUptoSpec)

/-- ITS FALSE NEIGHBOUR: 'it returns false'. Refute it at one input. -/
def fnExactSeqUptoWrong : ChangeSpec := { name := "fnExactSeqUpto", fn := fun _ => fun
  | [d1, d2] => { results := [.lit (.bool false)], args := [d1, d2] }
  | _ => none }
def FnExactSeqUptoWrongFalsely : Prop := fnExactSeqUptoRow.holds Tryz.pinned (OpenSpec.ofChange fnExactSeqUptoWrong)

/-- 'laws.FnExactHstOk': WHATEVER THE INPUT: true; the input reads as it did. -/
def fnExactHstOkSpec : ChangeSpec := { name := "fnExactHstOk", fn := fun _ => fun
  | [d1, d2, d3] => { results := [.lit (.bool true)], args := [d1, d2, d3] }
  | _ => none }
def fnExactHstOkRow : OpenClaim := { program := "ytlikekmhccnilaagreat", sum := "9aec456e8c95ffb541179caee515f7ea2177a0c4f63916bbf740038e4dbde046", func := "loop.example/turnback/laws.FnExactHstOk", spec := "fnExactHstOk", unfollowed := true, recurses := true, plainKeys := false, apart := false }
def FnExactHstOkSaid : Prop := fnExactHstOkRow.holds Tryz.pinned (OpenSpec.ofChange fnExactHstOkSpec)

/-- ITS FALSE NEIGHBOUR: 'it returns false'. Refute it at one input. -/
def fnExactHstOkWrong : ChangeSpec := { name := "fnExactHstOk", fn := fun _ => fun
  | [d1, d2, d3] => { results := [.lit (.bool false)], args := [d1, d2, d3] }
  | _ => none }
def FnExactHstOkWrongFalsely : Prop := fnExactHstOkRow.holds Tryz.pinned (OpenSpec.ofChange fnExactHstOkWrong)

/-- 'laws.FnExactHstLeast': WHATEVER THE INPUT: true; the input reads as it did. -/
def fnExactHstLeastSpec : ChangeSpec := { name := "fnExactHstLeast", fn := fun _ => fun
  | [d1, d2, d3] => { results := [.lit (.bool true)], args := [d1, d2, d3] }
  | _ => none }
def fnExactHstLeastRow : OpenClaim := { program := "ytlikekmhccnilaagreat", sum := "9aec456e8c95ffb541179caee515f7ea2177a0c4f63916bbf740038e4dbde046", func := "loop.example/turnback/laws.FnExactHstLeast", spec := "fnExactHstLeast", unfollowed := true, recurses := true, plainKeys := false, apart := false }
def FnExactHstLeastSaid : Prop := fnExactHstLeastRow.holds Tryz.pinned (OpenSpec.ofChange fnExactHstLeastSpec)

/-- ITS FALSE NEIGHBOUR: 'it returns false'. Refute it at one input. -/
def fnExactHstLeastWrong : ChangeSpec := { name := "fnExactHstLeast", fn := fun _ => fun
  | [d1, d2, d3] => { results := [.lit (.bool false)], args := [d1, d2, d3] }
  | _ => none }
def FnExactHstLeastWrongFalsely : Prop := fnExactHstLeastRow.holds Tryz.pinned (OpenSpec.ofChange fnExactHstLeastWrong)

/-- 'laws.FnExactHstFree': WHATEVER THE INPUT: true; the input reads as it did. -/
def fnExactHstFreeSpec : ChangeSpec := { name := "fnExactHstFree", fn := fun _ => fun
  | [d1, d2, d3, d4] => { results := [.lit (.bool true)], args := [d1, d2, d3, d4] }
  | _ => none }
def fnExactHstFreeRow : OpenClaim := { program := "ytlikekmhccnilaagreat", sum := "9aec456e8c95ffb541179caee515f7ea2177a0c4f63916bbf740038e4dbde046", func := "loop.example/turnback/laws.FnExactHstFree", spec := "fnExactHstFree", unfollowed := true, recurses := true, plainKeys := false, apart := false }
def FnExactHstFreeSaid : Prop := fnExactHstFreeRow.holds Tryz.pinned (OpenSpec.ofChange fnExactHstFreeSpec)

/-- ITS FALSE NEIGHBOUR: 'it returns false'. Refute it at one input. -/
def fnExactHstFreeWrong : ChangeSpec := { name := "fnExactHstFree", fn := fun _ => fun
  | [d1, d2, d3, d4] => { results := [.lit (.bool false)], args := [d1, d2, d3, d4] }
  | _ => none }
def FnExactHstFreeWrongFalsely : Prop := fnExactHstFreeRow.holds Tryz.pinned (OpenSpec.ofChange fnExactHstFreeWrong)

/-- 'laws.FnExactWldNew': WHATEVER THE INPUT: true; the input reads as it did. -/
def fnExactWldNewSpec : ChangeSpec := { name := "fnExactWldNew", fn := fun _ => fun
  | [d1, d2] => { results := [.lit (.bool true)], args := [d1, d2] }
  | _ => none }
def fnExactWldNewRow : OpenClaim := { program := "ytlikekmhccnilaagreat", sum := "9aec456e8c95ffb541179caee515f7ea2177a0c4f63916bbf740038e4dbde046", func := "loop.example/turnback/laws.FnExactWldNew", spec := "fnExactWldNew", unfollowed := true, recurses := true, plainKeys := false, apart := false }
def FnExactWldNewSaid : Prop := fnExactWldNewRow.holds Tryz.pinned (OpenSpec.ofChange fnExactWldNewSpec)

/-- ITS FALSE NEIGHBOUR: 'it returns false'. Refute it at one input. -/
def fnExactWldNewWrong : ChangeSpec := { name := "fnExactWldNew", fn := fun _ => fun
  | [d1, d2] => { results := [.lit (.bool false)], args := [d1, d2] }
  | _ => none }
def FnExactWldNewWrongFalsely : Prop := fnExactWldNewRow.holds Tryz.pinned (OpenSpec.ofChange fnExactWldNewWrong)

/-- 'laws.FnExactWldOk': WHATEVER THE INPUT: true; the input reads as it did. -/
def fnExactWldOkSpec : ChangeSpec := { name := "fnExactWldOk", fn := fun _ => fun
  | [d] => { results := [.lit (.bool true)], args := [d] }
  | _ => none }
def fnExactWldOkRow : OpenClaim := { program := "ytlikekmhccnilaagreat", sum := "9aec456e8c95ffb541179caee515f7ea2177a0c4f63916bbf740038e4dbde046", func := "loop.example/turnback/laws.FnExactWldOk", spec := "fnExactWldOk", unfollowed := true, recurses := true, plainKeys := false, apart := false }
def FnExactWldOkSaid : Prop := fnExactWldOkRow.holds Tryz.pinned (OpenSpec.ofChange fnExactWldOkSpec)

/-- ITS FALSE NEIGHBOUR: 'it returns false'. Refute it at one input. -/
def fnExactWldOkWrong : ChangeSpec := { name := "fnExactWldOk", fn := fun _ => fun
  | [d] => { results := [.lit (.bool false)], args := [d] }
  | _ => none }
def FnExactWldOkWrongFalsely : Prop := fnExactWldOkRow.holds Tryz.pinned (OpenSpec.ofChange fnExactWldOkWrong)

/- THE SECOND FORM. 'bulk': how many values and letters a reading holds, each counted each time it is reached (what is shared counts as often as it is met; a slice's spare places count too). A statement '..UptoSaid' is the law's where the arguments, and the package variables that the reading takes, are together of bulk at most 1048576: NARROWER than '..Said'. Prove '..Said' where nothing that the law and all that it calls make is longer than what came in: it says more and counts as full. Else prove '..UptoSaid'. A law counts once. -/
mutual
def uptoBulk {H : Type} : DataW H → Nat
  | .lit (.string bytes) => bytes.length + 1
  | .lit _ => 1
  | .nil => 1
  | .ptr d => uptoBulk d + 1
  | .slice elems spare => uptoBulkAll elems + uptoBulkAll spare + 1
  | .agg parts => uptoBulkAll parts + 1
  | .iface _ d => uptoBulk d + 1
  | .map entries => uptoBulkEntries entries + 1
  | .held _ => 1
def uptoBulkAll {H : Type} : List (DataW H) → Nat
  | [] => 0
  | d :: r => uptoBulk d + uptoBulkAll r
def uptoBulkEntries {H : Type} : List (Lit × DataW H) → Nat
  | [] => 0
  | x :: r => uptoBulkEntry x + uptoBulkEntries r
def uptoBulkEntry {H : Type} : Lit × DataW H → Nat
  | (.string bytes, d) => bytes.length + uptoBulk d + 1
  | (_, d) => uptoBulk d + 1
 end
def uptoSmall : (H : Type) → List (DataW H) → Bool := fun _ ds => decide (uptoBulkAll ds ≤ 1048576)
def OpenSpec.upto (s : _root_.Go.ChangeSpec) : _root_.Go.OpenSpec := { _root_.Go.OpenSpec.ofChange s with cond := some uptoSmall }

/-- 'laws.FnExactSeqStep', WHERE WHAT IT READS IS OF BULK AT MOST 1048576: true; the input reads as it did. -/
def fnExactSeqStepUptoRow : OpenClaim := { program := "ytlikekmhccnilaagreat", sum := "9aec456e8c95ffb541179caee515f7ea2177a0c4f63916bbf740038e4dbde046", func := "loop.example/turnback/laws.FnExactSeqStep", spec := "fnExactSeqStep", unfollowed := true, recurses := true, plainKeys := false, apart := false, narrowed := true }
def FnExactSeqStepUptoSaid : Prop := fnExactSeqStepUptoRow.holds Tryz.pinned (OpenSpec.upto fnExactSeqStepSpec)

/-- 'laws.FnExactSeqAll', WHERE WHAT IT READS IS OF BULK AT MOST 1048576: true; the input reads as it did. -/
def fnExactSeqAllUptoRow : OpenClaim := { program := "ytlikekmhccnilaagreat", sum := "9aec456e8c95ffb541179caee515f7ea2177a0c4f63916bbf740038e4dbde046", func := "loop.example/turnback/laws.FnExactSeqAll", spec := "fnExactSeqAll", unfollowed := true, recurses := true, plainKeys := false, apart := false, narrowed := true }
def FnExactSeqAllUptoSaid : Prop := fnExactSeqAllUptoRow.holds Tryz.pinned (OpenSpec.upto fnExactSeqAllSpec)

/-- 'laws.FnExactSeqUpto', WHERE WHAT IT READS IS OF BULK AT MOST 1048576: true; the input reads as it did. -/
def fnExactSeqUptoUptoRow : OpenClaim := { program := "ytlikekmhccnilaagreat", sum := "9aec456e8c95ffb541179caee515f7ea2177a0c4f63916bbf740038e4dbde046", func := "loop.example/turnback/laws.FnExactSeqUpto", spec := "fnExactSeqUpto", unfollowed := true, recurses := true, plainKeys := false, apart := false, narrowed := true }
def FnExactSeqUptoUptoSaid : Prop := fnExactSeqUptoUptoRow.holds Tryz.pinned (OpenSpec.upto fnExactSeqUptoSpec)

/-- 'laws.FnExactHstOk', WHERE WHAT IT READS IS OF BULK AT MOST 1048576: true; the input reads as it did. -/
def fnExactHstOkUptoRow : OpenClaim := { program := "ytlikekmhccnilaagreat", sum := "9aec456e8c95ffb541179caee515f7ea2177a0c4f63916bbf740038e4dbde046", func := "loop.example/turnback/laws.FnExactHstOk", spec := "fnExactHstOk", unfollowed := true, recurses := true, plainKeys := false, apart := false, narrowed := true }
def FnExactHstOkUptoSaid : Prop := fnExactHstOkUptoRow.holds Tryz.pinned (OpenSpec.upto fnExactHstOkSpec)

/-- 'laws.FnExactHstLeast', WHERE WHAT IT READS IS OF BULK AT MOST 1048576: true; the input reads as it did. -/
def fnExactHstLeastUptoRow : OpenClaim := { program := "ytlikekmhccnilaagreat", sum := "9aec456e8c95ffb541179caee515f7ea2177a0c4f63916bbf740038e4dbde046", func := "loop.example/turnback/laws.FnExactHstLeast", spec := "fnExactHstLeast", unfollowed := true, recurses := true, plainKeys := false, apart := false, narrowed := true }
def FnExactHstLeastUptoSaid : Prop := fnExactHstLeastUptoRow.holds Tryz.pinned (OpenSpec.upto fnExactHstLeastSpec)

/-- 'laws.FnExactHstFree', WHERE WHAT IT READS IS OF BULK AT MOST 1048576: true; the input reads as it did. -/
def fnExactHstFreeUptoRow : OpenClaim := { program := "ytlikekmhccnilaagreat", sum := "9aec456e8c95ffb541179caee515f7ea2177a0c4f63916bbf740038e4dbde046", func := "loop.example/turnback/laws.FnExactHstFree", spec := "fnExactHstFree", unfollowed := true, recurses := true, plainKeys := false, apart := false, narrowed := true }
def FnExactHstFreeUptoSaid : Prop := fnExactHstFreeUptoRow.holds Tryz.pinned (OpenSpec.upto fnExactHstFreeSpec)

/-- 'laws.FnExactWldNew', WHERE WHAT IT READS IS OF BULK AT MOST 1048576: true; the input reads as it did. -/
def fnExactWldNewUptoRow : OpenClaim := { program := "ytlikekmhccnilaagreat", sum := "9aec456e8c95ffb541179caee515f7ea2177a0c4f63916bbf740038e4dbde046", func := "loop.example/turnback/laws.FnExactWldNew", spec := "fnExactWldNew", unfollowed := true, recurses := true, plainKeys := false, apart := false, narrowed := true }
def FnExactWldNewUptoSaid : Prop := fnExactWldNewUptoRow.holds Tryz.pinned (OpenSpec.upto fnExactWldNewSpec)

/-- 'laws.FnExactWldOk', WHERE WHAT IT READS IS OF BULK AT MOST 1048576: true; the input reads as it did. -/
def fnExactWldOkUptoRow : OpenClaim := { program := "ytlikekmhccnilaagreat", sum := "9aec456e8c95ffb541179caee515f7ea2177a0c4f63916bbf740038e4dbde046", func := "loop.example/turnback/laws.FnExactWldOk", spec := "fnExactWldOk", unfollowed := true, recurses := true, plainKeys := false, apart := false, narrowed := true }
def FnExactWldOkUptoSaid : Prop := fnExactWldOkUptoRow.holds Tryz.pinned (OpenSpec.upto fnExactWldOkSpec)

end Rows
end Go.Proofs.YtlikekmhccnilaaGreat

/-
  No cell of these rows narrows 'for every input' (looked for: loops, veiled, ifaces, maps, wideKeys, modest, calm, conditions, laid).
  DERIVED. THE GIVEN ROWS OF THIS SEAT. 13 by the template 'for every input the law returns true; each argument reads behind the call as it read before'; 0 by the template 'total and deterministic' (their statements: YtakmlfgkppekoaaTotals.lean).
  GIVEN WITH THE SEED: the statements are not yours to turn. If you find one false, say at which input.
  Laid BY PROGRAM, IN A SANDBOX (cutbox-rows.mjs): the forced cells as the released guide's own fill.sh prints them over the translation 4720aaea2bec976d… (all of the seat's roots in one cut). By AI agents, Wed Nov 11 2026. No macro, syntax, notation, axiom, sorry.
-/
import Derived.Test.YtakmlfgkppekoaaChecked
import GoSem.Claim
import GoSem.ClaimJoined
import GoSem.ClaimMapViews
import Derived.JoinedTies
import Derived.KernelRfl
namespace Go.Proofs.Ytakmlfgkppekoaa
/- THE CELL 'sum', in the pinned program and in every row, IS THE sha256 OF THE DUMP (.gsa) THAT YtakmlfgkppekoaaProg.lean LOADS. Nothing in Lean hashes anything: it is a label: what it is worth is what the hold of that sum in a sandbox is worth. -/
noncomputable def Try.pinned : Pinned := { name := "ytakmlfgkppekoaa", sum := "4720aaea2bec976d445ac7c1fcf5ae05e64e56ef8a597306a1c90fc484ebfd2a", checked := Try.checked }
namespace Rows
def none {H : Type} : Left H := { results := [], args := [] }

/-- 'laws.FnExactRevInverse': WHATEVER THE INPUT: true; the input reads as it did. -/
def fnExactRevInverseSpec : ChangeSpec := { name := "fnExactRevInverse", fn := fun _ => fun
  | [d] => { results := [.lit (.bool true)], args := [d] }
  | _ => none }
def fnExactRevInverseRow : OpenClaim := { program := "ytakmlfgkppekoaa", sum := "4720aaea2bec976d445ac7c1fcf5ae05e64e56ef8a597306a1c90fc484ebfd2a", func := "loop.example/turnback/laws.FnExactRevInverse", spec := "fnExactRevInverse", plainKeys := false, apart := false }
def FnExactRevInverseSaid : Prop := fnExactRevInverseRow.holds Try.pinned (OpenSpec.ofChange fnExactRevInverseSpec)

/-- ITS FALSE NEIGHBOUR: 'it returns false'. Refute it at one input. -/
def fnExactRevInverseWrong : ChangeSpec := { name := "fnExactRevInverse", fn := fun _ => fun
  | [d] => { results := [.lit (.bool false)], args := [d] }
  | _ => none }
def FnExactRevInverseWrongFalsely : Prop := fnExactRevInverseRow.holds Try.pinned (OpenSpec.ofChange fnExactRevInverseWrong)

/-- 'laws.FnExactRevOk': WHATEVER THE INPUT: true; the input reads as it did. -/
def fnExactRevOkSpec : ChangeSpec := { name := "fnExactRevOk", fn := fun _ => fun
  | [d1, d2] => { results := [.lit (.bool true)], args := [d1, d2] }
  | _ => none }
def fnExactRevOkRow : OpenClaim := { program := "ytakmlfgkppekoaa", sum := "4720aaea2bec976d445ac7c1fcf5ae05e64e56ef8a597306a1c90fc484ebfd2a", func := "loop.example/turnback/laws.FnExactRevOk", spec := "fnExactRevOk", unfollowed := true, recurses := true, plainKeys := false, apart := false }
def FnExactRevOkSaid : Prop := fnExactRevOkRow.holds Try.pinned (OpenSpec.ofChange fnExactRevOkSpec)

/-- ITS FALSE NEIGHBOUR: 'it returns false'. Refute it at one input. -/
def fnExactRevOkWrong : ChangeSpec := { name := "fnExactRevOk", fn := fun _ => fun
  | [d1, d2] => { results := [.lit (.bool false)], args := [d1, d2] }
  | _ => none }
def FnExactRevOkWrongFalsely : Prop := fnExactRevOkRow.holds Try.pinned (OpenSpec.ofChange fnExactRevOkWrong)

/-- 'laws.FnExactCmpUndo': WHATEVER THE INPUT: true; the input reads as it did. -/
def fnExactCmpUndoSpec : ChangeSpec := { name := "fnExactCmpUndo", fn := fun _ => fun
  | [d1, d2, d3] => { results := [.lit (.bool true)], args := [d1, d2, d3] }
  | _ => none }
def fnExactCmpUndoRow : OpenClaim := { program := "ytakmlfgkppekoaa", sum := "4720aaea2bec976d445ac7c1fcf5ae05e64e56ef8a597306a1c90fc484ebfd2a", func := "loop.example/turnback/laws.FnExactCmpUndo", spec := "fnExactCmpUndo", unfollowed := true, recurses := true, plainKeys := false, apart := false }
def FnExactCmpUndoSaid : Prop := fnExactCmpUndoRow.holds Try.pinned (OpenSpec.ofChange fnExactCmpUndoSpec)

/-- ITS FALSE NEIGHBOUR: 'it returns false'. Refute it at one input. -/
def fnExactCmpUndoWrong : ChangeSpec := { name := "fnExactCmpUndo", fn := fun _ => fun
  | [d1, d2, d3] => { results := [.lit (.bool false)], args := [d1, d2, d3] }
  | _ => none }
def FnExactCmpUndoWrongFalsely : Prop := fnExactCmpUndoRow.holds Try.pinned (OpenSpec.ofChange fnExactCmpUndoWrong)

/-- 'laws.FnExactRevBack': WHATEVER THE INPUT: true; the input reads as it did. -/
def fnExactRevBackSpec : ChangeSpec := { name := "fnExactRevBack", fn := fun _ => fun
  | [d1, d2, d3] => { results := [.lit (.bool true)], args := [d1, d2, d3] }
  | _ => none }
def fnExactRevBackRow : OpenClaim := { program := "ytakmlfgkppekoaa", sum := "4720aaea2bec976d445ac7c1fcf5ae05e64e56ef8a597306a1c90fc484ebfd2a", func := "loop.example/turnback/laws.FnExactRevBack", spec := "fnExactRevBack", unfollowed := true, recurses := true, plainKeys := false, apart := false }
def FnExactRevBackSaid : Prop := fnExactRevBackRow.holds Try.pinned (OpenSpec.ofChange fnExactRevBackSpec)

/-- ITS FALSE NEIGHBOUR: 'it returns false'. Refute it at one input. -/
def fnExactRevBackWrong : ChangeSpec := { name := "fnExactRevBack", fn := fun _ => fun
  | [d1, d2, d3] => { results := [.lit (.bool false)], args := [d1, d2, d3] }
  | _ => none }
def FnExactRevBackWrongFalsely : Prop := fnExactRevBackRow.holds Try.pinned (OpenSpec.ofChange fnExactRevBackWrong)

/-- 'laws.FnRevInverse': WHATEVER THE INPUT: true; the input reads as it did. -/
def fnRevInverseSpec : ChangeSpec := { name := "fnRevInverse", fn := fun _ => fun
  | [d] => { results := [.lit (.bool true)], args := [d] }
  | _ => none }
def fnRevInverseRow : OpenClaim := { program := "ytakmlfgkppekoaa", sum := "4720aaea2bec976d445ac7c1fcf5ae05e64e56ef8a597306a1c90fc484ebfd2a", func := "loop.example/turnback/laws.FnRevInverse", spec := "fnRevInverse", plainKeys := false, apart := false }
def FnRevInverseSaid : Prop := fnRevInverseRow.holds Try.pinned (OpenSpec.ofChange fnRevInverseSpec)

/-- ITS FALSE NEIGHBOUR: 'it returns false'. Refute it at one input. -/
def fnRevInverseWrong : ChangeSpec := { name := "fnRevInverse", fn := fun _ => fun
  | [d] => { results := [.lit (.bool false)], args := [d] }
  | _ => none }
def FnRevInverseWrongFalsely : Prop := fnRevInverseRow.holds Try.pinned (OpenSpec.ofChange fnRevInverseWrong)

/-- 'laws.FnRevOk': WHATEVER THE INPUT: true; the input reads as it did. -/
def fnRevOkSpec : ChangeSpec := { name := "fnRevOk", fn := fun _ => fun
  | [d] => { results := [.lit (.bool true)], args := [d] }
  | _ => none }
def fnRevOkRow : OpenClaim := { program := "ytakmlfgkppekoaa", sum := "4720aaea2bec976d445ac7c1fcf5ae05e64e56ef8a597306a1c90fc484ebfd2a", func := "loop.example/turnback/laws.FnRevOk", spec := "fnRevOk", unfollowed := true, recurses := true, plainKeys := false, apart := false }
def FnRevOkSaid : Prop := fnRevOkRow.holds Try.pinned (OpenSpec.ofChange fnRevOkSpec)

/-- ITS FALSE NEIGHBOUR: 'it returns false'. Refute it at one input. -/
def fnRevOkWrong : ChangeSpec := { name := "fnRevOk", fn := fun _ => fun
  | [d] => { results := [.lit (.bool false)], args := [d] }
  | _ => none }
def FnRevOkWrongFalsely : Prop := fnRevOkRow.holds Try.pinned (OpenSpec.ofChange fnRevOkWrong)

/-- 'laws.FnCmpUndo': WHATEVER THE INPUT: true; the input reads as it did. -/
def fnCmpUndoSpec : ChangeSpec := { name := "fnCmpUndo", fn := fun _ => fun
  | [d1, d2] => { results := [.lit (.bool true)], args := [d1, d2] }
  | _ => none }
def fnCmpUndoRow : OpenClaim := { program := "ytakmlfgkppekoaa", sum := "4720aaea2bec976d445ac7c1fcf5ae05e64e56ef8a597306a1c90fc484ebfd2a", func := "loop.example/turnback/laws.FnCmpUndo", spec := "fnCmpUndo", unfollowed := true, recurses := true, plainKeys := false, apart := false }
def FnCmpUndoSaid : Prop := fnCmpUndoRow.holds Try.pinned (OpenSpec.ofChange fnCmpUndoSpec)

/-- ITS FALSE NEIGHBOUR: 'it returns false'. Refute it at one input. -/
def fnCmpUndoWrong : ChangeSpec := { name := "fnCmpUndo", fn := fun _ => fun
  | [d1, d2] => { results := [.lit (.bool false)], args := [d1, d2] }
  | _ => none }
def FnCmpUndoWrongFalsely : Prop := fnCmpUndoRow.holds Try.pinned (OpenSpec.ofChange fnCmpUndoWrong)

/-- 'laws.FnRevBack': WHATEVER THE INPUT: true; the input reads as it did. -/
def fnRevBackSpec : ChangeSpec := { name := "fnRevBack", fn := fun _ => fun
  | [d] => { results := [.lit (.bool true)], args := [d] }
  | _ => none }
def fnRevBackRow : OpenClaim := { program := "ytakmlfgkppekoaa", sum := "4720aaea2bec976d445ac7c1fcf5ae05e64e56ef8a597306a1c90fc484ebfd2a", func := "loop.example/turnback/laws.FnRevBack", spec := "fnRevBack", unfollowed := true, recurses := true, plainKeys := false, apart := false }
def FnRevBackSaid : Prop := fnRevBackRow.holds Try.pinned (OpenSpec.ofChange fnRevBackSpec)

/-- ITS FALSE NEIGHBOUR: 'it returns false'. Refute it at one input. -/
def fnRevBackWrong : ChangeSpec := { name := "fnRevBack", fn := fun _ => fun
  | [d] => { results := [.lit (.bool false)], args := [d] }
  | _ => none }
def FnRevBackWrongFalsely : Prop := fnRevBackRow.holds Try.pinned (OpenSpec.ofChange fnRevBackWrong)

/-- 'laws.FnReverseRuns': WHATEVER THE INPUT: true; the input reads as it did. -/
def fnReverseRunsSpec : ChangeSpec := { name := "fnReverseRuns", fn := fun _ => fun
  | [d] => { results := [.lit (.bool true)], args := [d] }
  | _ => none }
def fnReverseRunsRow : OpenClaim := { program := "ytakmlfgkppekoaa", sum := "4720aaea2bec976d445ac7c1fcf5ae05e64e56ef8a597306a1c90fc484ebfd2a", func := "loop.example/turnback/laws.FnReverseRuns", spec := "fnReverseRuns", unfollowed := true, recurses := true, plainKeys := false, apart := false }
def FnReverseRunsSaid : Prop := fnReverseRunsRow.holds Try.pinned (OpenSpec.ofChange fnReverseRunsSpec)

/-- ITS FALSE NEIGHBOUR: 'it returns false'. Refute it at one input. -/
def fnReverseRunsWrong : ChangeSpec := { name := "fnReverseRuns", fn := fun _ => fun
  | [d] => { results := [.lit (.bool false)], args := [d] }
  | _ => none }
def FnReverseRunsWrongFalsely : Prop := fnReverseRunsRow.holds Try.pinned (OpenSpec.ofChange fnReverseRunsWrong)

/-- 'laws.FnSeqStep': WHATEVER THE INPUT: true; the input reads as it did. -/
def fnSeqStepSpec : ChangeSpec := { name := "fnSeqStep", fn := fun _ => fun
  | [d] => { results := [.lit (.bool true)], args := [d] }
  | _ => none }
def fnSeqStepRow : OpenClaim := { program := "ytakmlfgkppekoaa", sum := "4720aaea2bec976d445ac7c1fcf5ae05e64e56ef8a597306a1c90fc484ebfd2a", func := "loop.example/turnback/laws.FnSeqStep", spec := "fnSeqStep", unfollowed := true, recurses := true, plainKeys := false, apart := false }
def FnSeqStepSaid : Prop := fnSeqStepRow.holds Try.pinned (OpenSpec.ofChange fnSeqStepSpec)

/-- ITS FALSE NEIGHBOUR: 'it returns false'. Refute it at one input. -/
def fnSeqStepWrong : ChangeSpec := { name := "fnSeqStep", fn := fun _ => fun
  | [d] => { results := [.lit (.bool false)], args := [d] }
  | _ => none }
def FnSeqStepWrongFalsely : Prop := fnSeqStepRow.holds Try.pinned (OpenSpec.ofChange fnSeqStepWrong)

/-- 'laws.FnSeqOk': WHATEVER THE INPUT: true; the input reads as it did. -/
def fnSeqOkSpec : ChangeSpec := { name := "fnSeqOk", fn := fun _ => fun
  | [d1, d2] => { results := [.lit (.bool true)], args := [d1, d2] }
  | _ => none }
def fnSeqOkRow : OpenClaim := { program := "ytakmlfgkppekoaa", sum := "4720aaea2bec976d445ac7c1fcf5ae05e64e56ef8a597306a1c90fc484ebfd2a", func := "loop.example/turnback/laws.FnSeqOk", spec := "fnSeqOk", unfollowed := true, recurses := true, plainKeys := false, apart := false }
def FnSeqOkSaid : Prop := fnSeqOkRow.holds Try.pinned (OpenSpec.ofChange fnSeqOkSpec)

/-- ITS FALSE NEIGHBOUR: 'it returns false'. Refute it at one input. -/
def fnSeqOkWrong : ChangeSpec := { name := "fnSeqOk", fn := fun _ => fun
  | [d1, d2] => { results := [.lit (.bool false)], args := [d1, d2] }
  | _ => none }
def FnSeqOkWrongFalsely : Prop := fnSeqOkRow.holds Try.pinned (OpenSpec.ofChange fnSeqOkWrong)

/-- 'laws.FnSeqTill': WHATEVER THE INPUT: true; the input reads as it did. -/
def fnSeqTillSpec : ChangeSpec := { name := "fnSeqTill", fn := fun _ => fun
  | [d] => { results := [.lit (.bool true)], args := [d] }
  | _ => none }
def fnSeqTillRow : OpenClaim := { program := "ytakmlfgkppekoaa", sum := "4720aaea2bec976d445ac7c1fcf5ae05e64e56ef8a597306a1c90fc484ebfd2a", func := "loop.example/turnback/laws.FnSeqTill", spec := "fnSeqTill", unfollowed := true, recurses := true, plainKeys := false, apart := false }
def FnSeqTillSaid : Prop := fnSeqTillRow.holds Try.pinned (OpenSpec.ofChange fnSeqTillSpec)

/-- ITS FALSE NEIGHBOUR: 'it returns false'. Refute it at one input. -/
def fnSeqTillWrong : ChangeSpec := { name := "fnSeqTill", fn := fun _ => fun
  | [d] => { results := [.lit (.bool false)], args := [d] }
  | _ => none }
def FnSeqTillWrongFalsely : Prop := fnSeqTillRow.holds Try.pinned (OpenSpec.ofChange fnSeqTillWrong)

/-- 'laws.FnExactCmpDo': WHATEVER THE INPUT: true; the input reads as it did. -/
def fnExactCmpDoSpec : ChangeSpec := { name := "fnExactCmpDo", fn := fun _ => fun
  | [d1, d2, d3] => { results := [.lit (.bool true)], args := [d1, d2, d3] }
  | _ => none }
def fnExactCmpDoRow : OpenClaim := { program := "ytakmlfgkppekoaa", sum := "4720aaea2bec976d445ac7c1fcf5ae05e64e56ef8a597306a1c90fc484ebfd2a", func := "loop.example/turnback/laws.FnExactCmpDo", spec := "fnExactCmpDo", unfollowed := true, recurses := true, plainKeys := false, apart := false }
def FnExactCmpDoSaid : Prop := fnExactCmpDoRow.holds Try.pinned (OpenSpec.ofChange fnExactCmpDoSpec)

/-- ITS FALSE NEIGHBOUR: 'it returns false'. Refute it at one input. -/
def fnExactCmpDoWrong : ChangeSpec := { name := "fnExactCmpDo", fn := fun _ => fun
  | [d1, d2, d3] => { results := [.lit (.bool false)], args := [d1, d2, d3] }
  | _ => none }
def FnExactCmpDoWrongFalsely : Prop := fnExactCmpDoRow.holds Try.pinned (OpenSpec.ofChange fnExactCmpDoWrong)

/- THE SECOND FORM. 'bulk': how many values and letters a reading holds, each counted each time it is reached (what is shared counts as often as it is met; a slice's spare places count too). A statement '..UptoSaid' is the law's where the arguments, and the package variables that the reading takes, are together of bulk at most 1048576: NARROWER than '..Said'. Prove '..Said' where nothing that the law and all that it calls make is longer than what came in: it says more and counts as full. Else prove '..UptoSaid'. A law counts once. -/
mutual
def uptoBulk {H : Type} : DataW H → Nat
  | .lit (.string bytes) => bytes.length + 1
  | .lit _ => 1
  | .nil => 1
  | .ptr d => uptoBulk d + 1
  | .slice elems spare => uptoBulkAll elems + uptoBulkAll spare + 1
  | .agg parts => uptoBulkAll parts + 1
  | .iface _ d => uptoBulk d + 1
  | .map entries => uptoBulkEntries entries + 1
  | .held _ => 1
def uptoBulkAll {H : Type} : List (DataW H) → Nat
  | [] => 0
  | d :: r => uptoBulk d + uptoBulkAll r
def uptoBulkEntries {H : Type} : List (Lit × DataW H) → Nat
  | [] => 0
  | x :: r => uptoBulkEntry x + uptoBulkEntries r
def uptoBulkEntry {H : Type} : Lit × DataW H → Nat
  | (.string bytes, d) => bytes.length + uptoBulk d + 1
  | (_, d) => uptoBulk d + 1
 end
def uptoSmall : (H : Type) → List (DataW H) → Bool := fun _ ds => decide (uptoBulkAll ds ≤ 1048576)
def OpenSpec.upto (s : _root_.Go.ChangeSpec) : _root_.Go.OpenSpec := { _root_.Go.OpenSpec.ofChange s with cond := some uptoSmall }

/-- 'laws.FnExactRevInverse', WHERE WHAT IT READS IS OF BULK AT MOST 1048576: true; the input reads as it did. -/
def fnExactRevInverseUptoRow : OpenClaim := { program := "ytakmlfgkppekoaa", sum := "4720aaea2bec976d445ac7c1fcf5ae05e64e56ef8a597306a1c90fc484ebfd2a", func := "loop.example/turnback/laws.FnExactRevInverse", spec := "fnExactRevInverse", plainKeys := false, apart := false, narrowed := true }
def FnExactRevInverseUptoSaid : Prop := fnExactRevInverseUptoRow.holds Try.pinned (OpenSpec.upto fnExactRevInverseSpec)

/-- 'laws.FnExactRevOk', WHERE WHAT IT READS IS OF BULK AT MOST 1048576: true; the input reads as it did. -/
def fnExactRevOkUptoRow : OpenClaim := { program := "ytakmlfgkppekoaa", sum := "4720aaea2bec976d445ac7c1fcf5ae05e64e56ef8a597306a1c90fc484ebfd2a", func := "loop.example/turnback/laws.FnExactRevOk", spec := "fnExactRevOk", unfollowed := true, recurses := true, plainKeys := false, apart := false, narrowed := true }
def FnExactRevOkUptoSaid : Prop := fnExactRevOkUptoRow.holds Try.pinned (OpenSpec.upto fnExactRevOkSpec)

/-- 'laws.FnExactCmpUndo', WHERE WHAT IT READS IS OF BULK AT MOST 1048576: true; the input reads as it did. -/
def fnExactCmpUndoUptoRow : OpenClaim := { program := "ytakmlfgkppekoaa", sum := "4720aaea2bec976d445ac7c1fcf5ae05e64e56ef8a597306a1c90fc484ebfd2a", func := "loop.example/turnback/laws.FnExactCmpUndo", spec := "fnExactCmpUndo", unfollowed := true, recurses := true, plainKeys := false, apart := false, narrowed := true }
def FnExactCmpUndoUptoSaid : Prop := fnExactCmpUndoUptoRow.holds Try.pinned (OpenSpec.upto fnExactCmpUndoSpec)

/-- 'laws.FnExactRevBack', WHERE WHAT IT READS IS OF BULK AT MOST 1048576: true; the input reads as it did. -/
def fnExactRevBackUptoRow : OpenClaim := { program := "ytakmlfgkppekoaa", sum := "4720aaea2bec976d445ac7c1fcf5ae05e64e56ef8a597306a1c90fc484ebfd2a", func := "loop.example/turnback/laws.FnExactRevBack", spec := "fnExactRevBack", unfollowed := true, recurses := true, plainKeys := false, apart := false, narrowed := true }
def FnExactRevBackUptoSaid : Prop := fnExactRevBackUptoRow.holds Try.pinned (OpenSpec.upto fnExactRevBackSpec)

/-- 'laws.FnRevInverse', WHERE WHAT IT READS IS OF BULK AT MOST 1048576: true; the input reads as it did. -/
def fnRevInverseUptoRow : OpenClaim := { program := "ytakmlfgkppekoaa", sum := "4720aaea2bec976d445ac7c1fcf5ae05e64e56ef8a597306a1c90fc484ebfd2a", func := "loop.example/turnback/laws.FnRevInverse", spec := "fnRevInverse", plainKeys := false, apart := false, narrowed := true }
def FnRevInverseUptoSaid : Prop := fnRevInverseUptoRow.holds Try.pinned (OpenSpec.upto fnRevInverseSpec)

/-- 'laws.FnRevOk', WHERE WHAT IT READS IS OF BULK AT MOST 1048576: true; the input reads as it did. -/
def fnRevOkUptoRow : OpenClaim := { program := "ytakmlfgkppekoaa", sum := "4720aaea2bec976d445ac7c1fcf5ae05e64e56ef8a597306a1c90fc484ebfd2a", func := "loop.example/turnback/laws.FnRevOk", spec := "fnRevOk", unfollowed := true, recurses := true, plainKeys := false, apart := false, narrowed := true }
def FnRevOkUptoSaid : Prop := fnRevOkUptoRow.holds Try.pinned (OpenSpec.upto fnRevOkSpec)

/-- 'laws.FnCmpUndo', WHERE WHAT IT READS IS OF BULK AT MOST 1048576: true; the input reads as it did. -/
def fnCmpUndoUptoRow : OpenClaim := { program := "ytakmlfgkppekoaa", sum := "4720aaea2bec976d445ac7c1fcf5ae05e64e56ef8a597306a1c90fc484ebfd2a", func := "loop.example/turnback/laws.FnCmpUndo", spec := "fnCmpUndo", unfollowed := true, recurses := true, plainKeys := false, apart := false, narrowed := true }
def FnCmpUndoUptoSaid : Prop := fnCmpUndoUptoRow.holds Try.pinned (OpenSpec.upto fnCmpUndoSpec)

/-- 'laws.FnRevBack', WHERE WHAT IT READS IS OF BULK AT MOST 1048576: true; the input reads as it did. -/
def fnRevBackUptoRow : OpenClaim := { program := "ytakmlfgkppekoaa", sum := "4720aaea2bec976d445ac7c1fcf5ae05e64e56ef8a597306a1c90fc484ebfd2a", func := "loop.example/turnback/laws.FnRevBack", spec := "fnRevBack", unfollowed := true, recurses := true, plainKeys := false, apart := false, narrowed := true }
def FnRevBackUptoSaid : Prop := fnRevBackUptoRow.holds Try.pinned (OpenSpec.upto fnRevBackSpec)

/-- 'laws.FnReverseRuns', WHERE WHAT IT READS IS OF BULK AT MOST 1048576: true; the input reads as it did. -/
def fnReverseRunsUptoRow : OpenClaim := { program := "ytakmlfgkppekoaa", sum := "4720aaea2bec976d445ac7c1fcf5ae05e64e56ef8a597306a1c90fc484ebfd2a", func := "loop.example/turnback/laws.FnReverseRuns", spec := "fnReverseRuns", unfollowed := true, recurses := true, plainKeys := false, apart := false, narrowed := true }
def FnReverseRunsUptoSaid : Prop := fnReverseRunsUptoRow.holds Try.pinned (OpenSpec.upto fnReverseRunsSpec)

/-- 'laws.FnSeqStep', WHERE WHAT IT READS IS OF BULK AT MOST 1048576: true; the input reads as it did. -/
def fnSeqStepUptoRow : OpenClaim := { program := "ytakmlfgkppekoaa", sum := "4720aaea2bec976d445ac7c1fcf5ae05e64e56ef8a597306a1c90fc484ebfd2a", func := "loop.example/turnback/laws.FnSeqStep", spec := "fnSeqStep", unfollowed := true, recurses := true, plainKeys := false, apart := false, narrowed := true }
def FnSeqStepUptoSaid : Prop := fnSeqStepUptoRow.holds Try.pinned (OpenSpec.upto fnSeqStepSpec)

/-- 'laws.FnSeqOk', WHERE WHAT IT READS IS OF BULK AT MOST 1048576: true; the input reads as it did. -/
def fnSeqOkUptoRow : OpenClaim := { program := "ytakmlfgkppekoaa", sum := "4720aaea2bec976d445ac7c1fcf5ae05e64e56ef8a597306a1c90fc484ebfd2a", func := "loop.example/turnback/laws.FnSeqOk", spec := "fnSeqOk", unfollowed := true, recurses := true, plainKeys := false, apart := false, narrowed := true }
def FnSeqOkUptoSaid : Prop := fnSeqOkUptoRow.holds Try.pinned (OpenSpec.upto fnSeqOkSpec)

/-- 'laws.FnSeqTill', WHERE WHAT IT READS IS OF BULK AT MOST 1048576: true; the input reads as it did. -/
def fnSeqTillUptoRow : OpenClaim := { program := "ytakmlfgkppekoaa", sum := "4720aaea2bec976d445ac7c1fcf5ae05e64e56ef8a597306a1c90fc484ebfd2a", func := "loop.example/turnback/laws.FnSeqTill", spec := "fnSeqTill", unfollowed := true, recurses := true, plainKeys := false, apart := false, narrowed := true }
def FnSeqTillUptoSaid : Prop := fnSeqTillUptoRow.holds Try.pinned (OpenSpec.upto fnSeqTillSpec)

/-- 'laws.FnExactCmpDo', WHERE WHAT IT READS IS OF BULK AT MOST 1048576: true; the input reads as it did. -/
def fnExactCmpDoUptoRow : OpenClaim := { program := "ytakmlfgkppekoaa", sum := "4720aaea2bec976d445ac7c1fcf5ae05e64e56ef8a597306a1c90fc484ebfd2a", func := "loop.example/turnback/laws.FnExactCmpDo", spec := "fnExactCmpDo", unfollowed := true, recurses := true, plainKeys := false, apart := false, narrowed := true }
def FnExactCmpDoUptoSaid : Prop := fnExactCmpDoUptoRow.holds Try.pinned (OpenSpec.upto fnExactCmpDoSpec)

end Rows
end Go.Proofs.Ytakmlfgkppekoaa

/-
  No cell of these rows narrows 'for every input' (looked for: loops, veiled, ifaces, maps, wideKeys, modest, calm, conditions, laid).
  DERIVED. THE GIVEN ROWS OF THIS SEAT. 12 by the template 'for every input the law returns true; each argument reads behind the call as it read before'; 0 by the template 'total and deterministic' (their statements: YtkfjemgelmbcfaaTotals.lean).
  GIVEN WITH THE SEED: the statements are not yours to turn. If you find one false, say at which input.
  Laid BY PROGRAM, IN A SANDBOX (cutbox-rows.mjs): the forced cells as the released guide's own fill.sh prints them over the translation 146cc47d6014ea76… (all of the seat's roots in one cut). By AI agents, Wed Nov 11 2026. No macro, syntax, notation, axiom, sorry.
-/
import Derived.Test.YtkfjemgelmbcfaaChecked
import GoSem.Claim
import GoSem.ClaimJoined
import GoSem.ClaimMapViews
import Derived.JoinedTies
import Derived.KernelRfl
namespace Go.Proofs.Ytkfjemgelmbcfaa
/- THE CELL 'sum', in the pinned program and in every row, IS THE sha256 OF THE DUMP (.gsa) THAT YtkfjemgelmbcfaaProg.lean LOADS. Nothing in Lean hashes anything: it is a label: what it is worth is what the hold of that sum in a sandbox is worth. -/
noncomputable def Try.pinned : Pinned := { name := "ytkfjemgelmbcfaa", sum := "146cc47d6014ea76c90dea1e1f06b4a11a24cb718a07769900a4a60af1db8e67", checked := Try.checked }
namespace Rows
def none {H : Type} : Left H := { results := [], args := [] }

/-- 'laws.FnMdlOk': WHATEVER THE INPUT: true; the input reads as it did. -/
def fnMdlOkSpec : ChangeSpec := { name := "fnMdlOk", fn := fun _ => fun
  | [d] => { results := [.lit (.bool true)], args := [d] }
  | _ => none }
def fnMdlOkRow : OpenClaim := { program := "ytkfjemgelmbcfaa", sum := "146cc47d6014ea76c90dea1e1f06b4a11a24cb718a07769900a4a60af1db8e67", func := "loop.example/turnback/laws.FnMdlOk", spec := "fnMdlOk", unfollowed := true, recurses := true, plainKeys := false, apart := false }
def FnMdlOkSaid : Prop := fnMdlOkRow.holds Try.pinned (OpenSpec.ofChange fnMdlOkSpec)

/-- ITS FALSE NEIGHBOUR: 'it returns false'. Refute it at one input. -/
def fnMdlOkWrong : ChangeSpec := { name := "fnMdlOk", fn := fun _ => fun
  | [d] => { results := [.lit (.bool false)], args := [d] }
  | _ => none }
def FnMdlOkWrongFalsely : Prop := fnMdlOkRow.holds Try.pinned (OpenSpec.ofChange fnMdlOkWrong)

/-- 'laws.FnExactMdlOk': WHATEVER THE INPUT: true; the input reads as it did. -/
def fnExactMdlOkSpec : ChangeSpec := { name := "fnExactMdlOk", fn := fun _ => fun
  | [d] => { results := [.lit (.bool true)], args := [d] }
  | _ => none }
def fnExactMdlOkRow : OpenClaim := { program := "ytkfjemgelmbcfaa", sum := "146cc47d6014ea76c90dea1e1f06b4a11a24cb718a07769900a4a60af1db8e67", func := "loop.example/turnback/laws.FnExactMdlOk", spec := "fnExactMdlOk", unfollowed := true, recurses := true, plainKeys := false, apart := false }
def FnExactMdlOkSaid : Prop := fnExactMdlOkRow.holds Try.pinned (OpenSpec.ofChange fnExactMdlOkSpec)

/-- ITS FALSE NEIGHBOUR: 'it returns false'. Refute it at one input. -/
def fnExactMdlOkWrong : ChangeSpec := { name := "fnExactMdlOk", fn := fun _ => fun
  | [d] => { results := [.lit (.bool false)], args := [d] }
  | _ => none }
def FnExactMdlOkWrongFalsely : Prop := fnExactMdlOkRow.holds Try.pinned (OpenSpec.ofChange fnExactMdlOkWrong)

/-- 'laws.FnEvtRise': WHATEVER THE INPUT: true; the input reads as it did. -/
def fnEvtRiseSpec : ChangeSpec := { name := "fnEvtRise", fn := fun _ => fun
  | [d] => { results := [.lit (.bool true)], args := [d] }
  | _ => none }
def fnEvtRiseRow : OpenClaim := { program := "ytkfjemgelmbcfaa", sum := "146cc47d6014ea76c90dea1e1f06b4a11a24cb718a07769900a4a60af1db8e67", func := "loop.example/turnback/laws.FnEvtRise", spec := "fnEvtRise", unfollowed := true, recurses := true, plainKeys := false, apart := false }
def FnEvtRiseSaid : Prop := fnEvtRiseRow.holds Try.pinned (OpenSpec.ofChange fnEvtRiseSpec)

/-- ITS FALSE NEIGHBOUR: 'it returns false'. Refute it at one input. -/
def fnEvtRiseWrong : ChangeSpec := { name := "fnEvtRise", fn := fun _ => fun
  | [d] => { results := [.lit (.bool false)], args := [d] }
  | _ => none }
def FnEvtRiseWrongFalsely : Prop := fnEvtRiseRow.holds Try.pinned (OpenSpec.ofChange fnEvtRiseWrong)

/-- 'laws.FnExactEvtRise': WHATEVER THE INPUT: true; the input reads as it did. -/
def fnExactEvtRiseSpec : ChangeSpec := { name := "fnExactEvtRise", fn := fun _ => fun
  | [d] => { results := [.lit (.bool true)], args := [d] }
  | _ => none }
def fnExactEvtRiseRow : OpenClaim := { program := "ytkfjemgelmbcfaa", sum := "146cc47d6014ea76c90dea1e1f06b4a11a24cb718a07769900a4a60af1db8e67", func := "loop.example/turnback/laws.FnExactEvtRise", spec := "fnExactEvtRise", unfollowed := true, recurses := true, plainKeys := false, apart := false }
def FnExactEvtRiseSaid : Prop := fnExactEvtRiseRow.holds Try.pinned (OpenSpec.ofChange fnExactEvtRiseSpec)

/-- ITS FALSE NEIGHBOUR: 'it returns false'. Refute it at one input. -/
def fnExactEvtRiseWrong : ChangeSpec := { name := "fnExactEvtRise", fn := fun _ => fun
  | [d] => { results := [.lit (.bool false)], args := [d] }
  | _ => none }
def FnExactEvtRiseWrongFalsely : Prop := fnExactEvtRiseRow.holds Try.pinned (OpenSpec.ofChange fnExactEvtRiseWrong)

/-- 'laws.FnEvtPut': WHATEVER THE INPUT: true; the input reads as it did. -/
def fnEvtPutSpec : ChangeSpec := { name := "fnEvtPut", fn := fun _ => fun
  | [d] => { results := [.lit (.bool true)], args := [d] }
  | _ => none }
def fnEvtPutRow : OpenClaim := { program := "ytkfjemgelmbcfaa", sum := "146cc47d6014ea76c90dea1e1f06b4a11a24cb718a07769900a4a60af1db8e67", func := "loop.example/turnback/laws.FnEvtPut", spec := "fnEvtPut", unfollowed := true, recurses := true, plainKeys := false, apart := false }
def FnEvtPutSaid : Prop := fnEvtPutRow.holds Try.pinned (OpenSpec.ofChange fnEvtPutSpec)

/-- ITS FALSE NEIGHBOUR: 'it returns false'. Refute it at one input. -/
def fnEvtPutWrong : ChangeSpec := { name := "fnEvtPut", fn := fun _ => fun
  | [d] => { results := [.lit (.bool false)], args := [d] }
  | _ => none }
def FnEvtPutWrongFalsely : Prop := fnEvtPutRow.holds Try.pinned (OpenSpec.ofChange fnEvtPutWrong)

/-- 'laws.FnExactEvtPut': WHATEVER THE INPUT: true; the input reads as it did. -/
def fnExactEvtPutSpec : ChangeSpec := { name := "fnExactEvtPut", fn := fun _ => fun
  | [d1, d2] => { results := [.lit (.bool true)], args := [d1, d2] }
  | _ => none }
def fnExactEvtPutRow : OpenClaim := { program := "ytkfjemgelmbcfaa", sum := "146cc47d6014ea76c90dea1e1f06b4a11a24cb718a07769900a4a60af1db8e67", func := "loop.example/turnback/laws.FnExactEvtPut", spec := "fnExactEvtPut", unfollowed := true, recurses := true, plainKeys := false, apart := false }
def FnExactEvtPutSaid : Prop := fnExactEvtPutRow.holds Try.pinned (OpenSpec.ofChange fnExactEvtPutSpec)

/-- ITS FALSE NEIGHBOUR: 'it returns false'. Refute it at one input. -/
def fnExactEvtPutWrong : ChangeSpec := { name := "fnExactEvtPut", fn := fun _ => fun
  | [d1, d2] => { results := [.lit (.bool false)], args := [d1, d2] }
  | _ => none }
def FnExactEvtPutWrongFalsely : Prop := fnExactEvtPutRow.holds Try.pinned (OpenSpec.ofChange fnExactEvtPutWrong)

/-- 'laws.FnExactCmpDo': WHATEVER THE INPUT: true; the input reads as it did. -/
def fnExactCmpDoSpec : ChangeSpec := { name := "fnExactCmpDo", fn := fun _ => fun
  | [d1, d2, d3] => { results := [.lit (.bool true)], args := [d1, d2, d3] }
  | _ => none }
def fnExactCmpDoRow : OpenClaim := { program := "ytkfjemgelmbcfaa", sum := "146cc47d6014ea76c90dea1e1f06b4a11a24cb718a07769900a4a60af1db8e67", func := "loop.example/turnback/laws.FnExactCmpDo", spec := "fnExactCmpDo", unfollowed := true, recurses := true, plainKeys := false, apart := false }
def FnExactCmpDoSaid : Prop := fnExactCmpDoRow.holds Try.pinned (OpenSpec.ofChange fnExactCmpDoSpec)

/-- ITS FALSE NEIGHBOUR: 'it returns false'. Refute it at one input. -/
def fnExactCmpDoWrong : ChangeSpec := { name := "fnExactCmpDo", fn := fun _ => fun
  | [d1, d2, d3] => { results := [.lit (.bool false)], args := [d1, d2, d3] }
  | _ => none }
def FnExactCmpDoWrongFalsely : Prop := fnExactCmpDoRow.holds Try.pinned (OpenSpec.ofChange fnExactCmpDoWrong)

/-- 'laws.FnExactSeqNew': WHATEVER THE INPUT: true; the input reads as it did. -/
def fnExactSeqNewSpec : ChangeSpec := { name := "fnExactSeqNew", fn := fun _ => fun
  | [d] => { results := [.lit (.bool true)], args := [d] }
  | _ => none }
def fnExactSeqNewRow : OpenClaim := { program := "ytkfjemgelmbcfaa", sum := "146cc47d6014ea76c90dea1e1f06b4a11a24cb718a07769900a4a60af1db8e67", func := "loop.example/turnback/laws.FnExactSeqNew", spec := "fnExactSeqNew", unfollowed := true, recurses := true, plainKeys := false, apart := false }
def FnExactSeqNewSaid : Prop := fnExactSeqNewRow.holds Try.pinned (OpenSpec.ofChange fnExactSeqNewSpec)

/-- ITS FALSE NEIGHBOUR: 'it returns false'. Refute it at one input. -/
def fnExactSeqNewWrong : ChangeSpec := { name := "fnExactSeqNew", fn := fun _ => fun
  | [d] => { results := [.lit (.bool false)], args := [d] }
  | _ => none }
def FnExactSeqNewWrongFalsely : Prop := fnExactSeqNewRow.holds Try.pinned (OpenSpec.ofChange fnExactSeqNewWrong)

/-- 'laws.FnExactSeqOk': WHATEVER THE INPUT: true; the input reads as it did. -/
def fnExactSeqOkSpec : ChangeSpec := { name := "fnExactSeqOk", fn := fun _ => fun
  | [d1, d2] => { results := [.lit (.bool true)], args := [d1, d2] }
  | _ => none }
def fnExactSeqOkRow : OpenClaim := { program := "ytkfjemgelmbcfaa", sum := "146cc47d6014ea76c90dea1e1f06b4a11a24cb718a07769900a4a60af1db8e67", func := "loop.example/turnback/laws.FnExactSeqOk", spec := "fnExactSeqOk", unfollowed := true, recurses := true, plainKeys := false, apart := false }
def FnExactSeqOkSaid : Prop := fnExactSeqOkRow.holds Try.pinned (OpenSpec.ofChange fnExactSeqOkSpec)

/-- ITS FALSE NEIGHBOUR: 'it returns false'. Refute it at one input. -/
def fnExactSeqOkWrong : ChangeSpec := { name := "fnExactSeqOk", fn := fun _ => fun
  | [d1, d2] => { results := [.lit (.bool false)], args := [d1, d2] }
  | _ => none }
def FnExactSeqOkWrongFalsely : Prop := fnExactSeqOkRow.holds Try.pinned (OpenSpec.ofChange fnExactSeqOkWrong)

/-- 'laws.FnSeqNew': WHATEVER THE INPUT: true; the input reads as it did. -/
def fnSeqNewSpec : ChangeSpec := { name := "fnSeqNew", fn := fun _ => fun
  | [d] => { results := [.lit (.bool true)], args := [d] }
  | _ => none }
def fnSeqNewRow : OpenClaim := { program := "ytkfjemgelmbcfaa", sum := "146cc47d6014ea76c90dea1e1f06b4a11a24cb718a07769900a4a60af1db8e67", func := "loop.example/turnback/laws.FnSeqNew", spec := "fnSeqNew", unfollowed := true, recurses := true, plainKeys := false, apart := false }
def FnSeqNewSaid : Prop := fnSeqNewRow.holds Try.pinned (OpenSpec.ofChange fnSeqNewSpec)

/-- ITS FALSE NEIGHBOUR: 'it returns false'. Refute it at one input. -/
def fnSeqNewWrong : ChangeSpec := { name := "fnSeqNew", fn := fun _ => fun
  | [d] => { results := [.lit (.bool false)], args := [d] }
  | _ => none }
def FnSeqNewWrongFalsely : Prop := fnSeqNewRow.holds Try.pinned (OpenSpec.ofChange fnSeqNewWrong)

/-- 'laws.FnHstNew': WHATEVER THE INPUT: true; the input reads as it did. -/
def fnHstNewSpec : ChangeSpec := { name := "fnHstNew", fn := fun _ => fun
  | [d] => { results := [.lit (.bool true)], args := [d] }
  | _ => none }
def fnHstNewRow : OpenClaim := { program := "ytkfjemgelmbcfaa", sum := "146cc47d6014ea76c90dea1e1f06b4a11a24cb718a07769900a4a60af1db8e67", func := "loop.example/turnback/laws.FnHstNew", spec := "fnHstNew", unfollowed := true, recurses := true, plainKeys := false, apart := false }
def FnHstNewSaid : Prop := fnHstNewRow.holds Try.pinned (OpenSpec.ofChange fnHstNewSpec)

/-- ITS FALSE NEIGHBOUR: 'it returns false'. Refute it at one input. -/
def fnHstNewWrong : ChangeSpec := { name := "fnHstNew", fn := fun _ => fun
  | [d] => { results := [.lit (.bool false)], args := [d] }
  | _ => none }
def FnHstNewWrongFalsely : Prop := fnHstNewRow.holds Try.pinned (OpenSpec.ofChange fnHstNewWrong)

/-- 'laws.FnExactHstNew': WHATEVER THE INPUT: true; the input reads as it did. -/
def fnExactHstNewSpec : ChangeSpec := { name := "fnExactHstNew", fn := fun _ => fun
  | [d1, d2] => { results := [.lit (.bool true)], args := [d1, d2] }
  | _ => none }
def fnExactHstNewRow : OpenClaim := { program := "ytkfjemgelmbcfaa", sum := "146cc47d6014ea76c90dea1e1f06b4a11a24cb718a07769900a4a60af1db8e67", func := "loop.example/turnback/laws.FnExactHstNew", spec := "fnExactHstNew", unfollowed := true, recurses := true, plainKeys := false, apart := false }
def FnExactHstNewSaid : Prop := fnExactHstNewRow.holds Try.pinned (OpenSpec.ofChange fnExactHstNewSpec)

/-- ITS FALSE NEIGHBOUR: 'it returns false'. Refute it at one input. -/
def fnExactHstNewWrong : ChangeSpec := { name := "fnExactHstNew", fn := fun _ => fun
  | [d1, d2] => { results := [.lit (.bool false)], args := [d1, d2] }
  | _ => none }
def FnExactHstNewWrongFalsely : Prop := fnExactHstNewRow.holds Try.pinned (OpenSpec.ofChange fnExactHstNewWrong)

/- THE SECOND FORM. 'bulk': how many values and letters a reading holds, each counted each time it is reached (what is shared counts as often as it is met; a slice's spare places count too). A statement '..UptoSaid' is the law's where the arguments, and the package variables that the reading takes, are together of bulk at most 1048576: NARROWER than '..Said'. Prove '..Said' where nothing that the law and all that it calls make is longer than what came in: it says more and counts as full. Else prove '..UptoSaid'. A law counts once. -/
mutual
def uptoBulk {H : Type} : DataW H → Nat
  | .lit (.string bytes) => bytes.length + 1
  | .lit _ => 1
  | .nil => 1
  | .ptr d => uptoBulk d + 1
  | .slice elems spare => uptoBulkAll elems + uptoBulkAll spare + 1
  | .agg parts => uptoBulkAll parts + 1
  | .iface _ d => uptoBulk d + 1
  | .map entries => uptoBulkEntries entries + 1
  | .held _ => 1
def uptoBulkAll {H : Type} : List (DataW H) → Nat
  | [] => 0
  | d :: r => uptoBulk d + uptoBulkAll r
def uptoBulkEntries {H : Type} : List (Lit × DataW H) → Nat
  | [] => 0
  | x :: r => uptoBulkEntry x + uptoBulkEntries r
def uptoBulkEntry {H : Type} : Lit × DataW H → Nat
  | (.string bytes, d) => bytes.length + uptoBulk d + 1
  | (_, d) => uptoBulk d + 1
 end
def uptoSmall : (H : Type) → List (DataW H) → Bool := fun _ ds => decide (uptoBulkAll ds ≤ 1048576)
def OpenSpec.upto (s : _root_.Go.ChangeSpec) : _root_.Go.OpenSpec := { _root_.Go.OpenSpec.ofChange s with cond := some uptoSmall }

/-- 'laws.FnMdlOk', WHERE WHAT IT READS IS OF BULK AT MOST 1048576: true; the input reads as it did. -/
def fnMdlOkUptoRow : OpenClaim := { program := "ytkfjemgelmbcfaa", sum := "146cc47d6014ea76c90dea1e1f06b4a11a24cb718a07769900a4a60af1db8e67", func := "loop.example/turnback/laws.FnMdlOk", spec := "fnMdlOk", unfollowed := true, recurses := true, plainKeys := false, apart := false, narrowed := true }
def FnMdlOkUptoSaid : Prop := fnMdlOkUptoRow.holds Try.pinned (OpenSpec.upto fnMdlOkSpec)

/-- 'laws.FnExactMdlOk', WHERE WHAT IT READS IS OF BULK AT MOST 1048576: true; the input reads as it did. -/
def fnExactMdlOkUptoRow : OpenClaim := { program := "ytkfjemgelmbcfaa", sum := "146cc47d6014ea76c90dea1e1f06b4a11a24cb718a07769900a4a60af1db8e67", func := "loop.example/turnback/laws.FnExactMdlOk", spec := "fnExactMdlOk", unfollowed := true, recurses := true, plainKeys := false, apart := false, narrowed := true }
def FnExactMdlOkUptoSaid : Prop := fnExactMdlOkUptoRow.holds Try.pinned (OpenSpec.upto fnExactMdlOkSpec)

/-- 'laws.FnEvtRise', WHERE WHAT IT READS IS OF BULK AT MOST 1048576: true; the input reads as it did. -/
def fnEvtRiseUptoRow : OpenClaim := { program := "ytkfjemgelmbcfaa", sum := "146cc47d6014ea76c90dea1e1f06b4a11a24cb718a07769900a4a60af1db8e67", func := "loop.example/turnback/laws.FnEvtRise", spec := "fnEvtRise", unfollowed := true, recurses := true, plainKeys := false, apart := false, narrowed := true }
def FnEvtRiseUptoSaid : Prop := fnEvtRiseUptoRow.holds Try.pinned (OpenSpec.upto fnEvtRiseSpec)

/-- 'laws.FnExactEvtRise', WHERE WHAT IT READS IS OF BULK AT MOST 1048576: true; the input reads as it did. -/
def fnExactEvtRiseUptoRow : OpenClaim := { program := "ytkfjemgelmbcfaa", sum := "146cc47d6014ea76c90dea1e1f06b4a11a24cb718a07769900a4a60af1db8e67", func := "loop.example/turnback/laws.FnExactEvtRise", spec := "fnExactEvtRise", unfollowed := true, recurses := true, plainKeys := false, apart := false, narrowed := true }
def FnExactEvtRiseUptoSaid : Prop := fnExactEvtRiseUptoRow.holds Try.pinned (OpenSpec.upto fnExactEvtRiseSpec)

/-- 'laws.FnEvtPut', WHERE WHAT IT READS IS OF BULK AT MOST 1048576: true; the input reads as it did. -/
def fnEvtPutUptoRow : OpenClaim := { program := "ytkfjemgelmbcfaa", sum := "146cc47d6014ea76c90dea1e1f06b4a11a24cb718a07769900a4a60af1db8e67", func := "loop.example/turnback/laws.FnEvtPut", spec := "fnEvtPut", unfollowed := true, recurses := true, plainKeys := false, apart := false, narrowed := true }
def FnEvtPutUptoSaid : Prop := fnEvtPutUptoRow.holds Try.pinned (OpenSpec.upto fnEvtPutSpec)

/-- 'laws.FnExactEvtPut', WHERE WHAT IT READS IS OF BULK AT MOST 1048576: true; the input reads as it did. -/
def fnExactEvtPutUptoRow : OpenClaim := { program := "ytkfjemgelmbcfaa", sum := "146cc47d6014ea76c90dea1e1f06b4a11a24cb718a07769900a4a60af1db8e67", func := "loop.example/turnback/laws.FnExactEvtPut", spec := "fnExactEvtPut", unfollowed := true, recurses := true, plainKeys := false, apart := false, narrowed := true }
def FnExactEvtPutUptoSaid : Prop := fnExactEvtPutUptoRow.holds Try.pinned (OpenSpec.upto fnExactEvtPutSpec)

/-- 'laws.FnExactCmpDo', WHERE WHAT IT READS IS OF BULK AT MOST 1048576: true; the input reads as it did. -/
def fnExactCmpDoUptoRow : OpenClaim := { program := "ytkfjemgelmbcfaa", sum := "146cc47d6014ea76c90dea1e1f06b4a11a24cb718a07769900a4a60af1db8e67", func := "loop.example/turnback/laws.FnExactCmpDo", spec := "fnExactCmpDo", unfollowed := true, recurses := true, plainKeys := false, apart := false, narrowed := true }
def FnExactCmpDoUptoSaid : Prop := fnExactCmpDoUptoRow.holds Try.pinned (OpenSpec.upto fnExactCmpDoSpec)

/-- 'laws.FnExactSeqNew', WHERE WHAT IT READS IS OF BULK AT MOST 1048576: true; the input reads as it did. -/
def fnExactSeqNewUptoRow : OpenClaim := { program := "ytkfjemgelmbcfaa", sum := "146cc47d6014ea76c90dea1e1f06b4a11a24cb718a07769900a4a60af1db8e67", func := "loop.example/turnback/laws.FnExactSeqNew", spec := "fnExactSeqNew", unfollowed := true, recurses := true, plainKeys := false, apart := false, narrowed := true }
def FnExactSeqNewUptoSaid : Prop := fnExactSeqNewUptoRow.holds Try.pinned (OpenSpec.upto fnExactSeqNewSpec)

/-- 'laws.FnExactSeqOk', WHERE WHAT IT READS IS OF BULK AT MOST 1048576: true; the input reads as it did. -/
def fnExactSeqOkUptoRow : OpenClaim := { program := "ytkfjemgelmbcfaa", sum := "146cc47d6014ea76c90dea1e1f06b4a11a24cb718a07769900a4a60af1db8e67", func := "loop.example/turnback/laws.FnExactSeqOk", spec := "fnExactSeqOk", unfollowed := true, recurses := true, plainKeys := false, apart := false, narrowed := true }
def FnExactSeqOkUptoSaid : Prop := fnExactSeqOkUptoRow.holds Try.pinned (OpenSpec.upto fnExactSeqOkSpec)

/-- 'laws.FnSeqNew', WHERE WHAT IT READS IS OF BULK AT MOST 1048576: true; the input reads as it did. -/
def fnSeqNewUptoRow : OpenClaim := { program := "ytkfjemgelmbcfaa", sum := "146cc47d6014ea76c90dea1e1f06b4a11a24cb718a07769900a4a60af1db8e67", func := "loop.example/turnback/laws.FnSeqNew", spec := "fnSeqNew", unfollowed := true, recurses := true, plainKeys := false, apart := false, narrowed := true }
def FnSeqNewUptoSaid : Prop := fnSeqNewUptoRow.holds Try.pinned (OpenSpec.upto fnSeqNewSpec)

/-- 'laws.FnHstNew', WHERE WHAT IT READS IS OF BULK AT MOST 1048576: true; the input reads as it did. -/
def fnHstNewUptoRow : OpenClaim := { program := "ytkfjemgelmbcfaa", sum := "146cc47d6014ea76c90dea1e1f06b4a11a24cb718a07769900a4a60af1db8e67", func := "loop.example/turnback/laws.FnHstNew", spec := "fnHstNew", unfollowed := true, recurses := true, plainKeys := false, apart := false, narrowed := true }
def FnHstNewUptoSaid : Prop := fnHstNewUptoRow.holds Try.pinned (OpenSpec.upto fnHstNewSpec)

/-- 'laws.FnExactHstNew', WHERE WHAT IT READS IS OF BULK AT MOST 1048576: true; the input reads as it did. -/
def fnExactHstNewUptoRow : OpenClaim := { program := "ytkfjemgelmbcfaa", sum := "146cc47d6014ea76c90dea1e1f06b4a11a24cb718a07769900a4a60af1db8e67", func := "loop.example/turnback/laws.FnExactHstNew", spec := "fnExactHstNew", unfollowed := true, recurses := true, plainKeys := false, apart := false, narrowed := true }
def FnExactHstNewUptoSaid : Prop := fnExactHstNewUptoRow.holds Try.pinned (OpenSpec.upto fnExactHstNewSpec)

end Rows
end Go.Proofs.Ytkfjemgelmbcfaa

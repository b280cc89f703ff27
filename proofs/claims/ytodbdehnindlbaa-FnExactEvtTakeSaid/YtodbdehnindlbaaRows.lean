/-
  No cell of these rows narrows 'for every input' (looked for: loops, veiled, ifaces, maps, wideKeys, modest, calm, conditions, laid).
  DERIVED. THE GIVEN ROWS OF THIS SEAT. 11 by the template 'for every input the law returns true; each argument reads behind the call as it read before'; 0 by the template 'total and deterministic' (their statements: YtodbdehnindlbaaTotals.lean).
  GIVEN WITH THE SEED: the statements are not yours to turn. If you find one false, say at which input.
  Laid BY PROGRAM, IN A SANDBOX (cutbox-rows.mjs): the forced cells as the released guide's own fill.sh prints them over the translation 22dbf1bf9b3ad6e1… (all of the seat's roots in one cut). By AI agents, Wed Nov 11 2026. No macro, syntax, notation, axiom, sorry.
-/
import Derived.Test.YtodbdehnindlbaaChecked
import GoSem.Claim
import GoSem.ClaimJoined
import GoSem.ClaimMapViews
import Derived.JoinedTies
import Derived.KernelRfl
namespace Go.Proofs.Ytodbdehnindlbaa
/- THE CELL 'sum', in the pinned program and in every row, IS THE sha256 OF THE DUMP (.gsa) THAT YtodbdehnindlbaaProg.lean LOADS. Nothing in Lean hashes anything: it is a label: what it is worth is what the hold of that sum in a sandbox is worth. -/
noncomputable def Try.pinned : Pinned := { name := "ytodbdehnindlbaa", sum := "22dbf1bf9b3ad6e17720f6c8cbc7da4fbf2a787080392f363ecd44737b6abfe4", checked := Try.checked }
namespace Rows
def none {H : Type} : Left H := { results := [], args := [] }

/-- 'laws.FnEvtOk': WHATEVER THE INPUT: true; the input reads as it did. -/
def fnEvtOkSpec : ChangeSpec := { name := "fnEvtOk", fn := fun _ => fun
  | [d] => { results := [.lit (.bool true)], args := [d] }
  | _ => none }
def fnEvtOkRow : OpenClaim := { program := "ytodbdehnindlbaa", sum := "22dbf1bf9b3ad6e17720f6c8cbc7da4fbf2a787080392f363ecd44737b6abfe4", func := "loop.example/turnback/laws.FnEvtOk", spec := "fnEvtOk", apart := false }
def FnEvtOkSaid : Prop := fnEvtOkRow.holds Try.pinned (OpenSpec.ofChange fnEvtOkSpec)

/-- ITS FALSE NEIGHBOUR: 'it returns false'. Refute it at one input. -/
def fnEvtOkWrong : ChangeSpec := { name := "fnEvtOk", fn := fun _ => fun
  | [d] => { results := [.lit (.bool false)], args := [d] }
  | _ => none }
def FnEvtOkWrongFalsely : Prop := fnEvtOkRow.holds Try.pinned (OpenSpec.ofChange fnEvtOkWrong)

/-- 'laws.FnEvtLess': WHATEVER THE INPUT: true; the input reads as it did. -/
def fnEvtLessSpec : ChangeSpec := { name := "fnEvtLess", fn := fun _ => fun
  | [d] => { results := [.lit (.bool true)], args := [d] }
  | _ => none }
def fnEvtLessRow : OpenClaim := { program := "ytodbdehnindlbaa", sum := "22dbf1bf9b3ad6e17720f6c8cbc7da4fbf2a787080392f363ecd44737b6abfe4", func := "loop.example/turnback/laws.FnEvtLess", spec := "fnEvtLess", apart := false }
def FnEvtLessSaid : Prop := fnEvtLessRow.holds Try.pinned (OpenSpec.ofChange fnEvtLessSpec)

/-- ITS FALSE NEIGHBOUR: 'it returns false'. Refute it at one input. -/
def fnEvtLessWrong : ChangeSpec := { name := "fnEvtLess", fn := fun _ => fun
  | [d] => { results := [.lit (.bool false)], args := [d] }
  | _ => none }
def FnEvtLessWrongFalsely : Prop := fnEvtLessRow.holds Try.pinned (OpenSpec.ofChange fnEvtLessWrong)

/-- 'laws.FnEvtThree': WHATEVER THE INPUT: true; the input reads as it did. -/
def fnEvtThreeSpec : ChangeSpec := { name := "fnEvtThree", fn := fun _ => fun
  | [d1, d2] => { results := [.lit (.bool true)], args := [d1, d2] }
  | _ => none }
def fnEvtThreeRow : OpenClaim := { program := "ytodbdehnindlbaa", sum := "22dbf1bf9b3ad6e17720f6c8cbc7da4fbf2a787080392f363ecd44737b6abfe4", func := "loop.example/turnback/laws.FnEvtThree", spec := "fnEvtThree", apart := false }
def FnEvtThreeSaid : Prop := fnEvtThreeRow.holds Try.pinned (OpenSpec.ofChange fnEvtThreeSpec)

/-- ITS FALSE NEIGHBOUR: 'it returns false'. Refute it at one input. -/
def fnEvtThreeWrong : ChangeSpec := { name := "fnEvtThree", fn := fun _ => fun
  | [d1, d2] => { results := [.lit (.bool false)], args := [d1, d2] }
  | _ => none }
def FnEvtThreeWrongFalsely : Prop := fnEvtThreeRow.holds Try.pinned (OpenSpec.ofChange fnEvtThreeWrong)

/-- 'laws.FnEvtPut': WHATEVER THE INPUT: true; the input reads as it did. -/
def fnEvtPutSpec : ChangeSpec := { name := "fnEvtPut", fn := fun _ => fun
  | [d] => { results := [.lit (.bool true)], args := [d] }
  | _ => none }
def fnEvtPutRow : OpenClaim := { program := "ytodbdehnindlbaa", sum := "22dbf1bf9b3ad6e17720f6c8cbc7da4fbf2a787080392f363ecd44737b6abfe4", func := "loop.example/turnback/laws.FnEvtPut", spec := "fnEvtPut", unfollowed := true, recurses := true, apart := false }
def FnEvtPutSaid : Prop := fnEvtPutRow.holds Try.pinned (OpenSpec.ofChange fnEvtPutSpec)

/-- ITS FALSE NEIGHBOUR: 'it returns false'. Refute it at one input. -/
def fnEvtPutWrong : ChangeSpec := { name := "fnEvtPut", fn := fun _ => fun
  | [d] => { results := [.lit (.bool false)], args := [d] }
  | _ => none }
def FnEvtPutWrongFalsely : Prop := fnEvtPutRow.holds Try.pinned (OpenSpec.ofChange fnEvtPutWrong)

/-- 'laws.FnEvtTake': WHATEVER THE INPUT: true; the input reads as it did. -/
def fnEvtTakeSpec : ChangeSpec := { name := "fnEvtTake", fn := fun _ => fun
  | [d] => { results := [.lit (.bool true)], args := [d] }
  | _ => none }
def fnEvtTakeRow : OpenClaim := { program := "ytodbdehnindlbaa", sum := "22dbf1bf9b3ad6e17720f6c8cbc7da4fbf2a787080392f363ecd44737b6abfe4", func := "loop.example/turnback/laws.FnEvtTake", spec := "fnEvtTake", apart := false }
def FnEvtTakeSaid : Prop := fnEvtTakeRow.holds Try.pinned (OpenSpec.ofChange fnEvtTakeSpec)

/-- ITS FALSE NEIGHBOUR: 'it returns false'. Refute it at one input. -/
def fnEvtTakeWrong : ChangeSpec := { name := "fnEvtTake", fn := fun _ => fun
  | [d] => { results := [.lit (.bool false)], args := [d] }
  | _ => none }
def FnEvtTakeWrongFalsely : Prop := fnEvtTakeRow.holds Try.pinned (OpenSpec.ofChange fnEvtTakeWrong)

/-- 'laws.FnEvtRise': WHATEVER THE INPUT: true; the input reads as it did. -/
def fnEvtRiseSpec : ChangeSpec := { name := "fnEvtRise", fn := fun _ => fun
  | [d] => { results := [.lit (.bool true)], args := [d] }
  | _ => none }
def fnEvtRiseRow : OpenClaim := { program := "ytodbdehnindlbaa", sum := "22dbf1bf9b3ad6e17720f6c8cbc7da4fbf2a787080392f363ecd44737b6abfe4", func := "loop.example/turnback/laws.FnEvtRise", spec := "fnEvtRise", apart := false }
def FnEvtRiseSaid : Prop := fnEvtRiseRow.holds Try.pinned (OpenSpec.ofChange fnEvtRiseSpec)

/-- ITS FALSE NEIGHBOUR: 'it returns false'. Refute it at one input. -/
def fnEvtRiseWrong : ChangeSpec := { name := "fnEvtRise", fn := fun _ => fun
  | [d] => { results := [.lit (.bool false)], args := [d] }
  | _ => none }
def FnEvtRiseWrongFalsely : Prop := fnEvtRiseRow.holds Try.pinned (OpenSpec.ofChange fnEvtRiseWrong)

/-- 'laws.FnExactEvtOk': WHATEVER THE INPUT: true; the input reads as it did. -/
def fnExactEvtOkSpec : ChangeSpec := { name := "fnExactEvtOk", fn := fun _ => fun
  | [d1, d2] => { results := [.lit (.bool true)], args := [d1, d2] }
  | _ => none }
def fnExactEvtOkRow : OpenClaim := { program := "ytodbdehnindlbaa", sum := "22dbf1bf9b3ad6e17720f6c8cbc7da4fbf2a787080392f363ecd44737b6abfe4", func := "loop.example/turnback/laws.FnExactEvtOk", spec := "fnExactEvtOk", apart := false }
def FnExactEvtOkSaid : Prop := fnExactEvtOkRow.holds Try.pinned (OpenSpec.ofChange fnExactEvtOkSpec)

/-- ITS FALSE NEIGHBOUR: 'it returns false'. Refute it at one input. -/
def fnExactEvtOkWrong : ChangeSpec := { name := "fnExactEvtOk", fn := fun _ => fun
  | [d1, d2] => { results := [.lit (.bool false)], args := [d1, d2] }
  | _ => none }
def FnExactEvtOkWrongFalsely : Prop := fnExactEvtOkRow.holds Try.pinned (OpenSpec.ofChange fnExactEvtOkWrong)

/-- 'laws.FnExactEvtLess': WHATEVER THE INPUT: true; the input reads as it did. -/
def fnExactEvtLessSpec : ChangeSpec := { name := "fnExactEvtLess", fn := fun _ => fun
  | [d1, d2] => { results := [.lit (.bool true)], args := [d1, d2] }
  | _ => none }
def fnExactEvtLessRow : OpenClaim := { program := "ytodbdehnindlbaa", sum := "22dbf1bf9b3ad6e17720f6c8cbc7da4fbf2a787080392f363ecd44737b6abfe4", func := "loop.example/turnback/laws.FnExactEvtLess", spec := "fnExactEvtLess", apart := false }
def FnExactEvtLessSaid : Prop := fnExactEvtLessRow.holds Try.pinned (OpenSpec.ofChange fnExactEvtLessSpec)

/-- ITS FALSE NEIGHBOUR: 'it returns false'. Refute it at one input. -/
def fnExactEvtLessWrong : ChangeSpec := { name := "fnExactEvtLess", fn := fun _ => fun
  | [d1, d2] => { results := [.lit (.bool false)], args := [d1, d2] }
  | _ => none }
def FnExactEvtLessWrongFalsely : Prop := fnExactEvtLessRow.holds Try.pinned (OpenSpec.ofChange fnExactEvtLessWrong)

/-- 'laws.FnExactEvtPut': WHATEVER THE INPUT: true; the input reads as it did. -/
def fnExactEvtPutSpec : ChangeSpec := { name := "fnExactEvtPut", fn := fun _ => fun
  | [d1, d2] => { results := [.lit (.bool true)], args := [d1, d2] }
  | _ => none }
def fnExactEvtPutRow : OpenClaim := { program := "ytodbdehnindlbaa", sum := "22dbf1bf9b3ad6e17720f6c8cbc7da4fbf2a787080392f363ecd44737b6abfe4", func := "loop.example/turnback/laws.FnExactEvtPut", spec := "fnExactEvtPut", unfollowed := true, recurses := true, apart := false }
def FnExactEvtPutSaid : Prop := fnExactEvtPutRow.holds Try.pinned (OpenSpec.ofChange fnExactEvtPutSpec)

/-- ITS FALSE NEIGHBOUR: 'it returns false'. Refute it at one input. -/
def fnExactEvtPutWrong : ChangeSpec := { name := "fnExactEvtPut", fn := fun _ => fun
  | [d1, d2] => { results := [.lit (.bool false)], args := [d1, d2] }
  | _ => none }
def FnExactEvtPutWrongFalsely : Prop := fnExactEvtPutRow.holds Try.pinned (OpenSpec.ofChange fnExactEvtPutWrong)

/-- 'laws.FnExactEvtRise': WHATEVER THE INPUT: true; the input reads as it did. -/
def fnExactEvtRiseSpec : ChangeSpec := { name := "fnExactEvtRise", fn := fun _ => fun
  | [d] => { results := [.lit (.bool true)], args := [d] }
  | _ => none }
def fnExactEvtRiseRow : OpenClaim := { program := "ytodbdehnindlbaa", sum := "22dbf1bf9b3ad6e17720f6c8cbc7da4fbf2a787080392f363ecd44737b6abfe4", func := "loop.example/turnback/laws.FnExactEvtRise", spec := "fnExactEvtRise", apart := false }
def FnExactEvtRiseSaid : Prop := fnExactEvtRiseRow.holds Try.pinned (OpenSpec.ofChange fnExactEvtRiseSpec)

/-- ITS FALSE NEIGHBOUR: 'it returns false'. Refute it at one input. -/
def fnExactEvtRiseWrong : ChangeSpec := { name := "fnExactEvtRise", fn := fun _ => fun
  | [d] => { results := [.lit (.bool false)], args := [d] }
  | _ => none }
def FnExactEvtRiseWrongFalsely : Prop := fnExactEvtRiseRow.holds Try.pinned (OpenSpec.ofChange fnExactEvtRiseWrong)

/-- 'laws.FnExactEvtTake': WHATEVER THE INPUT: true; the input reads as it did. -/
def fnExactEvtTakeSpec : ChangeSpec := { name := "fnExactEvtTake", fn := fun _ => fun
  | [d1, d2] => { results := [.lit (.bool true)], args := [d1, d2] }
  | _ => none }
def fnExactEvtTakeRow : OpenClaim := { program := "ytodbdehnindlbaa", sum := "22dbf1bf9b3ad6e17720f6c8cbc7da4fbf2a787080392f363ecd44737b6abfe4", func := "loop.example/turnback/laws.FnExactEvtTake", spec := "fnExactEvtTake", apart := false }
def FnExactEvtTakeSaid : Prop := fnExactEvtTakeRow.holds Try.pinned (OpenSpec.ofChange fnExactEvtTakeSpec)

/-- ITS FALSE NEIGHBOUR: 'it returns false'. Refute it at one input. -/
def fnExactEvtTakeWrong : ChangeSpec := { name := "fnExactEvtTake", fn := fun _ => fun
  | [d1, d2] => { results := [.lit (.bool false)], args := [d1, d2] }
  | _ => none }
def FnExactEvtTakeWrongFalsely : Prop := fnExactEvtTakeRow.holds Try.pinned (OpenSpec.ofChange fnExactEvtTakeWrong)

/- THE SECOND FORM. 'bulk': how many values and letters a reading holds, each counted each time it is reached (what is shared counts as often as it is met; a slice's spare places count too). A statement '..UptoSaid' is the law's where the arguments, and the package variables that the reading takes, are together of bulk at most 1048576: NARROWER than '..Said'. Prove '..Said' where nothing that the law and all that it calls make is longer than what came in: it says more and counts as full. Else prove '..UptoSaid'. A law counts once. -/
mutual
def uptoBulk {H : Type} : DataW H → Nat
  | .lit (.string bytes) => bytes.length + 1
  | .lit _ => 1
  | .nil => 1
  | .ptr d => uptoBulk d + 1
  | .slice elems spare => uptoBulkAll elems + uptoBulkAll spare + 1
  | .agg parts => uptoBulkAll parts + 1
  | .iface _ d => uptoBulk d + 1
  | .map entries => uptoBulkEntries entries + 1
  | .held _ => 1
def uptoBulkAll {H : Type} : List (DataW H) → Nat
  | [] => 0
  | d :: r => uptoBulk d + uptoBulkAll r
def uptoBulkEntries {H : Type} : List (Lit × DataW H) → Nat
  | [] => 0
  | x :: r => uptoBulkEntry x + uptoBulkEntries r
def uptoBulkEntry {H : Type} : Lit × DataW H → Nat
  | (.string bytes, d) => bytes.length + uptoBulk d + 1
  | (_, d) => uptoBulk d + 1
 end
def uptoSmall : (H : Type) → List (DataW H) → Bool := fun _ ds => decide (uptoBulkAll ds ≤ 1048576)
def OpenSpec.upto (s : _root_.Go.ChangeSpec) : _root_.Go.OpenSpec := { _root_.Go.OpenSpec.ofChange s with cond := some uptoSmall }

/-- 'laws.FnEvtOk', WHERE WHAT IT READS IS OF BULK AT MOST 1048576: true; the input reads as it did. -/
def fnEvtOkUptoRow : OpenClaim := { program := "ytodbdehnindlbaa", sum := "22dbf1bf9b3ad6e17720f6c8cbc7da4fbf2a787080392f363ecd44737b6abfe4", func := "loop.example/turnback/laws.FnEvtOk", spec := "fnEvtOk", apart := false, narrowed := true }
def FnEvtOkUptoSaid : Prop := fnEvtOkUptoRow.holds Try.pinned (OpenSpec.upto fnEvtOkSpec)

/-- 'laws.FnEvtLess', WHERE WHAT IT READS IS OF BULK AT MOST 1048576: true; the input reads as it did. -/
def fnEvtLessUptoRow : OpenClaim := { program := "ytodbdehnindlbaa", sum := "22dbf1bf9b3ad6e17720f6c8cbc7da4fbf2a787080392f363ecd44737b6abfe4", func := "loop.example/turnback/laws.FnEvtLess", spec := "fnEvtLess", apart := false, narrowed := true }
def FnEvtLessUptoSaid : Prop := fnEvtLessUptoRow.holds Try.pinned (OpenSpec.upto fnEvtLessSpec)

/-- 'laws.FnEvtThree', WHERE WHAT IT READS IS OF BULK AT MOST 1048576: true; the input reads as it did. -/
def fnEvtThreeUptoRow : OpenClaim := { program := "ytodbdehnindlbaa", sum := "22dbf1bf9b3ad6e17720f6c8cbc7da4fbf2a787080392f363ecd44737b6abfe4", func := "loop.example/turnback/laws.FnEvtThree", spec := "fnEvtThree", apart := false, narrowed := true }
def FnEvtThreeUptoSaid : Prop := fnEvtThreeUptoRow.holds Try.pinned (OpenSpec.upto fnEvtThreeSpec)

/-- 'laws.FnEvtPut', WHERE WHAT IT READS IS OF BULK AT MOST 1048576: true; the input reads as it did. -/
def fnEvtPutUptoRow : OpenClaim := { program := "ytodbdehnindlbaa", sum := "22dbf1bf9b3ad6e17720f6c8cbc7da4fbf2a787080392f363ecd44737b6abfe4", func := "loop.example/turnback/laws.FnEvtPut", spec := "fnEvtPut", unfollowed := true, recurses := true, apart := false, narrowed := true }
def FnEvtPutUptoSaid : Prop := fnEvtPutUptoRow.holds Try.pinned (OpenSpec.upto fnEvtPutSpec)

/-- 'laws.FnEvtTake', WHERE WHAT IT READS IS OF BULK AT MOST 1048576: true; the input reads as it did. -/
def fnEvtTakeUptoRow : OpenClaim := { program := "ytodbdehnindlbaa", sum := "22dbf1bf9b3ad6e17720f6c8cbc7da4fbf2a787080392f363ecd44737b6abfe4", func := "loop.example/turnback/laws.FnEvtTake", spec := "fnEvtTake", apart := false, narrowed := true }
def FnEvtTakeUptoSaid : Prop := fnEvtTakeUptoRow.holds Try.pinned (OpenSpec.upto fnEvtTakeSpec)

/-- 'laws.FnEvtRise', WHERE WHAT IT READS IS OF BULK AT MOST 1048576: true; the input reads as it did. -/
def fnEvtRiseUptoRow : OpenClaim := { program := "ytodbdehnindlbaa", sum := "22dbf1bf9b3ad6e17720f6c8cbc7da4fbf2a787080392f363ecd44737b6abfe4", func := "loop.example/turnback/laws.FnEvtRise", spec := "fnEvtRise", apart := false, narrowed := true }
def FnEvtRiseUptoSaid : Prop := fnEvtRiseUptoRow.holds Try.pinned (OpenSpec.upto fnEvtRiseSpec)

/-- 'laws.FnExactEvtOk', WHERE WHAT IT READS IS OF BULK AT MOST 1048576: true; the input reads as it did. -/
def fnExactEvtOkUptoRow : OpenClaim := { program := "ytodbdehnindlbaa", sum := "22dbf1bf9b3ad6e17720f6c8cbc7da4fbf2a787080392f363ecd44737b6abfe4", func := "loop.example/turnback/laws.FnExactEvtOk", spec := "fnExactEvtOk", apart := false, narrowed := true }
def FnExactEvtOkUptoSaid : Prop := fnExactEvtOkUptoRow.holds Try.pinned (OpenSpec.upto fnExactEvtOkSpec)

/-- 'laws.FnExactEvtLess', WHERE WHAT IT READS IS OF BULK AT MOST 1048576: true; the input reads as it did. -/
def fnExactEvtLessUptoRow : OpenClaim := { program := "ytodbdehnindlbaa", sum := "22dbf1bf9b3ad6e17720f6c8cbc7da4fbf2a787080392f363ecd44737b6abfe4", func := "loop.example/turnback/laws.FnExactEvtLess", spec := "fnExactEvtLess", apart := false, narrowed := true }
def FnExactEvtLessUptoSaid : Prop := fnExactEvtLessUptoRow.holds Try.pinned (OpenSpec.upto fnExactEvtLessSpec)

/-- 'laws.FnExactEvtPut', WHERE WHAT IT READS IS OF BULK AT MOST 1048576: true; the input reads as it did. -/
def fnExactEvtPutUptoRow : OpenClaim := { program := "ytodbdehnindlbaa", sum := "22dbf1bf9b3ad6e17720f6c8cbc7da4fbf2a787080392f363ecd44737b6abfe4", func := "loop.example/turnback/laws.FnExactEvtPut", spec := "fnExactEvtPut", unfollowed := true, recurses := true, apart := false, narrowed := true }
def FnExactEvtPutUptoSaid : Prop := fnExactEvtPutUptoRow.holds Try.pinned (OpenSpec.upto fnExactEvtPutSpec)

/-- 'laws.FnExactEvtRise', WHERE WHAT IT READS IS OF BULK AT MOST 1048576: true; the input reads as it did. -/
def fnExactEvtRiseUptoRow : OpenClaim := { program := "ytodbdehnindlbaa", sum := "22dbf1bf9b3ad6e17720f6c8cbc7da4fbf2a787080392f363ecd44737b6abfe4", func := "loop.example/turnback/laws.FnExactEvtRise", spec := "fnExactEvtRise", apart := false, narrowed := true }
def FnExactEvtRiseUptoSaid : Prop := fnExactEvtRiseUptoRow.holds Try.pinned (OpenSpec.upto fnExactEvtRiseSpec)

/-- 'laws.FnExactEvtTake', WHERE WHAT IT READS IS OF BULK AT MOST 1048576: true; the input reads as it did. -/
def fnExactEvtTakeUptoRow : OpenClaim := { program := "ytodbdehnindlbaa", sum := "22dbf1bf9b3ad6e17720f6c8cbc7da4fbf2a787080392f363ecd44737b6abfe4", func := "loop.example/turnback/laws.FnExactEvtTake", spec := "fnExactEvtTake", apart := false, narrowed := true }
def FnExactEvtTakeUptoSaid : Prop := fnExactEvtTakeUptoRow.holds Try.pinned (OpenSpec.upto fnExactEvtTakeSpec)

end Rows
end Go.Proofs.Ytodbdehnindlbaa

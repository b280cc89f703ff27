/-
  No cell of these rows narrows 'for every input' (looked for: loops, veiled, ifaces, maps, wideKeys, modest, calm, conditions, laid).
  DERIVED. THE GIVEN ROWS OF THIS SEAT. 7 by the template 'for every input the law returns true; each argument reads behind the call as it read before'; 0 by the template 'total and deterministic' (their statements: YtipjcjjjkkaigaaTotals.lean).
  GIVEN WITH THE SEED: the statements are not yours to turn. If you find one false, say at which input.
  Laid BY PROGRAM, IN A SANDBOX (cutbox-rows.mjs): the forced cells as the released guide's own fill.sh prints them over the translation 04e3ad10a894f393… (all of the seat's roots in one cut). By AI agents, Wed Nov 11 2026. No macro, syntax, notation, axiom, sorry.
-/
import Derived.Test.YtipjcjjjkkaigaaChecked
import GoSem.Claim
import GoSem.ClaimJoined
import GoSem.ClaimMapViews
import Derived.JoinedTies
import Derived.KernelRfl
namespace Go.Proofs.Ytipjcjjjkkaigaa
/- THE CELL 'sum', in the pinned program and in every row, IS THE sha256 OF THE DUMP (.gsa) THAT YtipjcjjjkkaigaaProg.lean LOADS. Nothing in Lean hashes anything: it is a label: what it is worth is what the hold of that sum in a sandbox is worth. -/
noncomputable def Try.pinned : Pinned := { name := "ytipjcjjjkkaigaa", sum := "04e3ad10a894f393c0c7be4c1493db25e4ae3f811dd1e3d229f031f1338e6996", checked := Try.checked }
namespace Rows
def none {H : Type} : Left H := { results := [], args := [] }

/-- 'laws.FnExactHstNew': WHATEVER THE INPUT: true; the input reads as it did. -/
def fnExactHstNewSpec : ChangeSpec := { name := "fnExactHstNew", fn := fun _ => fun
  | [d1, d2] => { results := [.lit (.bool true)], args := [d1, d2] }
  | _ => none }
def fnExactHstNewRow : OpenClaim := { program := "ytipjcjjjkkaigaa", sum := "04e3ad10a894f393c0c7be4c1493db25e4ae3f811dd1e3d229f031f1338e6996", func := "loop.example/turnback/laws.FnExactHstNew", spec := "fnExactHstNew", unfollowed := true, recurses := true, plainKeys := false, apart := false }
def FnExactHstNewSaid : Prop := fnExactHstNewRow.holds Try.pinned (OpenSpec.ofChange fnExactHstNewSpec)

/-- ITS FALSE NEIGHBOUR: 'it returns false'. Refute it at one input. -/
def fnExactHstNewWrong : ChangeSpec := { name := "fnExactHstNew", fn := fun _ => fun
  | [d1, d2] => { results := [.lit (.bool false)], args := [d1, d2] }
  | _ => none }
def FnExactHstNewWrongFalsely : Prop := fnExactHstNewRow.holds Try.pinned (OpenSpec.ofChange fnExactHstNewWrong)

/-- 'laws.FnHstNew': WHATEVER THE INPUT: true; the input reads as it did. -/
def fnHstNewSpec : ChangeSpec := { name := "fnHstNew", fn := fun _ => fun
  | [d] => { results := [.lit (.bool true)], args := [d] }
  | _ => none }
def fnHstNewRow : OpenClaim := { program := "ytipjcjjjkkaigaa", sum := "04e3ad10a894f393c0c7be4c1493db25e4ae3f811dd1e3d229f031f1338e6996", func := "loop.example/turnback/laws.FnHstNew", spec := "fnHstNew", unfollowed := true, recurses := true, plainKeys := false, apart := false }
def FnHstNewSaid : Prop := fnHstNewRow.holds Try.pinned (OpenSpec.ofChange fnHstNewSpec)

/-- ITS FALSE NEIGHBOUR: 'it returns false'. Refute it at one input. -/
def fnHstNewWrong : ChangeSpec := { name := "fnHstNew", fn := fun _ => fun
  | [d] => { results := [.lit (.bool false)], args := [d] }
  | _ => none }
def FnHstNewWrongFalsely : Prop := fnHstNewRow.holds Try.pinned (OpenSpec.ofChange fnHstNewWrong)

/-- 'laws.FnExactCmbLook': WHATEVER THE INPUT: true; the input reads as it did. -/
def fnExactCmbLookSpec : ChangeSpec := { name := "fnExactCmbLook", fn := fun _ => fun
  | [d1, d2, d3] => { results := [.lit (.bool true)], args := [d1, d2, d3] }
  | _ => none }
def fnExactCmbLookRow : OpenClaim := { program := "ytipjcjjjkkaigaa", sum := "04e3ad10a894f393c0c7be4c1493db25e4ae3f811dd1e3d229f031f1338e6996", func := "loop.example/turnback/laws.FnExactCmbLook", spec := "fnExactCmbLook", unfollowed := true, recurses := true, plainKeys := false, apart := false }
def FnExactCmbLookSaid : Prop := fnExactCmbLookRow.holds Try.pinned (OpenSpec.ofChange fnExactCmbLookSpec)

/-- ITS FALSE NEIGHBOUR: 'it returns false'. Refute it at one input. -/
def fnExactCmbLookWrong : ChangeSpec := { name := "fnExactCmbLook", fn := fun _ => fun
  | [d1, d2, d3] => { results := [.lit (.bool false)], args := [d1, d2, d3] }
  | _ => none }
def FnExactCmbLookWrongFalsely : Prop := fnExactCmbLookRow.holds Try.pinned (OpenSpec.ofChange fnExactCmbLookWrong)

/-- 'laws.FnCmbLook': WHATEVER THE INPUT: true; the input reads as it did. -/
def fnCmbLookSpec : ChangeSpec := { name := "fnCmbLook", fn := fun _ => fun
  | [d1, d2] => { results := [.lit (.bool true)], args := [d1, d2] }
  | _ => none }
def fnCmbLookRow : OpenClaim := { program := "ytipjcjjjkkaigaa", sum := "04e3ad10a894f393c0c7be4c1493db25e4ae3f811dd1e3d229f031f1338e6996", func := "loop.example/turnback/laws.FnCmbLook", spec := "fnCmbLook", unfollowed := true, recurses := true, plainKeys := false, apart := false }
def FnCmbLookSaid : Prop := fnCmbLookRow.holds Try.pinned (OpenSpec.ofChange fnCmbLookSpec)

/-- ITS FALSE NEIGHBOUR: 'it returns false'. Refute it at one input. -/
def fnCmbLookWrong : ChangeSpec := { name := "fnCmbLook", fn := fun _ => fun
  | [d1, d2] => { results := [.lit (.bool false)], args := [d1, d2] }
  | _ => none }
def FnCmbLookWrongFalsely : Prop := fnCmbLookRow.holds Try.pinned (OpenSpec.ofChange fnCmbLookWrong)

/-- 'laws.FnLookTight': WHATEVER THE INPUT: true; the input reads as it did. -/
def fnLookTightSpec : ChangeSpec := { name := "fnLookTight", fn := fun _ => fun
  | [d] => { results := [.lit (.bool true)], args := [d] }
  | _ => none }
def fnLookTightRow : OpenClaim := { program := "ytipjcjjjkkaigaa", sum := "04e3ad10a894f393c0c7be4c1493db25e4ae3f811dd1e3d229f031f1338e6996", func := "loop.example/turnback/laws.FnLookTight", spec := "fnLookTight", unfollowed := true, recurses := true, plainKeys := false, apart := false }
def FnLookTightSaid : Prop := fnLookTightRow.holds Try.pinned (OpenSpec.ofChange fnLookTightSpec)

/-- ITS FALSE NEIGHBOUR: 'it returns false'. Refute it at one input. -/
def fnLookTightWrong : ChangeSpec := { name := "fnLookTight", fn := fun _ => fun
  | [d] => { results := [.lit (.bool false)], args := [d] }
  | _ => none }
def FnLookTightWrongFalsely : Prop := fnLookTightRow.holds Try.pinned (OpenSpec.ofChange fnLookTightWrong)

/-- 'laws.FnExactCmbNew': WHATEVER THE INPUT: true; the input reads as it did. -/
def fnExactCmbNewSpec : ChangeSpec := { name := "fnExactCmbNew", fn := fun _ => fun
  | [d] => { results := [.lit (.bool true)], args := [d] }
  | _ => none }
def fnExactCmbNewRow : OpenClaim := { program := "ytipjcjjjkkaigaa", sum := "04e3ad10a894f393c0c7be4c1493db25e4ae3f811dd1e3d229f031f1338e6996", func := "loop.example/turnback/laws.FnExactCmbNew", spec := "fnExactCmbNew", unfollowed := true, recurses := true, plainKeys := false, apart := false }
def FnExactCmbNewSaid : Prop := fnExactCmbNewRow.holds Try.pinned (OpenSpec.ofChange fnExactCmbNewSpec)

/-- ITS FALSE NEIGHBOUR: 'it returns false'. Refute it at one input. -/
def fnExactCmbNewWrong : ChangeSpec := { name := "fnExactCmbNew", fn := fun _ => fun
  | [d] => { results := [.lit (.bool false)], args := [d] }
  | _ => none }
def FnExactCmbNewWrongFalsely : Prop := fnExactCmbNewRow.holds Try.pinned (OpenSpec.ofChange fnExactCmbNewWrong)

/-- 'laws.FnSeqTill': WHATEVER THE INPUT: true; the input reads as it did. -/
def fnSeqTillSpec : ChangeSpec := { name := "fnSeqTill", fn := fun _ => fun
  | [d] => { results := [.lit (.bool true)], args := [d] }
  | _ => none }
def fnSeqTillRow : OpenClaim := { program := "ytipjcjjjkkaigaa", sum := "04e3ad10a894f393c0c7be4c1493db25e4ae3f811dd1e3d229f031f1338e6996", func := "loop.example/turnback/laws.FnSeqTill", spec := "fnSeqTill", unfollowed := true, recurses := true, plainKeys := false, apart := false }
def FnSeqTillSaid : Prop := fnSeqTillRow.holds Try.pinned (OpenSpec.ofChange fnSeqTillSpec)

/-- ITS FALSE NEIGHBOUR: 'it returns false'. Refute it at one input. -/
def fnSeqTillWrong : ChangeSpec := { name := "fnSeqTill", fn := fun _ => fun
  | [d] => { results := [.lit (.bool false)], args := [d] }
  | _ => none }
def FnSeqTillWrongFalsely : Prop := fnSeqTillRow.holds Try.pinned (OpenSpec.ofChange fnSeqTillWrong)

/- THE SECOND FORM. 'bulk': how many values and letters a reading holds, each counted each time it is reached (what is shared counts as often as it is met; a slice's spare places count too). A statement '..UptoSaid' is the law's where the arguments, and the package variables that the reading takes, are together of bulk at most 1048576: NARROWER than '..Said'. Prove '..Said' where nothing that the law and all that it calls make is longer than what came in: it says more and counts as full. Else prove '..UptoSaid'. A law counts once. -/
mutual
def uptoBulk {H : Type} : DataW H → Nat
  | .lit (.string bytes) => bytes.length + 1
  | .lit _ => 1
  | .nil => 1
  | .ptr d => uptoBulk d + 1
  | .slice elems spare => uptoBulkAll elems + uptoBulkAll spare + 1
  | .agg parts => uptoBulkAll parts + 1
  | .iface _ d => uptoBulk d + 1
  | .map entries => uptoBulkEntries entries + 1
  | .held _ => 1
def uptoBulkAll {H : Type} : List (DataW H) → Nat
  | [] => 0
  | d :: r => uptoBulk d + uptoBulkAll r
def uptoBulkEntries {H : Type} : List (Lit × DataW H) → Nat
  | [] => 0
  | x :: r => uptoBulkEntry x + uptoBulkEntries r
def uptoBulkEntry {H : Type} : Lit × DataW H → Nat
  | (.string bytes, d) => bytes.length + uptoBulk d + 1
  | (_, d) => uptoBulk d + 1
 end
def uptoSmall : (H : Type) → List (DataW H) → Bool := fun _ ds => decide (uptoBulkAll ds ≤ 1048576)
def OpenSpec.upto (s : _root_.Go.ChangeSpec) : _root_.Go.OpenSpec := { _root_.Go.OpenSpec.ofChange s with cond := some uptoSmall }

/-- 'laws.FnExactHstNew', WHERE WHAT IT READS IS OF BULK AT MOST 1048576: true; the input reads as it did. -/
def fnExactHstNewUptoRow : OpenClaim := { program := "ytipjcjjjkkaigaa", sum := "04e3ad10a894f393c0c7be4c1493db25e4ae3f811dd1e3d229f031f1338e6996", func := "loop.example/turnback/laws.FnExactHstNew", spec := "fnExactHstNew", unfollowed := true, recurses := true, plainKeys := false, apart := false, narrowed := true }
def FnExactHstNewUptoSaid : Prop := fnExactHstNewUptoRow.holds Try.pinned (OpenSpec.upto fnExactHstNewSpec)

/-- 'laws.FnHstNew', WHERE WHAT IT READS IS OF BULK AT MOST 1048576: true; the input reads as it did. -/
def fnHstNewUptoRow : OpenClaim := { program := "ytipjcjjjkkaigaa", sum := "04e3ad10a894f393c0c7be4c1493db25e4ae3f811dd1e3d229f031f1338e6996", func := "loop.example/turnback/laws.FnHstNew", spec := "fnHstNew", unfollowed := true, recurses := true, plainKeys := false, apart := false, narrowed := true }
def FnHstNewUptoSaid : Prop := fnHstNewUptoRow.holds Try.pinned (OpenSpec.upto fnHstNewSpec)

/-- 'laws.FnExactCmbLook', WHERE WHAT IT READS IS OF BULK AT MOST 1048576: true; the input reads as it did. -/
def fnExactCmbLookUptoRow : OpenClaim := { program := "ytipjcjjjkkaigaa", sum := "04e3ad10a894f393c0c7be4c1493db25e4ae3f811dd1e3d229f031f1338e6996", func := "loop.example/turnback/laws.FnExactCmbLook", spec := "fnExactCmbLook", unfollowed := true, recurses := true, plainKeys := false, apart := false, narrowed := true }
def FnExactCmbLookUptoSaid : Prop := fnExactCmbLookUptoRow.holds Try.pinned (OpenSpec.upto fnExactCmbLookSpec)

/-- 'laws.FnCmbLook', WHERE WHAT IT READS IS OF BULK AT MOST 1048576: true; the input reads as it did. -/
def fnCmbLookUptoRow : OpenClaim := { program := "ytipjcjjjkkaigaa", sum := "04e3ad10a894f393c0c7be4c1493db25e4ae3f811dd1e3d229f031f1338e6996", func := "loop.example/turnback/laws.FnCmbLook", spec := "fnCmbLook", unfollowed := true, recurses := true, plainKeys := false, apart := false, narrowed := true }
def FnCmbLookUptoSaid : Prop := fnCmbLookUptoRow.holds Try.pinned (OpenSpec.upto fnCmbLookSpec)

/-- 'laws.FnLookTight', WHERE WHAT IT READS IS OF BULK AT MOST 1048576: true; the input reads as it did. -/
def fnLookTightUptoRow : OpenClaim := { program := "ytipjcjjjkkaigaa", sum := "04e3ad10a894f393c0c7be4c1493db25e4ae3f811dd1e3d229f031f1338e6996", func := "loop.example/turnback/laws.FnLookTight", spec := "fnLookTight", unfollowed := true, recurses := true, plainKeys := false, apart := false, narrowed := true }
def FnLookTightUptoSaid : Prop := fnLookTightUptoRow.holds Try.pinned (OpenSpec.upto fnLookTightSpec)

/-- 'laws.FnExactCmbNew', WHERE WHAT IT READS IS OF BULK AT MOST 1048576: true; the input reads as it did. -/
def fnExactCmbNewUptoRow : OpenClaim := { program := "ytipjcjjjkkaigaa", sum := "04e3ad10a894f393c0c7be4c1493db25e4ae3f811dd1e3d229f031f1338e6996", func := "loop.example/turnback/laws.FnExactCmbNew", spec := "fnExactCmbNew", unfollowed := true, recurses := true, plainKeys := false, apart := false, narrowed := true }
def FnExactCmbNewUptoSaid : Prop := fnExactCmbNewUptoRow.holds Try.pinned (OpenSpec.upto fnExactCmbNewSpec)

/-- 'laws.FnSeqTill', WHERE WHAT IT READS IS OF BULK AT MOST 1048576: true; the input reads as it did. -/
def fnSeqTillUptoRow : OpenClaim := { program := "ytipjcjjjkkaigaa", sum := "04e3ad10a894f393c0c7be4c1493db25e4ae3f811dd1e3d229f031f1338e6996", func := "loop.example/turnback/laws.FnSeqTill", spec := "fnSeqTill", unfollowed := true, recurses := true, plainKeys := false, apart := false, narrowed := true }
def FnSeqTillUptoSaid : Prop := fnSeqTillUptoRow.holds Try.pinned (OpenSpec.upto fnSeqTillSpec)

end Rows
end Go.Proofs.Ytipjcjjjkkaigaa

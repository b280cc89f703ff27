/-
  No cell of these rows narrows 'for every input' (looked for: loops, veiled, ifaces, maps, wideKeys, modest, calm, conditions, laid).
  DERIVED. THE GIVEN ROWS OF THIS SEAT. 9 by the template 'for every input the law returns true; each argument reads behind the call as it read before'; 0 by the template 'total and deterministic' (their statements: YtdpfaehkldjdpaaTotals.lean).
  GIVEN WITH THE SEED: the statements are not yours to turn. If you find one false, say at which input.
  Laid BY PROGRAM, IN A SANDBOX (cutbox-rows.mjs): the forced cells as the released guide's own fill.sh prints them over the translation 432ae5a6017b7634… (all of the seat's roots in one cut). By AI agents, Wed Nov 11 2026. No macro, syntax, notation, axiom, sorry.
-/
import Derived.Test.YtdpfaehkldjdpaaChecked
import GoSem.Claim
import GoSem.ClaimJoined
import GoSem.ClaimMapViews
import Derived.JoinedTies
import Derived.KernelRfl
namespace Go.Proofs.Ytdpfaehkldjdpaa
/- THE CELL 'sum', in the pinned program and in every row, IS THE sha256 OF THE DUMP (.gsa) THAT YtdpfaehkldjdpaaProg.lean LOADS. Nothing in Lean hashes anything: it is a label: what it is worth is what the hold of that sum in a sandbox is worth. -/
noncomputable def Try.pinned : Pinned := { name := "ytdpfaehkldjdpaa", sum := "432ae5a6017b7634fc802b68b985a091ef86fd81cedee90ef9fa548a7f43a930", checked := Try.checked }
namespace Rows
def none {H : Type} : Left H := { results := [], args := [] }

/-- 'laws.FnEvtPut': WHATEVER THE INPUT: true; the input reads as it did. -/
def fnEvtPutSpec : ChangeSpec := { name := "fnEvtPut", fn := fun _ => fun
  | [d] => { results := [.lit (.bool true)], args := [d] }
  | _ => none }
def fnEvtPutRow : OpenClaim := { program := "ytdpfaehkldjdpaa", sum := "432ae5a6017b7634fc802b68b985a091ef86fd81cedee90ef9fa548a7f43a930", func := "loop.example/turnback/laws.FnEvtPut", spec := "fnEvtPut", unfollowed := true, recurses := true, plainKeys := false, apart := false }
def FnEvtPutSaid : Prop := fnEvtPutRow.holds Try.pinned (OpenSpec.ofChange fnEvtPutSpec)

/-- ITS FALSE NEIGHBOUR: 'it returns false'. Refute it at one input. -/
def fnEvtPutWrong : ChangeSpec := { name := "fnEvtPut", fn := fun _ => fun
  | [d] => { results := [.lit (.bool false)], args := [d] }
  | _ => none }
def FnEvtPutWrongFalsely : Prop := fnEvtPutRow.holds Try.pinned (OpenSpec.ofChange fnEvtPutWrong)

/-- 'laws.FnExactEvtPut': WHATEVER THE INPUT: true; the input reads as it did. -/
def fnExactEvtPutSpec : ChangeSpec := { name := "fnExactEvtPut", fn := fun _ => fun
  | [d1, d2] => { results := [.lit (.bool true)], args := [d1, d2] }
  | _ => none }
def fnExactEvtPutRow : OpenClaim := { program := "ytdpfaehkldjdpaa", sum := "432ae5a6017b7634fc802b68b985a091ef86fd81cedee90ef9fa548a7f43a930", func := "loop.example/turnback/laws.FnExactEvtPut", spec := "fnExactEvtPut", unfollowed := true, recurses := true, plainKeys := false, apart := false }
def FnExactEvtPutSaid : Prop := fnExactEvtPutRow.holds Try.pinned (OpenSpec.ofChange fnExactEvtPutSpec)

/-- ITS FALSE NEIGHBOUR: 'it returns false'. Refute it at one input. -/
def fnExactEvtPutWrong : ChangeSpec := { name := "fnExactEvtPut", fn := fun _ => fun
  | [d1, d2] => { results := [.lit (.bool false)], args := [d1, d2] }
  | _ => none }
def FnExactEvtPutWrongFalsely : Prop := fnExactEvtPutRow.holds Try.pinned (OpenSpec.ofChange fnExactEvtPutWrong)

/-- 'laws.FnMdlOk': WHATEVER THE INPUT: true; the input reads as it did. -/
def fnMdlOkSpec : ChangeSpec := { name := "fnMdlOk", fn := fun _ => fun
  | [d] => { results := [.lit (.bool true)], args := [d] }
  | _ => none }
def fnMdlOkRow : OpenClaim := { program := "ytdpfaehkldjdpaa", sum := "432ae5a6017b7634fc802b68b985a091ef86fd81cedee90ef9fa548a7f43a930", func := "loop.example/turnback/laws.FnMdlOk", spec := "fnMdlOk", plainKeys := false, apart := false }
def FnMdlOkSaid : Prop := fnMdlOkRow.holds Try.pinned (OpenSpec.ofChange fnMdlOkSpec)

/-- ITS FALSE NEIGHBOUR: 'it returns false'. Refute it at one input. -/
def fnMdlOkWrong : ChangeSpec := { name := "fnMdlOk", fn := fun _ => fun
  | [d] => { results := [.lit (.bool false)], args := [d] }
  | _ => none }
def FnMdlOkWrongFalsely : Prop := fnMdlOkRow.holds Try.pinned (OpenSpec.ofChange fnMdlOkWrong)

/-- 'laws.FnCmpDo': WHATEVER THE INPUT: true; the input reads as it did. -/
def fnCmpDoSpec : ChangeSpec := { name := "fnCmpDo", fn := fun _ => fun
  | [d] => { results := [.lit (.bool true)], args := [d] }
  | _ => none }
def fnCmpDoRow : OpenClaim := { program := "ytdpfaehkldjdpaa", sum := "432ae5a6017b7634fc802b68b985a091ef86fd81cedee90ef9fa548a7f43a930", func := "loop.example/turnback/laws.FnCmpDo", spec := "fnCmpDo", plainKeys := false, apart := false }
def FnCmpDoSaid : Prop := fnCmpDoRow.holds Try.pinned (OpenSpec.ofChange fnCmpDoSpec)

/-- ITS FALSE NEIGHBOUR: 'it returns false'. Refute it at one input. -/
def fnCmpDoWrong : ChangeSpec := { name := "fnCmpDo", fn := fun _ => fun
  | [d] => { results := [.lit (.bool false)], args := [d] }
  | _ => none }
def FnCmpDoWrongFalsely : Prop := fnCmpDoRow.holds Try.pinned (OpenSpec.ofChange fnCmpDoWrong)

/-- 'laws.FnCmpLine': WHATEVER THE INPUT: true; the input reads as it did. -/
def fnCmpLineSpec : ChangeSpec := { name := "fnCmpLine", fn := fun _ => fun
  | [d] => { results := [.lit (.bool true)], args := [d] }
  | _ => none }
def fnCmpLineRow : OpenClaim := { program := "ytdpfaehkldjdpaa", sum := "432ae5a6017b7634fc802b68b985a091ef86fd81cedee90ef9fa548a7f43a930", func := "loop.example/turnback/laws.FnCmpLine", spec := "fnCmpLine", plainKeys := false, apart := false }
def FnCmpLineSaid : Prop := fnCmpLineRow.holds Try.pinned (OpenSpec.ofChange fnCmpLineSpec)

/-- ITS FALSE NEIGHBOUR: 'it returns false'. Refute it at one input. -/
def fnCmpLineWrong : ChangeSpec := { name := "fnCmpLine", fn := fun _ => fun
  | [d] => { results := [.lit (.bool false)], args := [d] }
  | _ => none }
def FnCmpLineWrongFalsely : Prop := fnCmpLineRow.holds Try.pinned (OpenSpec.ofChange fnCmpLineWrong)

/-- 'laws.FnCmpOk': WHATEVER THE INPUT: true; the input reads as it did. -/
def fnCmpOkSpec : ChangeSpec := { name := "fnCmpOk", fn := fun _ => fun
  | [d] => { results := [.lit (.bool true)], args := [d] }
  | _ => none }
def fnCmpOkRow : OpenClaim := { program := "ytdpfaehkldjdpaa", sum := "432ae5a6017b7634fc802b68b985a091ef86fd81cedee90ef9fa548a7f43a930", func := "loop.example/turnback/laws.FnCmpOk", spec := "fnCmpOk", plainKeys := false, apart := false }
def FnCmpOkSaid : Prop := fnCmpOkRow.holds Try.pinned (OpenSpec.ofChange fnCmpOkSpec)

/-- ITS FALSE NEIGHBOUR: 'it returns false'. Refute it at one input. -/
def fnCmpOkWrong : ChangeSpec := { name := "fnCmpOk", fn := fun _ => fun
  | [d] => { results := [.lit (.bool false)], args := [d] }
  | _ => none }
def FnCmpOkWrongFalsely : Prop := fnCmpOkRow.holds Try.pinned (OpenSpec.ofChange fnCmpOkWrong)

/-- 'laws.FnExactMdlOk': WHATEVER THE INPUT: true; the input reads as it did. -/
def fnExactMdlOkSpec : ChangeSpec := { name := "fnExactMdlOk", fn := fun _ => fun
  | [d] => { results := [.lit (.bool true)], args := [d] }
  | _ => none }
def fnExactMdlOkRow : OpenClaim := { program := "ytdpfaehkldjdpaa", sum := "432ae5a6017b7634fc802b68b985a091ef86fd81cedee90ef9fa548a7f43a930", func := "loop.example/turnback/laws.FnExactMdlOk", spec := "fnExactMdlOk", plainKeys := false, apart := false }
def FnExactMdlOkSaid : Prop := fnExactMdlOkRow.holds Try.pinned (OpenSpec.ofChange fnExactMdlOkSpec)

/-- ITS FALSE NEIGHBOUR: 'it returns false'. Refute it at one input. -/
def fnExactMdlOkWrong : ChangeSpec := { name := "fnExactMdlOk", fn := fun _ => fun
  | [d] => { results := [.lit (.bool false)], args := [d] }
  | _ => none }
def FnExactMdlOkWrongFalsely : Prop := fnExactMdlOkRow.holds Try.pinned (OpenSpec.ofChange fnExactMdlOkWrong)

/-- 'laws.FnExactCmpOk': WHATEVER THE INPUT: true; the input reads as it did. -/
def fnExactCmpOkSpec : ChangeSpec := { name := "fnExactCmpOk", fn := fun _ => fun
  | [d] => { results := [.lit (.bool true)], args := [d] }
  | _ => none }
def fnExactCmpOkRow : OpenClaim := { program := "ytdpfaehkldjdpaa", sum := "432ae5a6017b7634fc802b68b985a091ef86fd81cedee90ef9fa548a7f43a930", func := "loop.example/turnback/laws.FnExactCmpOk", spec := "fnExactCmpOk", plainKeys := false, apart := false }
def FnExactCmpOkSaid : Prop := fnExactCmpOkRow.holds Try.pinned (OpenSpec.ofChange fnExactCmpOkSpec)

/-- ITS FALSE NEIGHBOUR: 'it returns false'. Refute it at one input. -/
def fnExactCmpOkWrong : ChangeSpec := { name := "fnExactCmpOk", fn := fun _ => fun
  | [d] => { results := [.lit (.bool false)], args := [d] }
  | _ => none }
def FnExactCmpOkWrongFalsely : Prop := fnExactCmpOkRow.holds Try.pinned (OpenSpec.ofChange fnExactCmpOkWrong)

/-- 'laws.FnExactCmpDo': WHATEVER THE INPUT: true; the input reads as it did. -/
def fnExactCmpDoSpec : ChangeSpec := { name := "fnExactCmpDo", fn := fun _ => fun
  | [d1, d2, d3] => { results := [.lit (.bool true)], args := [d1, d2, d3] }
  | _ => none }
def fnExactCmpDoRow : OpenClaim := { program := "ytdpfaehkldjdpaa", sum := "432ae5a6017b7634fc802b68b985a091ef86fd81cedee90ef9fa548a7f43a930", func := "loop.example/turnback/laws.FnExactCmpDo", spec := "fnExactCmpDo", plainKeys := false, apart := false }
def FnExactCmpDoSaid : Prop := fnExactCmpDoRow.holds Try.pinned (OpenSpec.ofChange fnExactCmpDoSpec)

/-- ITS FALSE NEIGHBOUR: 'it returns false'. Refute it at one input. -/
def fnExactCmpDoWrong : ChangeSpec := { name := "fnExactCmpDo", fn := fun _ => fun
  | [d1, d2, d3] => { results := [.lit (.bool false)], args := [d1, d2, d3] }
  | _ => none }
def FnExactCmpDoWrongFalsely : Prop := fnExactCmpDoRow.holds Try.pinned (OpenSpec.ofChange fnExactCmpDoWrong)

/- THE SECOND FORM. 'bulk': how many values and letters a reading holds, each counted each time it is reached (what is shared counts as often as it is met; a slice's spare places count too). A statement '..UptoSaid' is the law's where the arguments, and the package variables that the reading takes, are together of bulk at most 1048576: NARROWER than '..Said'. Prove '..Said' where nothing that the law and all that it calls make is longer than what came in: it says more and counts as full. Else prove '..UptoSaid'. A law counts once. -/
mutual
def uptoBulk {H : Type} : DataW H → Nat
  | .lit (.string bytes) => bytes.length + 1
  | .lit _ => 1
  | .nil => 1
  | .ptr d => uptoBulk d + 1
  | .slice elems spare => uptoBulkAll elems + uptoBulkAll spare + 1
  | .agg parts => uptoBulkAll parts + 1
  | .iface _ d => uptoBulk d + 1
  | .map entries => uptoBulkEntries entries + 1
  | .held _ => 1
def uptoBulkAll {H : Type} : List (DataW H) → Nat
  | [] => 0
  | d :: r => uptoBulk d + uptoBulkAll r
def uptoBulkEntries {H : Type} : List (Lit × DataW H) → Nat
  | [] => 0
  | x :: r => uptoBulkEntry x + uptoBulkEntries r
def uptoBulkEntry {H : Type} : Lit × DataW H → Nat
  | (.string bytes, d) => bytes.length + uptoBulk d + 1
  | (_, d) => uptoBulk d + 1
 end
def uptoSmall : (H : Type) → List (DataW H) → Bool := fun _ ds => decide (uptoBulkAll ds ≤ 1048576)
def OpenSpec.upto (s : _root_.Go.ChangeSpec) : _root_.Go.OpenSpec := { _root_.Go.OpenSpec.ofChange s with cond := some uptoSmall }

/-- 'laws.FnEvtPut', WHERE WHAT IT READS IS OF BULK AT MOST 1048576: true; the input reads as it did. -/
def fnEvtPutUptoRow : OpenClaim := { program := "ytdpfaehkldjdpaa", sum := "432ae5a6017b7634fc802b68b985a091ef86fd81cedee90ef9fa548a7f43a930", func := "loop.example/turnback/laws.FnEvtPut", spec := "fnEvtPut", unfollowed := true, recurses := true, plainKeys := false, apart := false, narrowed := true }
def FnEvtPutUptoSaid : Prop := fnEvtPutUptoRow.holds Try.pinned (OpenSpec.upto fnEvtPutSpec)

/-- 'laws.FnExactEvtPut', WHERE WHAT IT READS IS OF BULK AT MOST 1048576: true; the input reads as it did. -/
def fnExactEvtPutUptoRow : OpenClaim := { program := "ytdpfaehkldjdpaa", sum := "432ae5a6017b7634fc802b68b985a091ef86fd81cedee90ef9fa548a7f43a930", func := "loop.example/turnback/laws.FnExactEvtPut", spec := "fnExactEvtPut", unfollowed := true, recurses := true, plainKeys := false, apart := false, narrowed := true }
def FnExactEvtPutUptoSaid : Prop := fnExactEvtPutUptoRow.holds Try.pinned (OpenSpec.upto fnExactEvtPutSpec)

/-- 'laws.FnMdlOk', WHERE WHAT IT READS IS OF BULK AT MOST 1048576: true; the input reads as it did. -/
def fnMdlOkUptoRow : OpenClaim := { program := "ytdpfaehkldjdpaa", sum := "432ae5a6017b7634fc802b68b985a091ef86fd81cedee90ef9fa548a7f43a930", func := "loop.example/turnback/laws.FnMdlOk", spec := "fnMdlOk", plainKeys := false, apart := false, narrowed := true }
def FnMdlOkUptoSaid : Prop := fnMdlOkUptoRow.holds Try.pinned (OpenSpec.upto fnMdlOkSpec)

/-- 'laws.FnCmpDo', WHERE WHAT IT READS IS OF BULK AT MOST 1048576: true; the input reads as it did. -/
def fnCmpDoUptoRow : OpenClaim := { program := "ytdpfaehkldjdpaa", sum := "432ae5a6017b7634fc802b68b985a091ef86fd81cedee90ef9fa548a7f43a930", func := "loop.example/turnback/laws.FnCmpDo", spec := "fnCmpDo", plainKeys := false, apart := false, narrowed := true }
def FnCmpDoUptoSaid : Prop := fnCmpDoUptoRow.holds Try.pinned (OpenSpec.upto fnCmpDoSpec)

/-- 'laws.FnCmpLine', WHERE WHAT IT READS IS OF BULK AT MOST 1048576: true; the input reads as it did. -/
def fnCmpLineUptoRow : OpenClaim := { program := "ytdpfaehkldjdpaa", sum := "432ae5a6017b7634fc802b68b985a091ef86fd81cedee90ef9fa548a7f43a930", func := "loop.example/turnback/laws.FnCmpLine", spec := "fnCmpLine", plainKeys := false, apart := false, narrowed := true }
def FnCmpLineUptoSaid : Prop := fnCmpLineUptoRow.holds Try.pinned (OpenSpec.upto fnCmpLineSpec)

/-- 'laws.FnCmpOk', WHERE WHAT IT READS IS OF BULK AT MOST 1048576: true; the input reads as it did. -/
def fnCmpOkUptoRow : OpenClaim := { program := "ytdpfaehkldjdpaa", sum := "432ae5a6017b7634fc802b68b985a091ef86fd81cedee90ef9fa548a7f43a930", func := "loop.example/turnback/laws.FnCmpOk", spec := "fnCmpOk", plainKeys := false, apart := false, narrowed := true }
def FnCmpOkUptoSaid : Prop := fnCmpOkUptoRow.holds Try.pinned (OpenSpec.upto fnCmpOkSpec)

/-- 'laws.FnExactMdlOk', WHERE WHAT IT READS IS OF BULK AT MOST 1048576: true; the input reads as it did. -/
def fnExactMdlOkUptoRow : OpenClaim := { program := "ytdpfaehkldjdpaa", sum := "432ae5a6017b7634fc802b68b985a091ef86fd81cedee90ef9fa548a7f43a930", func := "loop.example/turnback/laws.FnExactMdlOk", spec := "fnExactMdlOk", plainKeys := false, apart := false, narrowed := true }
def FnExactMdlOkUptoSaid : Prop := fnExactMdlOkUptoRow.holds Try.pinned (OpenSpec.upto fnExactMdlOkSpec)

/-- 'laws.FnExactCmpOk', WHERE WHAT IT READS IS OF BULK AT MOST 1048576: true; the input reads as it did. -/
def fnExactCmpOkUptoRow : OpenClaim := { program := "ytdpfaehkldjdpaa", sum := "432ae5a6017b7634fc802b68b985a091ef86fd81cedee90ef9fa548a7f43a930", func := "loop.example/turnback/laws.FnExactCmpOk", spec := "fnExactCmpOk", plainKeys := false, apart := false, narrowed := true }
def FnExactCmpOkUptoSaid : Prop := fnExactCmpOkUptoRow.holds Try.pinned (OpenSpec.upto fnExactCmpOkSpec)

/-- 'laws.FnExactCmpDo', WHERE WHAT IT READS IS OF BULK AT MOST 1048576: true; the input reads as it did. -/
def fnExactCmpDoUptoRow : OpenClaim := { program := "ytdpfaehkldjdpaa", sum := "432ae5a6017b7634fc802b68b985a091ef86fd81cedee90ef9fa548a7f43a930", func := "loop.example/turnback/laws.FnExactCmpDo", spec := "fnExactCmpDo", plainKeys := false, apart := false, narrowed := true }
def FnExactCmpDoUptoSaid : Prop := fnExactCmpDoUptoRow.holds Try.pinned (OpenSpec.upto fnExactCmpDoSpec)

end Rows
end Go.Proofs.Ytdpfaehkldjdpaa

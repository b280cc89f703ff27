/-
  No cell of these rows narrows 'for every input' (looked for: loops, veiled, ifaces, maps, wideKeys, modest, calm, conditions, laid).
  DERIVED. THE GIVEN ROWS OF THIS SEAT. 8 by the template 'for every input the law returns true; each argument reads behind the call as it read before'; 0 by the template 'total and deterministic' (their statements: YtpcfphdolhcepaaTotals.lean).
  GIVEN WITH THE SEED: the statements are not yours to turn. If you find one false, say at which input.
  Laid BY PROGRAM, IN A SANDBOX (cutbox-rows.mjs): the forced cells as the released guide's own fill.sh prints them over the translation eac5db2d43e91136… (all of the seat's roots in one cut). By AI agents, Wed Nov 11 2026. No macro, syntax, notation, axiom, sorry.
-/
import Derived.Test.YtpcfphdolhcepaaChecked
import GoSem.Claim
import GoSem.ClaimJoined
import GoSem.ClaimMapViews
import Derived.JoinedTies
import Derived.KernelRfl
namespace Go.Proofs.Ytpcfphdolhcepaa
/- THE CELL 'sum', in the pinned program and in every row, IS THE sha256 OF THE DUMP (.gsa) THAT YtpcfphdolhcepaaProg.lean LOADS. Nothing in Lean hashes anything: it is a label: what it is worth is what the hold of that sum in a sandbox is worth. -/
noncomputable def Try.pinned : Pinned := { name := "ytpcfphdolhcepaa", sum := "eac5db2d43e911362a54aed73e080675ff711cc9fa33935bfd23ef0a73c18060", checked := Try.checked }
namespace Rows
def none {H : Type} : Left H := { results := [], args := [] }

/-- 'laws.FnExactCmpDo': WHATEVER THE INPUT: true; the input reads as it did. -/
def fnExactCmpDoSpec : ChangeSpec := { name := "fnExactCmpDo", fn := fun _ => fun
  | [d1, d2, d3] => { results := [.lit (.bool true)], args := [d1, d2, d3] }
  | _ => none }
def fnExactCmpDoRow : OpenClaim := { program := "ytpcfphdolhcepaa", sum := "eac5db2d43e911362a54aed73e080675ff711cc9fa33935bfd23ef0a73c18060", func := "loop.example/turnback/laws.FnExactCmpDo", spec := "fnExactCmpDo", plainKeys := false, apart := false }
def FnExactCmpDoSaid : Prop := fnExactCmpDoRow.holds Try.pinned (OpenSpec.ofChange fnExactCmpDoSpec)

/-- ITS FALSE NEIGHBOUR: 'it returns false'. Refute it at one input. -/
def fnExactCmpDoWrong : ChangeSpec := { name := "fnExactCmpDo", fn := fun _ => fun
  | [d1, d2, d3] => { results := [.lit (.bool false)], args := [d1, d2, d3] }
  | _ => none }
def FnExactCmpDoWrongFalsely : Prop := fnExactCmpDoRow.holds Try.pinned (OpenSpec.ofChange fnExactCmpDoWrong)

/-- 'laws.FnCmpDo': WHATEVER THE INPUT: true; the input reads as it did. -/
def fnCmpDoSpec : ChangeSpec := { name := "fnCmpDo", fn := fun _ => fun
  | [d] => { results := [.lit (.bool true)], args := [d] }
  | _ => none }
def fnCmpDoRow : OpenClaim := { program := "ytpcfphdolhcepaa", sum := "eac5db2d43e911362a54aed73e080675ff711cc9fa33935bfd23ef0a73c18060", func := "loop.example/turnback/laws.FnCmpDo", spec := "fnCmpDo", plainKeys := false, apart := false }
def FnCmpDoSaid : Prop := fnCmpDoRow.holds Try.pinned (OpenSpec.ofChange fnCmpDoSpec)

/-- ITS FALSE NEIGHBOUR: 'it returns false'. Refute it at one input. -/
def fnCmpDoWrong : ChangeSpec := { name := "fnCmpDo", fn := fun _ => fun
  | [d] => { results := [.lit (.bool false)], args := [d] }
  | _ => none }
def FnCmpDoWrongFalsely : Prop := fnCmpDoRow.holds Try.pinned (OpenSpec.ofChange fnCmpDoWrong)

/-- 'laws.FnCmpLine': WHATEVER THE INPUT: true; the input reads as it did. -/
def fnCmpLineSpec : ChangeSpec := { name := "fnCmpLine", fn := fun _ => fun
  | [d] => { results := [.lit (.bool true)], args := [d] }
  | _ => none }
def fnCmpLineRow : OpenClaim := { program := "ytpcfphdolhcepaa", sum := "eac5db2d43e911362a54aed73e080675ff711cc9fa33935bfd23ef0a73c18060", func := "loop.example/turnback/laws.FnCmpLine", spec := "fnCmpLine", plainKeys := false, apart := false }
def FnCmpLineSaid : Prop := fnCmpLineRow.holds Try.pinned (OpenSpec.ofChange fnCmpLineSpec)

/-- ITS FALSE NEIGHBOUR: 'it returns false'. Refute it at one input. -/
def fnCmpLineWrong : ChangeSpec := { name := "fnCmpLine", fn := fun _ => fun
  | [d] => { results := [.lit (.bool false)], args := [d] }
  | _ => none }
def FnCmpLineWrongFalsely : Prop := fnCmpLineRow.holds Try.pinned (OpenSpec.ofChange fnCmpLineWrong)

/-- 'laws.FnMdlOk': WHATEVER THE INPUT: true; the input reads as it did. -/
def fnMdlOkSpec : ChangeSpec := { name := "fnMdlOk", fn := fun _ => fun
  | [d] => { results := [.lit (.bool true)], args := [d] }
  | _ => none }
def fnMdlOkRow : OpenClaim := { program := "ytpcfphdolhcepaa", sum := "eac5db2d43e911362a54aed73e080675ff711cc9fa33935bfd23ef0a73c18060", func := "loop.example/turnback/laws.FnMdlOk", spec := "fnMdlOk", plainKeys := false, apart := false }
def FnMdlOkSaid : Prop := fnMdlOkRow.holds Try.pinned (OpenSpec.ofChange fnMdlOkSpec)

/-- ITS FALSE NEIGHBOUR: 'it returns false'. Refute it at one input. -/
def fnMdlOkWrong : ChangeSpec := { name := "fnMdlOk", fn := fun _ => fun
  | [d] => { results := [.lit (.bool false)], args := [d] }
  | _ => none }
def FnMdlOkWrongFalsely : Prop := fnMdlOkRow.holds Try.pinned (OpenSpec.ofChange fnMdlOkWrong)

/-- 'laws.FnExactEvtPut': WHATEVER THE INPUT: true; the input reads as it did. -/
def fnExactEvtPutSpec : ChangeSpec := { name := "fnExactEvtPut", fn := fun _ => fun
  | [d1, d2] => { results := [.lit (.bool true)], args := [d1, d2] }
  | _ => none }
def fnExactEvtPutRow : OpenClaim := { program := "ytpcfphdolhcepaa", sum := "eac5db2d43e911362a54aed73e080675ff711cc9fa33935bfd23ef0a73c18060", func := "loop.example/turnback/laws.FnExactEvtPut", spec := "fnExactEvtPut", unfollowed := true, recurses := true, plainKeys := false, apart := false }
def FnExactEvtPutSaid : Prop := fnExactEvtPutRow.holds Try.pinned (OpenSpec.ofChange fnExactEvtPutSpec)

/-- ITS FALSE NEIGHBOUR: 'it returns false'. Refute it at one input. -/
def fnExactEvtPutWrong : ChangeSpec := { name := "fnExactEvtPut", fn := fun _ => fun
  | [d1, d2] => { results := [.lit (.bool false)], args := [d1, d2] }
  | _ => none }
def FnExactEvtPutWrongFalsely : Prop := fnExactEvtPutRow.holds Try.pinned (OpenSpec.ofChange fnExactEvtPutWrong)

/-- 'laws.FnExactSeqNew': WHATEVER THE INPUT: true; the input reads as it did. -/
def fnExactSeqNewSpec : ChangeSpec := { name := "fnExactSeqNew", fn := fun _ => fun
  | [d] => { results := [.lit (.bool true)], args := [d] }
  | _ => none }
def fnExactSeqNewRow : OpenClaim := { program := "ytpcfphdolhcepaa", sum := "eac5db2d43e911362a54aed73e080675ff711cc9fa33935bfd23ef0a73c18060", func := "loop.example/turnback/laws.FnExactSeqNew", spec := "fnExactSeqNew", plainKeys := false, apart := false }
def FnExactSeqNewSaid : Prop := fnExactSeqNewRow.holds Try.pinned (OpenSpec.ofChange fnExactSeqNewSpec)

/-- ITS FALSE NEIGHBOUR: 'it returns false'. Refute it at one input. -/
def fnExactSeqNewWrong : ChangeSpec := { name := "fnExactSeqNew", fn := fun _ => fun
  | [d] => { results := [.lit (.bool false)], args := [d] }
  | _ => none }
def FnExactSeqNewWrongFalsely : Prop := fnExactSeqNewRow.holds Try.pinned (OpenSpec.ofChange fnExactSeqNewWrong)

/-- 'laws.FnExactSeqOk': WHATEVER THE INPUT: true; the input reads as it did. -/
def fnExactSeqOkSpec : ChangeSpec := { name := "fnExactSeqOk", fn := fun _ => fun
  | [d1, d2] => { results := [.lit (.bool true)], args := [d1, d2] }
  | _ => none }
def fnExactSeqOkRow : OpenClaim := { program := "ytpcfphdolhcepaa", sum := "eac5db2d43e911362a54aed73e080675ff711cc9fa33935bfd23ef0a73c18060", func := "loop.example/turnback/laws.FnExactSeqOk", spec := "fnExactSeqOk", unfollowed := true, recurses := true, plainKeys := false, apart := false }
def FnExactSeqOkSaid : Prop := fnExactSeqOkRow.holds Try.pinned (OpenSpec.ofChange fnExactSeqOkSpec)

/-- ITS FALSE NEIGHBOUR: 'it returns false'. Refute it at one input. -/
def fnExactSeqOkWrong : ChangeSpec := { name := "fnExactSeqOk", fn := fun _ => fun
  | [d1, d2] => { results := [.lit (.bool false)], args := [d1, d2] }
  | _ => none }
def FnExactSeqOkWrongFalsely : Prop := fnExactSeqOkRow.holds Try.pinned (OpenSpec.ofChange fnExactSeqOkWrong)

/-- 'laws.FnSeqNew': WHATEVER THE INPUT: true; the input reads as it did. -/
def fnSeqNewSpec : ChangeSpec := { name := "fnSeqNew", fn := fun _ => fun
  | [d] => { results := [.lit (.bool true)], args := [d] }
  | _ => none }
def fnSeqNewRow : OpenClaim := { program := "ytpcfphdolhcepaa", sum := "eac5db2d43e911362a54aed73e080675ff711cc9fa33935bfd23ef0a73c18060", func := "loop.example/turnback/laws.FnSeqNew", spec := "fnSeqNew", unfollowed := true, recurses := true, plainKeys := false, apart := false }
def FnSeqNewSaid : Prop := fnSeqNewRow.holds Try.pinned (OpenSpec.ofChange fnSeqNewSpec)

/-- ITS FALSE NEIGHBOUR: 'it returns false'. Refute it at one input. -/
def fnSeqNewWrong : ChangeSpec := { name := "fnSeqNew", fn := fun _ => fun
  | [d] => { results := [.lit (.bool false)], args := [d] }
  | _ => none }
def FnSeqNewWrongFalsely : Prop := fnSeqNewRow.holds Try.pinned (OpenSpec.ofChange fnSeqNewWrong)

/- THE SECOND FORM. 'bulk': how many values and letters a reading holds, each counted each time it is reached (what is shared counts as often as it is met; a slice's spare places count too). A statement '..UptoSaid' is the law's where the arguments, and the package variables that the reading takes, are together of bulk at most 1048576: NARROWER than '..Said'. Prove '..Said' where nothing that the law and all that it calls make is longer than what came in: it says more and counts as full. Else prove '..UptoSaid'. A law counts once. -/
mutual
def uptoBulk {H : Type} : DataW H → Nat
  | .lit (.string bytes) => bytes.length + 1
  | .lit _ => 1
  | .nil => 1
  | .ptr d => uptoBulk d + 1
  | .slice elems spare => uptoBulkAll elems + uptoBulkAll spare + 1
  | .agg parts => uptoBulkAll parts + 1
  | .iface _ d => uptoBulk d + 1
  | .map entries => uptoBulkEntries entries + 1
  | .held _ => 1
def uptoBulkAll {H : Type} : List (DataW H) → Nat
  | [] => 0
  | d :: r => uptoBulk d + uptoBulkAll r
def uptoBulkEntries {H : Type} : List (Lit × DataW H) → Nat
  | [] => 0
  | x :: r => uptoBulkEntry x + uptoBulkEntries r
def uptoBulkEntry {H : Type} : Lit × DataW H → Nat
  | (.string bytes, d) => bytes.length + uptoBulk d + 1
  | (_, d) => uptoBulk d + 1
 end
def uptoSmall : (H : Type) → List (DataW H) → Bool := fun _ ds => decide (uptoBulkAll ds ≤ 1048576)
def OpenSpec.upto (s : _root_.Go.ChangeSpec) : _root_.Go.OpenSpec := { _root_.Go.OpenSpec.ofChange s with cond := some uptoSmall }

/-- 'laws.FnExactCmpDo', WHERE WHAT IT READS IS OF BULK AT MOST 1048576: true; the input reads as it did. -/
def fnExactCmpDoUptoRow : OpenClaim := { program := "ytpcfphdolhcepaa", sum := "eac5db2d43e911362a54aed73e080675ff711cc9fa33935bfd23ef0a73c18060", func := "loop.example/turnback/laws.FnExactCmpDo", spec := "fnExactCmpDo", plainKeys := false, apart := false, narrowed := true }
def FnExactCmpDoUptoSaid : Prop := fnExactCmpDoUptoRow.holds Try.pinned (OpenSpec.upto fnExactCmpDoSpec)

/-- 'laws.FnCmpDo', WHERE WHAT IT READS IS OF BULK AT MOST 1048576: true; the input reads as it did. -/
def fnCmpDoUptoRow : OpenClaim := { program := "ytpcfphdolhcepaa", sum := "eac5db2d43e911362a54aed73e080675ff711cc9fa33935bfd23ef0a73c18060", func := "loop.example/turnback/laws.FnCmpDo", spec := "fnCmpDo", plainKeys := false, apart := false, narrowed := true }
def FnCmpDoUptoSaid : Prop := fnCmpDoUptoRow.holds Try.pinned (OpenSpec.upto fnCmpDoSpec)

/-- 'laws.FnCmpLine', WHERE WHAT IT READS IS OF BULK AT MOST 1048576: true; the input reads as it did. -/
def fnCmpLineUptoRow : OpenClaim := { program := "ytpcfphdolhcepaa", sum := "eac5db2d43e911362a54aed73e080675ff711cc9fa33935bfd23ef0a73c18060", func := "loop.example/turnback/laws.FnCmpLine", spec := "fnCmpLine", plainKeys := false, apart := false, narrowed := true }
def FnCmpLineUptoSaid : Prop := fnCmpLineUptoRow.holds Try.pinned (OpenSpec.upto fnCmpLineSpec)

/-- 'laws.FnMdlOk', WHERE WHAT IT READS IS OF BULK AT MOST 1048576: true; the input reads as it did. -/
def fnMdlOkUptoRow : OpenClaim := { program := "ytpcfphdolhcepaa", sum := "eac5db2d43e911362a54aed73e080675ff711cc9fa33935bfd23ef0a73c18060", func := "loop.example/turnback/laws.FnMdlOk", spec := "fnMdlOk", plainKeys := false, apart := false, narrowed := true }
def FnMdlOkUptoSaid : Prop := fnMdlOkUptoRow.holds Try.pinned (OpenSpec.upto fnMdlOkSpec)

/-- 'laws.FnExactEvtPut', WHERE WHAT IT READS IS OF BULK AT MOST 1048576: true; the input reads as it did. -/
def fnExactEvtPutUptoRow : OpenClaim := { program := "ytpcfphdolhcepaa", sum := "eac5db2d43e911362a54aed73e080675ff711cc9fa33935bfd23ef0a73c18060", func := "loop.example/turnback/laws.FnExactEvtPut", spec := "fnExactEvtPut", unfollowed := true, recurses := true, plainKeys := false, apart := false, narrowed := true }
def FnExactEvtPutUptoSaid : Prop := fnExactEvtPutUptoRow.holds Try.pinned (OpenSpec.upto fnExactEvtPutSpec)

/-- 'laws.FnExactSeqNew', WHERE WHAT IT READS IS OF BULK AT MOST 1048576: true; the input reads as it did. -/
def fnExactSeqNewUptoRow : OpenClaim := { program := "ytpcfphdolhcepaa", sum := "eac5db2d43e911362a54aed73e080675ff711cc9fa33935bfd23ef0a73c18060", func := "loop.example/turnback/laws.FnExactSeqNew", spec := "fnExactSeqNew", plainKeys := false, apart := false, narrowed := true }
def FnExactSeqNewUptoSaid : Prop := fnExactSeqNewUptoRow.holds Try.pinned (OpenSpec.upto fnExactSeqNewSpec)

/-- 'laws.FnExactSeqOk', WHERE WHAT IT READS IS OF BULK AT MOST 1048576: true; the input reads as it did. -/
def fnExactSeqOkUptoRow : OpenClaim := { program := "ytpcfphdolhcepaa", sum := "eac5db2d43e911362a54aed73e080675ff711cc9fa33935bfd23ef0a73c18060", func := "loop.example/turnback/laws.FnExactSeqOk", spec := "fnExactSeqOk", unfollowed := true, recurses := true, plainKeys := false, apart := false, narrowed := true }
def FnExactSeqOkUptoSaid : Prop := fnExactSeqOkUptoRow.holds Try.pinned (OpenSpec.upto fnExactSeqOkSpec)

/-- 'laws.FnSeqNew', WHERE WHAT IT READS IS OF BULK AT MOST 1048576: true; the input reads as it did. -/
def fnSeqNewUptoRow : OpenClaim := { program := "ytpcfphdolhcepaa", sum := "eac5db2d43e911362a54aed73e080675ff711cc9fa33935bfd23ef0a73c18060", func := "loop.example/turnback/laws.FnSeqNew", spec := "fnSeqNew", unfollowed := true, recurses := true, plainKeys := false, apart := false, narrowed := true }
def FnSeqNewUptoSaid : Prop := fnSeqNewUptoRow.holds Try.pinned (OpenSpec.upto fnSeqNewSpec)

end Rows
end Go.Proofs.Ytpcfphdolhcepaa

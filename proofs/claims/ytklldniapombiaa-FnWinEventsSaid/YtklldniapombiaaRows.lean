/-
  No cell of these rows narrows 'for every input' (looked for: loops, veiled, ifaces, maps, wideKeys, modest, calm, conditions, laid).
  DERIVED. THE GIVEN ROWS OF THIS SEAT. 8 by the template 'for every input the law returns true; each argument reads behind the call as it read before'; 0 by the template 'total and deterministic' (their statements: YtklldniapombiaaTotals.lean).
  GIVEN WITH THE SEED: the statements are not yours to turn. If you find one false, say at which input.
  Laid BY PROGRAM, IN A SANDBOX (cutbox-rows.mjs): the forced cells as the released guide's own fill.sh prints them over the translation 7cedb38885aacf2b… (all of the seat's roots in one cut). By AI agents, Wed Nov 11 2026. No macro, syntax, notation, axiom, sorry.
-/
import Derived.Test.YtklldniapombiaaChecked
import GoSem.Claim
import GoSem.ClaimJoined
import GoSem.ClaimMapViews
import Derived.JoinedTies
import Derived.KernelRfl
namespace Go.Proofs.Ytklldniapombiaa
/- THE CELL 'sum', in the pinned program and in every row, IS THE sha256 OF THE DUMP (.gsa) THAT YtklldniapombiaaProg.lean LOADS. Nothing in Lean hashes anything: it is a label: what it is worth is what the hold of that sum in a sandbox is worth. -/
noncomputable def Try.pinned : Pinned := { name := "ytklldniapombiaa", sum := "7cedb38885aacf2b8dabcda937af55ff5a3b8b653cb7f30834b6070c45e55031", checked := Try.checked }
namespace Rows
def none {H : Type} : Left H := { results := [], args := [] }

/-- 'laws.FnExactCmbSafe': WHATEVER THE INPUT: true; the input reads as it did. -/
def fnExactCmbSafeSpec : ChangeSpec := { name := "fnExactCmbSafe", fn := fun _ => fun
  | [d1, d2, d3] => { results := [.lit (.bool true)], args := [d1, d2, d3] }
  | _ => none }
def fnExactCmbSafeRow : OpenClaim := { program := "ytklldniapombiaa", sum := "7cedb38885aacf2b8dabcda937af55ff5a3b8b653cb7f30834b6070c45e55031", func := "loop.example/turnback/laws.FnExactCmbSafe", spec := "fnExactCmbSafe", unfollowed := true, recurses := true, plainKeys := false, apart := false }
def FnExactCmbSafeSaid : Prop := fnExactCmbSafeRow.holds Try.pinned (OpenSpec.ofChange fnExactCmbSafeSpec)

/-- ITS FALSE NEIGHBOUR: 'it returns false'. Refute it at one input. -/
def fnExactCmbSafeWrong : ChangeSpec := { name := "fnExactCmbSafe", fn := fun _ => fun
  | [d1, d2, d3] => { results := [.lit (.bool false)], args := [d1, d2, d3] }
  | _ => none }
def FnExactCmbSafeWrongFalsely : Prop := fnExactCmbSafeRow.holds Try.pinned (OpenSpec.ofChange fnExactCmbSafeWrong)

/-- 'laws.FnExactWinLook': WHATEVER THE INPUT: true; the input reads as it did. -/
def fnExactWinLookSpec : ChangeSpec := { name := "fnExactWinLook", fn := fun _ => fun
  | [d] => { results := [.lit (.bool true)], args := [d] }
  | _ => none }
def fnExactWinLookRow : OpenClaim := { program := "ytklldniapombiaa", sum := "7cedb38885aacf2b8dabcda937af55ff5a3b8b653cb7f30834b6070c45e55031", func := "loop.example/turnback/laws.FnExactWinLook", spec := "fnExactWinLook", unfollowed := true, recurses := true, plainKeys := false, apart := false }
def FnExactWinLookSaid : Prop := fnExactWinLookRow.holds Try.pinned (OpenSpec.ofChange fnExactWinLookSpec)

/-- ITS FALSE NEIGHBOUR: 'it returns false'. Refute it at one input. -/
def fnExactWinLookWrong : ChangeSpec := { name := "fnExactWinLook", fn := fun _ => fun
  | [d] => { results := [.lit (.bool false)], args := [d] }
  | _ => none }
def FnExactWinLookWrongFalsely : Prop := fnExactWinLookRow.holds Try.pinned (OpenSpec.ofChange fnExactWinLookWrong)

/-- 'laws.FnWinLook': WHATEVER THE INPUT: true; the input reads as it did. -/
def fnWinLookSpec : ChangeSpec := { name := "fnWinLook", fn := fun _ => fun
  | [d] => { results := [.lit (.bool true)], args := [d] }
  | _ => none }
def fnWinLookRow : OpenClaim := { program := "ytklldniapombiaa", sum := "7cedb38885aacf2b8dabcda937af55ff5a3b8b653cb7f30834b6070c45e55031", func := "loop.example/turnback/laws.FnWinLook", spec := "fnWinLook", unfollowed := true, recurses := true, plainKeys := false, apart := false }
def FnWinLookSaid : Prop := fnWinLookRow.holds Try.pinned (OpenSpec.ofChange fnWinLookSpec)

/-- ITS FALSE NEIGHBOUR: 'it returns false'. Refute it at one input. -/
def fnWinLookWrong : ChangeSpec := { name := "fnWinLook", fn := fun _ => fun
  | [d] => { results := [.lit (.bool false)], args := [d] }
  | _ => none }
def FnWinLookWrongFalsely : Prop := fnWinLookRow.holds Try.pinned (OpenSpec.ofChange fnWinLookWrong)

/-- 'laws.FnExactWinEvents': WHATEVER THE INPUT: true; the input reads as it did. -/
def fnExactWinEventsSpec : ChangeSpec := { name := "fnExactWinEvents", fn := fun _ => fun
  | [d1, d2] => { results := [.lit (.bool true)], args := [d1, d2] }
  | _ => none }
def fnExactWinEventsRow : OpenClaim := { program := "ytklldniapombiaa", sum := "7cedb38885aacf2b8dabcda937af55ff5a3b8b653cb7f30834b6070c45e55031", func := "loop.example/turnback/laws.FnExactWinEvents", spec := "fnExactWinEvents", unfollowed := true, recurses := true, plainKeys := false, apart := false }
def FnExactWinEventsSaid : Prop := fnExactWinEventsRow.holds Try.pinned (OpenSpec.ofChange fnExactWinEventsSpec)

/-- ITS FALSE NEIGHBOUR: 'it returns false'. Refute it at one input. -/
def fnExactWinEventsWrong : ChangeSpec := { name := "fnExactWinEvents", fn := fun _ => fun
  | [d1, d2] => { results := [.lit (.bool false)], args := [d1, d2] }
  | _ => none }
def FnExactWinEventsWrongFalsely : Prop := fnExactWinEventsRow.holds Try.pinned (OpenSpec.ofChange fnExactWinEventsWrong)

/-- 'laws.FnWinEvents': WHATEVER THE INPUT: true; the input reads as it did. -/
def fnWinEventsSpec : ChangeSpec := { name := "fnWinEvents", fn := fun _ => fun
  | [d] => { results := [.lit (.bool true)], args := [d] }
  | _ => none }
def fnWinEventsRow : OpenClaim := { program := "ytklldniapombiaa", sum := "7cedb38885aacf2b8dabcda937af55ff5a3b8b653cb7f30834b6070c45e55031", func := "loop.example/turnback/laws.FnWinEvents", spec := "fnWinEvents", unfollowed := true, recurses := true, plainKeys := false, apart := false }
def FnWinEventsSaid : Prop := fnWinEventsRow.holds Try.pinned (OpenSpec.ofChange fnWinEventsSpec)

/-- ITS FALSE NEIGHBOUR: 'it returns false'. Refute it at one input. -/
def fnWinEventsWrong : ChangeSpec := { name := "fnWinEvents", fn := fun _ => fun
  | [d] => { results := [.lit (.bool false)], args := [d] }
  | _ => none }
def FnWinEventsWrongFalsely : Prop := fnWinEventsRow.holds Try.pinned (OpenSpec.ofChange fnWinEventsWrong)

/-- 'laws.FnOneWindow': WHATEVER THE INPUT: true; the input reads as it did. -/
def fnOneWindowSpec : ChangeSpec := { name := "fnOneWindow", fn := fun _ => fun
  | [d] => { results := [.lit (.bool true)], args := [d] }
  | _ => none }
def fnOneWindowRow : OpenClaim := { program := "ytklldniapombiaa", sum := "7cedb38885aacf2b8dabcda937af55ff5a3b8b653cb7f30834b6070c45e55031", func := "loop.example/turnback/laws.FnOneWindow", spec := "fnOneWindow", unfollowed := true, recurses := true, plainKeys := false, apart := false }
def FnOneWindowSaid : Prop := fnOneWindowRow.holds Try.pinned (OpenSpec.ofChange fnOneWindowSpec)

/-- ITS FALSE NEIGHBOUR: 'it returns false'. Refute it at one input. -/
def fnOneWindowWrong : ChangeSpec := { name := "fnOneWindow", fn := fun _ => fun
  | [d] => { results := [.lit (.bool false)], args := [d] }
  | _ => none }
def FnOneWindowWrongFalsely : Prop := fnOneWindowRow.holds Try.pinned (OpenSpec.ofChange fnOneWindowWrong)

/-- 'laws.FnCmbNew': WHATEVER THE INPUT: true; the input reads as it did. -/
def fnCmbNewSpec : ChangeSpec := { name := "fnCmbNew", fn := fun _ => fun
  | [d] => { results := [.lit (.bool true)], args := [d] }
  | _ => none }
def fnCmbNewRow : OpenClaim := { program := "ytklldniapombiaa", sum := "7cedb38885aacf2b8dabcda937af55ff5a3b8b653cb7f30834b6070c45e55031", func := "loop.example/turnback/laws.FnCmbNew", spec := "fnCmbNew", unfollowed := true, recurses := true, plainKeys := false, apart := false }
def FnCmbNewSaid : Prop := fnCmbNewRow.holds Try.pinned (OpenSpec.ofChange fnCmbNewSpec)

/-- ITS FALSE NEIGHBOUR: 'it returns false'. Refute it at one input. -/
def fnCmbNewWrong : ChangeSpec := { name := "fnCmbNew", fn := fun _ => fun
  | [d] => { results := [.lit (.bool false)], args := [d] }
  | _ => none }
def FnCmbNewWrongFalsely : Prop := fnCmbNewRow.holds Try.pinned (OpenSpec.ofChange fnCmbNewWrong)

/-- 'laws.FnCmbSafe': WHATEVER THE INPUT: true; the input reads as it did. -/
def fnCmbSafeSpec : ChangeSpec := { name := "fnCmbSafe", fn := fun _ => fun
  | [d] => { results := [.lit (.bool true)], args := [d] }
  | _ => none }
def fnCmbSafeRow : OpenClaim := { program := "ytklldniapombiaa", sum := "7cedb38885aacf2b8dabcda937af55ff5a3b8b653cb7f30834b6070c45e55031", func := "loop.example/turnback/laws.FnCmbSafe", spec := "fnCmbSafe", unfollowed := true, recurses := true, plainKeys := false, apart := false }
def FnCmbSafeSaid : Prop := fnCmbSafeRow.holds Try.pinned (OpenSpec.ofChange fnCmbSafeSpec)

/-- ITS FALSE NEIGHBOUR: 'it returns false'. Refute it at one input. -/
def fnCmbSafeWrong : ChangeSpec := { name := "fnCmbSafe", fn := fun _ => fun
  | [d] => { results := [.lit (.bool false)], args := [d] }
  | _ => none }
def FnCmbSafeWrongFalsely : Prop := fnCmbSafeRow.holds Try.pinned (OpenSpec.ofChange fnCmbSafeWrong)

/- THE SECOND FORM. 'bulk': how many values and letters a reading holds, each counted each time it is reached (what is shared counts as often as it is met; a slice's spare places count too). A statement '..UptoSaid' is the law's where the arguments, and the package variables that the reading takes, are together of bulk at most 1048576: NARROWER than '..Said'. Prove '..Said' where nothing that the law and all that it calls make is longer than what came in: it says more and counts as full. Else prove '..UptoSaid'. A law counts once. -/
mutual
def uptoBulk {H : Type} : DataW H → Nat
  | .lit (.string bytes) => bytes.length + 1
  | .lit _ => 1
  | .nil => 1
  | .ptr d => uptoBulk d + 1
  | .slice elems spare => uptoBulkAll elems + uptoBulkAll spare + 1
  | .agg parts => uptoBulkAll parts + 1
  | .iface _ d => uptoBulk d + 1
  | .map entries => uptoBulkEntries entries + 1
  | .held _ => 1
def uptoBulkAll {H : Type} : List (DataW H) → Nat
  | [] => 0
  | d :: r => uptoBulk d + uptoBulkAll r
def uptoBulkEntries {H : Type} : List (Lit × DataW H) → Nat
  | [] => 0
  | x :: r => uptoBulkEntry x + uptoBulkEntries r
def uptoBulkEntry {H : Type} : Lit × DataW H → Nat
  | (.string bytes, d) => bytes.length + uptoBulk d + 1
  | (_, d) => uptoBulk d + 1
 end
def uptoSmall : (H : Type) → List (DataW H) → Bool := fun _ ds => decide (uptoBulkAll ds ≤ 1048576)
def OpenSpec.upto (s : _root_.Go.ChangeSpec) : _root_.Go.OpenSpec := { _root_.Go.OpenSpec.ofChange s with cond := some uptoSmall }

/-- 'laws.FnExactCmbSafe', WHERE WHAT IT READS IS OF BULK AT MOST 1048576: true; the input reads as it did. -/
def fnExactCmbSafeUptoRow : OpenClaim := { program := "ytklldniapombiaa", sum := "7cedb38885aacf2b8dabcda937af55ff5a3b8b653cb7f30834b6070c45e55031", func := "loop.example/turnback/laws.FnExactCmbSafe", spec := "fnExactCmbSafe", unfollowed := true, recurses := true, plainKeys := false, apart := false, narrowed := true }
def FnExactCmbSafeUptoSaid : Prop := fnExactCmbSafeUptoRow.holds Try.pinned (OpenSpec.upto fnExactCmbSafeSpec)

/-- 'laws.FnExactWinLook', WHERE WHAT IT READS IS OF BULK AT MOST 1048576: true; the input reads as it did. -/
def fnExactWinLookUptoRow : OpenClaim := { program := "ytklldniapombiaa", sum := "7cedb38885aacf2b8dabcda937af55ff5a3b8b653cb7f30834b6070c45e55031", func := "loop.example/turnback/laws.FnExactWinLook", spec := "fnExactWinLook", unfollowed := true, recurses := true, plainKeys := false, apart := false, narrowed := true }
def FnExactWinLookUptoSaid : Prop := fnExactWinLookUptoRow.holds Try.pinned (OpenSpec.upto fnExactWinLookSpec)

/-- 'laws.FnWinLook', WHERE WHAT IT READS IS OF BULK AT MOST 1048576: true; the input reads as it did. -/
def fnWinLookUptoRow : OpenClaim := { program := "ytklldniapombiaa", sum := "7cedb38885aacf2b8dabcda937af55ff5a3b8b653cb7f30834b6070c45e55031", func := "loop.example/turnback/laws.FnWinLook", spec := "fnWinLook", unfollowed := true, recurses := true, plainKeys := false, apart := false, narrowed := true }
def FnWinLookUptoSaid : Prop := fnWinLookUptoRow.holds Try.pinned (OpenSpec.upto fnWinLookSpec)

/-- 'laws.FnExactWinEvents', WHERE WHAT IT READS IS OF BULK AT MOST 1048576: true; the input reads as it did. -/
def fnExactWinEventsUptoRow : OpenClaim := { program := "ytklldniapombiaa", sum := "7cedb38885aacf2b8dabcda937af55ff5a3b8b653cb7f30834b6070c45e55031", func := "loop.example/turnback/laws.FnExactWinEvents", spec := "fnExactWinEvents", unfollowed := true, recurses := true, plainKeys := false, apart := false, narrowed := true }
def FnExactWinEventsUptoSaid : Prop := fnExactWinEventsUptoRow.holds Try.pinned (OpenSpec.upto fnExactWinEventsSpec)

/-- 'laws.FnWinEvents', WHERE WHAT IT READS IS OF BULK AT MOST 1048576: true; the input reads as it did. -/
def fnWinEventsUptoRow : OpenClaim := { program := "ytklldniapombiaa", sum := "7cedb38885aacf2b8dabcda937af55ff5a3b8b653cb7f30834b6070c45e55031", func := "loop.example/turnback/laws.FnWinEvents", spec := "fnWinEvents", unfollowed := true, recurses := true, plainKeys := false, apart := false, narrowed := true }
def FnWinEventsUptoSaid : Prop := fnWinEventsUptoRow.holds Try.pinned (OpenSpec.upto fnWinEventsSpec)

/-- 'laws.FnOneWindow', WHERE WHAT IT READS IS OF BULK AT MOST 1048576: true; the input reads as it did. -/
def fnOneWindowUptoRow : OpenClaim := { program := "ytklldniapombiaa", sum := "7cedb38885aacf2b8dabcda937af55ff5a3b8b653cb7f30834b6070c45e55031", func := "loop.example/turnback/laws.FnOneWindow", spec := "fnOneWindow", unfollowed := true, recurses := true, plainKeys := false, apart := false, narrowed := true }
def FnOneWindowUptoSaid : Prop := fnOneWindowUptoRow.holds Try.pinned (OpenSpec.upto fnOneWindowSpec)

/-- 'laws.FnCmbNew', WHERE WHAT IT READS IS OF BULK AT MOST 1048576: true; the input reads as it did. -/
def fnCmbNewUptoRow : OpenClaim := { program := "ytklldniapombiaa", sum := "7cedb38885aacf2b8dabcda937af55ff5a3b8b653cb7f30834b6070c45e55031", func := "loop.example/turnback/laws.FnCmbNew", spec := "fnCmbNew", unfollowed := true, recurses := true, plainKeys := false, apart := false, narrowed := true }
def FnCmbNewUptoSaid : Prop := fnCmbNewUptoRow.holds Try.pinned (OpenSpec.upto fnCmbNewSpec)

/-- 'laws.FnCmbSafe', WHERE WHAT IT READS IS OF BULK AT MOST 1048576: true; the input reads as it did. -/
def fnCmbSafeUptoRow : OpenClaim := { program := "ytklldniapombiaa", sum := "7cedb38885aacf2b8dabcda937af55ff5a3b8b653cb7f30834b6070c45e55031", func := "loop.example/turnback/laws.FnCmbSafe", spec := "fnCmbSafe", unfollowed := true, recurses := true, plainKeys := false, apart := false, narrowed := true }
def FnCmbSafeUptoSaid : Prop := fnCmbSafeUptoRow.holds Try.pinned (OpenSpec.upto fnCmbSafeSpec)

end Rows
end Go.Proofs.Ytklldniapombiaa

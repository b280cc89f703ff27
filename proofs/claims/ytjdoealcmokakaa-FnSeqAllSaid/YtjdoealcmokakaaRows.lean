/-
  No cell of these rows narrows 'for every input' (looked for: loops, veiled, ifaces, maps, wideKeys, modest, calm, conditions, laid).
  DERIVED. THE GIVEN ROWS OF THIS SEAT. 5 by the template 'for every input the law returns true; each argument reads behind the call as it read before'; 0 by the template 'total and deterministic' (their statements: YtjdoealcmokakaaTotals.lean).
  GIVEN WITH THE SEED: the statements are not yours to turn. If you find one false, say at which input.
  Laid BY PROGRAM, IN A SANDBOX (cutbox-rows.mjs): the forced cells as the released guide's own fill.sh prints them over the translation 34941ba6e9069fc5… (all of the seat's roots in one cut). By AI agents, Wed Nov 11 2026. No macro, syntax, notation, axiom, sorry.
-/
import Derived.Test.YtjdoealcmokakaaChecked
import GoSem.Claim
import GoSem.ClaimJoined
import GoSem.ClaimMapViews
import Derived.JoinedTies
import Derived.KernelRfl
namespace Go.Proofs.Ytjdoealcmokakaa
/- THE CELL 'sum', in the pinned program and in every row, IS THE sha256 OF THE DUMP (.gsa) THAT YtjdoealcmokakaaProg.lean LOADS. Nothing in Lean hashes anything: it is a label: what it is worth is what the hold of that sum in a sandbox is worth. -/
noncomputable def Try.pinned : Pinned := { name := "ytjdoealcmokakaa", sum := "34941ba6e9069fc5bbdb4bf73cb36ae6b8dc9f57e74fc3ab456c205db6099bb1", checked := Try.checked }
namespace Rows
def none {H : Type} : Left H := { results := [], args := [] }

/-- 'laws.FnSeqUpto': WHATEVER THE INPUT: true; the input reads as it did. -/
def fnSeqUptoSpec : ChangeSpec := { name := "fnSeqUpto", fn := fun _ => fun
  | [d] => { results := [.lit (.bool true)], args := [d] }
  | _ => none }
def fnSeqUptoRow : OpenClaim := { program := "ytjdoealcmokakaa", sum := "34941ba6e9069fc5bbdb4bf73cb36ae6b8dc9f57e74fc3ab456c205db6099bb1", func := "loop.example/turnback/laws.FnSeqUpto", spec := "fnSeqUpto", unfollowed := true, recurses := true, plainKeys := false, apart := false }
def FnSeqUptoSaid : Prop := fnSeqUptoRow.holds Try.pinned (OpenSpec.ofChange fnSeqUptoSpec)

/-- ITS FALSE NEIGHBOUR: 'it returns false'. Refute it at one input. -/
def fnSeqUptoWrong : ChangeSpec := { name := "fnSeqUpto", fn := fun _ => fun
  | [d] => { results := [.lit (.bool false)], args := [d] }
  | _ => none }
def FnSeqUptoWrongFalsely : Prop := fnSeqUptoRow.holds Try.pinned (OpenSpec.ofChange fnSeqUptoWrong)

/-- 'laws.FnSeqAll': WHATEVER THE INPUT: true; the input reads as it did. -/
def fnSeqAllSpec : ChangeSpec := { name := "fnSeqAll", fn := fun _ => fun
  | [d] => { results := [.lit (.bool true)], args := [d] }
  | _ => none }
def fnSeqAllRow : OpenClaim := { program := "ytjdoealcmokakaa", sum := "34941ba6e9069fc5bbdb4bf73cb36ae6b8dc9f57e74fc3ab456c205db6099bb1", func := "loop.example/turnback/laws.FnSeqAll", spec := "fnSeqAll", unfollowed := true, recurses := true, plainKeys := false, apart := false }
def FnSeqAllSaid : Prop := fnSeqAllRow.holds Try.pinned (OpenSpec.ofChange fnSeqAllSpec)

/-- ITS FALSE NEIGHBOUR: 'it returns false'. Refute it at one input. -/
def fnSeqAllWrong : ChangeSpec := { name := "fnSeqAll", fn := fun _ => fun
  | [d] => { results := [.lit (.bool false)], args := [d] }
  | _ => none }
def FnSeqAllWrongFalsely : Prop := fnSeqAllRow.holds Try.pinned (OpenSpec.ofChange fnSeqAllWrong)

/-- 'laws.FnSeqTill': WHATEVER THE INPUT: true; the input reads as it did. -/
def fnSeqTillSpec : ChangeSpec := { name := "fnSeqTill", fn := fun _ => fun
  | [d] => { results := [.lit (.bool true)], args := [d] }
  | _ => none }
def fnSeqTillRow : OpenClaim := { program := "ytjdoealcmokakaa", sum := "34941ba6e9069fc5bbdb4bf73cb36ae6b8dc9f57e74fc3ab456c205db6099bb1", func := "loop.example/turnback/laws.FnSeqTill", spec := "fnSeqTill", unfollowed := true, recurses := true, plainKeys := false, apart := false }
def FnSeqTillSaid : Prop := fnSeqTillRow.holds Try.pinned (OpenSpec.ofChange fnSeqTillSpec)

/-- ITS FALSE NEIGHBOUR: 'it returns false'. Refute it at one input. -/
def fnSeqTillWrong : ChangeSpec := { name := "fnSeqTill", fn := fun _ => fun
  | [d] => { results := [.lit (.bool false)], args := [d] }
  | _ => none }
def FnSeqTillWrongFalsely : Prop := fnSeqTillRow.holds Try.pinned (OpenSpec.ofChange fnSeqTillWrong)

/-- 'laws.FnSeqStep': WHATEVER THE INPUT: true; the input reads as it did. -/
def fnSeqStepSpec : ChangeSpec := { name := "fnSeqStep", fn := fun _ => fun
  | [d] => { results := [.lit (.bool true)], args := [d] }
  | _ => none }
def fnSeqStepRow : OpenClaim := { program := "ytjdoealcmokakaa", sum := "34941ba6e9069fc5bbdb4bf73cb36ae6b8dc9f57e74fc3ab456c205db6099bb1", func := "loop.example/turnback/laws.FnSeqStep", spec := "fnSeqStep", unfollowed := true, recurses := true, plainKeys := false, apart := false }
def FnSeqStepSaid : Prop := fnSeqStepRow.holds Try.pinned (OpenSpec.ofChange fnSeqStepSpec)

/-- ITS FALSE NEIGHBOUR: 'it returns false'. Refute it at one input. -/
def fnSeqStepWrong : ChangeSpec := { name := "fnSeqStep", fn := fun _ => fun
  | [d] => { results := [.lit (.bool false)], args := [d] }
  | _ => none }
def FnSeqStepWrongFalsely : Prop := fnSeqStepRow.holds Try.pinned (OpenSpec.ofChange fnSeqStepWrong)

/-- 'laws.FnSeqOk': WHATEVER THE INPUT: true; the input reads as it did. -/
def fnSeqOkSpec : ChangeSpec := { name := "fnSeqOk", fn := fun _ => fun
  | [d1, d2] => { results := [.lit (.bool true)], args := [d1, d2] }
  | _ => none }
def fnSeqOkRow : OpenClaim := { program := "ytjdoealcmokakaa", sum := "34941ba6e9069fc5bbdb4bf73cb36ae6b8dc9f57e74fc3ab456c205db6099bb1", func := "loop.example/turnback/laws.FnSeqOk", spec := "fnSeqOk", unfollowed := true, recurses := true, plainKeys := false, apart := false }
def FnSeqOkSaid : Prop := fnSeqOkRow.holds Try.pinned (OpenSpec.ofChange fnSeqOkSpec)

/-- ITS FALSE NEIGHBOUR: 'it returns false'. Refute it at one input. -/
def fnSeqOkWrong : ChangeSpec := { name := "fnSeqOk", fn := fun _ => fun
  | [d1, d2] => { results := [.lit (.bool false)], args := [d1, d2] }
  | _ => none }
def FnSeqOkWrongFalsely : Prop := fnSeqOkRow.holds Try.pinned (OpenSpec.ofChange fnSeqOkWrong)

/- THE SECOND FORM. 'bulk': how many values and letters a reading holds, each counted each time it is reached (what is shared counts as often as it is met; a slice's spare places count too). A statement '..UptoSaid' is the law's where the arguments, and the package variables that the reading takes, are together of bulk at most 1048576: NARROWER than '..Said'. Prove '..Said' where nothing that the law and all that it calls make is longer than what came in: it says more and counts as full. Else prove '..UptoSaid'. A law counts once. -/
mutual
def uptoBulk {H : Type} : DataW H → Nat
  | .lit (.string bytes) => bytes.length + 1
  | .lit _ => 1
  | .nil => 1
  | .ptr d => uptoBulk d + 1
  | .slice elems spare => uptoBulkAll elems + uptoBulkAll spare + 1
  | .agg parts => uptoBulkAll parts + 1
  | .iface _ d => uptoBulk d + 1
  | .map entries => uptoBulkEntries entries + 1
  | .held _ => 1
def uptoBulkAll {H : Type} : List (DataW H) → Nat
  | [] => 0
  | d :: r => uptoBulk d + uptoBulkAll r
def uptoBulkEntries {H : Type} : List (Lit × DataW H) → Nat
  | [] => 0
  | x :: r => uptoBulkEntry x + uptoBulkEntries r
def uptoBulkEntry {H : Type} : Lit × DataW H → Nat
  | (.string bytes, d) => bytes.length + uptoBulk d + 1
  | (_, d) => uptoBulk d + 1
 end
def uptoSmall : (H : Type) → List (DataW H) → Bool := fun _ ds => decide (uptoBulkAll ds ≤ 1048576)
def OpenSpec.upto (s : _root_.Go.ChangeSpec) : _root_.Go.OpenSpec := { _root_.Go.OpenSpec.ofChange s with cond := some uptoSmall }

/-- 'laws.FnSeqUpto', WHERE WHAT IT READS IS OF BULK AT MOST 1048576: true; the input reads as it did. -/
def fnSeqUptoUptoRow : OpenClaim := { program := "ytjdoealcmokakaa", sum := "34941ba6e9069fc5bbdb4bf73cb36ae6b8dc9f57e74fc3ab456c205db6099bb1", func := "loop.example/turnback/laws.FnSeqUpto", spec := "fnSeqUpto", unfollowed := true, recurses := true, plainKeys := false, apart := false, narrowed := true }
def FnSeqUptoUptoSaid : Prop := fnSeqUptoUptoRow.holds Try.pinned (OpenSpec.upto fnSeqUptoSpec)

/-- 'laws.FnSeqAll', WHERE WHAT IT READS IS OF BULK AT MOST 1048576: true; the input reads as it did. -/
def fnSeqAllUptoRow : OpenClaim := { program := "ytjdoealcmokakaa", sum := "34941ba6e9069fc5bbdb4bf73cb36ae6b8dc9f57e74fc3ab456c205db6099bb1", func := "loop.example/turnback/laws.FnSeqAll", spec := "fnSeqAll", unfollowed := true, recurses := true, plainKeys := false, apart := false, narrowed := true }
def FnSeqAllUptoSaid : Prop := fnSeqAllUptoRow.holds Try.pinned (OpenSpec.upto fnSeqAllSpec)

/-- 'laws.FnSeqTill', WHERE WHAT IT READS IS OF BULK AT MOST 1048576: true; the input reads as it did. -/
def fnSeqTillUptoRow : OpenClaim := { program := "ytjdoealcmokakaa", sum := "34941ba6e9069fc5bbdb4bf73cb36ae6b8dc9f57e74fc3ab456c205db6099bb1", func := "loop.example/turnback/laws.FnSeqTill", spec := "fnSeqTill", unfollowed := true, recurses := true, plainKeys := false, apart := false, narrowed := true }
def FnSeqTillUptoSaid : Prop := fnSeqTillUptoRow.holds Try.pinned (OpenSpec.upto fnSeqTillSpec)

/-- 'laws.FnSeqStep', WHERE WHAT IT READS IS OF BULK AT MOST 1048576: true; the input reads as it did. -/
def fnSeqStepUptoRow : OpenClaim := { program := "ytjdoealcmokakaa", sum := "34941ba6e9069fc5bbdb4bf73cb36ae6b8dc9f57e74fc3ab456c205db6099bb1", func := "loop.example/turnback/laws.FnSeqStep", spec := "fnSeqStep", unfollowed := true, recurses := true, plainKeys := false, apart := false, narrowed := true }
def FnSeqStepUptoSaid : Prop := fnSeqStepUptoRow.holds Try.pinned (OpenSpec.upto fnSeqStepSpec)

/-- 'laws.FnSeqOk', WHERE WHAT IT READS IS OF BULK AT MOST 1048576: true; the input reads as it did. -/
def fnSeqOkUptoRow : OpenClaim := { program := "ytjdoealcmokakaa", sum := "34941ba6e9069fc5bbdb4bf73cb36ae6b8dc9f57e74fc3ab456c205db6099bb1", func := "loop.example/turnback/laws.FnSeqOk", spec := "fnSeqOk", unfollowed := true, recurses := true, plainKeys := false, apart := false, narrowed := true }
def FnSeqOkUptoSaid : Prop := fnSeqOkUptoRow.holds Try.pinned (OpenSpec.upto fnSeqOkSpec)

end Rows
end Go.Proofs.Ytjdoealcmokakaa

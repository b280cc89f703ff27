/-
  No cell of these rows narrows 'for every input' (looked for: loops, veiled, ifaces, maps, wideKeys, modest, calm, conditions, laid).
  DERIVED. THE GIVEN ROWS OF THIS SEAT. 3 by the template 'for every input the law returns true; each argument reads behind the call as it read before'; 0 by the template 'total and deterministic' (their statements: YtipjcjjjkkaigabTotals.lean).
  GIVEN WITH THE SEED: the statements are not yours to turn. If you find one false, say at which input.
  Laid BY PROGRAM, IN A SANDBOX (cutbox-rows.mjs): the forced cells as the released guide's own fill.sh prints them over the translation 27c44e539c413989… (all of the seat's roots in one cut). By AI agents, Wed Nov 11 2026. No macro, syntax, notation, axiom, sorry.
-/
import Derived.Test.YtipjcjjjkkaigabChecked
import GoSem.Claim
import GoSem.ClaimJoined
import GoSem.ClaimMapViews
import Derived.JoinedTies
import Derived.KernelRfl
namespace Go.Proofs.Ytipjcjjjkkaigab
/- THE CELL 'sum', in the pinned program and in every row, IS THE sha256 OF THE DUMP (.gsa) THAT YtipjcjjjkkaigabProg.lean LOADS. Nothing in Lean hashes anything: it is a label: what it is worth is what the hold of that sum in a sandbox is worth. -/
noncomputable def Try.pinned : Pinned := { name := "ytipjcjjjkkaigab", sum := "27c44e539c413989e0f72c600517c20ed7d89f29f2a6cfc18e9f698bb2acb21c", checked := Try.checked }
namespace Rows
def none {H : Type} : Left H := { results := [], args := [] }

/-- 'laws.FnExactCmbOk': WHATEVER THE INPUT: true; the input reads as it did. -/
def fnExactCmbOkSpec : ChangeSpec := { name := "fnExactCmbOk", fn := fun _ => fun
  | [d1, d2] => { results := [.lit (.bool true)], args := [d1, d2] }
  | _ => none }
def fnExactCmbOkRow : OpenClaim := { program := "ytipjcjjjkkaigab", sum := "27c44e539c413989e0f72c600517c20ed7d89f29f2a6cfc18e9f698bb2acb21c", func := "loop.example/turnback/laws.FnExactCmbOk", spec := "fnExactCmbOk", unfollowed := true, recurses := true, plainKeys := false, apart := false }
def FnExactCmbOkSaid : Prop := fnExactCmbOkRow.holds Try.pinned (OpenSpec.ofChange fnExactCmbOkSpec)

/-- ITS FALSE NEIGHBOUR: 'it returns false'. Refute it at one input. -/
def fnExactCmbOkWrong : ChangeSpec := { name := "fnExactCmbOk", fn := fun _ => fun
  | [d1, d2] => { results := [.lit (.bool false)], args := [d1, d2] }
  | _ => none }
def FnExactCmbOkWrongFalsely : Prop := fnExactCmbOkRow.holds Try.pinned (OpenSpec.ofChange fnExactCmbOkWrong)

/-- 'laws.FnExactCmbSafe': WHATEVER THE INPUT: true; the input reads as it did. -/
def fnExactCmbSafeSpec : ChangeSpec := { name := "fnExactCmbSafe", fn := fun _ => fun
  | [d1, d2, d3] => { results := [.lit (.bool true)], args := [d1, d2, d3] }
  | _ => none }
def fnExactCmbSafeRow : OpenClaim := { program := "ytipjcjjjkkaigab", sum := "27c44e539c413989e0f72c600517c20ed7d89f29f2a6cfc18e9f698bb2acb21c", func := "loop.example/turnback/laws.FnExactCmbSafe", spec := "fnExactCmbSafe", unfollowed := true, recurses := true, plainKeys := false, apart := false }
def FnExactCmbSafeSaid : Prop := fnExactCmbSafeRow.holds Try.pinned (OpenSpec.ofChange fnExactCmbSafeSpec)

/-- ITS FALSE NEIGHBOUR: 'it returns false'. Refute it at one input. -/
def fnExactCmbSafeWrong : ChangeSpec := { name := "fnExactCmbSafe", fn := fun _ => fun
  | [d1, d2, d3] => { results := [.lit (.bool false)], args := [d1, d2, d3] }
  | _ => none }
def FnExactCmbSafeWrongFalsely : Prop := fnExactCmbSafeRow.holds Try.pinned (OpenSpec.ofChange fnExactCmbSafeWrong)

/-- 'laws.FnCmbNew': WHATEVER THE INPUT: true; the input reads as it did. -/
def fnCmbNewSpec : ChangeSpec := { name := "fnCmbNew", fn := fun _ => fun
  | [d] => { results := [.lit (.bool true)], args := [d] }
  | _ => none }
def fnCmbNewRow : OpenClaim := { program := "ytipjcjjjkkaigab", sum := "27c44e539c413989e0f72c600517c20ed7d89f29f2a6cfc18e9f698bb2acb21c", func := "loop.example/turnback/laws.FnCmbNew", spec := "fnCmbNew", unfollowed := true, recurses := true, plainKeys := false, apart := false }
def FnCmbNewSaid : Prop := fnCmbNewRow.holds Try.pinned (OpenSpec.ofChange fnCmbNewSpec)

/-- ITS FALSE NEIGHBOUR: 'it returns false'. Refute it at one input. -/
def fnCmbNewWrong : ChangeSpec := { name := "fnCmbNew", fn := fun _ => fun
  | [d] => { results := [.lit (.bool false)], args := [d] }
  | _ => none }
def FnCmbNewWrongFalsely : Prop := fnCmbNewRow.holds Try.pinned (OpenSpec.ofChange fnCmbNewWrong)

/- THE SECOND FORM. 'bulk': how many values and letters a reading holds, each counted each time it is reached (what is shared counts as often as it is met; a slice's spare places count too). A statement '..UptoSaid' is the law's where the arguments, and the package variables that the reading takes, are together of bulk at most 1048576: NARROWER than '..Said'. Prove '..Said' where nothing that the law and all that it calls make is longer than what came in: it says more and counts as full. Else prove '..UptoSaid'. A law counts once. -/
mutual
def uptoBulk {H : Type} : DataW H → Nat
  | .lit (.string bytes) => bytes.length + 1
  | .lit _ => 1
  | .nil => 1
  | .ptr d => uptoBulk d + 1
  | .slice elems spare => uptoBulkAll elems + uptoBulkAll spare + 1
  | .agg parts => uptoBulkAll parts + 1
  | .iface _ d => uptoBulk d + 1
  | .map entries => uptoBulkEntries entries + 1
  | .held _ => 1
def uptoBulkAll {H : Type} : List (DataW H) → Nat
  | [] => 0
  | d :: r => uptoBulk d + uptoBulkAll r
def uptoBulkEntries {H : Type} : List (Lit × DataW H) → Nat
  | [] => 0
  | x :: r => uptoBulkEntry x + uptoBulkEntries r
def uptoBulkEntry {H : Type} : Lit × DataW H → Nat
  | (.string bytes, d) => bytes.length + uptoBulk d + 1
  | (_, d) => uptoBulk d + 1
 end
def uptoSmall : (H : Type) → List (DataW H) → Bool := fun _ ds => decide (uptoBulkAll ds ≤ 1048576)
def OpenSpec.upto (s : _root_.Go.ChangeSpec) : _root_.Go.OpenSpec := { _root_.Go.OpenSpec.ofChange s with cond := some uptoSmall }

/-- 'laws.FnExactCmbOk', WHERE WHAT IT READS IS OF BULK AT MOST 1048576: true; the input reads as it did. -/
def fnExactCmbOkUptoRow : OpenClaim := { program := "ytipjcjjjkkaigab", sum := "27c44e539c413989e0f72c600517c20ed7d89f29f2a6cfc18e9f698bb2acb21c", func := "loop.example/turnback/laws.FnExactCmbOk", spec := "fnExactCmbOk", unfollowed := true, recurses := true, plainKeys := false, apart := false, narrowed := true }
def FnExactCmbOkUptoSaid : Prop := fnExactCmbOkUptoRow.holds Try.pinned (OpenSpec.upto fnExactCmbOkSpec)

/-- 'laws.FnExactCmbSafe', WHERE WHAT IT READS IS OF BULK AT MOST 1048576: true; the input reads as it did. -/
def fnExactCmbSafeUptoRow : OpenClaim := { program := "ytipjcjjjkkaigab", sum := "27c44e539c413989e0f72c600517c20ed7d89f29f2a6cfc18e9f698bb2acb21c", func := "loop.example/turnback/laws.FnExactCmbSafe", spec := "fnExactCmbSafe", unfollowed := true, recurses := true, plainKeys := false, apart := false, narrowed := true }
def FnExactCmbSafeUptoSaid : Prop := fnExactCmbSafeUptoRow.holds Try.pinned (OpenSpec.upto fnExactCmbSafeSpec)

/-- 'laws.FnCmbNew', WHERE WHAT IT READS IS OF BULK AT MOST 1048576: true; the input reads as it did. -/
def fnCmbNewUptoRow : OpenClaim := { program := "ytipjcjjjkkaigab", sum := "27c44e539c413989e0f72c600517c20ed7d89f29f2a6cfc18e9f698bb2acb21c", func := "loop.example/turnback/laws.FnCmbNew", spec := "fnCmbNew", unfollowed := true, recurses := true, plainKeys := false, apart := false, narrowed := true }
def FnCmbNewUptoSaid : Prop := fnCmbNewUptoRow.holds Try.pinned (OpenSpec.upto fnCmbNewSpec)

end Rows
end Go.Proofs.Ytipjcjjjkkaigab

/-
  No cell of these rows narrows 'for every input' (looked for: loops, veiled, ifaces, maps, wideKeys, modest, calm, conditions, laid).
  DERIVED. THE GIVEN ROWS OF THIS SEAT. 8 by the template 'for every input the law returns true; each argument reads behind the call as it read before'; 0 by the template 'total and deterministic' (their statements: YtojplcbennfifaaTotals.lean).
  GIVEN WITH THE SEED: the statements are not yours to turn. If you find one false, say at which input.
  Laid BY PROGRAM, IN A SANDBOX (cutbox-rows.mjs): the forced cells as the released guide's own fill.sh prints them over the translation 20d768372322e28e… (all of the seat's roots in one cut). By AI agents, Wed Nov 11 2026. No macro, syntax, notation, axiom, sorry.
-/
import Derived.Test.YtojplcbennfifaaChecked
import GoSem.Claim
import GoSem.ClaimJoined
import GoSem.ClaimMapViews
import Derived.JoinedTies
import Derived.KernelRfl
namespace Go.Proofs.Ytojplcbennfifaa
/- THE CELL 'sum', in the pinned program and in every row, IS THE sha256 OF THE DUMP (.gsa) THAT YtojplcbennfifaaProg.lean LOADS. Nothing in Lean hashes anything: it is a label: what it is worth is what the hold of that sum in a sandbox is worth. -/
noncomputable def Try.pinned : Pinned := { name := "ytojplcbennfifaa", sum := "20d768372322e28ee378668519eea79820f9e900c553c33803ba4a50cabd4eff", checked := Try.checked }
namespace Rows
def none {H : Type} : Left H := { results := [], args := [] }

/-- 'laws.FnMdlOk': WHATEVER THE INPUT: true; the input reads as it did. -/
def fnMdlOkSpec : ChangeSpec := { name := "fnMdlOk", fn := fun _ => fun
  | [d] => { results := [.lit (.bool true)], args := [d] }
  | _ => none }
def fnMdlOkRow : OpenClaim := { program := "ytojplcbennfifaa", sum := "20d768372322e28ee378668519eea79820f9e900c553c33803ba4a50cabd4eff", func := "loop.example/turnback/laws.FnMdlOk", spec := "fnMdlOk", unfollowed := true, recurses := true, plainKeys := false, apart := false }
def FnMdlOkSaid : Prop := fnMdlOkRow.holds Try.pinned (OpenSpec.ofChange fnMdlOkSpec)

/-- ITS FALSE NEIGHBOUR: 'it returns false'. Refute it at one input. -/
def fnMdlOkWrong : ChangeSpec := { name := "fnMdlOk", fn := fun _ => fun
  | [d] => { results := [.lit (.bool false)], args := [d] }
  | _ => none }
def FnMdlOkWrongFalsely : Prop := fnMdlOkRow.holds Try.pinned (OpenSpec.ofChange fnMdlOkWrong)

/-- 'laws.FnCmpDo': WHATEVER THE INPUT: true; the input reads as it did. -/
def fnCmpDoSpec : ChangeSpec := { name := "fnCmpDo", fn := fun _ => fun
  | [d] => { results := [.lit (.bool true)], args := [d] }
  | _ => none }
def fnCmpDoRow : OpenClaim := { program := "ytojplcbennfifaa", sum := "20d768372322e28ee378668519eea79820f9e900c553c33803ba4a50cabd4eff", func := "loop.example/turnback/laws.FnCmpDo", spec := "fnCmpDo", unfollowed := true, recurses := true, plainKeys := false, apart := false }
def FnCmpDoSaid : Prop := fnCmpDoRow.holds Try.pinned (OpenSpec.ofChange fnCmpDoSpec)

/-- ITS FALSE NEIGHBOUR: 'it returns false'. Refute it at one input. -/
def fnCmpDoWrong : ChangeSpec := { name := "fnCmpDo", fn := fun _ => fun
  | [d] => { results := [.lit (.bool false)], args := [d] }
  | _ => none }
def FnCmpDoWrongFalsely : Prop := fnCmpDoRow.holds Try.pinned (OpenSpec.ofChange fnCmpDoWrong)

/-- 'laws.FnCmpLine': WHATEVER THE INPUT: true; the input reads as it did. -/
def fnCmpLineSpec : ChangeSpec := { name := "fnCmpLine", fn := fun _ => fun
  | [d] => { results := [.lit (.bool true)], args := [d] }
  | _ => none }
def fnCmpLineRow : OpenClaim := { program := "ytojplcbennfifaa", sum := "20d768372322e28ee378668519eea79820f9e900c553c33803ba4a50cabd4eff", func := "loop.example/turnback/laws.FnCmpLine", spec := "fnCmpLine", unfollowed := true, recurses := true, plainKeys := false, apart := false }
def FnCmpLineSaid : Prop := fnCmpLineRow.holds Try.pinned (OpenSpec.ofChange fnCmpLineSpec)

/-- ITS FALSE NEIGHBOUR: 'it returns false'. Refute it at one input. -/
def fnCmpLineWrong : ChangeSpec := { name := "fnCmpLine", fn := fun _ => fun
  | [d] => { results := [.lit (.bool false)], args := [d] }
  | _ => none }
def FnCmpLineWrongFalsely : Prop := fnCmpLineRow.holds Try.pinned (OpenSpec.ofChange fnCmpLineWrong)

/-- 'laws.FnSeqNew': WHATEVER THE INPUT: true; the input reads as it did. -/
def fnSeqNewSpec : ChangeSpec := { name := "fnSeqNew", fn := fun _ => fun
  | [d] => { results := [.lit (.bool true)], args := [d] }
  | _ => none }
def fnSeqNewRow : OpenClaim := { program := "ytojplcbennfifaa", sum := "20d768372322e28ee378668519eea79820f9e900c553c33803ba4a50cabd4eff", func := "loop.example/turnback/laws.FnSeqNew", spec := "fnSeqNew", unfollowed := true, recurses := true, plainKeys := false, apart := false }
def FnSeqNewSaid : Prop := fnSeqNewRow.holds Try.pinned (OpenSpec.ofChange fnSeqNewSpec)

/-- ITS FALSE NEIGHBOUR: 'it returns false'. Refute it at one input. -/
def fnSeqNewWrong : ChangeSpec := { name := "fnSeqNew", fn := fun _ => fun
  | [d] => { results := [.lit (.bool false)], args := [d] }
  | _ => none }
def FnSeqNewWrongFalsely : Prop := fnSeqNewRow.holds Try.pinned (OpenSpec.ofChange fnSeqNewWrong)

/-- 'laws.FnHstNew': WHATEVER THE INPUT: true; the input reads as it did. -/
def fnHstNewSpec : ChangeSpec := { name := "fnHstNew", fn := fun _ => fun
  | [d] => { results := [.lit (.bool true)], args := [d] }
  | _ => none }
def fnHstNewRow : OpenClaim := { program := "ytojplcbennfifaa", sum := "20d768372322e28ee378668519eea79820f9e900c553c33803ba4a50cabd4eff", func := "loop.example/turnback/laws.FnHstNew", spec := "fnHstNew", unfollowed := true, recurses := true, plainKeys := false, apart := false }
def FnHstNewSaid : Prop := fnHstNewRow.holds Try.pinned (OpenSpec.ofChange fnHstNewSpec)

/-- ITS FALSE NEIGHBOUR: 'it returns false'. Refute it at one input. -/
def fnHstNewWrong : ChangeSpec := { name := "fnHstNew", fn := fun _ => fun
  | [d] => { results := [.lit (.bool false)], args := [d] }
  | _ => none }
def FnHstNewWrongFalsely : Prop := fnHstNewRow.holds Try.pinned (OpenSpec.ofChange fnHstNewWrong)

/-- 'laws.FnExactHstNew': WHATEVER THE INPUT: true; the input reads as it did. -/
def fnExactHstNewSpec : ChangeSpec := { name := "fnExactHstNew", fn := fun _ => fun
  | [d1, d2] => { results := [.lit (.bool true)], args := [d1, d2] }
  | _ => none }
def fnExactHstNewRow : OpenClaim := { program := "ytojplcbennfifaa", sum := "20d768372322e28ee378668519eea79820f9e900c553c33803ba4a50cabd4eff", func := "loop.example/turnback/laws.FnExactHstNew", spec := "fnExactHstNew", unfollowed := true, recurses := true, plainKeys := false, apart := false }
def FnExactHstNewSaid : Prop := fnExactHstNewRow.holds Try.pinned (OpenSpec.ofChange fnExactHstNewSpec)

/-- ITS FALSE NEIGHBOUR: 'it returns false'. Refute it at one input. -/
def fnExactHstNewWrong : ChangeSpec := { name := "fnExactHstNew", fn := fun _ => fun
  | [d1, d2] => { results := [.lit (.bool false)], args := [d1, d2] }
  | _ => none }
def FnExactHstNewWrongFalsely : Prop := fnExactHstNewRow.holds Try.pinned (OpenSpec.ofChange fnExactHstNewWrong)

/-- 'laws.FnExactItmLess': WHATEVER THE INPUT: true; the input reads as it did. -/
def fnExactItmLessSpec : ChangeSpec := { name := "fnExactItmLess", fn := fun _ => fun
  | [d1, d2] => { results := [.lit (.bool true)], args := [d1, d2] }
  | _ => none }
def fnExactItmLessRow : OpenClaim := { program := "ytojplcbennfifaa", sum := "20d768372322e28ee378668519eea79820f9e900c553c33803ba4a50cabd4eff", func := "loop.example/turnback/laws.FnExactItmLess", spec := "fnExactItmLess", plainKeys := false, apart := false }
def FnExactItmLessSaid : Prop := fnExactItmLessRow.holds Try.pinned (OpenSpec.ofChange fnExactItmLessSpec)

/-- ITS FALSE NEIGHBOUR: 'it returns false'. Refute it at one input. -/
def fnExactItmLessWrong : ChangeSpec := { name := "fnExactItmLess", fn := fun _ => fun
  | [d1, d2] => { results := [.lit (.bool false)], args := [d1, d2] }
  | _ => none }
def FnExactItmLessWrongFalsely : Prop := fnExactItmLessRow.holds Try.pinned (OpenSpec.ofChange fnExactItmLessWrong)

/-- 'laws.FnExactHstOk': WHATEVER THE INPUT: true; the input reads as it did. -/
def fnExactHstOkSpec : ChangeSpec := { name := "fnExactHstOk", fn := fun _ => fun
  | [d1, d2, d3] => { results := [.lit (.bool true)], args := [d1, d2, d3] }
  | _ => none }
def fnExactHstOkRow : OpenClaim := { program := "ytojplcbennfifaa", sum := "20d768372322e28ee378668519eea79820f9e900c553c33803ba4a50cabd4eff", func := "loop.example/turnback/laws.FnExactHstOk", spec := "fnExactHstOk", unfollowed := true, recurses := true, plainKeys := false, apart := false }
def FnExactHstOkSaid : Prop := fnExactHstOkRow.holds Try.pinned (OpenSpec.ofChange fnExactHstOkSpec)

/-- ITS FALSE NEIGHBOUR: 'it returns false'. Refute it at one input. -/
def fnExactHstOkWrong : ChangeSpec := { name := "fnExactHstOk", fn := fun _ => fun
  | [d1, d2, d3] => { results := [.lit (.bool false)], args := [d1, d2, d3] }
  | _ => none }
def FnExactHstOkWrongFalsely : Prop := fnExactHstOkRow.holds Try.pinned (OpenSpec.ofChange fnExactHstOkWrong)

/- THE SECOND FORM. 'bulk': how many values and letters a reading holds, each counted each time it is reached (what is shared counts as often as it is met; a slice's spare places count too). A statement '..UptoSaid' is the law's where the arguments, and the package variables that the reading takes, are together of bulk at most 1048576: NARROWER than '..Said'. Prove '..Said' where nothing that the law and all that it calls make is longer than what came in: it says more and counts as full. Else prove '..UptoSaid'. A law counts once. -/
mutual
def uptoBulk {H : Type} : DataW H → Nat
  | .lit (.string bytes) => bytes.length + 1
  | .lit _ => 1
  | .nil => 1
  | .ptr d => uptoBulk d + 1
  | .slice elems spare => uptoBulkAll elems + uptoBulkAll spare + 1
  | .agg parts => uptoBulkAll parts + 1
  | .iface _ d => uptoBulk d + 1
  | .map entries => uptoBulkEntries entries + 1
  | .held _ => 1
def uptoBulkAll {H : Type} : List (DataW H) → Nat
  | [] => 0
  | d :: r => uptoBulk d + uptoBulkAll r
def uptoBulkEntries {H : Type} : List (Lit × DataW H) → Nat
  | [] => 0
  | x :: r => uptoBulkEntry x + uptoBulkEntries r
def uptoBulkEntry {H : Type} : Lit × DataW H → Nat
  | (.string bytes, d) => bytes.length + uptoBulk d + 1
  | (_, d) => uptoBulk d + 1
 end
def uptoSmall : (H : Type) → List (DataW H) → Bool := fun _ ds => decide (uptoBulkAll ds ≤ 1048576)
def OpenSpec.upto (s : _root_.Go.ChangeSpec) : _root_.Go.OpenSpec := { _root_.Go.OpenSpec.ofChange s with cond := some uptoSmall }

/-- 'laws.FnMdlOk', WHERE WHAT IT READS IS OF BULK AT MOST 1048576: true; the input reads as it did. -/
def fnMdlOkUptoRow : OpenClaim := { program := "ytojplcbennfifaa", sum := "20d768372322e28ee378668519eea79820f9e900c553c33803ba4a50cabd4eff", func := "loop.example/turnback/laws.FnMdlOk", spec := "fnMdlOk", unfollowed := true, recurses := true, plainKeys := false, apart := false, narrowed := true }
def FnMdlOkUptoSaid : Prop := fnMdlOkUptoRow.holds Try.pinned (OpenSpec.upto fnMdlOkSpec)

/-- 'laws.FnCmpDo', WHERE WHAT IT READS IS OF BULK AT MOST 1048576: true; the input reads as it did. -/
def fnCmpDoUptoRow : OpenClaim := { program := "ytojplcbennfifaa", sum := "20d768372322e28ee378668519eea79820f9e900c553c33803ba4a50cabd4eff", func := "loop.example/turnback/laws.FnCmpDo", spec := "fnCmpDo", unfollowed := true, recurses := true, plainKeys := false, apart := false, narrowed := true }
def FnCmpDoUptoSaid : Prop := fnCmpDoUptoRow.holds Try.pinned (OpenSpec.upto fnCmpDoSpec)

/-- 'laws.FnCmpLine', WHERE WHAT IT READS IS OF BULK AT MOST 1048576: true; the input reads as it did. -/
def fnCmpLineUptoRow : OpenClaim := { program := "ytojplcbennfifaa", sum := "20d768372322e28ee378668519eea79820f9e900c553c33803ba4a50cabd4eff", func := "loop.example/turnback/laws.FnCmpLine", spec := "fnCmpLine", unfollowed := true, recurses := true, plainKeys := false, apart := false, narrowed := true }
def FnCmpLineUptoSaid : Prop := fnCmpLineUptoRow.holds Try.pinned (OpenSpec.upto fnCmpLineSpec)

/-- 'laws.FnSeqNew', WHERE WHAT IT READS IS OF BULK AT MOST 1048576: true; the input reads as it did. -/
def fnSeqNewUptoRow : OpenClaim := { program := "ytojplcbennfifaa", sum := "20d768372322e28ee378668519eea79820f9e900c553c33803ba4a50cabd4eff", func := "loop.example/turnback/laws.FnSeqNew", spec := "fnSeqNew", unfollowed := true, recurses := true, plainKeys := false, apart := false, narrowed := true }
def FnSeqNewUptoSaid : Prop := fnSeqNewUptoRow.holds Try.pinned (OpenSpec.upto fnSeqNewSpec)

/-- 'laws.FnHstNew', WHERE WHAT IT READS IS OF BULK AT MOST 1048576: true; the input reads as it did. -/
def fnHstNewUptoRow : OpenClaim := { program := "ytojplcbennfifaa", sum := "20d768372322e28ee378668519eea79820f9e900c553c33803ba4a50cabd4eff", func := "loop.example/turnback/laws.FnHstNew", spec := "fnHstNew", unfollowed := true, recurses := true, plainKeys := false, apart := false, narrowed := true }
def FnHstNewUptoSaid : Prop := fnHstNewUptoRow.holds Try.pinned (OpenSpec.upto fnHstNewSpec)

/-- 'laws.FnExactHstNew', WHERE WHAT IT READS IS OF BULK AT MOST 1048576: true; the input reads as it did. -/
def fnExactHstNewUptoRow : OpenClaim := { program := "ytojplcbennfifaa", sum := "20d768372322e28ee378668519eea79820f9e900c553c33803ba4a50cabd4eff", func := "loop.example/turnback/laws.FnExactHstNew", spec := "fnExactHstNew", unfollowed := true, recurses := true, plainKeys := false, apart := false, narrowed := true }
def FnExactHstNewUptoSaid : Prop := fnExactHstNewUptoRow.holds Try.pinned (OpenSpec.upto fnExactHstNewSpec)

/-- 'laws.FnExactItmLess', WHERE WHAT IT READS IS OF BULK AT MOST 1048576: true; the input reads as it did. -/
def fnExactItmLessUptoRow : OpenClaim := { program := "ytojplcbennfifaa", sum := "20d768372322e28ee378668519eea79820f9e900c553c33803ba4a50cabd4eff", func := "loop.example/turnback/laws.FnExactItmLess", spec := "fnExactItmLess", plainKeys := false, apart := false, narrowed := true }
def FnExactItmLessUptoSaid : Prop := fnExactItmLessUptoRow.holds Try.pinned (OpenSpec.upto fnExactItmLessSpec)

/-- 'laws.FnExactHstOk', WHERE WHAT IT READS IS OF BULK AT MOST 1048576: true; the input reads as it did. -/
def fnExactHstOkUptoRow : OpenClaim := { program := "ytojplcbennfifaa", sum := "20d768372322e28ee378668519eea79820f9e900c553c33803ba4a50cabd4eff", func := "loop.example/turnback/laws.FnExactHstOk", spec := "fnExactHstOk", unfollowed := true, recurses := true, plainKeys := false, apart := false, narrowed := true }
def FnExactHstOkUptoSaid : Prop := fnExactHstOkUptoRow.holds Try.pinned (OpenSpec.upto fnExactHstOkSpec)

end Rows
end Go.Proofs.Ytojplcbennfifaa

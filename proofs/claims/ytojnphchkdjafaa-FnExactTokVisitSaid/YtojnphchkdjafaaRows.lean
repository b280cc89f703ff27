/-
  No cell of these rows narrows 'for every input' (looked for: loops, veiled, ifaces, maps, wideKeys, modest, calm, conditions, laid).
  DERIVED. THE GIVEN ROWS OF THIS SEAT. 6 by the template 'for every input the law returns true; each argument reads behind the call as it read before'; 0 by the template 'total and deterministic' (their statements: YtojnphchkdjafaaTotals.lean).
  GIVEN WITH THE SEED: the statements are not yours to turn. If you find one false, say at which input.
  Laid BY PROGRAM, IN A SANDBOX (cutbox-rows.mjs): the forced cells as the released guide's own fill.sh prints them over the translation ce611613338aefdb… (all of the seat's roots in one cut). By AI agents, Wed Nov 11 2026. No macro, syntax, notation, axiom, sorry.
-/
import Derived.Test.YtojnphchkdjafaaChecked
import GoSem.Claim
import GoSem.ClaimJoined
import GoSem.ClaimMapViews
import Derived.JoinedTies
import Derived.KernelRfl
namespace Go.Proofs.Ytojnphchkdjafaa
/- THE CELL 'sum', in the pinned program and in every row, IS THE sha256 OF THE DUMP (.gsa) THAT YtojnphchkdjafaaProg.lean LOADS. Nothing in Lean hashes anything: it is a label: what it is worth is what the hold of that sum in a sandbox is worth. -/
noncomputable def Try.pinned : Pinned := { name := "ytojnphchkdjafaa", sum := "ce611613338aefdb158094270049737fec602b0292a78246669a1463e879d53e", checked := Try.checked }
namespace Rows
def none {H : Type} : Left H := { results := [], args := [] }

/-- 'laws.FnMrkOk': WHATEVER THE INPUT: true; the input reads as it did. -/
def fnMrkOkSpec : ChangeSpec := { name := "fnMrkOk", fn := fun _ => fun
  | [d1, d2] => { results := [.lit (.bool true)], args := [d1, d2] }
  | _ => none }
def fnMrkOkRow : OpenClaim := { program := "ytojnphchkdjafaa", sum := "ce611613338aefdb158094270049737fec602b0292a78246669a1463e879d53e", func := "loop.example/turnback/laws.FnMrkOk", spec := "fnMrkOk", unfollowed := true, recurses := true, plainKeys := false, apart := false }
def FnMrkOkSaid : Prop := fnMrkOkRow.holds Try.pinned (OpenSpec.ofChange fnMrkOkSpec)

/-- ITS FALSE NEIGHBOUR: 'it returns false'. Refute it at one input. -/
def fnMrkOkWrong : ChangeSpec := { name := "fnMrkOk", fn := fun _ => fun
  | [d1, d2] => { results := [.lit (.bool false)], args := [d1, d2] }
  | _ => none }
def FnMrkOkWrongFalsely : Prop := fnMrkOkRow.holds Try.pinned (OpenSpec.ofChange fnMrkOkWrong)

/-- 'laws.FnTokVisit': WHATEVER THE INPUT: true; the input reads as it did. -/
def fnTokVisitSpec : ChangeSpec := { name := "fnTokVisit", fn := fun _ => fun
  | [d] => { results := [.lit (.bool true)], args := [d] }
  | _ => none }
def fnTokVisitRow : OpenClaim := { program := "ytojnphchkdjafaa", sum := "ce611613338aefdb158094270049737fec602b0292a78246669a1463e879d53e", func := "loop.example/turnback/laws.FnTokVisit", spec := "fnTokVisit", unfollowed := true, recurses := true, plainKeys := false, apart := false }
def FnTokVisitSaid : Prop := fnTokVisitRow.holds Try.pinned (OpenSpec.ofChange fnTokVisitSpec)

/-- ITS FALSE NEIGHBOUR: 'it returns false'. Refute it at one input. -/
def fnTokVisitWrong : ChangeSpec := { name := "fnTokVisit", fn := fun _ => fun
  | [d] => { results := [.lit (.bool false)], args := [d] }
  | _ => none }
def FnTokVisitWrongFalsely : Prop := fnTokVisitRow.holds Try.pinned (OpenSpec.ofChange fnTokVisitWrong)

/-- 'laws.FnExactMrkOk': WHATEVER THE INPUT: true; the input reads as it did. -/
def fnExactMrkOkSpec : ChangeSpec := { name := "fnExactMrkOk", fn := fun _ => fun
  | [d1, d2] => { results := [.lit (.bool true)], args := [d1, d2] }
  | _ => none }
def fnExactMrkOkRow : OpenClaim := { program := "ytojnphchkdjafaa", sum := "ce611613338aefdb158094270049737fec602b0292a78246669a1463e879d53e", func := "loop.example/turnback/laws.FnExactMrkOk", spec := "fnExactMrkOk", unfollowed := true, recurses := true, plainKeys := false, apart := false }
def FnExactMrkOkSaid : Prop := fnExactMrkOkRow.holds Try.pinned (OpenSpec.ofChange fnExactMrkOkSpec)

/-- ITS FALSE NEIGHBOUR: 'it returns false'. Refute it at one input. -/
def fnExactMrkOkWrong : ChangeSpec := { name := "fnExactMrkOk", fn := fun _ => fun
  | [d1, d2] => { results := [.lit (.bool false)], args := [d1, d2] }
  | _ => none }
def FnExactMrkOkWrongFalsely : Prop := fnExactMrkOkRow.holds Try.pinned (OpenSpec.ofChange fnExactMrkOkWrong)

/-- 'laws.FnExactTokOk': WHATEVER THE INPUT: true; the input reads as it did. -/
def fnExactTokOkSpec : ChangeSpec := { name := "fnExactTokOk", fn := fun _ => fun
  | [d1, d2] => { results := [.lit (.bool true)], args := [d1, d2] }
  | _ => none }
def fnExactTokOkRow : OpenClaim := { program := "ytojnphchkdjafaa", sum := "ce611613338aefdb158094270049737fec602b0292a78246669a1463e879d53e", func := "loop.example/turnback/laws.FnExactTokOk", spec := "fnExactTokOk", unfollowed := true, recurses := true, plainKeys := false, apart := false }
def FnExactTokOkSaid : Prop := fnExactTokOkRow.holds Try.pinned (OpenSpec.ofChange fnExactTokOkSpec)

/-- ITS FALSE NEIGHBOUR: 'it returns false'. Refute it at one input. -/
def fnExactTokOkWrong : ChangeSpec := { name := "fnExactTokOk", fn := fun _ => fun
  | [d1, d2] => { results := [.lit (.bool false)], args := [d1, d2] }
  | _ => none }
def FnExactTokOkWrongFalsely : Prop := fnExactTokOkRow.holds Try.pinned (OpenSpec.ofChange fnExactTokOkWrong)

/-- 'laws.FnExactTokVisit': WHATEVER THE INPUT: true; the input reads as it did. -/
def fnExactTokVisitSpec : ChangeSpec := { name := "fnExactTokVisit", fn := fun _ => fun
  | [d1, d2, d3, d4] => { results := [.lit (.bool true)], args := [d1, d2, d3, d4] }
  | _ => none }
def fnExactTokVisitRow : OpenClaim := { program := "ytojnphchkdjafaa", sum := "ce611613338aefdb158094270049737fec602b0292a78246669a1463e879d53e", func := "loop.example/turnback/laws.FnExactTokVisit", spec := "fnExactTokVisit", unfollowed := true, recurses := true, plainKeys := false, apart := false }
def FnExactTokVisitSaid : Prop := fnExactTokVisitRow.holds Try.pinned (OpenSpec.ofChange fnExactTokVisitSpec)

/-- ITS FALSE NEIGHBOUR: 'it returns false'. Refute it at one input. -/
def fnExactTokVisitWrong : ChangeSpec := { name := "fnExactTokVisit", fn := fun _ => fun
  | [d1, d2, d3, d4] => { results := [.lit (.bool false)], args := [d1, d2, d3, d4] }
  | _ => none }
def FnExactTokVisitWrongFalsely : Prop := fnExactTokVisitRow.holds Try.pinned (OpenSpec.ofChange fnExactTokVisitWrong)

/-- 'laws.FnExactSeqUpto': WHATEVER THE INPUT: true; the input reads as it did. -/
def fnExactSeqUptoSpec : ChangeSpec := { name := "fnExactSeqUpto", fn := fun _ => fun
  | [d1, d2] => { results := [.lit (.bool true)], args := [d1, d2] }
  | _ => none }
def fnExactSeqUptoRow : OpenClaim := { program := "ytojnphchkdjafaa", sum := "ce611613338aefdb158094270049737fec602b0292a78246669a1463e879d53e", func := "loop.example/turnback/laws.FnExactSeqUpto", spec := "fnExactSeqUpto", unfollowed := true, recurses := true, plainKeys := false, apart := false }
def FnExactSeqUptoSaid : Prop := fnExactSeqUptoRow.holds Try.pinned (OpenSpec.ofChange fnExactSeqUptoSpec)

/-- ITS FALSE NEIGHBOUR: 'it returns false'. Refute it at one input. -/
def fnExactSeqUptoWrong : ChangeSpec := { name := "fnExactSeqUpto", fn := fun _ => fun
  | [d1, d2] => { results := [.lit (.bool false)], args := [d1, d2] }
  | _ => none }
def FnExactSeqUptoWrongFalsely : Prop := fnExactSeqUptoRow.holds Try.pinned (OpenSpec.ofChange fnExactSeqUptoWrong)

/- THE SECOND FORM. 'bulk': how many values and letters a reading holds, each counted each time it is reached (what is shared counts as often as it is met; a slice's spare places count too). A statement '..UptoSaid' is the law's where the arguments, and the package variables that the reading takes, are together of bulk at most 1048576: NARROWER than '..Said'. Prove '..Said' where nothing that the law and all that it calls make is longer than what came in: it says more and counts as full. Else prove '..UptoSaid'. A law counts once. -/
mutual
def uptoBulk {H : Type} : DataW H → Nat
  | .lit (.string bytes) => bytes.length + 1
  | .lit _ => 1
  | .nil => 1
  | .ptr d => uptoBulk d + 1
  | .slice elems spare => uptoBulkAll elems + uptoBulkAll spare + 1
  | .agg parts => uptoBulkAll parts + 1
  | .iface _ d => uptoBulk d + 1
  | .map entries => uptoBulkEntries entries + 1
  | .held _ => 1
def uptoBulkAll {H : Type} : List (DataW H) → Nat
  | [] => 0
  | d :: r => uptoBulk d + uptoBulkAll r
def uptoBulkEntries {H : Type} : List (Lit × DataW H) → Nat
  | [] => 0
  | x :: r => uptoBulkEntry x + uptoBulkEntries r
def uptoBulkEntry {H : Type} : Lit × DataW H → Nat
  | (.string bytes, d) => bytes.length + uptoBulk d + 1
  | (_, d) => uptoBulk d + 1
 end
def uptoSmall : (H : Type) → List (DataW H) → Bool := fun _ ds => decide (uptoBulkAll ds ≤ 1048576)
def OpenSpec.upto (s : _root_.Go.ChangeSpec) : _root_.Go.OpenSpec := { _root_.Go.OpenSpec.ofChange s with cond := some uptoSmall }

/-- 'laws.FnMrkOk', WHERE WHAT IT READS IS OF BULK AT MOST 1048576: true; the input reads as it did. -/
def fnMrkOkUptoRow : OpenClaim := { program := "ytojnphchkdjafaa", sum := "ce611613338aefdb158094270049737fec602b0292a78246669a1463e879d53e", func := "loop.example/turnback/laws.FnMrkOk", spec := "fnMrkOk", unfollowed := true, recurses := true, plainKeys := false, apart := false, narrowed := true }
def FnMrkOkUptoSaid : Prop := fnMrkOkUptoRow.holds Try.pinned (OpenSpec.upto fnMrkOkSpec)

/-- 'laws.FnTokVisit', WHERE WHAT IT READS IS OF BULK AT MOST 1048576: true; the input reads as it did. -/
def fnTokVisitUptoRow : OpenClaim := { program := "ytojnphchkdjafaa", sum := "ce611613338aefdb158094270049737fec602b0292a78246669a1463e879d53e", func := "loop.example/turnback/laws.FnTokVisit", spec := "fnTokVisit", unfollowed := true, recurses := true, plainKeys := false, apart := false, narrowed := true }
def FnTokVisitUptoSaid : Prop := fnTokVisitUptoRow.holds Try.pinned (OpenSpec.upto fnTokVisitSpec)

/-- 'laws.FnExactMrkOk', WHERE WHAT IT READS IS OF BULK AT MOST 1048576: true; the input reads as it did. -/
def fnExactMrkOkUptoRow : OpenClaim := { program := "ytojnphchkdjafaa", sum := "ce611613338aefdb158094270049737fec602b0292a78246669a1463e879d53e", func := "loop.example/turnback/laws.FnExactMrkOk", spec := "fnExactMrkOk", unfollowed := true, recurses := true, plainKeys := false, apart := false, narrowed := true }
def FnExactMrkOkUptoSaid : Prop := fnExactMrkOkUptoRow.holds Try.pinned (OpenSpec.upto fnExactMrkOkSpec)

/-- 'laws.FnExactTokOk', WHERE WHAT IT READS IS OF BULK AT MOST 1048576: true; the input reads as it did. -/
def fnExactTokOkUptoRow : OpenClaim := { program := "ytojnphchkdjafaa", sum := "ce611613338aefdb158094270049737fec602b0292a78246669a1463e879d53e", func := "loop.example/turnback/laws.FnExactTokOk", spec := "fnExactTokOk", unfollowed := true, recurses := true, plainKeys := false, apart := false, narrowed := true }
def FnExactTokOkUptoSaid : Prop := fnExactTokOkUptoRow.holds Try.pinned (OpenSpec.upto fnExactTokOkSpec)

/-- 'laws.FnExactTokVisit', WHERE WHAT IT READS IS OF BULK AT MOST 1048576: true; the input reads as it did. -/
def fnExactTokVisitUptoRow : OpenClaim := { program := "ytojnphchkdjafaa", sum := "ce611613338aefdb158094270049737fec602b0292a78246669a1463e879d53e", func := "loop.example/turnback/laws.FnExactTokVisit", spec := "fnExactTokVisit", unfollowed := true, recurses := true, plainKeys := false, apart := false, narrowed := true }
def FnExactTokVisitUptoSaid : Prop := fnExactTokVisitUptoRow.holds Try.pinned (OpenSpec.upto fnExactTokVisitSpec)

/-- 'laws.FnExactSeqUpto', WHERE WHAT IT READS IS OF BULK AT MOST 1048576: true; the input reads as it did. -/
def fnExactSeqUptoUptoRow : OpenClaim := { program := "ytojnphchkdjafaa", sum := "ce611613338aefdb158094270049737fec602b0292a78246669a1463e879d53e", func := "loop.example/turnback/laws.FnExactSeqUpto", spec := "fnExactSeqUpto", unfollowed := true, recurses := true, plainKeys := false, apart := false, narrowed := true }
def FnExactSeqUptoUptoSaid : Prop := fnExactSeqUptoUptoRow.holds Try.pinned (OpenSpec.upto fnExactSeqUptoSpec)

end Rows
end Go.Proofs.Ytojnphchkdjafaa

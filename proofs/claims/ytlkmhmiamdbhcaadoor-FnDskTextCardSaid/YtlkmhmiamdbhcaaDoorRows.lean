/-
  NARROWER THAN 'FOR EVERY INPUT', by the rows' own cells (each row's printed sentence says how): FnExactDskText: laid · FnExactDskRead: laid · FnExactRecText: laid · FnDskText: laid · FnRecText: laid.
  DERIVED. THE GIVEN ROWS OF THIS SEAT. 5 by the template 'for every input the law returns true; each argument reads behind the call as it read before'; 0 by the template 'total and deterministic' (their statements: YtlkmhmiamdbhcaaDoorTotals.lean).
  GIVEN WITH THE SEED: the statements are not yours to turn. If you find one false, say at which input.
  Laid BY PROGRAM, IN A SANDBOX (cutbox-rows.mjs): the forced cells as the released guide's own fill.sh prints them over the translation 4ce975ebb7fb6fb0… (all of the seat's roots in one cut). By AI agents, Wed Nov 11 2026. No macro, syntax, notation, axiom, sorry.
-/
import Derived.Test.YtlkmhmiamdbhcaaDoorChecked
import GoSem.PinnedTables
import GoSem.Claim
import GoSem.ClaimJoined
import GoSem.ClaimMapViews
import Derived.JoinedTies
import Derived.KernelRfl
namespace Go.Proofs.YtlkmhmiamdbhcaaDoor
/- THE CELL 'sum', in the pinned program and in every row, IS THE sha256 OF THE DUMP (.gsa) THAT YtlkmhmiamdbhcaaDoorProg.lean LOADS. Nothing in Lean hashes anything: it is a label: what it is worth is what the hold of that sum in a sandbox is worth. -/
noncomputable def Tryd.pinned : Pinned := { name := "ytlkmhmiamdbhcaadoor", sum := "4ce975ebb7fb6fb06a5aa5dc17fbb5024128d87a5116ee23ed7555fc22e31045", checked := Tryd.checked }
namespace Rows
def none {H : Type} : Left H := { results := [], args := [] }

/- WHAT THE LISTED PACKAGE-LEVEL VARIABLES READ AS WHEN THE CALL BEGINS. Each datum BY PROGRAM (the guide's laid-datum.mjs) off the statement by which the dump's own 'gosem.cut.vars' lays the variable. In a bare row this is a premise. The card (YtlkmhmiamdbhcaaDoorCards.lean) ties it to the program's text. -/
def laid_math_bits_deBruijn32tab {H : Type} : DataW H := .agg [.lit (.int .u8 0), .lit (.int .u8 1), .lit (.int .u8 28), .lit (.int .u8 2), .lit (.int .u8 29), .lit (.int .u8 14), .lit (.int .u8 24), .lit (.int .u8 3), .lit (.int .u8 30), .lit (.int .u8 22), .lit (.int .u8 20), .lit (.int .u8 15), .lit (.int .u8 25), .lit (.int .u8 17), .lit (.int .u8 4), .lit (.int .u8 8), .lit (.int .u8 31), .lit (.int .u8 27), .lit (.int .u8 13), .lit (.int .u8 23), .lit (.int .u8 21), .lit (.int .u8 19), .lit (.int .u8 16), .lit (.int .u8 7), .lit (.int .u8 26), .lit (.int .u8 12), .lit (.int .u8 18), .lit (.int .u8 6), .lit (.int .u8 11), .lit (.int .u8 5), .lit (.int .u8 10), .lit (.int .u8 9)]
def laid_math_bits_deBruijn64tab {H : Type} : DataW H := .agg [.lit (.int .u8 0), .lit (.int .u8 1), .lit (.int .u8 56), .lit (.int .u8 2), .lit (.int .u8 57), .lit (.int .u8 49), .lit (.int .u8 28), .lit (.int .u8 3), .lit (.int .u8 61), .lit (.int .u8 58), .lit (.int .u8 42), .lit (.int .u8 50), .lit (.int .u8 38), .lit (.int .u8 29), .lit (.int .u8 17), .lit (.int .u8 4), .lit (.int .u8 62), .lit (.int .u8 47), .lit (.int .u8 59), .lit (.int .u8 36), .lit (.int .u8 45), .lit (.int .u8 43), .lit (.int .u8 51), .lit (.int .u8 22), .lit (.int .u8 53), .lit (.int .u8 39), .lit (.int .u8 33), .lit (.int .u8 30), .lit (.int .u8 24), .lit (.int .u8 18), .lit (.int .u8 12), .lit (.int .u8 5), .lit (.int .u8 63), .lit (.int .u8 55), .lit (.int .u8 48), .lit (.int .u8 27), .lit (.int .u8 60), .lit (.int .u8 41), .lit (.int .u8 37), .lit (.int .u8 16), .lit (.int .u8 46), .lit (.int .u8 35), .lit (.int .u8 44), .lit (.int .u8 21), .lit (.int .u8 52), .lit (.int .u8 32), .lit (.int .u8 23), .lit (.int .u8 11), .lit (.int .u8 54), .lit (.int .u8 26), .lit (.int .u8 40), .lit (.int .u8 15), .lit (.int .u8 34), .lit (.int .u8 20), .lit (.int .u8 31), .lit (.int .u8 10), .lit (.int .u8 25), .lit (.int .u8 14), .lit (.int .u8 19), .lit (.int .u8 9), .lit (.int .u8 13), .lit (.int .u8 8), .lit (.int .u8 7), .lit (.int .u8 6)]
def laid_internal_strconv_uint64pow10 {H : Type} : DataW H := .agg [.lit (.int .u64 1), .lit (.int .u64 10), .lit (.int .u64 100), .lit (.int .u64 1000), .lit (.int .u64 10000), .lit (.int .u64 100000), .lit (.int .u64 1000000), .lit (.int .u64 10000000), .lit (.int .u64 100000000), .lit (.int .u64 1000000000), .lit (.int .u64 10000000000), .lit (.int .u64 100000000000), .lit (.int .u64 1000000000000), .lit (.int .u64 10000000000000), .lit (.int .u64 100000000000000), .lit (.int .u64 1000000000000000), .lit (.int .u64 10000000000000000), .lit (.int .u64 100000000000000000), .lit (.int .u64 1000000000000000000), .lit (.int .u64 10000000000000000000)]
def laid_unicode_utf8_acceptRanges {H : Type} : DataW H := .agg [.agg [.lit (.int .u8 128), .lit (.int .u8 191)], .agg [.lit (.int .u8 160), .lit (.int .u8 191)], .agg [.lit (.int .u8 128), .lit (.int .u8 159)], .agg [.lit (.int .u8 144), .lit (.int .u8 191)], .agg [.lit (.int .u8 128), .lit (.int .u8 143)], .agg [.lit (.int .u8 0), .lit (.int .u8 0)], .agg [.lit (.int .u8 0), .lit (.int .u8 0)], .agg [.lit (.int .u8 0), .lit (.int .u8 0)], .agg [.lit (.int .u8 0), .lit (.int .u8 0)], .agg [.lit (.int .u8 0), .lit (.int .u8 0)], .agg [.lit (.int .u8 0), .lit (.int .u8 0)], .agg [.lit (.int .u8 0), .lit (.int .u8 0)], .agg [.lit (.int .u8 0), .lit (.int .u8 0)], .agg [.lit (.int .u8 0), .lit (.int .u8 0)], .agg [.lit (.int .u8 0), .lit (.int .u8 0)], .agg [.lit (.int .u8 0), .lit (.int .u8 0)]]
def laid_loop_example_turnback_impl_lineFormats {H : Type} : DataW H := .agg [.agg [.lit (.string []), .lit (.int .i64 0)], .agg [.lit (.string [100, 111, 32, 35]), .lit (.int .i64 999)], .agg [.lit (.string [104, 101, 97, 114, 32, 35]), .lit (.int .i64 999)], .agg [.lit (.string [98, 101, 103, 105, 110]), .lit (.int .i64 0)], .agg [.lit (.string [118, 105, 115, 105, 116]), .lit (.int .i64 0)], .agg [.lit (.string [102, 114, 101, 101, 32, 35]), .lit (.int .i64 999)], .agg [.lit (.string [97, 116, 32, 35, 32, 116, 111, 32, 35, 32, 102, 114, 111, 109, 32, 35, 32, 107, 105, 110, 100, 32, 35, 32, 100, 97, 116, 97, 32, 35, 32, 116, 104, 101, 110, 32, 35]), .lit (.int .i64 0)], .agg [.lit (.string [98, 111, 117, 110, 100, 32, 35, 32, 111, 110, 32, 105, 116, 115, 32, 119, 97, 121, 32, 35]), .lit (.int .i64 0)], .agg [.lit (.string [104, 111, 115, 116, 32, 35, 32, 100, 111, 110, 101, 32, 35, 32, 119, 97, 105, 116, 115, 32, 35, 32, 99, 97, 108, 108, 101, 100, 32, 111, 102, 102, 32, 35, 32, 107, 101, 112, 116, 32, 35]), .lit (.int .i64 0)], .agg [.lit (.string [108, 105, 110, 101, 32, 35]), .lit (.int .i64 0)], .agg [.lit (.string [109, 111, 100, 101, 108]), .lit (.int .i64 0)], .agg [.lit (.string [108, 111, 110, 103]), .lit (.int .i64 0)]]
/-- One of Go's own tables, pinned by name: the form's constant. -/
def laid_unicode_utf8_first : DataW Unit := Go.Pinned.utf8First
def laid_strconv_ErrRange {H : Type} : DataW H := .iface "*errors.errorString" (.ptr (.agg [.lit (.string [118, 97, 108, 117, 101, 32, 111, 117, 116, 32, 111, 102, 32, 114, 97, 110, 103, 101])]))
def laid_strconv_ErrSyntax {H : Type} : DataW H := .iface "*errors.errorString" (.ptr (.agg [.lit (.string [105, 110, 118, 97, 108, 105, 100, 32, 115, 121, 110, 116, 97, 120])]))

/-- 'laws.FnExactDskText': WHATEVER THE INPUT: true; the input reads as it did. -/
def fnExactDskTextSpec : ChangeSpec := { name := "fnExactDskText", vars := ["loop.example/turnback/impl.lineFormats"], fn := fun _ => fun
  | [d, g1] => { results := [.lit (.bool true)], args := [d], vars := [g1] }
  | _ => none }
def fnExactDskTextRow : OpenClaim := { program := "ytlkmhmiamdbhcaadoor", sum := "4ce975ebb7fb6fb06a5aa5dc17fbb5024128d87a5116ee23ed7555fc22e31045", func := "loop.example/turnback/laws.FnExactDskText", spec := "fnExactDskText", inPlace := ["internal/bytealg.CountString", "internal/bytealg.IndexByteString", "internal/bytealg.IndexString", "internal/abi.NoEscape"], named := ["loop.example/turnback/impl.lineFormats", "unicode/utf8.first", "unicode/utf8.acceptRanges", "internal/bytealg.MaxLen", "internal/strconv.uint64pow10", "math/bits.deBruijn32tab", "math/bits.deBruijn64tab"], apart := false, laid := [("math/bits.deBruijn32tab", laid_math_bits_deBruijn32tab), ("math/bits.deBruijn64tab", laid_math_bits_deBruijn64tab), ("internal/strconv.uint64pow10", laid_internal_strconv_uint64pow10), ("unicode/utf8.acceptRanges", laid_unicode_utf8_acceptRanges), ("loop.example/turnback/impl.lineFormats", laid_loop_example_turnback_impl_lineFormats), ("unicode/utf8.first", laid_unicode_utf8_first)] }
def FnExactDskTextSaid : Prop := fnExactDskTextRow.holds Tryd.pinned (OpenSpec.ofChange fnExactDskTextSpec)

/-- ITS FALSE NEIGHBOUR: 'it returns false'. Refute it at one input. -/
def fnExactDskTextWrong : ChangeSpec := { name := "fnExactDskText", vars := ["loop.example/turnback/impl.lineFormats"], fn := fun _ => fun
  | [d, g1] => { results := [.lit (.bool false)], args := [d], vars := [g1] }
  | _ => none }
def FnExactDskTextWrongFalsely : Prop := fnExactDskTextRow.holds Tryd.pinned (OpenSpec.ofChange fnExactDskTextWrong)

/-- 'laws.FnExactDskRead': WHATEVER THE INPUT: true; the input reads as it did. -/
def fnExactDskReadSpec : ChangeSpec := { name := "fnExactDskRead", vars := ["loop.example/turnback/impl.lineFormats"], fn := fun _ => fun
  | [d, g1] => { results := [.lit (.bool true)], args := [d], vars := [g1] }
  | _ => none }
def fnExactDskReadRow : OpenClaim := { program := "ytlkmhmiamdbhcaadoor", sum := "4ce975ebb7fb6fb06a5aa5dc17fbb5024128d87a5116ee23ed7555fc22e31045", func := "loop.example/turnback/laws.FnExactDskRead", spec := "fnExactDskRead", inPlace := ["internal/bytealg.CountString", "internal/bytealg.IndexByteString", "internal/bytealg.IndexString", "internal/abi.NoEscape"], named := ["strconv.ErrSyntax", "strconv.ErrRange", "internal/strconv.uint64pow10", "math/bits.deBruijn32tab", "math/bits.deBruijn64tab", "loop.example/turnback/impl.lineFormats", "unicode/utf8.first", "unicode/utf8.acceptRanges", "internal/bytealg.MaxLen"], apart := false, laid := [("math/bits.deBruijn32tab", laid_math_bits_deBruijn32tab), ("math/bits.deBruijn64tab", laid_math_bits_deBruijn64tab), ("internal/strconv.uint64pow10", laid_internal_strconv_uint64pow10), ("unicode/utf8.acceptRanges", laid_unicode_utf8_acceptRanges), ("strconv.ErrRange", laid_strconv_ErrRange), ("strconv.ErrSyntax", laid_strconv_ErrSyntax), ("loop.example/turnback/impl.lineFormats", laid_loop_example_turnback_impl_lineFormats), ("unicode/utf8.first", laid_unicode_utf8_first)] }
def FnExactDskReadSaid : Prop := fnExactDskReadRow.holds Tryd.pinned (OpenSpec.ofChange fnExactDskReadSpec)

/-- ITS FALSE NEIGHBOUR: 'it returns false'. Refute it at one input. -/
def fnExactDskReadWrong : ChangeSpec := { name := "fnExactDskRead", vars := ["loop.example/turnback/impl.lineFormats"], fn := fun _ => fun
  | [d, g1] => { results := [.lit (.bool false)], args := [d], vars := [g1] }
  | _ => none }
def FnExactDskReadWrongFalsely : Prop := fnExactDskReadRow.holds Tryd.pinned (OpenSpec.ofChange fnExactDskReadWrong)

/-- 'laws.FnExactRecText': WHATEVER THE INPUT: true; the input reads as it did. -/
def fnExactRecTextSpec : ChangeSpec := { name := "fnExactRecText", vars := ["loop.example/turnback/impl.lineFormats"], fn := fun _ => fun
  | [d, g1] => { results := [.lit (.bool true)], args := [d], vars := [g1] }
  | _ => none }
def fnExactRecTextRow : OpenClaim := { program := "ytlkmhmiamdbhcaadoor", sum := "4ce975ebb7fb6fb06a5aa5dc17fbb5024128d87a5116ee23ed7555fc22e31045", func := "loop.example/turnback/laws.FnExactRecText", spec := "fnExactRecText", inPlace := ["internal/bytealg.CountString", "internal/bytealg.IndexByteString", "internal/bytealg.IndexString", "internal/abi.NoEscape"], named := ["loop.example/turnback/impl.lineFormats", "unicode/utf8.first", "unicode/utf8.acceptRanges", "internal/bytealg.MaxLen", "internal/strconv.uint64pow10", "math/bits.deBruijn32tab", "math/bits.deBruijn64tab"], apart := false, laid := [("math/bits.deBruijn32tab", laid_math_bits_deBruijn32tab), ("math/bits.deBruijn64tab", laid_math_bits_deBruijn64tab), ("internal/strconv.uint64pow10", laid_internal_strconv_uint64pow10), ("unicode/utf8.acceptRanges", laid_unicode_utf8_acceptRanges), ("loop.example/turnback/impl.lineFormats", laid_loop_example_turnback_impl_lineFormats), ("unicode/utf8.first", laid_unicode_utf8_first)] }
def FnExactRecTextSaid : Prop := fnExactRecTextRow.holds Tryd.pinned (OpenSpec.ofChange fnExactRecTextSpec)

/-- ITS FALSE NEIGHBOUR: 'it returns false'. Refute it at one input. -/
def fnExactRecTextWrong : ChangeSpec := { name := "fnExactRecText", vars := ["loop.example/turnback/impl.lineFormats"], fn := fun _ => fun
  | [d, g1] => { results := [.lit (.bool false)], args := [d], vars := [g1] }
  | _ => none }
def FnExactRecTextWrongFalsely : Prop := fnExactRecTextRow.holds Tryd.pinned (OpenSpec.ofChange fnExactRecTextWrong)

/-- 'laws.FnDskText': WHATEVER THE INPUT: true; the input reads as it did. -/
def fnDskTextSpec : ChangeSpec := { name := "fnDskText", vars := ["loop.example/turnback/impl.lineFormats"], fn := fun _ => fun
  | [d1, d2, g1] => { results := [.lit (.bool true)], args := [d1, d2], vars := [g1] }
  | _ => none }
def fnDskTextRow : OpenClaim := { program := "ytlkmhmiamdbhcaadoor", sum := "4ce975ebb7fb6fb06a5aa5dc17fbb5024128d87a5116ee23ed7555fc22e31045", func := "loop.example/turnback/laws.FnDskText", spec := "fnDskText", inPlace := ["internal/bytealg.CountString", "internal/bytealg.IndexByteString", "internal/bytealg.IndexString", "internal/abi.NoEscape"], named := ["loop.example/turnback/impl.lineFormats", "unicode/utf8.first", "unicode/utf8.acceptRanges", "internal/bytealg.MaxLen", "internal/strconv.uint64pow10", "math/bits.deBruijn32tab", "math/bits.deBruijn64tab", "strconv.ErrSyntax", "strconv.ErrRange"], apart := false, laid := [("math/bits.deBruijn32tab", laid_math_bits_deBruijn32tab), ("math/bits.deBruijn64tab", laid_math_bits_deBruijn64tab), ("internal/strconv.uint64pow10", laid_internal_strconv_uint64pow10), ("unicode/utf8.acceptRanges", laid_unicode_utf8_acceptRanges), ("strconv.ErrRange", laid_strconv_ErrRange), ("strconv.ErrSyntax", laid_strconv_ErrSyntax), ("loop.example/turnback/impl.lineFormats", laid_loop_example_turnback_impl_lineFormats), ("unicode/utf8.first", laid_unicode_utf8_first)] }
def FnDskTextSaid : Prop := fnDskTextRow.holds Tryd.pinned (OpenSpec.ofChange fnDskTextSpec)

/-- ITS FALSE NEIGHBOUR: 'it returns false'. Refute it at one input. -/
def fnDskTextWrong : ChangeSpec := { name := "fnDskText", vars := ["loop.example/turnback/impl.lineFormats"], fn := fun _ => fun
  | [d1, d2, g1] => { results := [.lit (.bool false)], args := [d1, d2], vars := [g1] }
  | _ => none }
def FnDskTextWrongFalsely : Prop := fnDskTextRow.holds Tryd.pinned (OpenSpec.ofChange fnDskTextWrong)

/-- 'laws.FnRecText': WHATEVER THE INPUT: true; the input reads as it did. -/
def fnRecTextSpec : ChangeSpec := { name := "fnRecText", vars := ["loop.example/turnback/impl.lineFormats"], fn := fun _ => fun
  | [d1, d2, g1] => { results := [.lit (.bool true)], args := [d1, d2], vars := [g1] }
  | _ => none }
def fnRecTextRow : OpenClaim := { program := "ytlkmhmiamdbhcaadoor", sum := "4ce975ebb7fb6fb06a5aa5dc17fbb5024128d87a5116ee23ed7555fc22e31045", func := "loop.example/turnback/laws.FnRecText", spec := "fnRecText", inPlace := ["internal/bytealg.CountString", "internal/bytealg.IndexByteString", "internal/bytealg.IndexString", "internal/abi.NoEscape"], named := ["loop.example/turnback/impl.lineFormats", "unicode/utf8.first", "unicode/utf8.acceptRanges", "internal/bytealg.MaxLen", "internal/strconv.uint64pow10", "math/bits.deBruijn32tab", "math/bits.deBruijn64tab"], apart := false, laid := [("math/bits.deBruijn32tab", laid_math_bits_deBruijn32tab), ("math/bits.deBruijn64tab", laid_math_bits_deBruijn64tab), ("internal/strconv.uint64pow10", laid_internal_strconv_uint64pow10), ("unicode/utf8.acceptRanges", laid_unicode_utf8_acceptRanges), ("loop.example/turnback/impl.lineFormats", laid_loop_example_turnback_impl_lineFormats), ("unicode/utf8.first", laid_unicode_utf8_first)] }
def FnRecTextSaid : Prop := fnRecTextRow.holds Tryd.pinned (OpenSpec.ofChange fnRecTextSpec)

/-- ITS FALSE NEIGHBOUR: 'it returns false'. Refute it at one input. -/
def fnRecTextWrong : ChangeSpec := { name := "fnRecText", vars := ["loop.example/turnback/impl.lineFormats"], fn := fun _ => fun
  | [d1, d2, g1] => { results := [.lit (.bool false)], args := [d1, d2], vars := [g1] }
  | _ => none }
def FnRecTextWrongFalsely : Prop := fnRecTextRow.holds Tryd.pinned (OpenSpec.ofChange fnRecTextWrong)

/- THE SECOND FORM. 'bulk': how many values and letters a reading holds, each counted each time it is reached (what is shared counts as often as it is met; a slice's spare places count too). A statement '..UptoSaid' is the law's where the arguments, and the package variables that the reading takes, are together of bulk at most 1048576: NARROWER than '..Said'. Prove '..Said' where nothing that the law and all that it calls make is longer than what came in: it says more and counts as full. Else prove '..UptoSaid'. A law counts once. -/
mutual
def uptoBulk {H : Type} : DataW H → Nat
  | .lit (.string bytes) => bytes.length + 1
  | .lit _ => 1
  | .nil => 1
  | .ptr d => uptoBulk d + 1
  | .slice elems spare => uptoBulkAll elems + uptoBulkAll spare + 1
  | .agg parts => uptoBulkAll parts + 1
  | .iface _ d => uptoBulk d + 1
  | .map entries => uptoBulkEntries entries + 1
  | .held _ => 1
def uptoBulkAll {H : Type} : List (DataW H) → Nat
  | [] => 0
  | d :: r => uptoBulk d + uptoBulkAll r
def uptoBulkEntries {H : Type} : List (Lit × DataW H) → Nat
  | [] => 0
  | x :: r => uptoBulkEntry x + uptoBulkEntries r
def uptoBulkEntry {H : Type} : Lit × DataW H → Nat
  | (.string bytes, d) => bytes.length + uptoBulk d + 1
  | (_, d) => uptoBulk d + 1
 end
def uptoSmall : (H : Type) → List (DataW H) → Bool := fun _ ds => decide (uptoBulkAll ds ≤ 1048576)
def OpenSpec.upto (s : _root_.Go.ChangeSpec) : _root_.Go.OpenSpec := { _root_.Go.OpenSpec.ofChange s with cond := some uptoSmall }

/-- 'laws.FnExactDskText', WHERE WHAT IT READS IS OF BULK AT MOST 1048576: true; the input reads as it did. -/
def fnExactDskTextUptoRow : OpenClaim := { program := "ytlkmhmiamdbhcaadoor", sum := "4ce975ebb7fb6fb06a5aa5dc17fbb5024128d87a5116ee23ed7555fc22e31045", func := "loop.example/turnback/laws.FnExactDskText", spec := "fnExactDskText", inPlace := ["internal/bytealg.CountString", "internal/bytealg.IndexByteString", "internal/bytealg.IndexString", "internal/abi.NoEscape"], named := ["loop.example/turnback/impl.lineFormats", "unicode/utf8.first", "unicode/utf8.acceptRanges", "internal/bytealg.MaxLen", "internal/strconv.uint64pow10", "math/bits.deBruijn32tab", "math/bits.deBruijn64tab"], apart := false, laid := [("math/bits.deBruijn32tab", laid_math_bits_deBruijn32tab), ("math/bits.deBruijn64tab", laid_math_bits_deBruijn64tab), ("internal/strconv.uint64pow10", laid_internal_strconv_uint64pow10), ("unicode/utf8.acceptRanges", laid_unicode_utf8_acceptRanges), ("loop.example/turnback/impl.lineFormats", laid_loop_example_turnback_impl_lineFormats), ("unicode/utf8.first", laid_unicode_utf8_first)], narrowed := true }
def FnExactDskTextUptoSaid : Prop := fnExactDskTextUptoRow.holds Tryd.pinned (OpenSpec.upto fnExactDskTextSpec)

/-- 'laws.FnExactDskRead', WHERE WHAT IT READS IS OF BULK AT MOST 1048576: true; the input reads as it did. -/
def fnExactDskReadUptoRow : OpenClaim := { program := "ytlkmhmiamdbhcaadoor", sum := "4ce975ebb7fb6fb06a5aa5dc17fbb5024128d87a5116ee23ed7555fc22e31045", func := "loop.example/turnback/laws.FnExactDskRead", spec := "fnExactDskRead", inPlace := ["internal/bytealg.CountString", "internal/bytealg.IndexByteString", "internal/bytealg.IndexString", "internal/abi.NoEscape"], named := ["strconv.ErrSyntax", "strconv.ErrRange", "internal/strconv.uint64pow10", "math/bits.deBruijn32tab", "math/bits.deBruijn64tab", "loop.example/turnback/impl.lineFormats", "unicode/utf8.first", "unicode/utf8.acceptRanges", "internal/bytealg.MaxLen"], apart := false, laid := [("math/bits.deBruijn32tab", laid_math_bits_deBruijn32tab), ("math/bits.deBruijn64tab", laid_math_bits_deBruijn64tab), ("internal/strconv.uint64pow10", laid_internal_strconv_uint64pow10), ("unicode/utf8.acceptRanges", laid_unicode_utf8_acceptRanges), ("strconv.ErrRange", laid_strconv_ErrRange), ("strconv.ErrSyntax", laid_strconv_ErrSyntax), ("loop.example/turnback/impl.lineFormats", laid_loop_example_turnback_impl_lineFormats), ("unicode/utf8.first", laid_unicode_utf8_first)], narrowed := true }
def FnExactDskReadUptoSaid : Prop := fnExactDskReadUptoRow.holds Tryd.pinned (OpenSpec.upto fnExactDskReadSpec)

/-- 'laws.FnExactRecText', WHERE WHAT IT READS IS OF BULK AT MOST 1048576: true; the input reads as it did. -/
def fnExactRecTextUptoRow : OpenClaim := { program := "ytlkmhmiamdbhcaadoor", sum := "4ce975ebb7fb6fb06a5aa5dc17fbb5024128d87a5116ee23ed7555fc22e31045", func := "loop.example/turnback/laws.FnExactRecText", spec := "fnExactRecText", inPlace := ["internal/bytealg.CountString", "internal/bytealg.IndexByteString", "internal/bytealg.IndexString", "internal/abi.NoEscape"], named := ["loop.example/turnback/impl.lineFormats", "unicode/utf8.first", "unicode/utf8.acceptRanges", "internal/bytealg.MaxLen", "internal/strconv.uint64pow10", "math/bits.deBruijn32tab", "math/bits.deBruijn64tab"], apart := false, laid := [("math/bits.deBruijn32tab", laid_math_bits_deBruijn32tab), ("math/bits.deBruijn64tab", laid_math_bits_deBruijn64tab), ("internal/strconv.uint64pow10", laid_internal_strconv_uint64pow10), ("unicode/utf8.acceptRanges", laid_unicode_utf8_acceptRanges), ("loop.example/turnback/impl.lineFormats", laid_loop_example_turnback_impl_lineFormats), ("unicode/utf8.first", laid_unicode_utf8_first)], narrowed := true }
def FnExactRecTextUptoSaid : Prop := fnExactRecTextUptoRow.holds Tryd.pinned (OpenSpec.upto fnExactRecTextSpec)

/-- 'laws.FnDskText', WHERE WHAT IT READS IS OF BULK AT MOST 1048576: true; the input reads as it did. -/
def fnDskTextUptoRow : OpenClaim := { program := "ytlkmhmiamdbhcaadoor", sum := "4ce975ebb7fb6fb06a5aa5dc17fbb5024128d87a5116ee23ed7555fc22e31045", func := "loop.example/turnback/laws.FnDskText", spec := "fnDskText", inPlace := ["internal/bytealg.CountString", "internal/bytealg.IndexByteString", "internal/bytealg.IndexString", "internal/abi.NoEscape"], named := ["loop.example/turnback/impl.lineFormats", "unicode/utf8.first", "unicode/utf8.acceptRanges", "internal/bytealg.MaxLen", "internal/strconv.uint64pow10", "math/bits.deBruijn32tab", "math/bits.deBruijn64tab", "strconv.ErrSyntax", "strconv.ErrRange"], apart := false, laid := [("math/bits.deBruijn32tab", laid_math_bits_deBruijn32tab), ("math/bits.deBruijn64tab", laid_math_bits_deBruijn64tab), ("internal/strconv.uint64pow10", laid_internal_strconv_uint64pow10), ("unicode/utf8.acceptRanges", laid_unicode_utf8_acceptRanges), ("strconv.ErrRange", laid_strconv_ErrRange), ("strconv.ErrSyntax", laid_strconv_ErrSyntax), ("loop.example/turnback/impl.lineFormats", laid_loop_example_turnback_impl_lineFormats), ("unicode/utf8.first", laid_unicode_utf8_first)], narrowed := true }
def FnDskTextUptoSaid : Prop := fnDskTextUptoRow.holds Tryd.pinned (OpenSpec.upto fnDskTextSpec)

/-- 'laws.FnRecText', WHERE WHAT IT READS IS OF BULK AT MOST 1048576: true; the input reads as it did. -/
def fnRecTextUptoRow : OpenClaim := { program := "ytlkmhmiamdbhcaadoor", sum := "4ce975ebb7fb6fb06a5aa5dc17fbb5024128d87a5116ee23ed7555fc22e31045", func := "loop.example/turnback/laws.FnRecText", spec := "fnRecText", inPlace := ["internal/bytealg.CountString", "internal/bytealg.IndexByteString", "internal/bytealg.IndexString", "internal/abi.NoEscape"], named := ["loop.example/turnback/impl.lineFormats", "unicode/utf8.first", "unicode/utf8.acceptRanges", "internal/bytealg.MaxLen", "internal/strconv.uint64pow10", "math/bits.deBruijn32tab", "math/bits.deBruijn64tab"], apart := false, laid := [("math/bits.deBruijn32tab", laid_math_bits_deBruijn32tab), ("math/bits.deBruijn64tab", laid_math_bits_deBruijn64tab), ("internal/strconv.uint64pow10", laid_internal_strconv_uint64pow10), ("unicode/utf8.acceptRanges", laid_unicode_utf8_acceptRanges), ("loop.example/turnback/impl.lineFormats", laid_loop_example_turnback_impl_lineFormats), ("unicode/utf8.first", laid_unicode_utf8_first)], narrowed := true }
def FnRecTextUptoSaid : Prop := fnRecTextUptoRow.holds Tryd.pinned (OpenSpec.upto fnRecTextSpec)

end Rows
end Go.Proofs.YtlkmhmiamdbhcaaDoor

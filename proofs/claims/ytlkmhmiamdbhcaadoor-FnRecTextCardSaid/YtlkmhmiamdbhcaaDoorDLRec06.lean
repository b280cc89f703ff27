/-
  What the library functions do in this program, in one sentence: the contracts of strings, strconv and their callees at this dump; each with its own conditions.
  What numeral and lineFormat.line of the program return, in one sentence: the pieces of the format with the numbers between them; for every format of few pieces.
  What the lists of variables give, in one sentence: the tables that the text interface reads hold what the program's text lays; and a world that holds them; no condition is made.
-/
import Derived.Deep.DeepHandedRow
import Derived.Lib.AppendIntMem
import Derived.Lib.LaidTab
import Derived.OpenShut
import Derived.OpenVars
import Derived.ProofKit
import Derived.Shelf.LaysC
import Derived.Shelf.LaysM
import Derived.Shelf.Strconv.Atoi
import Derived.Shelf.Strconv.AtoiAll
import Derived.Shelf.Strconv.AtoiErrFast
import Derived.Shelf.Strconv.AtoiFail
import Derived.Shelf.Strconv.AtoiInnerAll
import Derived.Shelf.Strconv.AtoiLong
import Derived.Shelf.Strconv.Clone
import Derived.Shelf.Strconv.ErrVarAll
import Derived.Shelf.Strconv.Itoa0
import Derived.Shelf.Strconv.Itoa1
import Derived.Shelf.Strconv.Itoa2
import Derived.Shelf.Strconv.Itoa3
import Derived.Shelf.Strconv.Lower
import Derived.Shelf.Strconv.ParseInt10
import Derived.Shelf.Strconv.ParseIntEmpty
import Derived.Shelf.Strconv.ParseUint10
import Derived.Shelf.Strconv.ParseUint10Any
import Derived.Shelf.Strconv.ParseUint10Empty
import Derived.Shelf.Strconv.RangeError
import Derived.Shelf.Strconv.SyntaxError
import Derived.Shelf.Strconv.ToError
import Derived.Shelf.Strconv.ToErrorRange
import Derived.Shelf.Strings.Builder1
import Derived.Shelf.Strings.BuilderF
import Derived.Shelf.Strings.BuilderK
import Derived.Shelf.Strings.Count
import Derived.Shelf.Strings.LastIndex
import Derived.Shelf.Strings.LastIndexAll
import Derived.Shelf.Strings.Search1
import Derived.Shelf.Strings.Search2
import Derived.Shelf.Strings.Search3
import Derived.Shelf.Strings.Split
import Derived.Shelf.Strings.SplitShaped
import Derived.Test.YtlkmhmiamdbhcaaDoorDLRec01
import Derived.Test.YtlkmhmiamdbhcaaDoorProg
import Derived.Test.YtlkmhmiamdbhcaaDoorTie
import Derived.WalkSmall
namespace Go.Proofs
open Go.Shelf
def Tryd.lays169_ren : Go.Shelf.Ren := ⟨fun | 169 => 40 | n => n, fun | 70 => 84 | 9 => 9 | 0 => 0 | 72 => 86 | 37 => 42 | 127 => 94 | 3 => 3 | 5 => 5 | n => n, fun | n => n⟩
theorem Tryd.lays169 : Go.Proofs.Lays.n169 Tryd.prog Tryd.lays169_ren := {
  mixed := by kernel_rfl
  f169 := Tryd.func40.trans (congrArg some (by kernel_rfl))
  t0 := Tryd.underlying0
  a0 := Tryd.isAgg0
  z0 := Tryd.sizeOf0
  v0 := Tryd.zeroValue0
  t3 := Tryd.underlying3
  a3 := Tryd.isAgg3
  z3 := Tryd.sizeOf3
  v3 := Tryd.zeroValue3
  t9 := Tryd.underlying9
  a9 := Tryd.isAgg9
  z9 := Tryd.sizeOf9
  v9 := Tryd.zeroValue9
  t37 := Tryd.underlying42
  a37 := Tryd.isAgg42
  z37 := Tryd.sizeOf42
  v37 := Tryd.zeroValue42
  t70 := Tryd.underlying84
  a70 := Tryd.isAgg84
  z70 := Tryd.sizeOf84
  v70 := Tryd.zeroValue84
  t72 := Tryd.underlying86
  a72 := Tryd.isAgg86
  z72 := Tryd.sizeOf86
  v72 := Tryd.zeroValue86
  t127 := Tryd.underlying94
  a127 := Tryd.isAgg94
  z127 := Tryd.sizeOf94
  v127 := Tryd.zeroValue94 }
theorem Tryd.Builder_Extra_169 : Builder.Extra Tryd.prog Tryd.lays169_ren := {
  sizeBuilder := by kernel_rfl
  liesBuilder := by kernel_rfl
  t5 := Tryd.underlying5
  a5 := Tryd.isAgg5
  z5 := Tryd.sizeOf5
  v5 := Tryd.zeroValue5
  infoByte := by kernel_rfl
  cellsByte := by kernel_rfl
  sizeByte := by kernel_rfl
  neB5 := by decide }
open Go.RowKit in
/-- (*strings.Builder).String: "String returns the accumulated string.": WHATEVER THE BUILDER HOLDS. (LAID: no walk: one application.) -/
theorem Tryd.Builder_String_any (B b : Nat) (l : List UInt8) (w : World) (h : Lib.IsBuilder 86 5 B b (Lib.byteCells l) w) (hBw : B ≤ w.heap.size) :
    Calls Tryd.prog 40 #[.pointer (some ⟨b, 0, none⟩)] w fun e w' => e = .returned (.string ⟨l.toArray⟩) ∧ Below B w w' := Any.Builder_String_any Tryd.lays169 Tryd.Builder_Extra_169 B b l w h hBw
def Tryd.laysM171_ren : Go.Shelf.Ren := ⟨fun | 171 => 48 | 243 => 59 | 246 => 67 | 283 => 75 | 284 => 76 | 285 => 77 | 286 => 78 | 129 => 82 | 317 => 81 | 318 => 83 | 319 => 84 | 320 => 85 | 337 => 86 | 338 => 87 | n => n, fun | 3 => 3 | 9 => 9 | 2 => 2 | 4 => 4 | 171 => 122 | 0 => 0 | 53 => 107 | 37 => 42 | 5 => 5 | 173 => 125 | 212 => 132 | 51 => 101 | 20 => 20 | 213 => 133 | 46 => 110 | 232 => 136 | 233 => 137 | n => n, fun | 17 => 6 | 18 => 7 | 19 => 8 | n => n⟩
theorem Tryd.laysM171 : Go.Proofs.LaysM.n171 Tryd.prog Tryd.laysM171_ren := {
  mixed := by kernel_rfl
  f129 := Tryd.func82.trans (congrArg some (by kernel_rfl))
  f171 := Tryd.func48.trans (congrArg some (by kernel_rfl))
  f243 := Tryd.func59.trans (congrArg some (by kernel_rfl))
  f246 := Tryd.func67.trans (congrArg some (by kernel_rfl))
  f283 := Tryd.func75.trans (congrArg some (by kernel_rfl))
  f284 := Tryd.func76.trans (congrArg some (by kernel_rfl))
  f285 := Tryd.func77.trans (congrArg some (by kernel_rfl))
  f286 := Tryd.func78.trans (congrArg some (by kernel_rfl))
  f317 := Tryd.func81.trans (congrArg some (by kernel_rfl))
  f318 := Tryd.func83.trans (congrArg some (by kernel_rfl))
  f319 := Tryd.func84.trans (congrArg some (by kernel_rfl))
  f320 := Tryd.func85.trans (congrArg some (by kernel_rfl))
  f337 := Tryd.func86.trans (congrArg some (by kernel_rfl))
  f338 := Tryd.func87.trans (congrArg some (by kernel_rfl))
  t0 := Tryd.underlying0
  a0 := Tryd.isAgg0
  z0 := Tryd.sizeOf0
  v0 := Tryd.zeroValue0
  t2 := Tryd.underlying2
  a2 := Tryd.isAgg2
  z2 := Tryd.sizeOf2
  v2 := Tryd.zeroValue2
  t3 := Tryd.underlying3
  a3 := Tryd.isAgg3
  z3 := Tryd.sizeOf3
  v3 := Tryd.zeroValue3
  t4 := Tryd.underlying4
  a4 := Tryd.isAgg4
  z4 := Tryd.sizeOf4
  v4 := Tryd.zeroValue4
  t5 := Tryd.underlying5
  a5 := Tryd.isAgg5
  z5 := Tryd.sizeOf5
  v5 := Tryd.zeroValue5
  t9 := Tryd.underlying9
  a9 := Tryd.isAgg9
  z9 := Tryd.sizeOf9
  v9 := Tryd.zeroValue9
  t20 := Tryd.underlying20
  a20 := Tryd.isAgg20
  z20 := Tryd.sizeOf20
  v20 := Tryd.zeroValue20
  t37 := Tryd.underlying42
  a37 := Tryd.isAgg42
  z37 := Tryd.sizeOf42
  v37 := Tryd.zeroValue42
  t46 := Tryd.underlying110
  a46 := Tryd.isAgg110
  z46 := Tryd.sizeOf110
  v46 := Tryd.zeroValue110
  t51 := Tryd.underlying101
  a51 := Tryd.isAgg101
  z51 := Tryd.sizeOf101
  v51 := Tryd.zeroValue101
  t53 := Tryd.underlying107
  a53 := Tryd.isAgg107
  z53 := Tryd.sizeOf107
  v53 := Tryd.zeroValue107
  t171 := Tryd.underlying122
  a171 := Tryd.isAgg122
  z171 := Tryd.sizeOf122
  v171 := Tryd.zeroValue122
  t173 := Tryd.underlying125
  a173 := Tryd.isAgg125
  z173 := Tryd.sizeOf125
  v173 := Tryd.zeroValue125
  t212 := Tryd.underlying132
  a212 := Tryd.isAgg132
  z212 := Tryd.sizeOf132
  v212 := Tryd.zeroValue132
  t213 := Tryd.underlying133
  a213 := Tryd.isAgg133
  z213 := Tryd.sizeOf133
  t232 := Tryd.underlying136
  a232 := Tryd.isAgg136
  z232 := Tryd.sizeOf136
  v232 := Tryd.zeroValue136
  t233 := Tryd.underlying137
  a233 := Tryd.isAgg137
  z233 := Tryd.sizeOf137
  v233 := Tryd.zeroValue137
  g17 := by kernel_rfl
  g18 := by kernel_rfl
  g19 := by kernel_rfl
  i0 := by kernel_rfl
  i2 := by kernel_rfl
  i3 := by kernel_rfl
  i4 := by kernel_rfl
  i5 := by kernel_rfl
  i9 := by kernel_rfl
  i20 := by kernel_rfl
  i37 := by kernel_rfl
  i46 := by kernel_rfl
  i51 := by kernel_rfl
  i53 := by kernel_rfl
  i171 := by kernel_rfl
  i173 := by kernel_rfl
  i212 := by kernel_rfl
  i232 := by kernel_rfl
  i233 := by kernel_rfl
  m17 := by kernel_rfl
  m18 := by kernel_rfl
  m19 := by kernel_rfl }
open Go.RowKit Go.Sort Go.Lib in
/-- strconv.Itoa: "Itoa is equivalent to FormatInt(int64(i), 10).": i's DECIMAL NUMERAL ('Lib.itoa': a '-' where i is negative, then the digits), FOR EVERY int. The world behind the call: the world before it, new blocks behind the heap (the library's 'var a [24]byte'), draws. (LAID: no walk: one application.) -/
theorem Tryd.strconv_Itoa (n : Int) (h0 : -9223372036854775808 ≤ n) (h1 : n ≤ 9223372036854775807) (w : World) (htab : Lib.TabIs Tryd.prog w "internal/strconv.uint64pow10" .u64 Lib.pow10Tab) :
    Calls Tryd.prog 48 #[.int .i64 n] w fun e w' => e = .returned (.string ⟨(Lib.itoa n).toArray⟩) ∧ ∃ k os, w' = grow (w.drewN k) os := Any.strconv_Itoa Tryd.laysM171 n h0 h1 w htab
def Tryd.lays146_ren : Go.Shelf.Ren := ⟨fun | 146 => 37 | 221 => 46 | 268 => 55 | 138 => 56 | 143 => 57 | 195 => 63 | 197 => 64 | 218 => 65 | 219 => 66 | 260 => 70 | 217 => 71 | 225 => 72 | 224 => 73 | 267 => 74 | 266 => 79 | 314 => 80 | n => n, fun | 9 => 9 | 31 => 49 | 3 => 3 | 4 => 4 | 0 => 0 | 105 => 115 | 21 => 21 | 5 => 5 | 46 => 110 | 119 => 127 | 139 => 130 | 138 => 129 | 146 => 102 | 51 => 101 | n => n, fun | 1 => 1 | 3 => 4 | 4 => 5 | n => n⟩
theorem Tryd.lays146 : Go.Proofs.Lays.n146 Tryd.prog Tryd.lays146_ren := {
  mixed := by kernel_rfl
  f138 := Tryd.func56.trans (congrArg some (by kernel_rfl))
  f143 := Tryd.func57.trans (congrArg some (by kernel_rfl))
  f146 := Tryd.func37.trans (congrArg some (by kernel_rfl))
  f195 := Tryd.func63.trans (congrArg some (by kernel_rfl))
  f197 := Tryd.func64.trans (congrArg some (by kernel_rfl))
  f217 := Tryd.func71.trans (congrArg some (by kernel_rfl))
  f218 := Tryd.func65.trans (congrArg some (by kernel_rfl))
  f219 := Tryd.func66.trans (congrArg some (by kernel_rfl))
  f221 := Tryd.func46.trans (congrArg some (by kernel_rfl))
  f224 := Tryd.func73.trans (congrArg some (by kernel_rfl))
  f225 := Tryd.func72.trans (congrArg some (by kernel_rfl))
  f260 := Tryd.func70.trans (congrArg some (by kernel_rfl))
  f266 := Tryd.func79.trans (congrArg some (by kernel_rfl))
  f267 := Tryd.func74.trans (congrArg some (by kernel_rfl))
  f268 := Tryd.func55.trans (congrArg some (by kernel_rfl))
  f314 := Tryd.func80.trans (congrArg some (by kernel_rfl))
  t0 := Tryd.underlying0
  a0 := Tryd.isAgg0
  z0 := Tryd.sizeOf0
  v0 := Tryd.zeroValue0
  t3 := Tryd.underlying3
  a3 := Tryd.isAgg3
  z3 := Tryd.sizeOf3
  v3 := Tryd.zeroValue3
  t4 := Tryd.underlying4
  a4 := Tryd.isAgg4
  z4 := Tryd.sizeOf4
  v4 := Tryd.zeroValue4
  t5 := Tryd.underlying5
  a5 := Tryd.isAgg5
  z5 := Tryd.sizeOf5
  v5 := Tryd.zeroValue5
  t9 := Tryd.underlying9
  a9 := Tryd.isAgg9
  z9 := Tryd.sizeOf9
  v9 := Tryd.zeroValue9
  t21 := Tryd.underlying21
  a21 := Tryd.isAgg21
  z21 := Tryd.sizeOf21
  v21 := Tryd.zeroValue21
  t31 := Tryd.underlying49
  a31 := Tryd.isAgg49
  z31 := Tryd.sizeOf49
  v31 := Tryd.zeroValue49
  t46 := Tryd.underlying110
  a46 := Tryd.isAgg110
  z46 := Tryd.sizeOf110
  v46 := Tryd.zeroValue110
  t51 := Tryd.underlying101
  a51 := Tryd.isAgg101
  z51 := Tryd.sizeOf101
  v51 := Tryd.zeroValue101
  t105 := Tryd.underlying115
  a105 := Tryd.isAgg115
  z105 := Tryd.sizeOf115
  v105 := Tryd.zeroValue115
  t119 := Tryd.underlying127
  a119 := Tryd.isAgg127
  z119 := Tryd.sizeOf127
  t138 := Tryd.underlying129
  a138 := Tryd.isAgg129
  z138 := Tryd.sizeOf129
  v138 := Tryd.zeroValue129
  t139 := Tryd.underlying130
  a139 := Tryd.isAgg130
  z139 := Tryd.sizeOf130
  v139 := Tryd.zeroValue130
  t146 := Tryd.underlying102
  a146 := Tryd.isAgg102
  z146 := Tryd.sizeOf102
  v146 := Tryd.zeroValue102
  g1 := by kernel_rfl
  g3 := by kernel_rfl
  g4 := by kernel_rfl }
open Go.RowKit Go.Lib in
/-- strings.Split. (LAID: no walk: one application.) -/
theorem Tryd.strings_Split (s sep : ByteArray) (m : Int) (w : World) (hs : s.size < 4294967281) (hm : w.cell? ⟨1, 0, none⟩ = some (.int .i64 m)) (h1 : 1 ≤ sep.size) :
    Calls Tryd.prog 37 #[.string s, .string sep] w fun e w' =>
      e = .returned (.slice (some ⟨w.heap.size, 0, none⟩) (Lib.countB s sep + 1) (Lib.countB s sep + 1)) ∧ w' = w.alloc (.cells ((Lib.splitB sep 0 (Lib.countB s sep) s).map Value.string).toArray 9) := Any.strings_Split Tryd.lays146 (by kernel_rfl) s sep m w hs hm h1
def Tryd.laysM146_ren : Go.Shelf.Ren := ⟨fun | 146 => 37 | 221 => 46 | 268 => 55 | 138 => 56 | 143 => 57 | 195 => 63 | 197 => 64 | 218 => 65 | 219 => 66 | 260 => 70 | 217 => 71 | 225 => 72 | 224 => 73 | 267 => 74 | 266 => 79 | 314 => 80 | n => n, fun | 9 => 9 | 31 => 49 | 3 => 3 | 4 => 4 | 0 => 0 | 105 => 115 | 21 => 21 | 5 => 5 | 46 => 110 | 119 => 127 | 139 => 130 | 138 => 129 | 146 => 102 | 51 => 101 | n => n, fun | 1 => 1 | 3 => 4 | 4 => 5 | n => n⟩
theorem Tryd.laysM146 : Go.Proofs.LaysM.n146 Tryd.prog Tryd.laysM146_ren := {
  mixed := by kernel_rfl
  f138 := Tryd.func56.trans (congrArg some (by kernel_rfl))
  f143 := Tryd.func57.trans (congrArg some (by kernel_rfl))
  f146 := Tryd.func37.trans (congrArg some (by kernel_rfl))
  f195 := Tryd.func63.trans (congrArg some (by kernel_rfl))
  f197 := Tryd.func64.trans (congrArg some (by kernel_rfl))
  f217 := Tryd.func71.trans (congrArg some (by kernel_rfl))
  f218 := Tryd.func65.trans (congrArg some (by kernel_rfl))
  f219 := Tryd.func66.trans (congrArg some (by kernel_rfl))
  f221 := Tryd.func46.trans (congrArg some (by kernel_rfl))
  f224 := Tryd.func73.trans (congrArg some (by kernel_rfl))
  f225 := Tryd.func72.trans (congrArg some (by kernel_rfl))
  f260 := Tryd.func70.trans (congrArg some (by kernel_rfl))
  f266 := Tryd.func79.trans (congrArg some (by kernel_rfl))
  f267 := Tryd.func74.trans (congrArg some (by kernel_rfl))
  f268 := Tryd.func55.trans (congrArg some (by kernel_rfl))
  f314 := Tryd.func80.trans (congrArg some (by kernel_rfl))
  t0 := Tryd.underlying0
  a0 := Tryd.isAgg0
  z0 := Tryd.sizeOf0
  v0 := Tryd.zeroValue0
  t3 := Tryd.underlying3
  a3 := Tryd.isAgg3
  z3 := Tryd.sizeOf3
  v3 := Tryd.zeroValue3
  t4 := Tryd.underlying4
  a4 := Tryd.isAgg4
  z4 := Tryd.sizeOf4
  v4 := Tryd.zeroValue4
  t5 := Tryd.underlying5
  a5 := Tryd.isAgg5
  z5 := Tryd.sizeOf5
  v5 := Tryd.zeroValue5
  t9 := Tryd.underlying9
  a9 := Tryd.isAgg9
  z9 := Tryd.sizeOf9
  v9 := Tryd.zeroValue9
  t21 := Tryd.underlying21
  a21 := Tryd.isAgg21
  z21 := Tryd.sizeOf21
  v21 := Tryd.zeroValue21
  t31 := Tryd.underlying49
  a31 := Tryd.isAgg49
  z31 := Tryd.sizeOf49
  v31 := Tryd.zeroValue49
  t46 := Tryd.underlying110
  a46 := Tryd.isAgg110
  z46 := Tryd.sizeOf110
  v46 := Tryd.zeroValue110
  t51 := Tryd.underlying101
  a51 := Tryd.isAgg101
  z51 := Tryd.sizeOf101
  v51 := Tryd.zeroValue101
  t105 := Tryd.underlying115
  a105 := Tryd.isAgg115
  z105 := Tryd.sizeOf115
  v105 := Tryd.zeroValue115
  t119 := Tryd.underlying127
  a119 := Tryd.isAgg127
  z119 := Tryd.sizeOf127
  t138 := Tryd.underlying129
  a138 := Tryd.isAgg129
  z138 := Tryd.sizeOf129
  v138 := Tryd.zeroValue129
  t139 := Tryd.underlying130
  a139 := Tryd.isAgg130
  z139 := Tryd.sizeOf130
  v139 := Tryd.zeroValue130
  t146 := Tryd.underlying102
  a146 := Tryd.isAgg102
  z146 := Tryd.sizeOf102
  v146 := Tryd.zeroValue102
  g1 := by kernel_rfl
  g3 := by kernel_rfl
  g4 := by kernel_rfl
  i0 := by kernel_rfl
  i3 := by kernel_rfl
  i4 := by kernel_rfl
  i5 := by kernel_rfl
  i9 := by kernel_rfl
  i21 := by kernel_rfl
  i31 := by kernel_rfl
  i46 := by kernel_rfl
  i51 := by kernel_rfl
  i105 := by kernel_rfl
  i138 := by kernel_rfl
  i139 := by kernel_rfl
  i146 := by kernel_rfl
  m1 := by kernel_rfl
  s1_3 := fun w h => Go.Proofs.cell_of_shapedOpen_int (zero := #[.int .i64 0]) (t := 3) h (of_decide_eq_true (by kernel_rfl)) (by kernel_rfl) rfl (by kernel_rfl) (by kernel_rfl) Tryd.underlying3
  m3 := by kernel_rfl
  m4 := by kernel_rfl }
end Go.Proofs

namespace Go.Proofs.YtlkmhmiamdbhcaaDoor
set_option maxRecDepth 100000
open Go.RowKit
/-- The formats' cells. -/
def fmtCells : List Value := [.string ⟨([] : List UInt8).toArray⟩, .int .i64 0, .string ⟨([100, 111, 32, 35] : List UInt8).toArray⟩, .int .i64 999, .string ⟨([104, 101, 97, 114, 32, 35] : List UInt8).toArray⟩, .int .i64 999, .string ⟨([98, 101, 103, 105, 110] : List UInt8).toArray⟩, .int .i64 0, .string ⟨([118, 105, 115, 105, 116] : List UInt8).toArray⟩, .int .i64 0, .string ⟨([102, 114, 101, 101, 32, 35] : List UInt8).toArray⟩, .int .i64 999, .string ⟨([97, 116, 32, 35, 32, 116, 111, 32, 35, 32, 102, 114, 111, 109, 32, 35, 32, 107, 105, 110, 100, 32, 35, 32, 100, 97, 116, 97, 32, 35, 32, 116, 104, 101, 110, 32, 35] : List UInt8).toArray⟩, .int .i64 0, .string ⟨([98, 111, 117, 110, 100, 32, 35, 32, 111, 110, 32, 105, 116, 115, 32, 119, 97, 121, 32, 35] : List UInt8).toArray⟩, .int .i64 0, .string ⟨([104, 111, 115, 116, 32, 35, 32, 100, 111, 110, 101, 32, 35, 32, 119, 97, 105, 116, 115, 32, 35, 32, 99, 97, 108, 108, 101, 100, 32, 111, 102, 102, 32, 35, 32, 107, 101, 112, 116, 32, 35] : List UInt8).toArray⟩, .int .i64 0, .string ⟨([108, 105, 110, 101, 32, 35] : List UInt8).toArray⟩, .int .i64 0, .string ⟨([109, 111, 100, 101, 108] : List UInt8).toArray⟩, .int .i64 0, .string ⟨([108, 111, 110, 103] : List UInt8).toArray⟩, .int .i64 0]
/-- What lies in the variables that are read. -/
structure Tabs (w : World) : Prop where
  ml : ∃ m, w.cell? ⟨1, 0, none⟩ = some (.int .i64 m)
  pow : Lib.TabIs Tryd.prog w "internal/strconv.uint64pow10" .u64 Lib.pow10Tab
  fm : ∀ (j : Nat) (u : Value), fmtCells[j]? = some u → w.cell? ⟨0, j, none⟩ = some u
theorem gPow : Tryd.prog.globalNamed "internal/strconv.uint64pow10" = some 6 := by kernel_rfl
theorem Tabs.up {w w' : World} (h : Tabs w) (u : Up w w') : Tabs w' := by
  obtain ⟨⟨m, hm⟩, hp, hf⟩ := h
  have l1 := World.block_lt_of_cell? _ _ hm
  have l0 := World.block_lt_of_cell? _ _ (hf 0 _ rfl)
  have l6 := World.block_lt_of_cell? _ _ (hp.cell gPow 0 (by decide))
  exact ⟨⟨m, (u.cells _ _ l1).trans hm⟩, var?_below u.below gPow l6 hp, fun j u' hj => (u.cells _ _ l0).trans (hf j u' hj)⟩
theorem numeral_any (n : Int) (hn : n ≤ 999) (w : World) (ht : Tabs w) : Calls Tryd.prog 39 #[.int .i64 n] w fun x w' => x = .returned (.string ⟨(plainS n).toArray⟩) ∧ Up w w' := by
  by_cases h0 : n < 0
  · have HP := Lib.hid (show (⟨#[45]⟩ : ByteArray) = ⟨(plainS n).toArray⟩ by rw [show plainS n = [45] from if_pos h0])
    go_enter Tryd.func39, Tryd.ntmps39
    go_wp2; go_ret
    exact ⟨ret_str HP.out, Up.refl _⟩
  · have HP := Lib.hid (show (⟨(Lib.itoa n).toArray⟩ : ByteArray) = ⟨(plainS n).toArray⟩ by rw [show plainS n = Lib.decDigits n.toNat from if_neg h0, show Lib.itoa n = Lib.decDigits n.toNat from if_neg h0])
    have CI := Lib.hid (Tryd.strconv_Itoa n (by omega) (by omega) w ht.pow)
    clear ht
    go_enter Tryd.func39, Tryd.ntmps39
    go_wp2_with fail
    refine CI.out.mono ?_; rintro x w1 ⟨rfl, k, os, rfl⟩
    have U := Lib.hid (show Up w (Sort.grow (w.drewN k) os) from Lib.below_grow _ _ (Nat.le_refl _) k os)
    generalize Sort.grow (w.drewN k) os = w1 at U ⊢
    go_wp2; go_ret
    exact ⟨ret_str HP.out, U.out⟩
/-- The numbers and the pieces behind them. -/
def joinS : List (List UInt8) → List Int → List UInt8
  | p :: ps, n :: ns => plainS n ++ (p ++ joinS ps ns)
  | _, _ => []
theorem joinS_take (ps : List (List UInt8)) (ns : List Int) (k : Nat) (h1 : k < ps.length) (h2 : k < ns.length) : joinS (ps.take (k + 1)) ns = joinS (ps.take k) ns ++ (plainS (ns.getD k 0) ++ ps.getD k []) := by
  induction ps generalizing ns k with
  | nil => simp at h1
  | cons p ps ih =>
    cases ns with
    | nil => simp at h2
    | cons n ns =>
      cases k with
      | zero => simp [joinS]
      | succ k =>
        simp only [List.take_succ_cons, joinS, List.getD_cons_succ]; rw [ih ns k (by simpa using h1) (by simpa using h2)]; simp
theorem joinS_len (ps : List (List UInt8)) (ns : List Int) (h1 : ∀ n, n ∈ ns → n ≤ 999) (h2 : ∀ p, p ∈ ps → p.length ≤ 1000) : (joinS ps ns).length ≤ ps.length * 1003 := by
  induction ps generalizing ns with
  | nil => cases ns <;> simp [joinS]
  | cons p ps ih =>
    cases ns with
    | nil => simp [joinS]
    | cons n ns =>
      have a := ih ns (fun x hx => h1 x (List.mem_cons_of_mem _ hx)) (fun x hx => h2 x (List.mem_cons_of_mem _ hx))
      have b := plain_short3 n (h1 n (by simp))
      have c := h2 p (by simp)
      simp only [joinS, List.length_append, List.length_cons]
      omega
set_option maxHeartbeats 2000000 in
theorem line_any (wd : ByteArray) (top : Int) (P0 : List UInt8) (Ps : List (List UInt8)) (q nn cc : Nat) (ns : List Int) (w : World) (hw : wd.size < 1000) (hcn : Lib.countB wd ⟨#[35]⟩ = Ps.length)
    (hsp : (Lib.splitB ⟨#[35]⟩ 0 Ps.length wd).map Value.string = (P0 :: Ps).map (fun p => Value.string ⟨p.toArray⟩)) (ht : Tabs w) (hnn : ns.length = nn) (hle : Ps.length ≤ nn) (hfew : nn ≤ 50) (hq : q < w.heap.size)
    (hN : ∀ i, i < nn → w.cell? ⟨q, i, none⟩ = some (.int .i64 (ns.getD i 0))) (hb : ∀ n, n ∈ ns → n ≤ 999) (hp : ∀ p, p ∈ P0 :: Ps → p.length ≤ 1000) :
    Calls Tryd.prog 25 #[.agg #[.string wd, .int .i64 top], .slice (some ⟨q, 0, none⟩) nn cc] w fun x w' => x = .returned (.string ⟨(P0 ++ joinS Ps ns).toArray⟩) ∧ Up w w' := by
  have U0 := Lib.hid ((Up.refl w).alloc (.cells #[.string wd, .int .i64 top] 53))
  have CS := Lib.hid (fun W (u : Up w W) => by
    obtain ⟨m, hm⟩ := (ht.up u).ml
    have := Tryd.strings_Split wd ⟨#[35]⟩ m W (by omega) hm (by decide)
    rw [hcn, hsp] at this
    exact this)
  have CN := Lib.hid (fun n (hn : n ≤ 999) W (u : Up w W) => numeral_any n hn W (ht.up u))
  have NL := Lib.hid hnn
  have NC := Lib.hid (fun i hi W (u : Up w W) => ((u.cells q i hq).trans (hN i hi)))
  have QL := Lib.hid hq
  have NB := Lib.hid (fun i (hi : i < nn) => hb (ns.getD i 0) (by rw [show ns.getD i 0 = ns[i]'(by omega) by simp [List.getD, show i < ns.length by omega]]; exact List.getElem_mem _))
  have PB := Lib.hid (fun p (h : p ∈ Ps) => hp p (List.mem_cons_of_mem _ h))
  have PB0 := Lib.hid (hp P0 (by simp))
  have JT := Lib.hid (fun k h1 h2 => joinS_take Ps ns k h1 h2)
  have JL := Lib.hid (fun k => joinS_len (Ps.take k) ns hb (fun p h => hp p (List.mem_cons_of_mem _ (List.mem_of_mem_take h))))
  clear hw hcn hsp ht hN hb hp hnn
  go_enter Tryd.func25, Tryd.ntmps25
  go_wp2_with fail
  refine (CS.out _ U0.out).mono ?_; rintro x w1 ⟨rfl, hw1⟩
  have U1 := Lib.hid (hw1 ▸ (U0.out.alloc _) : Up w w1)
  have B1 := Lib.hid (show w1.heap[w.heap.size + 1]? = some (.cells ((P0 :: Ps).map (fun p => Value.string ⟨p.toArray⟩)).toArray 9 (0, 0)) by
    rw [hw1]
    have := heap_alloc_new (w.alloc (.cells #[.string wd, .int .i64 top] 53)) (.cells ((P0 :: Ps).map (fun p => Value.string ⟨p.toArray⟩)).toArray 9)
    simpa using this)
  simp only [World.size_alloc]
  generalize hg : w.heap.size + 1 = g at *
  clear hw1
  have H0 := Lib.hid (fun W (u : Up w1 W) i (h : i < Ps.length + 1) => show W.cell? ⟨g, i, none⟩ = some (.string ⟨((P0 :: Ps).getD i []).toArray⟩) from by
    rw [u.cells g i (Array.getElem?_eq_some_iff.1 B1.out).1, cell_of_row _ _ i _ _ _ B1.out]; rw [List.getElem?_toArray, List.getElem?_map, List.getElem?_eq_getElem (show i < (P0 :: Ps).length by simpa using h), Option.map_some]
    simp [List.getD, h])
  have GL := Lib.hid (Array.getElem?_eq_some_iff.1 B1.out).1
  have c0 := H0.out w1 (Up.refl _) 0 (by omega)
  simp only [List.getD_cons_zero] at c0
  have gl := GL.out
  have i0 : (0 : Int) < (Ps.length : Int) + 1 := by omega
  go_wp2_with fail
  refine (bdWrite_any w1.heap.size w1.heap.size [] P0 _ (bdFresh_any w1) (by have := PB0.out; simp; omega) (by simp)).mono ?_; rintro x w2 ⟨⟨v2, rfl⟩, hb2, bl2⟩
  have UB := Lib.hid (show Up w1 w2 from ((Up.refl w1).alloc (.cells #[.pointer none, .slice none 0 0] 86)).below.trans bl2)
  have BD := Lib.hid hb2
  have hbl : w1.heap.size < w2.heap.size := hb2.elim (fun h => h.lt) (fun h => h.lt)
  have BL := Lib.hid hbl
  generalize hbb : w1.heap.size = b at *
  clear hb2 bl2 hbl c0 gl; simp only [List.nil_append] at BD
  have US : b = w1.heap.size := hbb.symm
  have BE := Lib.hid US
  clear US hbb
  by_cases hz : Ps = []
  · subst hz
    go_wp2_with fail
    go_loopw [19] (fun i wr => i = .int .i64 0 ∧ wr = w2) (fun _ _ => 0)
    case atStart => exact ⟨rfl, rfl⟩
    case round =>
      obtain ⟨rfl, rfl⟩ := hrel
      go_wp2_with fail
      refine (Tryd.Builder_String_any b b P0 _ BD.out (Nat.le_of_lt BL.out)).mono ?_; rintro x w6 ⟨rfl, bl6⟩
      have U6 := Lib.hid (U1.out.trans (UB.out.below.trans (BE.out ▸ bl6) : Up w1 w6))
      have EP := Lib.hid (show (⟨P0.toArray⟩ : ByteArray) = ⟨(P0 ++ joinS [] ns).toArray⟩ by simp [joinS])
      clear bl6; go_wp2; go_ret
      exact ⟨ret_str EP.out, U6.out⟩
  go_wp2_with fail
  go_loopw [19] (fun i wr => (∃ k : Nat, k ≤ Ps.length ∧ i = .int .i64 k ∧ Bdr b b (P0 ++ joinS (Ps.take k) ns) wr) ∧ Up w1 wr ∧ b < wr.heap.size) (fun i _ => Ps.length - (intOf i).toNat)
  case atStart => exact ⟨⟨0, by omega, rfl, by simpa [joinS] using BD.out⟩, UB.out, BL.out⟩
  case round =>
    obtain ⟨⟨k, hk, rfl, hbd⟩, ur, hbr⟩ := hrel
    have UR := Lib.hid ur
    have BR := Lib.hid hbd
    have LR := Lib.hid hbr
    have LEN := Lib.hid (show (P0 ++ joinS (Ps.take k) ns).length ≤ 100000 by
      have h1 := JL.out k
      have h2 := PB0.out
      have h3 := List.length_take_le k Ps
      rw [List.length_append]
      omega)
    clear hbd ur hbr BD UB BL
    by_cases hlt : k < Ps.length
    · have c1 := H0.out wr UR.out (k + 1) (by omega)
      have c2 := NC.out k (by omega) wr (U1.out.trans UR.out)
      have n9 := NB.out k (by omega)
      have jt := JT.out k hlt (by rw [NL.out]; omega)
      have pb := PB.out (Ps.getD k []) (by rw [show Ps.getD k [] = Ps[k] by simp [List.getD, hlt]]; exact List.getElem_mem _)
      simp only [List.getD_cons_succ] at c1
      generalize Ps.getD k [] = p at c1 jt pb
      have c1' := c1
      rw [Nat.add_comm k 1] at c1'
      generalize ns.getD k 0 = n at c2 n9 jt
      have JTq := Lib.hid jt
      have PBq := Lib.hid pb
      have CNq := Lib.hid (fun W (u : Up w W) => CN.out n n9 W u)
      have PSq := Lib.hid (plain_short3 n n9)
      have gl : g < wr.heap.size := Nat.lt_of_lt_of_le GL.out (by rw [BE.out]; exact UR.out.size)
      have ql : q < wr.heap.size := Nat.lt_of_lt_of_le QL.out (U1.out.trans UR.out).size
      have i4 : (k : Int) < Ps.length := by omega
      have i5 : (k : Int) < nn := by omega
      have i6 : IntKind.i64.wrap ((k : Int) + 1) = (k : Int) + 1 := IntWalk.i64_in _ (by omega)
      clear jt pb n9
      go_wp2_with fail
      clear c1 c1' c2 gl ql; refine (CNq.out _ (U1.out.trans UR.out)).mono ?_; rintro x w3 ⟨rfl, u3⟩
      have B3 := Lib.hid (BR.out.below u3.below)
      have U3 := Lib.hid (UR.out.trans u3)
      have L3 := Lib.hid (Nat.lt_of_lt_of_le LR.out u3.size)
      clear u3
      go_wp2_with fail
      refine (bdWrite_any b b _ (plainS n) w3 B3.out (by have := LEN.out; have := PSq.out; omega) (Nat.le_of_lt L3.out)).mono ?_; rintro x w4 ⟨⟨v4, rfl⟩, hb4, bl4⟩
      have B4 := Lib.hid hb4
      have U4 := Lib.hid (show Up w1 w4 from U3.out.below.trans (BE.out ▸ bl4))
      have L4 := Lib.hid (Nat.lt_of_lt_of_le L3.out bl4.size)
      clear hb4 bl4
      go_wp2_with fail
      refine (bdWrite_any b b _ p w4 B4.out (by have := LEN.out; have := PSq.out; have := PBq.out; rw [List.length_append]; omega) (Nat.le_of_lt L4.out)).mono ?_; rintro x w5 ⟨⟨v5, rfl⟩, hb5, bl5⟩
      have B5 := Lib.hid hb5
      have U5 := Lib.hid (show Up w1 w5 from U4.out.below.trans (BE.out ▸ bl5))
      have L5 := Lib.hid (Nat.lt_of_lt_of_le L4.out bl5.size)
      clear hb5 bl5; go_wp2
      go_roundw
      case rel => exact ⟨⟨k + 1, by omega, by go_num, by rw [JTq.out]; simpa [List.append_assoc] using B5.out⟩, U5.out, L5.out⟩
      case measure => simp [intOf]; omega
    · obtain rfl : k = Ps.length := by omega
      have i4 : ¬ (Ps.length : Int) < Ps.length := by omega
      have BX := Lib.hid (show Bdr b b (P0 ++ joinS Ps ns) wr by have h := BR.out; rwa [List.take_of_length_le (Nat.le_refl _)] at h)
      clear BR
      go_wp2_with fail
      refine (Tryd.Builder_String_any b b (P0 ++ joinS Ps ns) wr BX.out (Nat.le_of_lt LR.out)).mono ?_; rintro x w6 ⟨rfl, bl6⟩
      have U6 := Lib.hid (U1.out.trans (UR.out.below.trans (BE.out ▸ bl6) : Up w1 w6))
      clear bl6; go_wp2; go_ret
      exact ⟨rfl, U6.out⟩
end Go.Proofs.YtlkmhmiamdbhcaaDoor

namespace Go.Proofs.YtlkmhmiamdbhcaaDoor
set_option maxRecDepth 100000
open Go.ChangeShapes Go.WideShapes Go.ChangeAt Go.RowKit
/-- One listed variable's reading. -/
def VarIs (w : World) (n : String) (d : DataW Unit) : Prop :=
  ∃ g t cs fuel p, Tryd.prog.globalNamed n = some g ∧ (Tryd.prog.globals[g]?).map (·.type) = some t ∧ w.var? Tryd.prog n = some cs ∧ DataW.trod (fun _ => ()) Tryd.prog w 0 (fun _ => true) false fuel t cs.toList = some (d, p)
theorem laid_mem {w : World} : ∀ {l : List (String × DataW Unit)} {ps : List MemPlace}, DataW.LaidVars Tryd.prog w l ps → ∀ n d, (n, d) ∈ l → VarIs w n d
  | [], _, _, _, _, hm => by cases hm
  | (n', d') :: r, ps, h, n, d, hm => by
    obtain ⟨g, t, cs, fuel, p, q, h1, h2, h3, h4, h5, _⟩ := h
    rcases List.mem_cons.1 hm with e | e
    · cases e
      exact ⟨g, t, cs, fuel, p, h1, h2, h3, h4⟩
    · exact laid_mem h5 n d e
theorem gPowT : (Tryd.prog.globals[6]?).map (·.type) = some 132 := by kernel_rfl
theorem cellsPow : Tryd.prog.cellsOf 132 = 20 := by kernel_rfl
theorem cellsU64 : Tryd.prog.cellsOf 107 = 1 := by kernel_rfl
theorem powData : (Rows.laid_internal_strconv_uint64pow10 : DataW Unit) = Lib.tabData .u64 Lib.pow10Tab := by kernel_rfl
theorem pow_of {w : World} (h : VarIs w "internal/strconv.uint64pow10" Rows.laid_internal_strconv_uint64pow10) : Lib.TabIs Tryd.prog w "internal/strconv.uint64pow10" .u64 Lib.pow10Tab := by
  obtain ⟨g, t, cs, fuel, p, h1, h2, h3, h4⟩ := h; obtain rfl := Option.some.inj (gPow.symm.trans h1); obtain rfl := Option.some.inj (gPowT.symm.trans h2); rw [powData] at h4; unfold Lib.TabIs; rw [h3, ← Lib.cells_of_tab Tryd.underlying132 Tryd.underlying107 cellsU64 cellsPow h4]
theorem gFmt : Tryd.prog.globalNamed "loop.example/turnback/impl.lineFormats" = some 0 := by kernel_rfl
theorem gFmtT : (Tryd.prog.globals[0]?).map (·.type) = some 54 := by kernel_rfl
theorem cellsLf : Tryd.prog.cellsOf 53 = 2 := by kernel_rfl
theorem cellsLfs : Tryd.prog.cellsOf 54 = 24 := by kernel_rfl
theorem fmt_elem {H : Type} {enc : TypeId × Value → H} {w : World} {base : Nat} {sp : Nat → Bool} {held : Bool} {fuel : Nat} {c : List Value} {bs : List UInt8} {n : Int} {p : List MemPlace}
    (h : DataW.trod enc Tryd.prog w base sp held fuel 53 c = some (.agg [.lit (.string bs), .lit (.int .i64 n)], p)) : c = [.string ⟨bs.toArray⟩, .int .i64 n] := by
  obtain ⟨f0, f1, hu, ho0, ho1, ht0, ht1⟩ := (⟨_, _, Tryd.underlying53, rfl, rfl, rfl, rfl⟩ : ∃ f0 f1 : Field, Tryd.prog.underlying 53 = some (.struct #[f0, f1]) ∧ f0.offset = 0 ∧ f1.offset = 1 ∧ f0.type = 9 ∧ f1.type = 3); obtain ⟨xs, m, _, hx, hl, hxl, hf⟩ := DataW.trod_struct hu h; rw [cellsLf] at hl
  match c, hl with
  | [c0, c1], _ =>
    match xs, hxl with
    | [y0, y1], _ =>
      have g0 := hf 0 f0 rfl
      have g1 := hf 1 f1 rfl
      rw [ho0, ht0, show Tryd.prog.cellsOf 9 = 1 by kernel_rfl] at g0; rw [ho1, ht1, show Tryd.prog.cellsOf 3 = 1 by kernel_rfl] at g1
      have g0 : DataW.trod enc Tryd.prog w base sp held m 9 [c0] = some y0 := g0
      have g1 : DataW.trod enc Tryd.prog w base sp held m 3 [c1] = some y1 := g1
      obtain ⟨s, e0, ey0, _⟩ := DataW.trod_string Tryd.underlying9 g0; obtain ⟨z, e1, ey1, _⟩ := DataW.trod_int Tryd.underlying3 g1; simp only [Prod.mk.injEq, DataW.agg.injEq, List.map_cons, List.map_nil, List.cons.injEq, and_true] at hx; obtain ⟨⟨d0, d1⟩, _⟩ := hx; subst ey0 ey1
      injection d0 with d0
      injection d0 with d0
      injection d1 with d1
      injection d1 with _ d1
      subst d1; subst d0; simp only [List.cons.injEq, and_true] at e0 e1; rw [e0, e1]
/-- The formats as data. -/
def fmtData : List (List UInt8 × Int) := [(([] : List UInt8), (0 : Int)), (([100, 111, 32, 35] : List UInt8), (999 : Int)), (([104, 101, 97, 114, 32, 35] : List UInt8), (999 : Int)), (([98, 101, 103, 105, 110] : List UInt8), (0 : Int)), (([118, 105, 115, 105, 116] : List UInt8), (0 : Int)), (([102, 114, 101, 101, 32, 35] : List UInt8), (999 : Int)), (([97, 116, 32, 35, 32, 116, 111, 32, 35, 32, 102, 114, 111, 109, 32, 35, 32, 107, 105, 110, 100, 32, 35, 32, 100, 97, 116, 97, 32, 35, 32, 116, 104, 101, 110, 32, 35] : List UInt8), (0 : Int)), (([98, 111, 117, 110, 100, 32, 35, 32, 111, 110, 32, 105, 116, 115, 32, 119, 97, 121, 32, 35] : List UInt8), (0 : Int)), (([104, 111, 115, 116, 32, 35, 32, 100, 111, 110, 101, 32, 35, 32, 119, 97, 105, 116, 115, 32, 35, 32, 99, 97, 108, 108, 101, 100, 32, 111, 102, 102, 32, 35, 32, 107, 101, 112, 116, 32, 35] : List UInt8), (0 : Int)), (([108, 105, 110, 101, 32, 35] : List UInt8), (0 : Int)), (([109, 111, 100, 101, 108] : List UInt8), (0 : Int)), (([108, 111, 110, 103] : List UInt8), (0 : Int))]
theorem fmtLaid : (Rows.laid_loop_example_turnback_impl_lineFormats : DataW Unit) = .agg (fmtData.map fun x => .agg [.lit (.string x.1), .lit (.int .i64 x.2)]) := by kernel_rfl
theorem fmt_at (j : Nat) (hj : j < 24) : fmtCells[j]? = [Value.string ⟨(fmtData.getD (j / 2) default).1.toArray⟩, Value.int .i64 (fmtData.getD (j / 2) default).2][j % 2]? := by
  have h : j = 0 ∨ j = 1 ∨ j = 2 ∨ j = 3 ∨ j = 4 ∨ j = 5 ∨ j = 6 ∨ j = 7 ∨ j = 8 ∨ j = 9 ∨ j = 10 ∨ j = 11 ∨ j = 12 ∨ j = 13 ∨ j = 14 ∨ j = 15 ∨ j = 16 ∨ j = 17 ∨ j = 18 ∨ j = 19 ∨ j = 20 ∨ j = 21 ∨ j = 22 ∨ j = 23 := by omega
  rcases h with rfl | rfl | rfl | rfl | rfl | rfl | rfl | rfl | rfl | rfl | rfl | rfl | rfl | rfl | rfl | rfl | rfl | rfl | rfl | rfl | rfl | rfl | rfl | rfl <;> rfl
theorem fmts_of {w : World} (h : VarIs w "loop.example/turnback/impl.lineFormats" Rows.laid_loop_example_turnback_impl_lineFormats) : ∀ (j : Nat) (u : Value), fmtCells[j]? = some u → w.cell? ⟨0, j, none⟩ = some u := by
  obtain ⟨g, t, cs, fuel, p, h1, h2, h3, h4⟩ := h; obtain rfl := Option.some.inj (gFmt.symm.trans h1); obtain rfl := Option.some.inj (gFmtT.symm.trans h2); obtain ⟨xs, m, _, hx, hl, hxl, hf⟩ := DataW.trod_array Tryd.underlying54 h4; rw [cellsLfs] at hl
  have hd : xs.map (·.1) = fmtData.map fun x => (.agg [.lit (.string x.1), .lit (.int .i64 x.2)] : DataW Unit) := by
    have := congrArg Prod.fst hx
    rw [fmtLaid] at this
    simpa using this.symm
  have hp : ∀ i, i < 12 → (cs.toList.drop (i * 2)).take 2 = [Value.string ⟨(fmtData.getD i default).1.toArray⟩, Value.int .i64 (fmtData.getD i default).2] := fun i hi => by
    have h0 := hf i hi
    rw [cellsLf, List.getElem?_eq_getElem (by omega)] at h0
    have e1 : (xs[i]'(by omega)).1 = .agg [.lit (.string (fmtData.getD i default).1), .lit (.int .i64 (fmtData.getD i default).2)] := by
      have hk : i < fmtData.length := by simpa [fmtData] using hi
      have := congrArg (fun l => l[i]?) hd
      simp only [List.getElem?_map, List.getElem?_eq_getElem (show i < xs.length by omega), List.getElem?_eq_getElem hk, Option.map_some, Option.some.injEq] at this; rw [this]; simp [List.getD, hk]
    have e2 : xs[i]'(by omega) = ((xs[i]'(by omega)).1, (xs[i]'(by omega)).2) := rfl
    rw [e2, e1] at h0
    exact fmt_elem h0
  intro j u hj
  have hj24 : j < 24 := (List.getElem?_eq_some_iff.1 hj).1
  rw [fmt_at j hj24, ← hp (j / 2) (by omega)] at hj
  have hv := World.var?_cell gFmt h3 j
  rw [hv, ← hj]; rw [List.getElem?_take_of_lt (by omega), List.getElem?_drop, show j / 2 * 2 + j % 2 = j by omega]; simp
end Go.Proofs.YtlkmhmiamdbhcaaDoor

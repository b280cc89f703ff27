/-
  What FnDskText returns, in one sentence: true, with new blocks alone; for every two codes, where the tables and the errors' variables hold what the program's text lays.
  For every two codes the law FnDskText returns true and leaves its arguments, the tables and the errors' variables as they were; these hold what the program's text lays.
-/
import Derived.ChangeMaps5
import Derived.Deep.DeepWitnessRowRef
import Derived.LaidLaws
import Derived.ProofKit
import Derived.Test.YtlkmhmiamdbhcaaDoorCards
import Derived.Test.YtlkmhmiamdbhcaaDoorDLDsk01
import Derived.Test.YtlkmhmiamdbhcaaDoorDLDsk06
import Derived.Test.YtlkmhmiamdbhcaaDoorDLDsk08
import Derived.Test.YtlkmhmiamdbhcaaDoorDLDsk10
import Derived.WalkKit
namespace Go.Proofs.YtlkmhmiamdbhcaaDoor
set_option maxRecDepth 100000
open Go.RowKit
set_option maxHeartbeats 2000000 in
theorem walkDsk (A : Option Addr) (n cap : Nat) (hc : n ≤ cap) (hmax : cap ≤ 9223372036854775807) (w : World) (hB : Bys w A n w.heap.size) (A' : Option Addr) (n' cap' : Nat) (hc' : n' ≤ cap') (hmax' : cap' ≤ 9223372036854775807) (hB' : Bys w A' n' w.heap.size) (ht : Tabs w) (hs : Sent w) :
    Calls Tryd.prog 6 #[.slice A n cap, .slice A' n' cap'] w fun x w' => x = .returned (.bool true) ∧ Up w w' := by
  have HB := Lib.hid hB
  have HB' := Lib.hid hB'
  have CI := Lib.hid (fun W (u : Up w W) k m => implDsk_any k m W (ht.up u))
  have CR := Lib.hid (fun (s : List UInt8) (hl : s.length ≤ 1048576) W (u : Up w W) => implRead_any s hl W (ht.up u) (hs.up u))
  clear hB hB' ht hs
  by_cases h : 1048576 < n
  · have h' : (1048576 : Int) < n := by omega
    go_enter Tryd.func6, Tryd.ntmps6
    go_wp2; go_ret
    exact ⟨rfl, Up.refl _⟩
  have h' : ¬ (1048576 : Int) < n := by omega
  by_cases h2 : 1048576 < n'
  · have h2' : (1048576 : Int) < n' := by omega
    go_enter Tryd.func6, Tryd.ntmps6
    go_wp2; go_ret
    exact ⟨rfl, Up.refl _⟩
  have h2' : ¬ (1048576 : Int) < n' := by omega
  go_enter Tryd.func6, Tryd.ntmps6
  go_wp2_with fail
  refine (drawDT_any A n cap _ hc hmax HB.out).mono ?_; rintro x w1 ⟨k0, n0, rfl, u1⟩
  have U := Lib.hid (u1.alloc (.cells #[.int .i64 k0, .int .i64 n0] 25))
  have X := Lib.hid (Blq.new w1 #[.int .i64 k0, .int .i64 n0] 25)
  clear u1
  go_wp2_with fail
  refine (drawDR_any A' n' cap' _ hc' hmax' (HB'.out.grow U.out)).mono ?_; rintro x w2 ⟨⟨l, rfl, hl⟩, u⟩
  replace U := Lib.hid (U.out.trans u)
  replace X := Lib.hid (X.out.up u)
  clear u
  have CI0 := Lib.hid (fun W (u : Up w W) => CI.out W u k0 n0)
  have CS0 := Lib.hid (fun W => specDsk_any k0 n0 W)
  have lsl := dsk_short k0 n0
  have RS := Lib.hid (fun (h : dskS k0 n0 ≠ []) => (show ResA (dskS k0 n0) k0 n0 true from .inl ⟨rfl, rfl, h⟩))
  generalize dskS k0 n0 = sl at CI0 CS0 lsl RS
  have x0 := X.out.cell (j := 0) rfl
  have x1 := X.out.cell (j := 1) rfl
  have lx := X.out.lt
  go_wp2_with fail
  refine (CI0.out _ U.out).mono ?_; rintro x w3 ⟨rfl, u⟩
  replace U := Lib.hid (U.out.trans u)
  replace X := Lib.hid (X.out.up u)
  clear u x0 x1 lx
  go_wp2_with fail
  refine (CR.out l (by omega) _ U.out).mono ?_; rintro x w4 ⟨⟨k, m, b, rfl, ra⟩, u⟩
  replace U := Lib.hid ((U.out.trans u).alloc (.cells #[.int .i64 k, .int .i64 m] 25))
  replace X := Lib.hid ((X.out.up u).up ((Up.refl _).alloc (.cells #[.int .i64 k, .int .i64 m] 25)))
  have Y := Lib.hid (Blq.new w4 #[.int .i64 k, .int .i64 m] 25)
  have RL := Lib.hid ra
  clear u ra
  go_wp2_with fail
  refine (specRead_any l (by omega) _).mono ?_; rintro x w5 ⟨⟨k', m', b', rfl, ra⟩, u⟩; obtain ⟨rfl, rfl, rfl⟩ := RL.out.one ra
  replace U := Lib.hid ((U.out.trans u).alloc (.cells #[.int .i64 k, .int .i64 m] 25))
  replace X := Lib.hid ((X.out.up u).up ((Up.refl _).alloc (.cells #[.int .i64 k, .int .i64 m] 25)))
  replace Y := Lib.hid ((Y.out.up u).up ((Up.refl _).alloc (.cells #[.int .i64 k, .int .i64 m] 25)))
  have Z := Lib.hid (Blq.new w5 #[.int .i64 k, .int .i64 m] 25)
  clear u ra
  have x0 := X.out.cell (j := 0) rfl
  have x1 := X.out.cell (j := 1) rfl
  have lx := X.out.lt
  go_wp2_with fail
  refine (CS0.out _).mono ?_; rintro x w6 ⟨rfl, u⟩
  replace U := Lib.hid (U.out.trans u)
  replace X := Lib.hid (X.out.up u)
  replace Y := Lib.hid (Y.out.up u)
  replace Z := Lib.hid (Z.out.up u)
  clear u x0 x1 lx
  have y0 := Y.out.cell (j := 0) rfl
  have y1 := Y.out.cell (j := 1) rfl
  have ly := Y.out.lt
  have z0 := Z.out.cell (j := 0) rfl
  have z1 := Z.out.cell (j := 1) rfl
  have lz := Z.out.lt
  rcases RL.out with ⟨rfl, hd, hne⟩ | ⟨rfl, rfl, rfl, -⟩
  · have CK := Lib.hid (fun W (u : Up w W) => CI.out W u k m)
    rw [hd] at CK; clear hd hne RL
    go_wp2_with fail
    refine (CK.out _ U.out).mono ?_; rintro x w7 ⟨rfl, u⟩
    replace U := Lib.hid (U.out.trans u)
    replace X := Lib.hid (X.out.up u)
    clear u y0 y1 ly z0 z1 lz Y Z
    by_cases hs0 : sl = []
    · have he : sl.isEmpty = true := by rw [hs0]; rfl
      clear hs0
      go_wp2_with fail
      refine (tbOk_any _).mono ?_; rintro x w9 ⟨rfl, u⟩
      replace U := Lib.hid (U.out.trans u)
      clear u; go_wp2; go_ret
      exact ⟨rfl, U.out⟩
    · have he : sl.isEmpty = false := by cases sl with | nil => exact absurd rfl hs0 | cons c r => rfl
      have RA := Lib.hid (RS.out hs0)
      clear hs0
      go_wp2_with fail
      refine (CR.out sl (by omega) _ U.out).mono ?_; rintro x w9 ⟨⟨k2, n2, b2, rfl, r2⟩, u⟩; obtain ⟨rfl, rfl, rfl⟩ := r2.one RA.out
      replace U := Lib.hid ((U.out.trans u).alloc (.cells #[.int .i64 k2, .int .i64 n2] 25))
      replace X := Lib.hid ((X.out.up u).up ((Up.refl _).alloc (.cells #[.int .i64 k2, .int .i64 n2] 25)))
      have V := Lib.hid (Blq.new w9 #[.int .i64 k2, .int .i64 n2] 25)
      have x0 := X.out.cell (j := 0) rfl
      have x1 := X.out.cell (j := 1) rfl
      have lx := X.out.lt
      clear u r2; go_wp2; go_ret
      exact ⟨rfl, U.out⟩
  · clear RL
    by_cases hs0 : sl = []
    · have he : sl.isEmpty = true := by rw [hs0]; rfl
      clear hs0
      go_wp2_with fail
      refine (tbOk_any _).mono ?_; rintro x w9 ⟨rfl, u⟩
      replace U := Lib.hid (U.out.trans u)
      clear u; go_wp2; go_ret
      exact ⟨rfl, U.out⟩
    · have he : sl.isEmpty = false := by cases sl with | nil => exact absurd rfl hs0 | cons c r => rfl
      have RA := Lib.hid (RS.out hs0)
      clear hs0
      go_wp2_with fail
      refine (CR.out sl (by omega) _ U.out).mono ?_; rintro x w9 ⟨⟨k2, n2, b2, rfl, r2⟩, u⟩; obtain ⟨rfl, rfl, rfl⟩ := r2.one RA.out
      replace U := Lib.hid ((U.out.trans u).alloc (.cells #[.int .i64 k2, .int .i64 n2] 25))
      replace X := Lib.hid ((X.out.up u).up ((Up.refl _).alloc (.cells #[.int .i64 k2, .int .i64 n2] 25)))
      have V := Lib.hid (Blq.new w9 #[.int .i64 k2, .int .i64 n2] 25)
      have x0 := X.out.cell (j := 0) rfl
      have x1 := X.out.cell (j := 1) rfl
      have lx := X.out.lt
      clear u r2; go_wp2; go_ret
      exact ⟨rfl, U.out⟩
end Go.Proofs.YtlkmhmiamdbhcaaDoor

namespace Go.Proofs.YtlkmhmiamdbhcaaDoor.fnDskText
set_option maxRecDepth 100000
open Go.ChangeShapes Go.WideShapes Go.ChangeAt Go.RowKit Go.Joins Go.Deep
set_option linter.unusedVariables false
theorem gSy : Tryd.prog.globalNamed "strconv.ErrSyntax" = some 2 := by kernel_rfl
theorem gRg : Tryd.prog.globalNamed "strconv.ErrRange" = some 3 := by kernel_rfl
theorem gSyT : (Tryd.prog.globals[2]?).map (·.type) = some 58 := by kernel_rfl
theorem gRgT : (Tryd.prog.globals[3]?).map (·.type) = some 58 := by kernel_rfl
theorem sent_of {w : World} (hs : VarIs w "strconv.ErrSyntax" Rows.laid_strconv_ErrSyntax) (hr : VarIs w "strconv.ErrRange" Rows.laid_strconv_ErrRange) : Sent w := by
  obtain ⟨g, t, cs, fuel, p, h1, h2, h3, h4⟩ := hs; obtain rfl := Option.some.inj (gSy.symm.trans h1); obtain rfl := Option.some.inj (gSyT.symm.trans h2); obtain ⟨_, u, v, hc, _, _⟩ := iface_of_trod Tryd.underlying58 h4; obtain ⟨g', t', cs', fuel', p', k1, k2, k3, k4⟩ := hr; obtain rfl := Option.some.inj (gRg.symm.trans k1); obtain rfl := Option.some.inj (gRgT.symm.trans k2); obtain ⟨_, u', v', hc', _, _⟩ := iface_of_trod Tryd.underlying58 k4; obtain rfl : cs = #[.iface u v] := Array.toList_inj.1 hc; obtain rfl : cs' = #[.iface u' v'] := Array.toList_inj.1 hc'
  exact ⟨⟨u, v, World.var?_cell gSy h3 0⟩, ⟨u', v', World.var?_cell gRg k3 0⟩⟩
/-- What the row's list gives. -/
theorem tabs {W : World} (hL : laidMetH Tryd.prog Rows.fnDskTextRow.laid W) (hsh : W.ShapedOpen Tryd.prog) : Tabs W ∧ Sent W := by
  have h : laidMet Tryd.prog Rows.fnDskTextRow.laid W := hL
  obtain ⟨ps, hv, _⟩ := h; refine ⟨⟨Tryd.laysM146.s1_3 W hsh, pow_of (laid_mem hv _ _ ?_), fmts_of (laid_mem hv _ _ ?_)⟩, sent_of (laid_mem hv _ _ ?_) (laid_mem hv _ _ ?_)⟩
  · unfold Rows.fnDskTextRow
    exact (.tail _ (.tail _ (.head _)))
  · unfold Rows.fnDskTextRow
    exact (.tail _ (.tail _ (.tail _ (.tail _ (.tail _ (.tail _ (.head _)))))))
  · unfold Rows.fnDskTextRow
    exact (.tail _ (.tail _ (.tail _ (.tail _ (.tail _ (.head _))))))
  · unfold Rows.fnDskTextRow
    exact (.tail _ (.tail _ (.tail _ (.tail _ (.head _)))))
set_option maxRecDepth 100000 in
theorem contract (H : Type) (enc : TypeId × Value → H) (W : World) (base : Nat) (args : Array Value) (ds gs : List (DataW H)) (before : List MemPlace)
    (hval0 : ∀ (j : Nat) t v, Tryd.f6.params[j]? = some t → args[j]? = some v → Value.okWide Tryd.prog W .any base t v)
    (hW : DataW.Whole enc Tryd.prog Tryd.f6.params.toList Rows.fnDskTextSpec.vars false W args.toList ds gs before) (hL : laidMetH Tryd.prog Rows.fnDskTextRow.laid W) (hsh : W.ShapedOpen Tryd.prog) :
    Calls Tryd.prog 6 args W fun e W' => ∃ v, e = .returned v ∧ Rows.fnDskTextSpec.post enc Tryd.prog Tryd.f6 false true false false W args v W' := by
  have hval := hval0
  have hW' := hW
  obtain ⟨p, q, hA0, hV, rfl, hfz, hnd⟩ := hW
  have hA : DataW.TrodAll enc Tryd.prog W 0 (fun _ => true) true Tryd.f6.params.toList args.toList ds p := hA0
  rw [Tryd.params6] at hA hval; obtain ⟨v0, vs0, d0, ds0, p0, q0, hargs, rfl, rfl, h0, r0⟩ := trodAll_cons hA; obtain ⟨v1, vs1, d1, ds1, p1, q1, rfl, rfl, rfl, h1, r1⟩ := trodAll_cons r0; obtain ⟨rfl, rfl, rfl⟩ := trodAll_nil r1
  obtain rfl : args = #[v0, v1] := by cases args; simp_all
  have hV2 := hV
  obtain ⟨_, _, _, _, dg, _, rfl, _⟩ := trodVars_one hV2
  have k0 := h0
  have lt0 : ∀ x ∈ p0, x.block < W.heap.size := by obtain ⟨m, hm⟩ := k0; exact DataW.trod_lt m _ _ _ hm
  obtain ⟨A0, len0, cap0, rfl⟩ := okWide_slice Tryd.underlying42 (hval 0 42 v0 rfl rfl)
  have w0 := open_bytes h0
  have k1 := h1
  have lt1 : ∀ x ∈ p1, x.block < W.heap.size := by obtain ⟨m, hm⟩ := k1; exact DataW.trod_lt m _ _ _ hm
  obtain ⟨A1, len1, cap1, rfl⟩ := okWide_slice Tryd.underlying42 (hval 1 42 v1 rfl rfl)
  have w1 := open_bytes h1
  clear hA0 hval0
  refine (walkDsk A0 len0 cap0 w0.2.1 w0.2.2 W w0.1 A1 len1 cap1 w1.2.1 w1.2.2 w1.1 (tabs hL hsh).1 (tabs hL hsh).2).mono fun e W' ⟨he, bel⟩ => ?_
  subst he
  exact ⟨_, rfl, _, _, _, [], _, _, hW', trodAll_mk1 (shut_bool Tryd.underlying4 _), (trodAll_cons_mk (Below.trod laidOut (by kernel_rfl) (of_decide_eq_true (by kernel_rfl)) k0 bel lt0) (trodAll_cons_mk (Below.trod laidOut (by kernel_rfl) (of_decide_eq_true (by kernel_rfl)) k1 bel lt1) trodAll_mk0)), Below.trodVars laidOut bel (by kernel_rfl) hV, bel.frame _, fun h => by cases h⟩
/-- What a datum of one or two levels reads as, cell for cell. -/
def flat0 : DataW Unit → List Value
  | .lit (.int k n) => [.int k n]
  | .lit (.string s) => [.string ⟨s.toArray⟩]
  | .lit (.bool b) => [.bool b]
  | _ => []
def flat1 : DataW Unit → List Value
  | .agg l => l.flatMap flat0
  | d => flat0 d
def flat2 : DataW Unit → List Value
  | .agg l => l.flatMap flat1
  | d => flat0 d
def put (d : DataW Unit) : Obj → Obj
  | .cells _ t frozen => .cells (flat2 d).toArray t frozen
  | o => o
/-- A world for the witness: the settled one, the tables holding what their initialisers lay. -/
noncomputable def laidWorld (os : Os) : World :=
  let N := (World.settled Tryd.prog os).heap.size
  let w0 := World.holding Tryd.prog os ⟨#[.cells #[.string ⟨#[105, 110, 118, 97, 108, 105, 100, 32, 115, 121, 110, 116, 97, 120]⟩] 121, .cells #[.string ⟨#[118, 97, 108, 117, 101, 32, 111, 117, 116, 32, 111, 102, 32, 114, 97, 110, 103, 101]⟩] 121], #[], []⟩
  let lay (h : Array Obj) (g : Nat) (cs : Array Value) : Array Obj := h.modify g fun
    | .cells _ t frozen => .cells cs t frozen
    | o => o
  { w0 with heap := lay (lay ((((((w0.heap.modify 0 (put Rows.laid_loop_example_turnback_impl_lineFormats)).modify 4 (put Rows.laid_unicode_utf8_first)).modify 5 (put Rows.laid_unicode_utf8_acceptRanges)).modify 6 (put Rows.laid_internal_strconv_uint64pow10)).modify 7 (put Rows.laid_math_bits_deBruijn32tab)).modify 8 (put Rows.laid_math_bits_deBruijn64tab)) 2 #[.iface 119 (.pointer (some ⟨N, 0, none⟩))] ) 3 #[.iface 119 (.pointer (some ⟨N + 1, 0, none⟩))] }
theorem laid_met (os : Os) : laidMet Tryd.prog Rows.fnDskTextRow.laid ((laidWorld os).forCall (fun _ _ => 0) ⟨#[], #[.slice none 0 0, .slice none 0 0], []⟩).memory :=
  laidMet_of_run' 8 (by kernel_rfl) (by kernel_rfl)
theorem reads (os : Os) {H : Type} (enc : TypeId × Value → H) : ∃ (gs : List (DataW H)) (places : List MemPlace), DataW.whole enc Tryd.prog ((laidWorld os).forCall (fun _ _ => 0) ⟨#[], #[.slice none 0 0, .slice none 0 0], []⟩).memory Tryd.f6.params.toList Rows.fnDskTextSpec.vars false #[.slice none 0 0, .slice none 0 0].toList 8 = some ([.nil, .nil], gs, places) := by
  have h : (DataW.whole enc Tryd.prog ((laidWorld os).forCall (fun _ _ => 0) ⟨#[], #[.slice none 0 0, .slice none 0 0], []⟩).memory Tryd.f6.params.toList Rows.fnDskTextSpec.vars false #[.slice none 0 0, .slice none 0 0].toList 8).map (fun x => x.1) = some [.nil, .nil] := by kernel_rfl
  obtain ⟨⟨ds, gs, places⟩, h1, h2⟩ := Option.map_eq_some_iff.mp h
  exact ⟨gs, places, by rw [h1]; exact congrArg (fun z => some (z, gs, places)) h2⟩
set_option maxRecDepth 100000 in
theorem lifted (os : Os) (started : os.Started) (H : Type) (enc : TypeId × Value → H) (F : Stop.Interp) :
    ReturnsInHanded {} Tryd.checked os 6 .any ((OpenSpec.ofChange Rows.fnDskTextSpec).preRow enc Tryd.prog Tryd.f6 Rows.fnDskTextRow.domain false Rows.fnDskTextRow.laid) (((OpenSpec.ofChange Rows.fnDskTextSpec).at F).post enc Tryd.prog Tryd.f6 false true false false) := by
  obtain ⟨gs, places, hx⟩ := reads os enc
  refine returnsInHanded_of_row (C := Tryd.checked) (s := OpenSpec.ofChange Rows.fnDskTextSpec) own started (by kernel_rfl) Tryd.func6
    (witness_row_atRef (enc := enc) (C := Tryd.checked) false (laidWorld os) #[.slice none 0 0, .slice none 0 0] rfl (by kernel_rfl) (by kernel_rfl) (by kernel_rfl)
      (OpenSpec.preRow_of_cond 8 hx (by kernel_rfl) (fun k hk => by cases hk) (by kernel_rfl) (laid_met os))) ?_
  intro W base args ds gs before hval hW _ _ _ hL hsh _
  exact contract H enc W base args ds gs before hval hW hL hsh
theorem said : Rows.FnDskTextSaid :=
  OpenClaim.holds_of_cond 6 Tryd.f6 rfl rfl rfl rfl rfl rfl rfl ⟨rfl, rfl, rfl, rfl, rfl⟩ rfl rfl rfl rfl rfl (by kernel_rfl) Tryd.func6 (by kernel_rfl)
    (of_decide_eq_true (by kernel_rfl)) (by unfold Func.isWrapper; first | (rw [if_pos (by decide +kernel)]; kernel_rfl) | (rw [if_neg (by decide +kernel)]; exact ⟨rfl, rfl⟩))
    (fun os started H enc _ F => by rw [OpenClaim.pre_eq_preRow]; exact lifted os started H enc F)
/-- No parameter wants a stand-in; the program's own looks are on. -/
theorem plain (f : FuncId) (fn : Func) (hf : Tryd.pinned.checked.prog.funcNamed "loop.example/turnback/laws.FnDskText" = some f) (hfn : Tryd.pinned.checked.prog.funcs[f]? = some fn) :
    true = Tryd.pinned.checked.prog.looks [] ∧ ∀ (j : Nat) t, fn.params[j]? = some t → Tryd.pinned.checked.prog.wantsStandIn t = false := by
  obtain rfl : f = 6 := Option.some.inj ((show Tryd.prog.funcNamed "loop.example/turnback/laws.FnDskText" = some 6 by kernel_rfl).symm.trans hf) |>.symm
  obtain rfl : fn = Tryd.f6 := (Option.some.inj (Tryd.func6.symm.trans hfn)).symm; refine ⟨by kernel_rfl, fun j t ht => ?_⟩; rw [Tryd.params6] at ht
  obtain rfl : t = 42 := by simpa using Array.mem_of_getElem? ht
  exact (show Tryd.prog.wantsStandIn 42 = false by kernel_rfl)
/-- The card. -/
theorem proved : Rows.FnDskTextCardSaid :=
  Claim7.holds_tied_plain_at .later [] _ _ _ _ said (fun _ h => by cases h) (by kernel_rfl) (fun _ h => by cases h) fnDskText_row_tie rfl ⟨rfl, rfl⟩ (by kernel_rfl) rfl plain (by kernel_rfl)
end Go.Proofs.YtlkmhmiamdbhcaaDoor.fnDskText

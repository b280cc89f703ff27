/-
  What FnExactDskRead returns, in one sentence: true, with new blocks alone; for every string, where the tables and the errors' variables hold what the program's text lays.
  For every string the law FnExactDskRead returns true and leaves the tables and the errors' variables as they were; these hold what the program's text lays.
-/
import Derived.ChangeMaps5
import Derived.Deep.DeepWitnessRowRef
import Derived.LaidLaws
import Derived.ProofKit
import Derived.Test.YtlkmhmiamdbhcaaDoorCards
import Derived.Test.YtlkmhmiamdbhcaaDoorDLEread01
import Derived.Test.YtlkmhmiamdbhcaaDoorDLEread05
import Derived.Test.YtlkmhmiamdbhcaaDoorDLEread07
import Derived.WalkKit
namespace Go.Proofs.YtlkmhmiamdbhcaaDoor
set_option maxRecDepth 100000
open Go.RowKit
theorem eqAct_any (k n : Int) (w : World) : Calls Tryd.prog 13 #[.agg #[.int .i64 k, .int .i64 n], .agg #[.int .i64 k, .int .i64 n]] w fun x w' => x = .returned (.bool true) ∧ Up w w' := by
  go_enter Tryd.func13, Tryd.ntmps13
  go_wp2; go_ret
  exact ⟨rfl, by repeat (first | exact Up.refl _ | apply Up.alloc)⟩
set_option maxHeartbeats 2000000 in
theorem walkEread (s : List UInt8) (w : World) (hsz : s.length ≤ 9223372036854775807) (ht : Tabs w) (hs : Sent w) : Calls Tryd.prog 4 #[.string ⟨s.toArray⟩] w fun x w' => x = .returned (.bool true) ∧ Up w w' := by
  have szs : (⟨s.toArray⟩ : ByteArray).size = s.length := by simp [ByteArray.size]
  have HT := Lib.hid ht
  have HS := Lib.hid hs
  clear ht hs
  by_cases h : 1048576 < s.length
  · have h' : (1048576 : Int) < s.length := by omega
    go_enter Tryd.func4, Tryd.ntmps4
    go_wp2; go_ret
    exact ⟨rfl, Up.refl _⟩
  have h' : ¬ (1048576 : Int) < s.length := by omega
  go_enter Tryd.func4, Tryd.ntmps4
  go_wp2_with fail
  refine (specRead_any s (by omega) _).mono ?_; rintro x w1 ⟨⟨k, n, b, rfl, r1⟩, u1⟩
  have U := Lib.hid (u1.alloc (.cells #[.int .i64 k, .int .i64 n] 25))
  have X := Lib.hid (Blq.new w1 #[.int .i64 k, .int .i64 n] 25)
  have CR := Lib.hid (fun W (u : Up w W) => implRead_any s (by omega) W (HT.out.up u) (HS.out.up u))
  have R1 := Lib.hid r1
  clear u1 r1
  go_wp2_with fail
  refine (CR.out _ U.out).mono ?_; rintro x w2 ⟨⟨k', n', b', rfl, r2⟩, u2⟩; obtain ⟨rfl, rfl, rfl⟩ := R1.out.one r2
  replace U := Lib.hid ((U.out.trans u2).alloc (.cells #[.int .i64 k, .int .i64 n] 25))
  replace X := Lib.hid ((X.out.up u2).up ((Up.refl _).alloc (.cells #[.int .i64 k, .int .i64 n] 25)))
  have Y := Lib.hid (Blq.new w2 #[.int .i64 k, .int .i64 n] 25)
  have x0 := X.out.cell (j := 0) rfl
  have x1 := X.out.cell (j := 1) rfl
  have y0 := Y.out.cell (j := 0) rfl
  have y1 := Y.out.cell (j := 1) rfl
  have lx := X.out.lt
  have CE := Lib.hid (fun W => eqAct_any k n W)
  clear u2 r2 R1
  go_wp2_with fail
  refine (CE.out _).mono ?_; rintro x w3 ⟨rfl, u3⟩
  replace U := Lib.hid (U.out.trans u3)
  clear u3; go_wp2; go_ret
  exact ⟨rfl, U.out⟩
theorem walkB (s : ByteArray) (hsz : s.size ≤ maxLen) (w : World) (ht : Tabs w) (hs : Sent w) : Calls Tryd.prog 4 #[.string s] w fun x w' => x = .returned (.bool true) ∧ Up w w' := by
  have h := walkEread s.data.toList w (by rw [show s.data.toList.length = s.size from rfl]; exact hsz) ht hs
  rw [show (⟨s.data.toList.toArray⟩ : ByteArray) = s by cases s; simp] at h
  exact h
end Go.Proofs.YtlkmhmiamdbhcaaDoor

namespace Go.Proofs.YtlkmhmiamdbhcaaDoor.fnExactDskRead
set_option maxRecDepth 100000
open Go.ChangeShapes Go.WideShapes Go.ChangeAt Go.RowKit Go.Joins Go.Deep
set_option linter.unusedVariables false
theorem gSy : Tryd.prog.globalNamed "strconv.ErrSyntax" = some 2 := by kernel_rfl
theorem gRg : Tryd.prog.globalNamed "strconv.ErrRange" = some 3 := by kernel_rfl
theorem gSyT : (Tryd.prog.globals[2]?).map (·.type) = some 58 := by kernel_rfl
theorem gRgT : (Tryd.prog.globals[3]?).map (·.type) = some 58 := by kernel_rfl
theorem sent_of {w : World} (hs : VarIs w "strconv.ErrSyntax" Rows.laid_strconv_ErrSyntax) (hr : VarIs w "strconv.ErrRange" Rows.laid_strconv_ErrRange) : Sent w := by
  obtain ⟨g, t, cs, fuel, p, h1, h2, h3, h4⟩ := hs; obtain rfl := Option.some.inj (gSy.symm.trans h1); obtain rfl := Option.some.inj (gSyT.symm.trans h2); obtain ⟨_, u, v, hc, _, _⟩ := iface_of_trod Tryd.underlying58 h4; obtain ⟨g', t', cs', fuel', p', k1, k2, k3, k4⟩ := hr; obtain rfl := Option.some.inj (gRg.symm.trans k1); obtain rfl := Option.some.inj (gRgT.symm.trans k2); obtain ⟨_, u', v', hc', _, _⟩ := iface_of_trod Tryd.underlying58 k4; obtain rfl : cs = #[.iface u v] := Array.toList_inj.1 hc; obtain rfl : cs' = #[.iface u' v'] := Array.toList_inj.1 hc'
  exact ⟨⟨u, v, World.var?_cell gSy h3 0⟩, ⟨u', v', World.var?_cell gRg k3 0⟩⟩
/-- What the row's list gives. -/
theorem tabs {W : World} (hL : laidMetH Tryd.prog Rows.fnExactDskReadRow.laid W) (hsh : W.ShapedOpen Tryd.prog) : Tabs W ∧ Sent W := by
  have h : laidMet Tryd.prog Rows.fnExactDskReadRow.laid W := hL
  obtain ⟨ps, hv, _⟩ := h; refine ⟨⟨Tryd.laysM146.s1_3 W hsh, pow_of (laid_mem hv _ _ ?_), fmts_of (laid_mem hv _ _ ?_)⟩, sent_of (laid_mem hv _ _ ?_) (laid_mem hv _ _ ?_)⟩
  · unfold Rows.fnExactDskReadRow
    exact (.tail _ (.tail _ (.head _)))
  · unfold Rows.fnExactDskReadRow
    exact (.tail _ (.tail _ (.tail _ (.tail _ (.tail _ (.tail _ (.head _)))))))
  · unfold Rows.fnExactDskReadRow
    exact (.tail _ (.tail _ (.tail _ (.tail _ (.tail _ (.head _))))))
  · unfold Rows.fnExactDskReadRow
    exact (.tail _ (.tail _ (.tail _ (.tail _ (.head _)))))
set_option maxRecDepth 100000 in
theorem contract (H : Type) (enc : TypeId × Value → H) (W : World) (base : Nat) (args : Array Value) (ds gs : List (DataW H)) (before : List MemPlace)
    (hval0 : ∀ (j : Nat) t v, Tryd.f4.params[j]? = some t → args[j]? = some v → Value.okWide Tryd.prog W .any base t v)
    (hW : DataW.Whole enc Tryd.prog Tryd.f4.params.toList Rows.fnExactDskReadSpec.vars false W args.toList ds gs before) (hL : laidMetH Tryd.prog Rows.fnExactDskReadRow.laid W) (hsh : W.ShapedOpen Tryd.prog) :
    Calls Tryd.prog 4 args W fun e W' => ∃ v, e = .returned v ∧ Rows.fnExactDskReadSpec.post enc Tryd.prog Tryd.f4 false true false false W args v W' := by
  have hval := hval0
  have hW' := hW
  obtain ⟨p, q, hA0, hV, rfl, hfz, hnd⟩ := hW
  have hA : DataW.TrodAll enc Tryd.prog W 0 (fun _ => true) true Tryd.f4.params.toList args.toList ds p := hA0
  rw [Tryd.params4] at hA hval; obtain ⟨v0, vs0, d0, ds0, p0, q0, hargs, rfl, rfl, h0, r0⟩ := trodAll_cons hA; obtain ⟨rfl, rfl, rfl⟩ := trodAll_nil r0
  obtain rfl : args = #[v0] := by cases args; simp_all
  have hV2 := hV
  obtain ⟨_, _, _, _, dg, _, rfl, _⟩ := trodVars_one hV2
  have k0 := h0
  have lt0 : ∀ x ∈ p0, x.block < W.heap.size := by obtain ⟨m, hm⟩ := k0; exact DataW.trod_lt m _ _ _ hm
  obtain ⟨s0, rfl, rfl, rfl, w0⟩ := Go.ChangeMaps.open_string Tryd.underlying9 (hval 0 9 v0 rfl rfl) h0; clear hA0 hval0
  refine (walkB s0 w0 W (tabs hL hsh).1 (tabs hL hsh).2).mono fun e W' ⟨he, bel⟩ => ?_
  subst he
  exact ⟨_, rfl, _, _, _, [], _, _, hW', trodAll_mk1 (shut_bool Tryd.underlying4 _), (trodAll_cons_mk (Below.trod laidOut (by kernel_rfl) (of_decide_eq_true (by kernel_rfl)) k0 bel lt0) trodAll_mk0), Below.trodVars laidOut bel (by kernel_rfl) hV, bel.frame _, fun h => by cases h⟩
/-- What a datum of one or two levels reads as, cell for cell. -/
def flat0 : DataW Unit → List Value
  | .lit (.int k n) => [.int k n]
  | .lit (.string s) => [.string ⟨s.toArray⟩]
  | .lit (.bool b) => [.bool b]
  | _ => []
def flat1 : DataW Unit → List Value
  | .agg l => l.flatMap flat0
  | d => flat0 d
def flat2 : DataW Unit → List Value
  | .agg l => l.flatMap flat1
  | d => flat0 d
def put (d : DataW Unit) : Obj → Obj
  | .cells _ t frozen => .cells (flat2 d).toArray t frozen
  | o => o
/-- A world for the witness: the settled one, the tables holding what their initialisers lay. -/
noncomputable def laidWorld (os : Os) : World :=
  let N := (World.settled Tryd.prog os).heap.size
  let w0 := World.holding Tryd.prog os ⟨#[.cells #[.string ⟨#[105, 110, 118, 97, 108, 105, 100, 32, 115, 121, 110, 116, 97, 120]⟩] 121, .cells #[.string ⟨#[118, 97, 108, 117, 101, 32, 111, 117, 116, 32, 111, 102, 32, 114, 97, 110, 103, 101]⟩] 121], #[], []⟩
  let lay (h : Array Obj) (g : Nat) (cs : Array Value) : Array Obj := h.modify g fun
    | .cells _ t frozen => .cells cs t frozen
    | o => o
  { w0 with heap := lay (lay ((((((w0.heap.modify 0 (put Rows.laid_loop_example_turnback_impl_lineFormats)).modify 4 (put Rows.laid_unicode_utf8_first)).modify 5 (put Rows.laid_unicode_utf8_acceptRanges)).modify 6 (put Rows.laid_internal_strconv_uint64pow10)).modify 7 (put Rows.laid_math_bits_deBruijn32tab)).modify 8 (put Rows.laid_math_bits_deBruijn64tab)) 2 #[.iface 119 (.pointer (some ⟨N, 0, none⟩))] ) 3 #[.iface 119 (.pointer (some ⟨N + 1, 0, none⟩))] }
theorem laid_met (os : Os) : laidMet Tryd.prog Rows.fnExactDskReadRow.laid ((laidWorld os).forCall (fun _ _ => 0) ⟨#[], #[.string ⟨#[]⟩], []⟩).memory :=
  laidMet_of_run' 8 (by kernel_rfl) (by kernel_rfl)
theorem reads (os : Os) {H : Type} (enc : TypeId × Value → H) : ∃ (gs : List (DataW H)) (places : List MemPlace), DataW.whole enc Tryd.prog ((laidWorld os).forCall (fun _ _ => 0) ⟨#[], #[.string ⟨#[]⟩], []⟩).memory Tryd.f4.params.toList Rows.fnExactDskReadSpec.vars false #[.string ⟨#[]⟩].toList 8 = some ([.lit (.string [])], gs, places) := by
  have h : (DataW.whole enc Tryd.prog ((laidWorld os).forCall (fun _ _ => 0) ⟨#[], #[.string ⟨#[]⟩], []⟩).memory Tryd.f4.params.toList Rows.fnExactDskReadSpec.vars false #[.string ⟨#[]⟩].toList 8).map (fun x => x.1) = some [.lit (.string [])] := by kernel_rfl
  obtain ⟨⟨ds, gs, places⟩, h1, h2⟩ := Option.map_eq_some_iff.mp h
  exact ⟨gs, places, by rw [h1]; exact congrArg (fun z => some (z, gs, places)) h2⟩
set_option maxRecDepth 100000 in
theorem lifted (os : Os) (started : os.Started) (H : Type) (enc : TypeId × Value → H) (F : Stop.Interp) :
    ReturnsInHanded {} Tryd.checked os 4 .any ((OpenSpec.ofChange Rows.fnExactDskReadSpec).preRow enc Tryd.prog Tryd.f4 Rows.fnExactDskReadRow.domain false Rows.fnExactDskReadRow.laid) (((OpenSpec.ofChange Rows.fnExactDskReadSpec).at F).post enc Tryd.prog Tryd.f4 false true false false) := by
  obtain ⟨gs, places, hx⟩ := reads os enc
  refine returnsInHanded_of_row (C := Tryd.checked) (s := OpenSpec.ofChange Rows.fnExactDskReadSpec) own started (by kernel_rfl) Tryd.func4
    (witness_row_atRef (enc := enc) (C := Tryd.checked) false (laidWorld os) #[.string ⟨#[]⟩] rfl (by kernel_rfl) (by kernel_rfl) (by kernel_rfl)
      (OpenSpec.preRow_of_cond 8 hx (by kernel_rfl) (fun k hk => by cases hk) (by kernel_rfl) (laid_met os))) ?_
  intro W base args ds gs before hval hW _ _ _ hL hsh _
  exact contract H enc W base args ds gs before hval hW hL hsh
theorem said : Rows.FnExactDskReadSaid :=
  OpenClaim.holds_of_cond 4 Tryd.f4 rfl rfl rfl rfl rfl rfl rfl ⟨rfl, rfl, rfl, rfl, rfl⟩ rfl rfl rfl rfl rfl (by kernel_rfl) Tryd.func4 (by kernel_rfl)
    (of_decide_eq_true (by kernel_rfl)) (by unfold Func.isWrapper; first | (rw [if_pos (by decide +kernel)]; kernel_rfl) | (rw [if_neg (by decide +kernel)]; exact ⟨rfl, rfl⟩))
    (fun os started H enc _ F => by rw [OpenClaim.pre_eq_preRow]; exact lifted os started H enc F)
/-- No parameter wants a stand-in; the program's own looks are on. -/
theorem plain (f : FuncId) (fn : Func) (hf : Tryd.pinned.checked.prog.funcNamed "loop.example/turnback/laws.FnExactDskRead" = some f) (hfn : Tryd.pinned.checked.prog.funcs[f]? = some fn) :
    true = Tryd.pinned.checked.prog.looks [] ∧ ∀ (j : Nat) t, fn.params[j]? = some t → Tryd.pinned.checked.prog.wantsStandIn t = false := by
  obtain rfl : f = 4 := Option.some.inj ((show Tryd.prog.funcNamed "loop.example/turnback/laws.FnExactDskRead" = some 4 by kernel_rfl).symm.trans hf) |>.symm
  obtain rfl : fn = Tryd.f4 := (Option.some.inj (Tryd.func4.symm.trans hfn)).symm; refine ⟨by kernel_rfl, fun j t ht => ?_⟩; rw [Tryd.params4] at ht
  obtain rfl : t = 9 := by simpa using Array.mem_of_getElem? ht
  exact (show Tryd.prog.wantsStandIn 9 = false by kernel_rfl)
/-- The card. -/
theorem proved : Rows.FnExactDskReadCardSaid :=
  Claim7.holds_tied_plain_at .later [] _ _ _ _ said (fun _ h => by cases h) (by kernel_rfl) (fun _ h => by cases h) fnExactDskRead_row_tie rfl ⟨rfl, rfl⟩ (by kernel_rfl) rfl plain (by kernel_rfl)
end Go.Proofs.YtlkmhmiamdbhcaaDoor.fnExactDskRead

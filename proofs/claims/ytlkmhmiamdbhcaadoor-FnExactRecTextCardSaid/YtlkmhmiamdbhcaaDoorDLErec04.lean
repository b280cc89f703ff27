/-
  What DskText and RecText of the program return, in one sentence: the same texts as the reference's; for every kind, number and record.
  What FnExactDskText and FnExactRecText return, in one sentence: true, with new blocks alone; for every action and every record, where the tables hold what the program's text lays.
  For every record the law FnExactRecText returns true and leaves its argument and the table of formats as they were; the tables hold what the program's text lays.
-/
import Derived.Deep.RegionHeld3
import Derived.OrdersHeld
import Derived.ProofKit
import Derived.Test.YtlkmhmiamdbhcaaDoorCards
import Derived.Test.YtlkmhmiamdbhcaaDoorDLErec01
import Derived.Test.YtlkmhmiamdbhcaaDoorDLErec02
import Derived.Test.YtlkmhmiamdbhcaaDoorDLErec03
import Derived.WalkKit
namespace Go.Proofs.YtlkmhmiamdbhcaaDoor
set_option maxRecDepth 100000
open Go.RowKit
theorem cnt6 : Lib.countB (⟨([97, 116, 32, 35, 32, 116, 111, 32, 35, 32, 102, 114, 111, 109, 32, 35, 32, 107, 105, 110, 100, 32, 35, 32, 100, 97, 116, 97, 32, 35, 32, 116, 104, 101, 110, 32, 35] : List UInt8).toArray⟩ : ByteArray) ⟨#[35]⟩ = 6 := by kernel_rfl
theorem spl6 : (Lib.splitB ⟨#[35]⟩ 0 6 (⟨([97, 116, 32, 35, 32, 116, 111, 32, 35, 32, 102, 114, 111, 109, 32, 35, 32, 107, 105, 110, 100, 32, 35, 32, 100, 97, 116, 97, 32, 35, 32, 116, 104, 101, 110, 32, 35] : List UInt8).toArray⟩ : ByteArray)).map Value.string = ([97, 116, 32] :: [[32, 116, 111, 32], [32, 102, 114, 111, 109, 32], [32, 107, 105, 110, 100, 32], [32, 100, 97, 116, 97, 32], [32, 116, 104, 101, 110, 32], []]).map (fun p : List UInt8 => Value.string ⟨p.toArray⟩) := by kernel_rfl
set_option maxHeartbeats 2000000 in
theorem implRec_any (e : Evt) (s : Int) (w : World) (ht : Tabs w) : Calls Tryd.prog 16 #[.agg #[.int .i64 e.t, .int .i64 e.to, .int .i64 e.fr, .int .i64 e.sq, .int .i64 e.kd, .int .i64 e.dt, .int .i64 s]] w fun x w' => x = .returned (.string ⟨(recS e s).toArray⟩) ∧ Up w w' := by
  have CO := fun W => implOk_any e 4 W
  have R0 := Lib.hid (show (okB e 4 && inB s 0 96) = false → (⟨#[]⟩ : ByteArray) = ⟨(recS e s).toArray⟩ from fun h => by unfold recS; rw [h]; rfl)
  have R1 := Lib.hid (show (okB e 4 && inB s 0 96) = true → [97, 116, 32] ++ joinS [[32, 116, 111, 32], [32, 102, 114, 111, 109, 32], [32, 107, 105, 110, 100, 32], [32, 100, 97, 116, 97, 32], [32, 116, 104, 101, 110, 32], []] [e.t, e.to, e.fr, e.kd, e.dt, s] = recS e s from fun h => by unfold recS; rw [if_pos h]; simp [joinS])
  have BD := Lib.hid (show okB e 4 = true → e.t ≤ 999 ∧ e.to ≤ 999 ∧ e.fr ≤ 999 ∧ e.kd ≤ 999 ∧ e.dt ≤ 999 from fun h => by
    unfold okB at h; simp only [Bool.and_eq_true, inB_iff] at h
    omega)
  generalize recS e s = res at R0 R1 ⊢
  generalize okB e 4 = b1 at CO R0 R1 BD
  obtain ⟨a0, a1, a2, a3, a4, a5⟩ := e; unfold Evt.v at CO; dsimp only at CO R1 BD ⊢
  have CO := Lib.hid CO
  have HT := Lib.hid (fun W (u : Up w W) => ht.up u)
  have X := Lib.hid ((Blq.new w #[.int .i64 a0, .int .i64 a1, .int .i64 a2, .int .i64 a3, .int .i64 a4, .int .i64 a5, .int .i64 s] 39).up ((Up.refl _).alloc (.cells #[.int .i64 a0, .int .i64 a1, .int .i64 a2, .int .i64 a3, .int .i64 a4, .int .i64 a5] 37)))
  have Y := Lib.hid (Blq.new (w.alloc (.cells #[.int .i64 a0, .int .i64 a1, .int .i64 a2, .int .i64 a3, .int .i64 a4, .int .i64 a5, .int .i64 s] 39)) #[.int .i64 a0, .int .i64 a1, .int .i64 a2, .int .i64 a3, .int .i64 a4, .int .i64 a5] 37)
  simp only [World.size_alloc] at Y
  have U := Lib.hid (((Up.refl w).alloc (.cells #[.int .i64 a0, .int .i64 a1, .int .i64 a2, .int .i64 a3, .int .i64 a4, .int .i64 a5, .int .i64 s] 39)).alloc (.cells #[.int .i64 a0, .int .i64 a1, .int .i64 a2, .int .i64 a3, .int .i64 a4, .int .i64 a5] 37))
  go_enter Tryd.func16, Tryd.ntmps16
  go_wp2_with fail
  refine (CO.out _).mono ?_; rintro x w1 ⟨rfl, u1⟩
  have U1 := Lib.hid (U.out.trans u1)
  replace X := Lib.hid (X.out.up u1)
  replace Y := Lib.hid (Y.out.up u1)
  clear u1
  cases b1
  · go_wp2
    go_ret
    exact ⟨ret_str (R0.out (by first | trivial | rfl)), U1.out⟩
  · have x6 := X.out.cell (j := 6) rfl
    have lx := X.out.lt
    go_wp2_with fail
    refine (within_any s 0 96 _).mono ?_; rintro x w2 ⟨rfl, hww⟩; subst hww
    cases hs : inB s 0 96
    · have HR := Lib.hid (R0.out (by rw [hs]; rfl))
      clear hs; go_wp2; go_ret
      exact ⟨ret_str HR.out, U1.out⟩
    · have HR := Lib.hid (show (⟨([97, 116, 32] ++ joinS [[32, 116, 111, 32], [32, 102, 114, 111, 109, 32], [32, 107, 105, 110, 100, 32], [32, 100, 97, 116, 97, 32], [32, 116, 104, 101, 110, 32], []] [a0, a1, a2, a4, a5, s]).toArray⟩ : ByteArray) = ⟨res.toArray⟩ by rw [R1.out (by rw [hs]; rfl)])
      have hb := BD.out (by first | trivial | rfl)
      have hs2 : s ≤ 999 := by rw [inB_iff] at hs; omega
      have CL := Lib.hid (fun W (u : Up w W) q cc (hq : q < W.heap.size) (hN : ∀ i, i < 6 → W.cell? ⟨q, i, none⟩ = some (.int .i64 (([a0, a1, a2, a4, a5, s] : List Int).getD i 0))) => line_any (⟨([97, 116, 32, 35, 32, 116, 111, 32, 35, 32, 102, 114, 111, 109, 32, 35, 32, 107, 105, 110, 100, 32, 35, 32, 100, 97, 116, 97, 32, 35, 32, 116, 104, 101, 110, 32, 35] : List UInt8).toArray⟩ : ByteArray) 0 [97, 116, 32] [[32, 116, 111, 32], [32, 102, 114, 111, 109, 32], [32, 107, 105, 110, 100, 32], [32, 100, 97, 116, 97, 32], [32, 116, 104, 101, 110, 32], []] q 6 cc [a0, a1, a2, a4, a5, s] W (by decide) cnt6 spl6 (HT.out W u) rfl (by decide) (by decide) hq hN (by
        intro n hn; simp only [List.mem_cons, List.not_mem_nil, or_false] at hn
        rcases hn with rfl | rfl | rfl | rfl | rfl | rfl <;> omega) (by decide))
      generalize [97, 116, 32] ++ joinS [[32, 116, 111, 32], [32, 102, 114, 111, 109, 32], [32, 107, 105, 110, 100, 32], [32, 100, 97, 116, 97, 32], [32, 116, 104, 101, 110, 32], []] [a0, a1, a2, a4, a5, s] = rs at HR CL
      have f12 := (HT.out _ U1.out).fm 12 _ rfl
      have f13 := (HT.out _ U1.out).fm 13 _ rfl
      have lf := World.block_lt_of_cell? _ _ f12
      clear hs hb hs2 CO BD R0 R1
      have y0 := Y.out.cell (j := 0) rfl
      have y1 := Y.out.cell (j := 1) rfl
      have y2 := Y.out.cell (j := 2) rfl
      have y4 := Y.out.cell (j := 4) rfl
      have y5 := Y.out.cell (j := 5) rfl
      have ly := Y.out.lt
      go_wp2_with fail
      refine (CL.out _ (U1.out.alloc _) _ _ ?_ ?_).mono ?_
      · simp
      · intro i hi
        have hh := heap_alloc_new w1 (.cells #[.int .i64 a0, .int .i64 a1, .int .i64 a2, .int .i64 a4, .int .i64 a5, .int .i64 s] 3)
        rw [cell_of_row _ _ i _ _ _ hh]
        have h6 : i = 0 ∨ i = 1 ∨ i = 2 ∨ i = 3 ∨ i = 4 ∨ i = 5 := by omega
        rcases h6 with rfl | rfl | rfl | rfl | rfl | rfl <;> rfl
      · rintro x w3 ⟨rfl, u3⟩
        have U3 := Lib.hid ((U1.out.alloc _).trans u3)
        clear u3; go_wp2; go_ret
        exact ⟨ret_str HR.out, U3.out⟩
end Go.Proofs.YtlkmhmiamdbhcaaDoor

namespace Go.Proofs.YtlkmhmiamdbhcaaDoor
set_option maxRecDepth 100000
open Go.RowKit
set_option maxHeartbeats 2000000 in
theorem walkErec (r : Rec) (w : World) (ht : Tabs w) : Calls Tryd.prog 5 #[r.v] w fun x w' => x = .returned (.bool true) ∧ Up w w' := by
  have CT := fun W => toRec_any r W
  have CS := fun W => specRec_any r.ev r.s W
  have CI := fun W (u : Up w W) => implRec_any r.ev r.s W (ht.up u)
  generalize recS r.ev r.s = l at CS CI
  obtain ⟨⟨a0, a1, a2, a3, a4, a5⟩, a6⟩ := r; unfold Rec.v at CT ⊢; dsimp only at CT CS CI ⊢
  have CT := Lib.hid CT
  have CS := Lib.hid CS
  have CI := Lib.hid CI
  have X := Lib.hid (Blq.new w #[.int .i64 a0, .int .i64 a1, .int .i64 a2, .int .i64 a3, .int .i64 a4, .int .i64 a5, .int .i64 a6] 35)
  have U := Lib.hid ((Up.refl w).alloc (.cells #[.int .i64 a0, .int .i64 a1, .int .i64 a2, .int .i64 a3, .int .i64 a4, .int .i64 a5, .int .i64 a6] 35))
  clear ht
  go_enter Tryd.func5, Tryd.ntmps5
  go_wp2_with fail
  refine (CT.out _).mono ?_; rintro x w1 ⟨rfl, u⟩
  replace U := Lib.hid (U.out.trans u)
  replace X := Lib.hid (X.out.up u)
  clear u
  go_wp2_with fail
  refine (CS.out _).mono ?_; rintro x w2 ⟨rfl, u⟩
  replace U := Lib.hid (U.out.trans u)
  replace X := Lib.hid (X.out.up u)
  clear u
  have x0 := X.out.cell (j := 0) rfl
  have x1 := X.out.cell (j := 1) rfl
  have x2 := X.out.cell (j := 2) rfl
  have x3 := X.out.cell (j := 3) rfl
  have x4 := X.out.cell (j := 4) rfl
  have x5 := X.out.cell (j := 5) rfl
  have x6 := X.out.cell (j := 6) rfl
  have xl := X.out.lt
  go_wp2_with fail
  clear x0 x1 x2 x3 x4 x5 x6 xl; refine (CT.out _).mono ?_; rintro x w3 ⟨rfl, u⟩
  replace U := Lib.hid (U.out.trans u)
  clear u
  go_wp2_with fail
  refine (CI.out _ U.out).mono ?_; rintro x w4 ⟨rfl, u⟩
  replace U := Lib.hid (U.out.trans u)
  clear u; go_wp2; go_ret
  exact ⟨rfl, U.out⟩
end Go.Proofs.YtlkmhmiamdbhcaaDoor

namespace Go.Proofs.YtlkmhmiamdbhcaaDoor.fnExactRecText
set_option maxRecDepth 100000
open Go.ChangeShapes Go.WideShapes Go.ChangeAt Go.RowKit Go.Joins Go.Deep
set_option linter.unusedVariables false
/-- What the row's list gives. -/
theorem tabs {W : World} (hL : laidMetH Tryd.prog Rows.fnExactRecTextRow.laid W) (hsh : W.ShapedOpen Tryd.prog) : Tabs W := by
  have h : laidMet Tryd.prog Rows.fnExactRecTextRow.laid W := hL
  obtain ⟨ps, hv, _⟩ := h; refine ⟨Tryd.laysM146.s1_3 W hsh, pow_of (laid_mem hv _ _ ?_), fmts_of (laid_mem hv _ _ ?_)⟩
  · unfold Rows.fnExactRecTextRow
    exact (.tail _ (.tail _ (.head _)))
  · unfold Rows.fnExactRecTextRow
    exact (.tail _ (.tail _ (.tail _ (.tail _ (.head _)))))
set_option maxRecDepth 100000 in
theorem contract (H : Type) (enc : TypeId × Value → H) (W : World) (base : Nat) (args : Array Value) (ds gs : List (DataW H)) (before : List MemPlace)
    (hval0 : ∀ (j : Nat) t v, Tryd.f5.params[j]? = some t → args[j]? = some v → Value.okWide Tryd.prog W .any base t v)
    (hW : DataW.Whole enc Tryd.prog Tryd.f5.params.toList Rows.fnExactRecTextSpec.vars false W args.toList ds gs before) (hL : laidMetH Tryd.prog Rows.fnExactRecTextRow.laid W) (hsh : W.ShapedOpen Tryd.prog) :
    Calls Tryd.prog 5 args W fun e W' => ∃ v, e = .returned v ∧ Rows.fnExactRecTextSpec.post enc Tryd.prog Tryd.f5 false true false false W args v W' := by
  have hval := hval0
  have hW' := hW
  obtain ⟨p, q, hA0, hV, rfl, hfz, hnd⟩ := hW
  have hA : DataW.TrodAll enc Tryd.prog W 0 (fun _ => true) true Tryd.f5.params.toList args.toList ds p := hA0
  rw [Tryd.params5] at hA hval; obtain ⟨v0, vs0, d0, ds0, p0, q0, hargs, rfl, rfl, h0, r0⟩ := trodAll_cons hA; obtain ⟨rfl, rfl, rfl⟩ := trodAll_nil r0
  obtain rfl : args = #[v0] := by cases args; simp_all
  have hV2 := hV
  obtain ⟨_, _, _, _, dg, _, rfl, _⟩ := trodVars_one hV2
  have k0 := h0
  have lt0 : ∀ x ∈ p0, x.block < W.heap.size := by obtain ⟨m, hm⟩ := k0; exact DataW.trod_lt m _ _ _ hm
  obtain ⟨a0, rfl⟩ := open_recd (hval 0 35 v0 rfl rfl) h0; clear hA0 hval0
  refine (walkErec a0 W (tabs hL hsh)).mono fun e W' ⟨he, bel⟩ => ?_
  subst he
  exact ⟨_, rfl, _, _, _, [], _, _, hW', trodAll_mk1 (shut_bool Tryd.underlying4 _), (trodAll_cons_mk (Below.trod laidOut (by kernel_rfl) (of_decide_eq_true (by kernel_rfl)) k0 bel lt0) trodAll_mk0), Below.trodVars laidOut bel (by kernel_rfl) hV, bel.frame _, fun h => by cases h⟩
/-- What a datum of one or two levels reads as, cell for cell. -/
def flat0 : DataW Unit → List Value
  | .lit (.int k n) => [.int k n]
  | .lit (.string s) => [.string ⟨s.toArray⟩]
  | .lit (.bool b) => [.bool b]
  | _ => []
def flat1 : DataW Unit → List Value
  | .agg l => l.flatMap flat0
  | d => flat0 d
def flat2 : DataW Unit → List Value
  | .agg l => l.flatMap flat1
  | d => flat0 d
def put (d : DataW Unit) : Obj → Obj
  | .cells _ t frozen => .cells (flat2 d).toArray t frozen
  | o => o
/-- A world for the witness: the settled one, the tables holding what their initialisers lay. -/
noncomputable def laidWorld (os : Os) : World :=
  { World.holding Tryd.prog os ⟨#[], #[], []⟩ with heap := ((((((World.holding Tryd.prog os ⟨#[], #[], []⟩).heap.modify 0 (put Rows.laid_loop_example_turnback_impl_lineFormats)).modify 4 (put Rows.laid_unicode_utf8_first)).modify 5 (put Rows.laid_unicode_utf8_acceptRanges)).modify 6 (put Rows.laid_internal_strconv_uint64pow10)).modify 7 (put Rows.laid_math_bits_deBruijn32tab)).modify 8 (put Rows.laid_math_bits_deBruijn64tab) }
theorem laid_met (os : Os) : laidMet Tryd.prog Rows.fnExactRecTextRow.laid ((laidWorld os).forCall (fun _ _ => 0) ⟨#[], #[.agg #[.int .i64 0, .int .i64 0, .int .i64 0, .int .i64 0, .int .i64 0, .int .i64 0, .int .i64 0]], []⟩).memory :=
  laidMet_of_run' 8 (by kernel_rfl) (by kernel_rfl)
theorem reads (os : Os) {H : Type} (enc : TypeId × Value → H) : ∃ (gs : List (DataW H)) (places : List MemPlace), DataW.whole enc Tryd.prog ((laidWorld os).forCall (fun _ _ => 0) ⟨#[], #[.agg #[.int .i64 0, .int .i64 0, .int .i64 0, .int .i64 0, .int .i64 0, .int .i64 0, .int .i64 0]], []⟩).memory Tryd.f5.params.toList Rows.fnExactRecTextSpec.vars false #[.agg #[.int .i64 0, .int .i64 0, .int .i64 0, .int .i64 0, .int .i64 0, .int .i64 0, .int .i64 0]].toList 8 = some ([.agg [.agg [.lit (.int .i64 0), .lit (.int .i64 0), .lit (.int .i64 0), .lit (.int .i64 0), .lit (.int .i64 0), .lit (.int .i64 0)], .lit (.int .i64 0)]], gs, places) := by
  have h : (DataW.whole enc Tryd.prog ((laidWorld os).forCall (fun _ _ => 0) ⟨#[], #[.agg #[.int .i64 0, .int .i64 0, .int .i64 0, .int .i64 0, .int .i64 0, .int .i64 0, .int .i64 0]], []⟩).memory Tryd.f5.params.toList Rows.fnExactRecTextSpec.vars false #[.agg #[.int .i64 0, .int .i64 0, .int .i64 0, .int .i64 0, .int .i64 0, .int .i64 0, .int .i64 0]].toList 8).map (fun x => x.1) = some [.agg [.agg [.lit (.int .i64 0), .lit (.int .i64 0), .lit (.int .i64 0), .lit (.int .i64 0), .lit (.int .i64 0), .lit (.int .i64 0)], .lit (.int .i64 0)]] := by kernel_rfl
  obtain ⟨⟨ds, gs, places⟩, h1, h2⟩ := Option.map_eq_some_iff.mp h
  exact ⟨gs, places, by rw [h1]; exact congrArg (fun z => some (z, gs, places)) h2⟩
set_option maxRecDepth 100000 in
theorem lifted (os : Os) (started : os.Started) (H : Type) (enc : TypeId × Value → H) (F : Stop.Interp) :
    ReturnsInHanded {} Tryd.checked os 5 .any ((OpenSpec.ofChange Rows.fnExactRecTextSpec).preRow enc Tryd.prog Tryd.f5 Rows.fnExactRecTextRow.domain false Rows.fnExactRecTextRow.laid) (((OpenSpec.ofChange Rows.fnExactRecTextSpec).at F).post enc Tryd.prog Tryd.f5 false true false false) := by
  obtain ⟨gs, places, hx⟩ := reads os enc
  refine returnsInHanded_of_row (C := Tryd.checked) (s := OpenSpec.ofChange Rows.fnExactRecTextSpec) own started (by kernel_rfl) Tryd.func5
    (witness_row_at (enc := enc) (C := Tryd.checked) false (laidWorld os) #[.agg #[.int .i64 0, .int .i64 0, .int .i64 0, .int .i64 0, .int .i64 0, .int .i64 0, .int .i64 0]] rfl (by kernel_rfl) (by kernel_rfl) (by kernel_rfl)
      (OpenSpec.preRow_of_cond 8 hx (by kernel_rfl) (fun k hk => by cases hk) (by kernel_rfl) (laid_met os))) ?_
  intro W base args ds gs before hval hW _ _ _ hL hsh _
  exact contract H enc W base args ds gs before hval hW hL hsh
theorem said : Rows.FnExactRecTextSaid :=
  OpenClaim.holds_of_cond 5 Tryd.f5 rfl rfl rfl rfl rfl rfl rfl ⟨rfl, rfl, rfl, rfl, rfl⟩ rfl rfl rfl rfl rfl (by kernel_rfl) Tryd.func5 (by kernel_rfl)
    (of_decide_eq_true (by kernel_rfl)) (by unfold Func.isWrapper; first | (rw [if_pos (by decide +kernel)]; kernel_rfl) | (rw [if_neg (by decide +kernel)]; exact ⟨rfl, rfl⟩))
    (fun os started H enc _ F => by rw [OpenClaim.pre_eq_preRow]; exact lifted os started H enc F)
/-- No parameter wants a stand-in; the program's own looks are on. -/
theorem plain (f : FuncId) (fn : Func) (hf : Tryd.pinned.checked.prog.funcNamed "loop.example/turnback/laws.FnExactRecText" = some f) (hfn : Tryd.pinned.checked.prog.funcs[f]? = some fn) :
    true = Tryd.pinned.checked.prog.looks [] ∧ ∀ (j : Nat) t, fn.params[j]? = some t → Tryd.pinned.checked.prog.wantsStandIn t = false := by
  obtain rfl : f = 5 := Option.some.inj ((show Tryd.prog.funcNamed "loop.example/turnback/laws.FnExactRecText" = some 5 by kernel_rfl).symm.trans hf) |>.symm
  obtain rfl : fn = Tryd.f5 := (Option.some.inj (Tryd.func5.symm.trans hfn)).symm; refine ⟨by kernel_rfl, fun j t ht => ?_⟩; rw [Tryd.params5] at ht
  obtain rfl : t = 35 := by simpa using Array.mem_of_getElem? ht
  exact (show Tryd.prog.wantsStandIn 35 = false by kernel_rfl)
/-- The card. -/
theorem proved : Rows.FnExactRecTextCardSaid :=
  Claim7.holds_tied_plain_at .later [] _ _ _ _ said (fun _ h => by cases h) (by kernel_rfl) (fun _ h => by cases h) fnExactRecText_row_tie rfl ⟨rfl, rfl⟩ (by kernel_rfl) rfl plain (by kernel_rfl)
end Go.Proofs.YtlkmhmiamdbhcaaDoor.fnExactRecText

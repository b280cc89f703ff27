/-
  What FnExactCmbLook returns, in one sentence: true, with new blocks alone; for every model and two numbers.
  For every model and two numbers the law FnExactCmbLook returns true and leaves its arguments as they were; no condition.
-/
import Derived.Deep.RegionHeld3
import Derived.Test.YtipjcjjjkkaigaaDLElook01
import Derived.Test.YtipjcjjjkkaigaaDLElook02
import Derived.Test.YtipjcjjjkkaigaaDLElook08
import Derived.Test.YtipjcjjjkkaigaaDLElook09
import Derived.Test.YtipjcjjjkkaigaaDLElook10
import Derived.Test.YtipjcjjjkkaigaaDLElook11
import Derived.Test.YtipjcjjjkkaigaaRows
namespace Go.Proofs.Ytipjcjjjkkaigaa
set_option maxRecDepth 100000
open Go.RowKit
theorem two_upk {w w' : World} {b0 b1 : Nat} {x0 x1 x2 y0 y1 y2 : Value} (u : Up w w')
    (h : b0 < w.heap.size ∧ b1 < w.heap.size ∧ w.cell? ⟨b0, 0, none⟩ = some x0 ∧ w.cell? ⟨b0, 1, none⟩ = some x1 ∧ w.cell? ⟨b0, 2, none⟩ = some x2 ∧ w.cell? ⟨b1, 0, none⟩ = some y0 ∧ w.cell? ⟨b1, 1, none⟩ = some y1 ∧ w.cell? ⟨b1, 2, none⟩ = some y2) :
    b0 < w'.heap.size ∧ b1 < w'.heap.size ∧ w'.cell? ⟨b0, 0, none⟩ = some x0 ∧ w'.cell? ⟨b0, 1, none⟩ = some x1 ∧ w'.cell? ⟨b0, 2, none⟩ = some x2 ∧ w'.cell? ⟨b1, 0, none⟩ = some y0 ∧ w'.cell? ⟨b1, 1, none⟩ = some y1 ∧ w'.cell? ⟨b1, 2, none⟩ = some y2 := by
  obtain ⟨h0, h1, k0, k1, k2, l0, l1, l2⟩ := h
  have := u.size
  exact ⟨by omega, by omega, (u.cells _ _ h0).trans k0, (u.cells _ _ h0).trans k1, (u.cells _ _ h0).trans k2, (u.cells _ _ h1).trans l0, (u.cells _ _ h1).trans l1, (u.cells _ _ h1).trans l2⟩
set_option maxHeartbeats 8000000 in
theorem walkElook (v : Value) (m : Mdl) (fr to : Int) {w : World} (h : ∃ A n c B k d, v = .agg #[.slice A n c, .slice B k d, .int .i64 m.til] ∧ MdlV w A n B k m) :
    Calls Try.prog 5 #[v, .int .i64 fr, .int .i64 to] w fun x w' => x = .returned (.bool true) ∧ Up w w' := by
  obtain ⟨A, n, c, B, k, d, rfl, hM⟩ := h
  have HM := Lib.hid hM
  have hk := hM.big
  have BX := Lib.hid (Box3.new w (.slice A n c) (.slice B k d) (.int .i64 m.til) 25)
  have CS := Lib.hid (fun W (u : Up w W) => szMdl_any A n c B k d m W (hM.up u))
  have CT := Lib.hid (fun W (u : Up w W) hS => toMdl_any A n c B k d m W (hM.up u) hS)
  have CP := Lib.hid (fun A n c B k d W (h : MdlV W A n B k m) => specLook_any A n c B k d m fr to W h)
  have CI := Lib.hid (fun A n c B k d W (h : MdlV W A n B k m) => implLook_any A n c B k d m fr to W h)
  have CE := Lib.hid (fun A n c B k d A' n' c' B' k' d' W (h1 : MdlV W A n B k m) (h2 : MdlV W A' n' B' k' m) (hS : FitM m) => eqMdl_any A n c B k d m A' n' c' B' k' d' m W h1 h2 hS)
  have DM := Lib.hid (show decide (m = m) = true from decide_eq_true rfl)
  generalize lookV m fr to = b at CP CI
  clear hM
  have bne0 : (b != b) = false := by simp
  unfold NewMdl at CT
  generalize htil : m.til = til at *
  go_enter Try.func5, Try.ntmps5
  go_wp2_with fail
  refine (CS.out _ ((Up.refl _).alloc _)).mono ?_; rintro x w1 ⟨z, rfl, hz, u1⟩
  have U1 := Lib.hid (((Up.refl w).alloc _).trans u1)
  have B1 := Lib.hid (BX.out.up u1)
  clear u1
  rcases hz with rfl | ⟨z0, z1, hS⟩
  · go_wp2
    go_ret
    exact ⟨rfl, U1.out⟩
  · have SH := Lib.hid hS
    have j0 : ¬ z < 0 := by omega
    clear hS; obtain ⟨q0, q1, q2⟩ := And.intro B1.out.c0 (And.intro B1.out.c1 B1.out.c2)
    go_wp2_with fail
    refine (CT.out _ U1.out SH.out).mono ?_; rintro x w2 ⟨g1, g2, rfl, hg1, hg2, o1, o2, u2⟩
    have O1 := Lib.hid o1
    have O2 := Lib.hid o2
    have U2 := Lib.hid (U1.out.trans u2)
    clear o1 o2
    go_wp2_with fail
    refine (CP.out (some ⟨g1, 0, none⟩) n n (some ⟨g2, 0, none⟩) k k _ (NewMdl.v O1.out O2.out hk)).mono ?_; rintro x w3 ⟨rfl, u3⟩
    have U3 := Lib.hid (U2.out.trans u3)
    have B3 := Lib.hid ((B1.out.up u2).up u3)
    clear u2 u3 O1 O2 hg1 hg2 q0 q1 q2; obtain ⟨q0, q1, q2⟩ := And.intro B3.out.c0 (And.intro B3.out.c1 B3.out.c2)
    go_wp2_with fail
    refine (CT.out _ U3.out SH.out).mono ?_; rintro x w4 ⟨g3, g4, rfl, hg3, hg4, o3, o4, u4⟩
    have ua := (Up.refl w4).alloc (.cells #[.slice (some ⟨g3, 0, none⟩) n n, .slice (some ⟨g4, 0, none⟩) k k, .int .i64 til] 38)
    have V4 := Lib.hid ((NewMdl.v o3 o4 hk).up ua)
    have U4 := Lib.hid ((U3.out.trans u4).trans ua)
    have B4 := Lib.hid ((B3.out.up u4).up ua)
    have X4 := Lib.hid (Box3.new w4 (.slice (some ⟨g3, 0, none⟩) n n) (.slice (some ⟨g4, 0, none⟩) k k) (.int .i64 til) 38)
    clear u4 o3 o4 hg3 hg4 q0 q1 q2 ua
    go_wp2_with fail
    generalize hb1 : w4.heap.size = b1 at X4 ⊢
    generalize w4.alloc (.cells #[.slice (some ⟨g3, 0, none⟩) n n, .slice (some ⟨g4, 0, none⟩) k k, .int .i64 til] 38) = W at V4 U4 B4 X4 ⊢
    clear hb1; refine (CI.out _ n n _ k k _ V4.out).mono ?_; rintro x w5 ⟨rfl, u5⟩
    have V5 := Lib.hid (V4.out.up u5)
    have U5 := Lib.hid (U4.out.trans u5)
    have B5 := B4.out.up u5
    have X5 := X4.out.up u5
    generalize hb0 : w.heap.size = b0 at B5
    have HB := And.intro B5.lt (And.intro X5.lt (And.intro B5.c0 (And.intro B5.c1 (And.intro B5.c2 (And.intro X5.c0 (And.intro X5.c1 X5.c2))))))
    have HH := Lib.hid HB
    clear u5 B5 X5 HB V4 U4 B4 X4 CI CP
    go_wp2_with fail
    try rw [hb0]
    clear hb0 BX B1 B3; obtain ⟨l0, l1, q0, q1, q2, r0, r1, r2⟩ := HH.out
    go_region_held3 (fun w' => b0 < w'.heap.size ∧ b1 < w'.heap.size ∧ w'.cell? ⟨b0, 0, none⟩ = some (.slice A n c) ∧ w'.cell? ⟨b0, 1, none⟩ = some (.slice B k d) ∧ w'.cell? ⟨b0, 2, none⟩ = some (.int .i64 til) ∧ w'.cell? ⟨b1, 0, none⟩ = some (.slice (some ⟨g3, 0, none⟩) n n) ∧ w'.cell? ⟨b1, 1, none⟩ = some (.slice (some ⟨g4, 0, none⟩) k k) ∧ w'.cell? ⟨b1, 2, none⟩ = some (.int .i64 til))
      (first | (exact HH.out) | (exact two_upk uF (by assumption)) | (exact two_upk uE (by assumption)))
      (first
        | (go_at_call 12; refine (CT.out _ (U5.out.trans (Up.refl _).drew) SH.out).mono ?_; rintro x wE ⟨g5, g6, rfl, hg5, hg6, o5, o6, uE⟩; have VE := Lib.hid (NewMdl.v o5 o6 hk); clear o5 o6)
        | (go_at_call 15; refine (CE.out _ n n _ k k _ n n _ k k _ (V5.out.up ((Up.refl _).drew.trans uE)) VE.out SH.out.fit).mono ?_; rintro x wF ⟨rfl, uF⟩))
    have U9 := Lib.hid (U5.out.trans (((Up.refl _).drew.trans uE).trans uF))
    clear uE uF l0 l1 q0 q1 q2 r0 r1 r2; go_wp2; go_ret
    exact ⟨rfl, U9.out⟩
end Go.Proofs.Ytipjcjjjkkaigaa

namespace Go.Proofs.Ytipjcjjjkkaigaa.fnExactCmbLook
set_option maxRecDepth 100000
open Go.ChangeShapes Go.WideShapes Go.ChangeAt Go.RowKit Go.Joins Go.Deep
set_option linter.unusedVariables false
set_option maxRecDepth 100000 in
theorem lifted (os : Os) (started : os.Started) (H : Type) (enc : TypeId × Value → H) :
    ReturnsInHanded {} Try.checked os 5 .any (Rows.fnExactCmbLookSpec.pre6 enc Try.prog Try.f5 Rows.fnExactCmbLookRow.domain false) (Rows.fnExactCmbLookSpec.post enc Try.prog Try.f5 false true false false) := by
  refine returnsInHanded_of_change (C := Try.checked) own started (by kernel_rfl) Try.func5
    (ChangeSpec.witness6 (enc := enc) (C := Try.checked) false ⟨#[], #[.agg #[.slice none 0 0, .slice none 0 0, .int .i64 0], .int .i64 0, .int .i64 0], []⟩ 8 (by kernel_rfl) (by kernel_rfl) (by kernel_rfl) (by kernel_rfl)) ?_
  intro W base args ds gs before hval0 hW hcnd _
  have hval : ∀ (j : Nat) t v, Try.f5.params[j]? = some t → args[j]? = some v → Value.okWide Try.prog W .any base t v := hval0
  have hW' := hW
  obtain ⟨p, q, hA0, hV, rfl, hfz, hnd⟩ := hW
  have hA : DataW.TrodAll enc Try.prog W 0 (fun _ => true) true Try.f5.params.toList args.toList ds p := hA0
  rw [Try.params5] at hA hval; obtain ⟨v0, vs0, d0, ds0, p0, q0, hargs, rfl, rfl, h0, r0⟩ := trodAll_cons hA; obtain ⟨v1, vs1, d1, ds1, p1, q1, rfl, rfl, rfl, h1, r1⟩ := trodAll_cons r0; obtain ⟨v2, vs2, d2, ds2, p2, q2, rfl, rfl, rfl, h2, r2⟩ := trodAll_cons r1; obtain ⟨rfl, rfl, rfl⟩ := trodAll_nil r2
  obtain rfl : args = #[v0, v1, v2] := by cases args; simp_all
  obtain ⟨rfl, rfl⟩ := trodVars_none hV
  have k0 := h0
  have lt0 : ∀ x ∈ p0, x.block < W.heap.size := by obtain ⟨m, hm⟩ := k0; exact DataW.trod_lt m _ _ _ hm
  obtain ⟨a0, w0⟩ := open_mdl (hval 0 25 v0 rfl rfl) h0
  have k1 := h1
  have lt1 : ∀ x ∈ p1, x.block < W.heap.size := by obtain ⟨m, hm⟩ := k1; exact DataW.trod_lt m _ _ _ hm
  obtain ⟨a1, rfl, rfl, rfl, w1'⟩ := open_int Try.underlying3 (hval 1 3 v1 rfl rfl) h1
  have w1 := i64_of_wf w1'
  have k2 := h2
  have lt2 : ∀ x ∈ p2, x.block < W.heap.size := by obtain ⟨m, hm⟩ := k2; exact DataW.trod_lt m _ _ _ hm
  obtain ⟨a2, rfl, rfl, rfl, w2'⟩ := open_int Try.underlying3 (hval 2 3 v2 rfl rfl) h2
  have w2 := i64_of_wf w2'
  clear hA0 hval0
  refine (walkElook v0 a0 a1 a2 w0).mono fun e W' ⟨he, bel⟩ => ?_
  subst he
  exact ⟨_, rfl, _, _, _, [], _, [], hW', trodAll_mk1 (shut_bool Try.underlying4 _), (trodAll_cons_mk (Below.trod laidOut (by kernel_rfl) (of_decide_eq_true (by kernel_rfl)) k0 bel lt0) (trodAll_cons_mk (Below.trod laidOut (by kernel_rfl) (of_decide_eq_true (by kernel_rfl)) k1 bel lt1) (trodAll_cons_mk (Below.trod laidOut (by kernel_rfl) (of_decide_eq_true (by kernel_rfl)) k2 bel lt2) trodAll_mk0))), rfl, bel.frame _, fun h => by cases h⟩
theorem over : Rows.fnExactCmbLookRow.holds Try.pinned (OpenSpec.ofChange Rows.fnExactCmbLookSpec) :=
  OpenClaim.holds_of_wide 5 Try.f5 rfl rfl rfl rfl rfl rfl rfl ⟨rfl, rfl, rfl, rfl, rfl⟩ rfl rfl rfl rfl rfl (by kernel_rfl) Try.func5 (by kernel_rfl)
    (of_decide_eq_true (by kernel_rfl)) (by unfold Func.isWrapper; first | (rw [if_pos (by decide +kernel)]; kernel_rfl) | (rw [if_neg (by decide +kernel)]; exact ⟨rfl, rfl⟩))
    (fun os started H enc _ => lifted os started H enc)
theorem proved : Rows.FnExactCmbLookSaid := over
end Go.Proofs.Ytipjcjjjkkaigaa.fnExactCmbLook

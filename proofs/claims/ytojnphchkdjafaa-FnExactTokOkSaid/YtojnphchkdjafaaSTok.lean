/-
  What spec.MrkOk and spec.TokOk return, in one sentence: whether the model is one and the mark, or the token, is valid of it; for every model that lies in memory.
-/
import Derived.Test.YtojnphchkdjafaaGTok
import Derived.Test.YtojnphchkdjafaaSMdl
namespace Go.Proofs.Ytojnphchkdjafaa
set_option maxRecDepth 100000
open Go.RowKit

set_option maxHeartbeats 4000000 in
theorem specMrk_any (A : Option Addr) (n c : Nat) (B : Option Addr) (k d : Nat) (m : Mdl) (g : Gm) (w : World) (hM : MdlV w A n B k m) :
    Calls Try.prog 13 #[.agg #[.slice A n c, .slice B k d, .int .i64 m.til], g.v] w fun x w' => x = .returned (.bool (mdlB m && gmB m.til g)) ∧ Up w w' := by
  have LR : m.rules.length = n := hM.rules.1
  have CM := Lib.hid (fun W (u : Up w W) => specMdl_any A n c B k d m W (hM.up u))
  have FEW := Lib.hid (fun (h : mdlB m = true) => (show 0 ≤ m.til ∧ m.til ≤ 99 ∧ 1 ≤ n ∧ n ≤ 4 by simp only [mdlB, Bool.and_eq_true] at h; have h1 := inB_iff.1 h.1.1.1; have h2 := inB_iff.1 h.1.1.2; omega))
  obtain ⟨res, hres⟩ : ∃ r, r = (mdlB m && gmB m.til g) := ⟨_, rfl⟩
  rw [← hres]
  try rw [LR] at hres
  have RES := Lib.hid hres
  clear hres LR
  generalize mdlB m = bm at *
  obtain ⟨gr, ge, gq, gl⟩ := g
  unfold Gm.v gmB at *
  dsimp only at *
  have X0 := Lib.hid ((Bk.new w #[.slice A n c, .slice B k d, .int .i64 m.til] 26).alloc (.cells #[.int .i64 gr, .int .i64 ge, .int .i64 gq, .int .i64 gl] 28))
  have X1 := Lib.hid (Bk.new (w.alloc (.cells #[.slice A n c, .slice B k d, .int .i64 m.til] 26)) #[.int .i64 gr, .int .i64 ge, .int .i64 gq, .int .i64 gl] 28)
  simp only [World.size_alloc] at X1
  have ua := Lib.hid (((Up.refl w).alloc (.cells #[.slice A n c, .slice B k d, .int .i64 m.til] 26)).alloc (.cells #[.int .i64 gr, .int .i64 ge, .int .i64 gq, .int .i64 gl] 28))
  clear hM
  generalize m.til = til at *
  go_enter Try.func13, Try.ntmps13
  go_wp2_with fail
  refine (CM.out _ ua.out).mono ?_
  rintro x w1 ⟨rfl, u1⟩
  have U1 := Lib.hid (ua.out.trans u1)
  replace X0 := Lib.hid (X0.out.up u1)
  replace X1 := Lib.hid (X1.out.up u1)
  clear u1 ua CM
  cases bm
  · go_wp2
    go_ret
    exact ⟨ret_bool (by rw [RES.out]; rfl), U1.out⟩
  · obtain ⟨t0, t1, n0, n1⟩ := FEW.out rfl
    have i1 : IntKind.i64.wrap (til + 1) = til + 1 := IntWalk.i64_in _ (by omega)
    have i2 : IntKind.i64.wrap ((n : Int) - 1) = (n : Int) - 1 := IntWalk.i64_in _ (by omega)
    clear FEW
    have z0 := X0.out.cell (j := 0) rfl
    have z1 := X0.out.cell (j := 1) rfl
    have z2 := X0.out.cell (j := 2) rfl
    have y0 := X1.out.cell (j := 0) rfl
    have y1 := X1.out.cell (j := 1) rfl
    have y2 := X1.out.cell (j := 2) rfl
    have y3 := X1.out.cell (j := 3) rfl
    go_wp2_with (go_at_call 40; refine (l1In_any _ _ _ _).mono ?_; rintro e w' ⟨rfl, rfl⟩)
    all_goals go_ret
    all_goals exact ⟨ret_bool (by rw [RES.out]; simp [*]), U1.out⟩

set_option maxHeartbeats 4000000 in
theorem specTok_any (A : Option Addr) (n c : Nat) (B : Option Addr) (k d : Nat) (m : Mdl) (g : Gk) (w : World) (hM : MdlV w A n B k m) :
    Calls Try.prog 14 #[.agg #[.slice A n c, .slice B k d, .int .i64 m.til], g.v] w fun x w' => x = .returned (.bool (mdlB m && gkB m.til m.rules.length g)) ∧ Up w w' := by
  have LR : m.rules.length = n := hM.rules.1
  have CM := Lib.hid (fun W (u : Up w W) => specMdl_any A n c B k d m W (hM.up u))
  have FEW := Lib.hid (fun (h : mdlB m = true) => (show 0 ≤ m.til ∧ m.til ≤ 99 ∧ 1 ≤ n ∧ n ≤ 4 by simp only [mdlB, Bool.and_eq_true] at h; have h1 := inB_iff.1 h.1.1.1; have h2 := inB_iff.1 h.1.1.2; omega))
  obtain ⟨res, hres⟩ : ∃ r, r = (mdlB m && gkB m.til m.rules.length g) := ⟨_, rfl⟩
  rw [← hres]
  try rw [LR] at hres
  have RES := Lib.hid hres
  clear hres LR
  generalize mdlB m = bm at *
  obtain ⟨ton, tr, ta, tn, tl⟩ := g
  unfold Gk.v gkB at *
  dsimp only at *
  have X0 := Lib.hid ((Bk.new w #[.slice A n c, .slice B k d, .int .i64 m.til] 26).alloc (.cells #[.bool ton, .int .i64 tr, .int .i64 ta, .int .i64 tn, .int .i64 tl] 32))
  have X1 := Lib.hid (Bk.new (w.alloc (.cells #[.slice A n c, .slice B k d, .int .i64 m.til] 26)) #[.bool ton, .int .i64 tr, .int .i64 ta, .int .i64 tn, .int .i64 tl] 32)
  simp only [World.size_alloc] at X1
  have ua := Lib.hid (((Up.refl w).alloc (.cells #[.slice A n c, .slice B k d, .int .i64 m.til] 26)).alloc (.cells #[.bool ton, .int .i64 tr, .int .i64 ta, .int .i64 tn, .int .i64 tl] 32))
  clear hM
  generalize m.til = til at *
  go_enter Try.func14, Try.ntmps14
  go_wp2_with fail
  refine (CM.out _ ua.out).mono ?_
  rintro x w1 ⟨rfl, u1⟩
  have U1 := Lib.hid (ua.out.trans u1)
  replace X0 := Lib.hid (X0.out.up u1)
  replace X1 := Lib.hid (X1.out.up u1)
  clear u1 ua CM
  cases bm
  · go_wp2
    go_ret
    exact ⟨ret_bool (by rw [RES.out]; rfl), U1.out⟩
  · obtain ⟨t0, t1, n0, n1⟩ := FEW.out rfl
    have i1 : IntKind.i64.wrap (til + 1) = til + 1 := IntWalk.i64_in _ (by omega)
    have i2 : IntKind.i64.wrap ((n : Int) - 1) = (n : Int) - 1 := IntWalk.i64_in _ (by omega)
    clear FEW
    have z0 := X0.out.cell (j := 0) rfl
    have z1 := X0.out.cell (j := 1) rfl
    have z2 := X0.out.cell (j := 2) rfl
    have y0 := X1.out.cell (j := 0) rfl
    have y1 := X1.out.cell (j := 1) rfl
    have y2 := X1.out.cell (j := 2) rfl
    have y3 := X1.out.cell (j := 3) rfl
    have y4 := X1.out.cell (j := 4) rfl
    go_wp2_with (go_at_call 40; refine (l1In_any _ _ _ _).mono ?_; rintro e w' ⟨rfl, rfl⟩)
    all_goals go_ret
    all_goals exact ⟨ret_bool (by rw [RES.out]; simp [*]), U1.out⟩

end Go.Proofs.Ytojnphchkdjafaa

/-
  What FnExactHstLeast returns, in one sentence: true, with new blocks alone; for every model, component and host that lie in memory.
  For every model, every number and every host the law FnExactHstLeast returns true and leaves its arguments as they were; no condition.
-/
import Derived.Deep.RegionHeld3
import Derived.Test.YtlkmhmiamdbhcabGreatDLElst01
import Derived.Test.YtlkmhmiamdbhcabGreatDLElst02
import Derived.Test.YtlkmhmiamdbhcabGreatDLElst05
import Derived.Test.YtlkmhmiamdbhcabGreatDLElst08
import Derived.Test.YtlkmhmiamdbhcabGreatDLElst10
import Derived.Test.YtlkmhmiamdbhcabGreatDLElst11
import Derived.Test.YtlkmhmiamdbhcabGreatDLElst23
import Derived.Test.YtlkmhmiamdbhcabGreatDLElst35
import Derived.Test.YtlkmhmiamdbhcabGreatDLElst36
import Derived.Test.YtlkmhmiamdbhcabGreatDLElst37
import Derived.Test.YtlkmhmiamdbhcabGreatRows
namespace Go.Proofs.YtlkmhmiamdbhcabGreat
set_option maxRecDepth 100000
open Go.RowKit
theorem blk8l_up {w w' : World} {b c : Nat} {x0 x1 x2 x3 x4 x5 x6 x7 y0 y1 y2 y3 y4 y5 y6 y7 : Value} (u : Up w w')
    (h : b < w.heap.size ∧ c < w.heap.size ∧ w.cell? ⟨b, 0, none⟩ = some x0 ∧ w.cell? ⟨b, 1, none⟩ = some x1 ∧ w.cell? ⟨b, 2, none⟩ = some x2 ∧ w.cell? ⟨b, 3, none⟩ = some x3 ∧ w.cell? ⟨b, 4, none⟩ = some x4 ∧ w.cell? ⟨b, 5, none⟩ = some x5 ∧ w.cell? ⟨b, 6, none⟩ = some x6 ∧ w.cell? ⟨b, 7, none⟩ = some x7 ∧ w.cell? ⟨c, 0, none⟩ = some y0 ∧ w.cell? ⟨c, 1, none⟩ = some y1 ∧ w.cell? ⟨c, 2, none⟩ = some y2 ∧ w.cell? ⟨c, 3, none⟩ = some y3 ∧ w.cell? ⟨c, 4, none⟩ = some y4 ∧ w.cell? ⟨c, 5, none⟩ = some y5 ∧ w.cell? ⟨c, 6, none⟩ = some y6 ∧ w.cell? ⟨c, 7, none⟩ = some y7) :
    b < w'.heap.size ∧ c < w'.heap.size ∧ w'.cell? ⟨b, 0, none⟩ = some x0 ∧ w'.cell? ⟨b, 1, none⟩ = some x1 ∧ w'.cell? ⟨b, 2, none⟩ = some x2 ∧ w'.cell? ⟨b, 3, none⟩ = some x3 ∧ w'.cell? ⟨b, 4, none⟩ = some x4 ∧ w'.cell? ⟨b, 5, none⟩ = some x5 ∧ w'.cell? ⟨b, 6, none⟩ = some x6 ∧ w'.cell? ⟨b, 7, none⟩ = some x7 ∧ w'.cell? ⟨c, 0, none⟩ = some y0 ∧ w'.cell? ⟨c, 1, none⟩ = some y1 ∧ w'.cell? ⟨c, 2, none⟩ = some y2 ∧ w'.cell? ⟨c, 3, none⟩ = some y3 ∧ w'.cell? ⟨c, 4, none⟩ = some y4 ∧ w'.cell? ⟨c, 5, none⟩ = some y5 ∧ w'.cell? ⟨c, 6, none⟩ = some y6 ∧ w'.cell? ⟨c, 7, none⟩ = some y7 := by
  obtain ⟨h0, h1, k0, k1, k2, k3, k4, k5, k6, k7, l0, l1, l2, l3, l4, l5, l6, l7⟩ := h
  have := u.size
  exact ⟨by omega, by omega, (u.cells _ _ h0).trans k0, (u.cells _ _ h0).trans k1, (u.cells _ _ h0).trans k2, (u.cells _ _ h0).trans k3, (u.cells _ _ h0).trans k4, (u.cells _ _ h0).trans k5, (u.cells _ _ h0).trans k6, (u.cells _ _ h0).trans k7, (u.cells _ _ h1).trans l0, (u.cells _ _ h1).trans l1, (u.cells _ _ h1).trans l2, (u.cells _ _ h1).trans l3, (u.cells _ _ h1).trans l4, (u.cells _ _ h1).trans l5, (u.cells _ _ h1).trans l6, (u.cells _ _ h1).trans l7⟩
def IsMl (m : Mdl) (til : Int) (n k : Nat) (v : Value) (w : World) : Prop := ∃ A B, v = .agg #[.slice A n n, .slice B k k, .int .i64 til] ∧ MdlV w A n B k m
theorem IsMl.up {m : Mdl} {til : Int} {n k : Nat} {v : Value} {w w' : World} (h : IsMl m til n k v w) (u : Up w w') : IsMl m til n k v w' := by
  obtain ⟨A, B, h0, h1⟩ := h
  exact ⟨A, B, h0, h1.up u⟩
def IsHl (w0 w1 w2 ids : Int) (nd nw na nk : Nat) (x : Hst) (v : Value) (w : World) : Prop := ∃ gd gw ga gk : Nat, v = .agg #[.int .i64 w0, .int .i64 w1, .int .i64 w2, .int .i64 ids, .slice (some ⟨gd, 0, none⟩) nd nd, .slice (some ⟨gw, 0, none⟩) nw nw, .slice (some ⟨ga, 0, none⟩) na na, .slice (some ⟨gk, 0, none⟩) nk nk] ∧ HstV w (some ⟨gd, 0, none⟩) nd (some ⟨gw, 0, none⟩) nw (some ⟨ga, 0, none⟩) na (some ⟨gk, 0, none⟩) nk x
theorem IsHl.up {w0 w1 w2 ids : Int} {nd nw na nk : Nat} {x : Hst} {v : Value} {w w' : World} (h : IsHl w0 w1 w2 ids nd nw na nk x v w) (u : Up w w') : IsHl w0 w1 w2 ids nd nw na nk x v w' := by
  obtain ⟨gd, gw, ga, gk, h0, h1⟩ := h
  exact ⟨gd, gw, ga, gk, h0, h1.up u⟩
def hlA (VM VH : Value) (m : Mdl) (til comp w0 w1 w2 ids : Int) (n k nd nw na nk : Nat) (x : Hst) (r : Int) (i : Nat) (v : Value) (w : World) : Prop :=
  if i = 22 then v = VM else if i = 23 then IsMl m til n k v w else if i = 24 then v = .int .i64 comp else if i = 25 then v = VH else if i = 26 then IsHl w0 w1 w2 ids nd nw na nk x v w else if i = 27 then v = .int .i64 r else True
theorem hlA_22 (VM VH : Value) (m : Mdl) (til comp w0 w1 w2 ids : Int) (n k nd nw na nk : Nat) (x : Hst) (r : Int) (v : Value) (w : World) : hlA VM VH m til comp w0 w1 w2 ids n k nd nw na nk x r 22 v w = (v = VM) := by simp [hlA]
theorem hlA_23 (VM VH : Value) (m : Mdl) (til comp w0 w1 w2 ids : Int) (n k nd nw na nk : Nat) (x : Hst) (r : Int) (v : Value) (w : World) : hlA VM VH m til comp w0 w1 w2 ids n k nd nw na nk x r 23 v w = (IsMl m til n k v w) := by simp [hlA]
theorem hlA_24 (VM VH : Value) (m : Mdl) (til comp w0 w1 w2 ids : Int) (n k nd nw na nk : Nat) (x : Hst) (r : Int) (v : Value) (w : World) : hlA VM VH m til comp w0 w1 w2 ids n k nd nw na nk x r 24 v w = (v = .int .i64 comp) := by simp [hlA]
theorem hlA_25 (VM VH : Value) (m : Mdl) (til comp w0 w1 w2 ids : Int) (n k nd nw na nk : Nat) (x : Hst) (r : Int) (v : Value) (w : World) : hlA VM VH m til comp w0 w1 w2 ids n k nd nw na nk x r 25 v w = (v = VH) := by simp [hlA]
theorem hlA_26 (VM VH : Value) (m : Mdl) (til comp w0 w1 w2 ids : Int) (n k nd nw na nk : Nat) (x : Hst) (r : Int) (v : Value) (w : World) : hlA VM VH m til comp w0 w1 w2 ids n k nd nw na nk x r 26 v w = (IsHl w0 w1 w2 ids nd nw na nk x v w) := by simp [hlA]
theorem hlA_27 (VM VH : Value) (m : Mdl) (til comp w0 w1 w2 ids : Int) (n k nd nw na nk : Nat) (x : Hst) (r : Int) (v : Value) (w : World) : hlA VM VH m til comp w0 w1 w2 ids n k nd nw na nk x r 27 v w = (v = .int .i64 r) := by simp [hlA]
theorem hlA_up (VM VH : Value) (m : Mdl) (til comp w0 w1 w2 ids : Int) (n k nd nw na nk : Nat) (x : Hst) (r : Int) (i : Nat) {v : Value} {w w' : World} (h : hlA VM VH m til comp w0 w1 w2 ids n k nd nw na nk x r i v w) (u : Up w w') : hlA VM VH m til comp w0 w1 w2 ids n k nd nw na nk x r i v w' := by
  unfold hlA at h ⊢
  by_cases h22 : i = 22
  · rw [if_pos h22] at h ⊢
    exact h
  rw [if_neg h22] at h ⊢
  by_cases h23 : i = 23
  · rw [if_pos h23] at h ⊢
    exact h.up u
  rw [if_neg h23] at h ⊢
  by_cases h24 : i = 24
  · rw [if_pos h24] at h ⊢
    exact h
  rw [if_neg h24] at h ⊢
  by_cases h25 : i = 25
  · rw [if_pos h25] at h ⊢
    exact h
  rw [if_neg h25] at h ⊢
  by_cases h26 : i = 26
  · rw [if_pos h26] at h ⊢
    exact h.up u
  rw [if_neg h26] at h ⊢
  by_cases h27 : i = 27
  · rw [if_pos h27] at h ⊢
    exact h
  rw [if_neg h27] at h ⊢
  exact trivial
theorem newHl {x : Hst} {nd nw na nk gd gw ga gk lo : Nat} {w : World} (h1 : DonsF w lo gd nd x.done) (h2 : NewI w lo gw nw x.wait) (h3 : NewI w lo ga na x.anti) (h4 : NewK w lo gk nk x.keep) (hS : ShortH x nd nw na nk) : HstV w (some ⟨gd, 0, none⟩) nd (some ⟨gw, 0, none⟩) nw (some ⟨ga, 0, none⟩) na (some ⟨gk, 0, none⟩) nk x :=
  ⟨h1.dons, h2.v, h3.v, h4.v, by have := hS.w; omega, by have := hS.a; omega, by have := hS.k; omega⟩
set_option maxHeartbeats 16000000 in
theorem walkElst (v : Value) (m : Mdl) (comp : Int) (v' : Value) (h : Hst) {w : World} (h0 : ∃ A n c B k d, v = .agg #[.slice A n c, .slice B k d, .int .i64 m.til] ∧ MdlV w A n B k m)
    (h1 : ∃ Ad nd cd Aw nw cw Aa na ca Ak nk ck, v' = h.v (.slice Ad nd cd) (.slice Aw nw cw) (.slice Aa na ca) (.slice Ak nk ck) ∧ HstV w Ad nd Aw nw Aa na Ak nk h) :
    Calls Tryz.prog 3 #[v, .int .i64 comp, v'] w fun x w' => x = .returned (.bool true) ∧ Up w w' := by
  obtain ⟨A, n, c, B, k, d, rfl, hM⟩ := h0; obtain ⟨Ad, nd, cd, Aw, nw, cw, Aa, na, ca, Ak, nk, ck, rfl, hV⟩ := h1
  have hk := hM.big
  have CS := Lib.hid (fun W (u : Up w W) => szMdl_any A n c B k d m W (hM.up u))
  have CT := Lib.hid (fun W (u : Up w W) hS => toMdl_any A n c B k d m W (hM.up u) hS)
  have CE := Lib.hid (fun A n c B k d A' n' c' B' k' d' W (h1 : MdlV W A n B k m) (h2 : MdlV W A' n' B' k' m) (hS : FitM m) => eqMdl_any A n c B k d m A' n' c' B' k' d' m W h1 h2 hS)
  rw [decide_eq_true (rfl : m = m)] at CE
  have CZ := fun l W (u : Up w W) a b => szHst_any h Ad nd cd Aw nw cw Aa na ca Ak nk ck l W a b (hV.up u)
  have CQ := fun W (u : Up w W) hS => toHst_any h Ad nd cd Aw nw cw Aa na ca Ak nk ck W (hV.up u) hS
  have CV := fun a1 a2 a3 a4 b1 b2 b3 b4 W (h1 : HstV W a1 nd a2 nw a3 na a4 nk h) (h2 : HstV W b1 nd b2 nw b3 na b4 nk h) hS hl => eqHst_any h h a1 nd nd a2 nw nw a3 na na a4 nk nk b1 nd nd b2 nw nw b3 na na b4 nk nk W h1 h2 hS hl
  rw [decide_eq_true (rfl : h = h)] at CV; unfold NewHst at CQ; clear hM hV; obtain ⟨⟨w0, w1, w2⟩, ids, ds, ws, vs, ks⟩ := h; unfold Hst.v at CZ CQ CV ⊢; dsimp only at CZ CQ CV ⊢
  have CP := Lib.hid (fun A B a1 a2 a3 a4 W (h : MdlV W A n B k m) (hS : ShortH (⟨⟨w0, w1, w2⟩, ids, ds, ws, vs, ks⟩ : Hst) nd nw na nk) (hv : HstV W a1 nd a2 nw a3 na a4 nk (⟨⟨w0, w1, w2⟩, ids, ds, ws, vs, ks⟩ : Hst)) => specHstLeast_any A n n B k k m comp w0 w1 w2 ids a1 nd nd a2 nw nw a3 na na a4 nk nk ds ws vs ks W h hv.done hv.wait hv.anti hv.keep ⟨hS.d, hS.w, hS.a, hS.k⟩ hS.small)
  have CI := Lib.hid (fun A B a1 a2 a3 a4 W (h : MdlV W A n B k m) (hS : ShortH (⟨⟨w0, w1, w2⟩, ids, ds, ws, vs, ks⟩ : Hst) nd nw na nk) (hv : HstV W a1 nd a2 nw a3 na a4 nk (⟨⟨w0, w1, w2⟩, ids, ds, ws, vs, ks⟩ : Hst)) => implHstLeast_any A n n B k k m comp w0 w1 w2 ids a1 nd nd a2 nw nw a3 na na a4 nk nk ds ws vs ks W h hv.done hv.wait hv.anti hv.keep ⟨hS.d, hS.w, hS.a, hS.k⟩ hS.small)
  generalize (if (mdlB m && hostB m comp (⟨⟨w0, w1, w2⟩, ids, ds, ws, vs, ks⟩ : Hst)) = true then leastH m (⟨⟨w0, w1, w2⟩, ids, ds, ws, vs, ks⟩ : Hst) else -1) = r at CP CI
  replace CZ := Lib.hid CZ
  replace CQ := Lib.hid CQ
  replace CV := Lib.hid CV
  have bne0 : (r != r) = false := by simp
  unfold NewMdl at CT
  generalize htil : m.til = til at *
  have B0 := Lib.hid ((Box3.new w (.slice A n c) (.slice B k d) (.int .i64 til) 25).up ((Up.refl _).alloc (.cells #[.int .i64 w0, .int .i64 w1, .int .i64 w2, .int .i64 ids, .slice Ad nd cd, .slice Aw nw cw, .slice Aa na ca, .slice Ak nk ck] 32)))
  have B1 := Lib.hid (Blk.new (w.alloc (.cells #[.slice A n c, .slice B k d, .int .i64 til] 25)) #[.int .i64 w0, .int .i64 w1, .int .i64 w2, .int .i64 ids, .slice Ad nd cd, .slice Aw nw cw, .slice Aa na ca, .slice Ak nk ck] 32)
  simp only [World.size_alloc] at B1
  have UC := Lib.hid (((Up.refl w).alloc (.cells #[.slice A n c, .slice B k d, .int .i64 til] 25)).alloc (.cells #[.int .i64 w0, .int .i64 w1, .int .i64 w2, .int .i64 ids, .slice Ad nd cd, .slice Aw nw cw, .slice Aa na ca, .slice Ak nk ck] 32))
  go_enter Tryz.func3, Tryz.ntmps3
  go_wp2_with fail
  generalize (w.alloc (.cells #[.slice A n c, .slice B k d, .int .i64 til] 25)).alloc (.cells #[.int .i64 w0, .int .i64 w1, .int .i64 w2, .int .i64 ids, .slice Ad nd cd, .slice Aw nw cw, .slice Aa na ca, .slice Ak nk ck] 32) = W at *
  generalize hb1 : w.heap.size + 1 = b1 at *
  generalize hb0 : w.heap.size = b0 at *
  clear hb1 hb0; refine (CS.out _ UC.out).mono ?_; rintro x wA ⟨z, rfl, hz, u1⟩
  replace UC := Lib.hid (UC.out.trans u1)
  replace B0 := Lib.hid (B0.out.up u1)
  replace B1 := Lib.hid (B1.out.up u1)
  clear u1
  rcases hz with rfl | ⟨z0, z1, hS⟩
  · go_wp2
    go_ret
    exact ⟨rfl, UC.out⟩
  have SH := Lib.hid hS
  have j0 : ¬ z < 0 := by omega
  clear hS
  have y0 := B1.out.cell (j := 0) rfl; have y1 := B1.out.cell (j := 1) rfl; have y2 := B1.out.cell (j := 2) rfl; have y3 := B1.out.cell (j := 3) rfl; have y4 := B1.out.cell (j := 4) rfl; have y5 := B1.out.cell (j := 5) rfl; have y6 := B1.out.cell (j := 6) rfl; have y7 := B1.out.cell (j := 7) rfl; have ly := B1.out.lt
  go_wp2_with fail
  clear y0 y1 y2 y3 y4 y5 y6 y7 ly; refine (CZ.out z _ UC.out z0 z1).mono ?_; rintro x wB ⟨y, rfl, hz, u1⟩
  replace UC := Lib.hid (UC.out.trans u1)
  replace B0 := Lib.hid (B0.out.up u1)
  replace B1 := Lib.hid (B1.out.up u1)
  clear u1
  rcases hz with rfl | ⟨y0, y1, hS⟩
  · go_wp2
    go_ret
    exact ⟨rfl, UC.out⟩
  have SS := Lib.hid hS
  have j1 : ¬ y < 0 := by omega
  clear hS
  go_wp2_with fail
  generalize wB = W0 at *
  refine region_relyT 6 [] [(6, false)] [22, 23, 24, 25, 26, 27] 6 (fun _ wX => Up W0 wX) Up (fun i v w => hlA (.agg #[.slice A n c, .slice B k d, .int .i64 til]) (.agg #[.int .i64 w0, .int .i64 w1, .int .i64 w2, .int .i64 ids, .slice Ad nd cd, .slice Aw nw cw, .slice Aa na ca, .slice Ak nk ck]) m til comp w0 w1 w2 ids n k nd nw na nk (⟨⟨w0, w1, w2⟩, ids, ds, ws, vs, ks⟩ : Hst) r i v w) (by kernel_rfl) (by kernel_rfl) (by kernel_rfl) (by kernel_rfl) ((Up.refl _).drew) (fun slot_ _ _ _ h u => hlA_up (.agg #[.slice A n c, .slice B k d, .int .i64 til]) (.agg #[.int .i64 w0, .int .i64 w1, .int .i64 w2, .int .i64 ids, .slice Ad nd cd, .slice Aw nw cw, .slice Aa na ca, .slice Ak nk ck]) m til comp w0 w1 w2 ids n k nd nw na nk (⟨⟨w0, w1, w2⟩, ids, ds, ws, vs, ks⟩ : Hst) r slot_ h u) ?_ ?_ ?_
  · simp only [List.take_succ_cons, List.take_zero]
    refine stepsT_op (by kernel_rfl) ?_ ?_
    · intro X w1_ k1 hG hdep
      obtain ⟨q0, q1, q2⟩ := And.intro (B0.out.up hG).c0 (And.intro (B0.out.up hG).c1 (B0.out.up hG).c2); simp only [opW_def, mixT]; go_simp
      exact ⟨⟨_, by first | rfl | simp [Act.put], Up.refl _, hG, (show hlA (.agg #[.slice A n c, .slice B k d, .int .i64 til]) (.agg #[.int .i64 w0, .int .i64 w1, .int .i64 w2, .int .i64 ids, .slice Ad nd cd, .slice Aw nw cw, .slice Aa na ca, .slice Ak nk ck]) m til comp w0 w1 w2 ids n k nd nw na nk (⟨⟨w0, w1, w2⟩, ids, ds, ws, vs, ks⟩ : Hst) r 22 _ _ from by first | (rw [hlA_22]; exact rfl) | rw [hlA_22])⟩⟩
    refine stepsT_op (by kernel_rfl) ?_ ?_
    · intro X w1_ k1 hG hdep
      have e22 : hlA (.agg #[.slice A n c, .slice B k d, .int .i64 til]) (.agg #[.int .i64 w0, .int .i64 w1, .int .i64 w2, .int .i64 ids, .slice Ad nd cd, .slice Aw nw cw, .slice Aa na ca, .slice Ak nk ck]) m til comp w0 w1 w2 ids n k nd nw na nk (⟨⟨w0, w1, w2⟩, ids, ds, ws, vs, ks⟩ : Hst) r 22 (X 22) w1_ := hdep 22 (by decide +kernel)
      rw [hlA_22] at e22; simp only [opW_def, mixT, e22]; go_simp; refine (CT.out _ (UC.out.trans hG) SH.out).mono ?_; rintro x wZ ⟨g1, g2, rfl, _, _, o1, o2, u⟩
      exact ⟨⟨_, by first | rfl | simp [Act.put], u, hG.trans u, (show hlA (.agg #[.slice A n c, .slice B k d, .int .i64 til]) (.agg #[.int .i64 w0, .int .i64 w1, .int .i64 w2, .int .i64 ids, .slice Ad nd cd, .slice Aw nw cw, .slice Aa na ca, .slice Ak nk ck]) m til comp w0 w1 w2 ids n k nd nw na nk (⟨⟨w0, w1, w2⟩, ids, ds, ws, vs, ks⟩ : Hst) r 23 _ _ from by first | (rw [hlA_23]; exact ⟨_, _, rfl, NewMdl.v o1 o2 hk⟩) | rw [hlA_23])⟩⟩
    refine stepsT_op (by kernel_rfl) ?_ ?_
    · intro X w1_ k1 hG hdep
      simp only [opW_def, mixT]; go_simp
      exact ⟨⟨_, by first | rfl | simp [Act.put], Up.refl _, hG, (show hlA (.agg #[.slice A n c, .slice B k d, .int .i64 til]) (.agg #[.int .i64 w0, .int .i64 w1, .int .i64 w2, .int .i64 ids, .slice Ad nd cd, .slice Aw nw cw, .slice Aa na ca, .slice Ak nk ck]) m til comp w0 w1 w2 ids n k nd nw na nk (⟨⟨w0, w1, w2⟩, ids, ds, ws, vs, ks⟩ : Hst) r 24 _ _ from by first | (rw [hlA_24]; exact rfl) | rw [hlA_24])⟩⟩
    refine stepsT_op (by kernel_rfl) ?_ ?_
    · intro X w1_ k1 hG hdep
      have y0 := (B1.out.up hG).cell (j := 0) rfl; have y1 := (B1.out.up hG).cell (j := 1) rfl; have y2 := (B1.out.up hG).cell (j := 2) rfl; have y3 := (B1.out.up hG).cell (j := 3) rfl; have y4 := (B1.out.up hG).cell (j := 4) rfl; have y5 := (B1.out.up hG).cell (j := 5) rfl; have y6 := (B1.out.up hG).cell (j := 6) rfl; have y7 := (B1.out.up hG).cell (j := 7) rfl; have ly := (B1.out.up hG).lt
      simp only [opW_def, mixT]; go_simp
      exact ⟨⟨_, by first | rfl | simp [Act.put], Up.refl _, hG, (show hlA (.agg #[.slice A n c, .slice B k d, .int .i64 til]) (.agg #[.int .i64 w0, .int .i64 w1, .int .i64 w2, .int .i64 ids, .slice Ad nd cd, .slice Aw nw cw, .slice Aa na ca, .slice Ak nk ck]) m til comp w0 w1 w2 ids n k nd nw na nk (⟨⟨w0, w1, w2⟩, ids, ds, ws, vs, ks⟩ : Hst) r 25 _ _ from by first | (rw [hlA_25]; exact rfl) | rw [hlA_25])⟩⟩
    refine stepsT_op (by kernel_rfl) ?_ ?_
    · intro X w1_ k1 hG hdep
      have e25 : hlA (.agg #[.slice A n c, .slice B k d, .int .i64 til]) (.agg #[.int .i64 w0, .int .i64 w1, .int .i64 w2, .int .i64 ids, .slice Ad nd cd, .slice Aw nw cw, .slice Aa na ca, .slice Ak nk ck]) m til comp w0 w1 w2 ids n k nd nw na nk (⟨⟨w0, w1, w2⟩, ids, ds, ws, vs, ks⟩ : Hst) r 25 (X 25) w1_ := hdep 25 (by decide +kernel)
      rw [hlA_25] at e25; simp only [opW_def, mixT, e25]; go_simp; refine (CQ.out _ (UC.out.trans hG) SS.out).mono ?_; rintro x wZ ⟨gd, gw, ga, gk, rfl, v1, v2, v3, v4, u⟩
      exact ⟨⟨_, by first | rfl | simp [Act.put], u, hG.trans u, (show hlA (.agg #[.slice A n c, .slice B k d, .int .i64 til]) (.agg #[.int .i64 w0, .int .i64 w1, .int .i64 w2, .int .i64 ids, .slice Ad nd cd, .slice Aw nw cw, .slice Aa na ca, .slice Ak nk ck]) m til comp w0 w1 w2 ids n k nd nw na nk (⟨⟨w0, w1, w2⟩, ids, ds, ws, vs, ks⟩ : Hst) r 26 _ _ from by first | (rw [hlA_26]; exact ⟨_, _, _, _, rfl, newHl v1 v2 v3 v4 SS.out⟩) | rw [hlA_26])⟩⟩
    refine stepsT_op (by kernel_rfl) ?_ ?_
    · intro X w1_ k1 hG hdep
      have e23 : hlA (.agg #[.slice A n c, .slice B k d, .int .i64 til]) (.agg #[.int .i64 w0, .int .i64 w1, .int .i64 w2, .int .i64 ids, .slice Ad nd cd, .slice Aw nw cw, .slice Aa na ca, .slice Ak nk ck]) m til comp w0 w1 w2 ids n k nd nw na nk (⟨⟨w0, w1, w2⟩, ids, ds, ws, vs, ks⟩ : Hst) r 23 (X 23) w1_ := hdep 23 (by decide +kernel)
      rw [hlA_23] at e23; obtain ⟨A1, B2, e23, mv⟩ := e23
      have e24 : hlA (.agg #[.slice A n c, .slice B k d, .int .i64 til]) (.agg #[.int .i64 w0, .int .i64 w1, .int .i64 w2, .int .i64 ids, .slice Ad nd cd, .slice Aw nw cw, .slice Aa na ca, .slice Ak nk ck]) m til comp w0 w1 w2 ids n k nd nw na nk (⟨⟨w0, w1, w2⟩, ids, ds, ws, vs, ks⟩ : Hst) r 24 (X 24) w1_ := hdep 24 (by decide +kernel)
      rw [hlA_24] at e24
      have e26 : hlA (.agg #[.slice A n c, .slice B k d, .int .i64 til]) (.agg #[.int .i64 w0, .int .i64 w1, .int .i64 w2, .int .i64 ids, .slice Ad nd cd, .slice Aw nw cw, .slice Aa na ca, .slice Ak nk ck]) m til comp w0 w1 w2 ids n k nd nw na nk (⟨⟨w0, w1, w2⟩, ids, ds, ws, vs, ks⟩ : Hst) r 26 (X 26) w1_ := hdep 26 (by decide +kernel)
      rw [hlA_26] at e26; obtain ⟨gd, gw, ga, gk, e26, sv⟩ := e26; simp only [opW_def, mixT, e23, e24, e26]; go_simp; refine (CP.out _ _ _ _ _ _ w1_ mv SS.out sv).mono ?_; rintro x wZ ⟨rfl, u⟩
      exact ⟨⟨_, by first | rfl | simp [Act.put], u, hG.trans u, (show hlA (.agg #[.slice A n c, .slice B k d, .int .i64 til]) (.agg #[.int .i64 w0, .int .i64 w1, .int .i64 w2, .int .i64 ids, .slice Ad nd cd, .slice Aw nw cw, .slice Aa na ca, .slice Ak nk ck]) m til comp w0 w1 w2 ids n k nd nw na nk (⟨⟨w0, w1, w2⟩, ids, ds, ws, vs, ks⟩ : Hst) r 27 _ _ from by first | (rw [hlA_27]; exact rfl) | rw [hlA_27])⟩⟩
    exact trivial
  · intro h p _ hp
    cases hp
  · intro X wX hG hR
    have e27 : hlA (.agg #[.slice A n c, .slice B k d, .int .i64 til]) (.agg #[.int .i64 w0, .int .i64 w1, .int .i64 w2, .int .i64 ids, .slice Ad nd cd, .slice Aw nw cw, .slice Aa na ca, .slice Ak nk ck]) m til comp w0 w1 w2 ids n k nd nw na nk (⟨⟨w0, w1, w2⟩, ids, ds, ws, vs, ks⟩ : Hst) r 27 (X 27) wX := hR 5 (by omega)
    rw [hlA_27] at e27; simp only [mixT, e27]
    replace UC := Lib.hid (UC.out.trans hG)
    replace B0 := Lib.hid (B0.out.up hG)
    replace B1 := Lib.hid (B1.out.up hG)
    clear hR hG e27; refine mix_go rfl (by rfl) (fun K hK => ?_); go_simp; refine hK _ _ ?_; clear hK K; refine mix_nil ?_; obtain ⟨p0, p1, p2⟩ := And.intro B0.out.c0 (And.intro B0.out.c1 B0.out.c2)
    go_wp2_with fail
    refine (CT.out _ UC.out SH.out).mono ?_; rintro x w3 ⟨g1, g2, rfl, _, _, o1, o2, u3⟩
    have ua := (Up.refl w3).alloc (.cells #[.slice (some ⟨g1, 0, none⟩) n n, .slice (some ⟨g2, 0, none⟩) k k, .int .i64 til] 39)
    have X7 := Lib.hid (Box3.new w3 (.slice (some ⟨g1, 0, none⟩) n n) (.slice (some ⟨g2, 0, none⟩) k k) (.int .i64 til) 39)
    have V7 := Lib.hid ((NewMdl.v o1 o2 hk).up ua)
    have u := u3.trans ua
    replace UC := Lib.hid (UC.out.trans u)
    replace B0 := Lib.hid (B0.out.up u)
    replace B1 := Lib.hid (B1.out.up u)
    clear o1 o2 u3 ua u p0 p1 p2
    have y0 := B1.out.cell (j := 0) rfl; have y1 := B1.out.cell (j := 1) rfl; have y2 := B1.out.cell (j := 2) rfl; have y3 := B1.out.cell (j := 3) rfl; have y4 := B1.out.cell (j := 4) rfl; have y5 := B1.out.cell (j := 5) rfl; have y6 := B1.out.cell (j := 6) rfl; have y7 := B1.out.cell (j := 7) rfl; have ly := B1.out.lt
    go_wp2_with fail
    clear y0 y1 y2 y3 y4 y5 y6 y7 ly
    generalize hb7 : w3.heap.size = b7 at *
    generalize w3.alloc (.cells #[.slice (some ⟨g1, 0, none⟩) n n, .slice (some ⟨g2, 0, none⟩) k k, .int .i64 til] 39) = W3 at *
    clear hb7; refine (CQ.out _ UC.out SS.out).mono ?_; rintro x w4 ⟨g3, g4, g5, g6, rfl, v1, v2, v3, v4, u4⟩
    have ua := (Up.refl w4).alloc (.cells #[.int .i64 w0, .int .i64 w1, .int .i64 w2, .int .i64 ids, .slice (some ⟨g3, 0, none⟩) nd nd, .slice (some ⟨g4, 0, none⟩) nw nw, .slice (some ⟨g5, 0, none⟩) na na, .slice (some ⟨g6, 0, none⟩) nk nk] 46)
    have X8 := Lib.hid (Blk.new w4 #[.int .i64 w0, .int .i64 w1, .int .i64 w2, .int .i64 ids, .slice (some ⟨g3, 0, none⟩) nd nd, .slice (some ⟨g4, 0, none⟩) nw nw, .slice (some ⟨g5, 0, none⟩) na na, .slice (some ⟨g6, 0, none⟩) nk nk] 46)
    have V8 := Lib.hid ((newHl v1 v2 v3 v4 SS.out).up ua)
    have u := u4.trans ua
    replace UC := Lib.hid (UC.out.trans u)
    replace B0 := Lib.hid (B0.out.up u)
    replace B1 := Lib.hid (B1.out.up u)
    replace X7 := Lib.hid (X7.out.up u)
    replace V7 := Lib.hid (V7.out.up u)
    clear v1 v2 v3 v4 u4 ua u; obtain ⟨p0, p1, p2⟩ := And.intro X7.out.c0 (And.intro X7.out.c1 X7.out.c2)
    have p3 := X7.out.lt
    go_wp2_with fail
    generalize hb8 : w4.heap.size = b8 at *
    generalize w4.alloc (.cells #[.int .i64 w0, .int .i64 w1, .int .i64 w2, .int .i64 ids, .slice (some ⟨g3, 0, none⟩) nd nd, .slice (some ⟨g4, 0, none⟩) nw nw, .slice (some ⟨g5, 0, none⟩) na na, .slice (some ⟨g6, 0, none⟩) nk nk] 46) = W4 at *
    clear hb8; refine (CI.out _ _ _ _ _ _ _ V7.out SS.out V8.out).mono ?_; rintro x w5 ⟨rfl, u⟩
    replace UC := Lib.hid (UC.out.trans u)
    replace B0 := Lib.hid (B0.out.up u)
    replace B1 := Lib.hid (B1.out.up u)
    replace X7 := Lib.hid (X7.out.up u)
    replace V7 := Lib.hid (V7.out.up u)
    replace X8 := Lib.hid (X8.out.up u)
    replace V8 := Lib.hid (V8.out.up u)
    clear u p0 p1 p2 p3
    go_wp2_with fail
    have HB := And.intro B0.out.lt (And.intro X7.out.lt (And.intro B0.out.c0 (And.intro B0.out.c1 (And.intro B0.out.c2 (And.intro X7.out.c0 (And.intro X7.out.c1 X7.out.c2))))))
    have HH := Lib.hid HB
    obtain ⟨l0, l1, q0, q1, q2, r0, r1, r2⟩ := HB
    go_region_held3 (fun w' => b0 < w'.heap.size ∧ b7 < w'.heap.size ∧ w'.cell? ⟨b0, 0, none⟩ = some (.slice A n c) ∧ w'.cell? ⟨b0, 1, none⟩ = some (.slice B k d) ∧ w'.cell? ⟨b0, 2, none⟩ = some (.int .i64 til) ∧ w'.cell? ⟨b7, 0, none⟩ = some (.slice (some ⟨g1, 0, none⟩) n n) ∧ w'.cell? ⟨b7, 1, none⟩ = some (.slice (some ⟨g2, 0, none⟩) k k) ∧ w'.cell? ⟨b7, 2, none⟩ = some (.int .i64 til))
      (first | (exact HH.out) | (exact two_up uF (by assumption)) | (exact two_up uE (by assumption)))
      (first
        | (go_at_call 8; refine (CT.out _ (UC.out.trans (Up.refl _).drew) SH.out).mono ?_; rintro x wE ⟨gm, gn, rfl, hg5, hg6, o5, o6, uE⟩; have VE := Lib.hid (NewMdl.v o5 o6 hk); clear o5 o6)
        | (go_at_call 11; refine (CE.out _ n n _ k k _ n n _ k k _ (V7.out.up ((Up.refl _).drew.trans uE)) VE.out SH.out.fit).mono ?_; rintro x wF ⟨rfl, uF⟩))
    have u := ((Up.refl w5).drew.trans uE).trans uF
    replace UC := Lib.hid (UC.out.trans u)
    replace B1 := Lib.hid (B1.out.up u)
    replace X8 := Lib.hid (X8.out.up u)
    replace V8 := Lib.hid (V8.out.up u)
    clear u uE uF l0 l1 q0 q1 q2 r0 r1 r2 VE V7 X7 HH B0
    go_wp2_with fail
    have HB : b1 < wF.heap.size ∧ b8 < wF.heap.size ∧ wF.cell? ⟨b1, 0, none⟩ = some (.int .i64 w0) ∧ wF.cell? ⟨b1, 1, none⟩ = some (.int .i64 w1) ∧ wF.cell? ⟨b1, 2, none⟩ = some (.int .i64 w2) ∧ wF.cell? ⟨b1, 3, none⟩ = some (.int .i64 ids) ∧ wF.cell? ⟨b1, 4, none⟩ = some (.slice Ad nd cd) ∧ wF.cell? ⟨b1, 5, none⟩ = some (.slice Aw nw cw) ∧ wF.cell? ⟨b1, 6, none⟩ = some (.slice Aa na ca) ∧ wF.cell? ⟨b1, 7, none⟩ = some (.slice Ak nk ck) ∧ wF.cell? ⟨b8, 0, none⟩ = some (.int .i64 w0) ∧ wF.cell? ⟨b8, 1, none⟩ = some (.int .i64 w1) ∧ wF.cell? ⟨b8, 2, none⟩ = some (.int .i64 w2) ∧ wF.cell? ⟨b8, 3, none⟩ = some (.int .i64 ids) ∧ wF.cell? ⟨b8, 4, none⟩ = some (.slice (some ⟨g3, 0, none⟩) nd nd) ∧ wF.cell? ⟨b8, 5, none⟩ = some (.slice (some ⟨g4, 0, none⟩) nw nw) ∧ wF.cell? ⟨b8, 6, none⟩ = some (.slice (some ⟨g5, 0, none⟩) na na) ∧ wF.cell? ⟨b8, 7, none⟩ = some (.slice (some ⟨g6, 0, none⟩) nk nk) := And.intro B1.out.lt (And.intro X8.out.lt (And.intro (B1.out.cell (j := 0) rfl) (And.intro (B1.out.cell (j := 1) rfl) (And.intro (B1.out.cell (j := 2) rfl) (And.intro (B1.out.cell (j := 3) rfl) (And.intro (B1.out.cell (j := 4) rfl) (And.intro (B1.out.cell (j := 5) rfl) (And.intro (B1.out.cell (j := 6) rfl) (And.intro (B1.out.cell (j := 7) rfl) (And.intro (X8.out.cell (j := 0) rfl) (And.intro (X8.out.cell (j := 1) rfl) (And.intro (X8.out.cell (j := 2) rfl) (And.intro (X8.out.cell (j := 3) rfl) (And.intro (X8.out.cell (j := 4) rfl) (And.intro (X8.out.cell (j := 5) rfl) (And.intro (X8.out.cell (j := 6) rfl) (X8.out.cell (j := 7) rfl)))))))))))))))))
    have HH := Lib.hid HB
    obtain ⟨l0, l1, q0, q1, q2, q3, q4, q5, q6, q7, r0, r1, r2, r3, r4, r5, r6, r7⟩ := HB
    go_region_held3 (fun w' => b1 < w'.heap.size ∧ b8 < w'.heap.size ∧ w'.cell? ⟨b1, 0, none⟩ = some (.int .i64 w0) ∧ w'.cell? ⟨b1, 1, none⟩ = some (.int .i64 w1) ∧ w'.cell? ⟨b1, 2, none⟩ = some (.int .i64 w2) ∧ w'.cell? ⟨b1, 3, none⟩ = some (.int .i64 ids) ∧ w'.cell? ⟨b1, 4, none⟩ = some (.slice Ad nd cd) ∧ w'.cell? ⟨b1, 5, none⟩ = some (.slice Aw nw cw) ∧ w'.cell? ⟨b1, 6, none⟩ = some (.slice Aa na ca) ∧ w'.cell? ⟨b1, 7, none⟩ = some (.slice Ak nk ck) ∧ w'.cell? ⟨b8, 0, none⟩ = some (.int .i64 w0) ∧ w'.cell? ⟨b8, 1, none⟩ = some (.int .i64 w1) ∧ w'.cell? ⟨b8, 2, none⟩ = some (.int .i64 w2) ∧ w'.cell? ⟨b8, 3, none⟩ = some (.int .i64 ids) ∧ w'.cell? ⟨b8, 4, none⟩ = some (.slice (some ⟨g3, 0, none⟩) nd nd) ∧ w'.cell? ⟨b8, 5, none⟩ = some (.slice (some ⟨g4, 0, none⟩) nw nw) ∧ w'.cell? ⟨b8, 6, none⟩ = some (.slice (some ⟨g5, 0, none⟩) na na) ∧ w'.cell? ⟨b8, 7, none⟩ = some (.slice (some ⟨g6, 0, none⟩) nk nk))
      (first | (exact blk8l_up (Up.refl _).drew HH.out) | (exact blk8l_up uF (by assumption)) | (exact blk8l_up uE (by assumption)))
      (first
        | (go_at_call 9; refine (CQ.out _ (UC.out.trans (Up.refl _).drew) SS.out).mono ?_; rintro x wE ⟨g7, g8, g9, g10, rfl, v1, v2, v3, v4, uE⟩; have VE := Lib.hid (newHl v1 v2 v3 v4 SS.out); clear v1 v2 v3 v4)
        | (go_at_call 12; refine (CV.out _ _ _ _ _ _ _ _ _ (V8.out.up ((Up.refl _).drew.trans uE)) VE.out SS.out.small (by have := SS.out.d; have := SS.out.w; have := SS.out.a; have := SS.out.k; omega)).mono ?_; rintro x wF ⟨rfl, uF⟩))
    have UE := Lib.hid (UC.out.trans (((Up.refl _).drew.trans uE).trans uF))
    clear uE uF l0 l1 q0 q1 q2 q3 q4 q5 q6 q7 r0 r1 r2 r3 r4 r5 r6 r7; go_wp2; go_ret
    exact ⟨rfl, UE.out⟩
end Go.Proofs.YtlkmhmiamdbhcabGreat

namespace Go.Proofs.YtlkmhmiamdbhcabGreat.fnExactHstLeast
set_option maxRecDepth 100000
open Go.ChangeShapes Go.WideShapes Go.ChangeAt Go.RowKit Go.Joins Go.Deep
set_option linter.unusedVariables false
set_option maxRecDepth 100000 in
theorem lifted (os : Os) (started : os.Started) (H : Type) (enc : TypeId × Value → H) :
    ReturnsInHanded {} Tryz.checked os 3 .any (Rows.fnExactHstLeastSpec.pre6 enc Tryz.prog Tryz.f3 Rows.fnExactHstLeastRow.domain false) (Rows.fnExactHstLeastSpec.post enc Tryz.prog Tryz.f3 false true false false) := by
  refine returnsInHanded_of_change (C := Tryz.checked) own started (by kernel_rfl) Tryz.func3
    (ChangeSpec.witness6 (enc := enc) (C := Tryz.checked) false ⟨#[], #[.agg #[.slice none 0 0, .slice none 0 0, .int .i64 0], .int .i64 0, .agg #[.int .i64 0, .int .i64 0, .int .i64 0, .int .i64 0, .slice none 0 0, .slice none 0 0, .slice none 0 0, .slice none 0 0]], []⟩ 8 (by kernel_rfl) (by kernel_rfl) (by kernel_rfl) (by kernel_rfl)) ?_
  intro W base args ds gs before hval0 hW hcnd _
  have hval : ∀ (j : Nat) t v, Tryz.f3.params[j]? = some t → args[j]? = some v → Value.okWide Tryz.prog W .any base t v := hval0
  have hW' := hW
  obtain ⟨p, q, hA0, hV, rfl, hfz, hnd⟩ := hW
  have hA : DataW.TrodAll enc Tryz.prog W 0 (fun _ => true) true Tryz.f3.params.toList args.toList ds p := hA0
  rw [Tryz.params3] at hA hval; obtain ⟨v0, vs0, d0, ds0, p0, q0, hargs, rfl, rfl, h0, r0⟩ := trodAll_cons hA; obtain ⟨v1, vs1, d1, ds1, p1, q1, rfl, rfl, rfl, h1, r1⟩ := trodAll_cons r0; obtain ⟨v2, vs2, d2, ds2, p2, q2, rfl, rfl, rfl, h2, r2⟩ := trodAll_cons r1; obtain ⟨rfl, rfl, rfl⟩ := trodAll_nil r2
  obtain rfl : args = #[v0, v1, v2] := by cases args; simp_all
  obtain ⟨rfl, rfl⟩ := trodVars_none hV
  have k0 := h0
  have lt0 : ∀ x ∈ p0, x.block < W.heap.size := by obtain ⟨m, hm⟩ := k0; exact DataW.trod_lt m _ _ _ hm
  obtain ⟨a0, w0⟩ := open_mdl (hval 0 25 v0 rfl rfl) h0
  have k1 := h1
  have lt1 : ∀ x ∈ p1, x.block < W.heap.size := by obtain ⟨m, hm⟩ := k1; exact DataW.trod_lt m _ _ _ hm
  obtain ⟨a1, rfl, rfl, rfl, w1'⟩ := open_int Tryz.underlying3 (hval 1 3 v1 rfl rfl) h1
  have w1 := i64_of_wf w1'
  have k2 := h2
  have lt2 : ∀ x ∈ p2, x.block < W.heap.size := by obtain ⟨m, hm⟩ := k2; exact DataW.trod_lt m _ _ _ hm
  obtain ⟨a2, w2⟩ := open_hst (hval 2 32 v2 rfl rfl) h2; clear hA0 hval0
  refine (walkElst v0 a0 a1 v2 a2 w0 w2).mono fun e W' ⟨he, bel⟩ => ?_
  subst he
  exact ⟨_, rfl, _, _, _, [], _, [], hW', trodAll_mk1 (shut_bool Tryz.underlying4 _), (trodAll_cons_mk (Below.trod laidOut (by kernel_rfl) (of_decide_eq_true (by kernel_rfl)) k0 bel lt0) (trodAll_cons_mk (Below.trod laidOut (by kernel_rfl) (of_decide_eq_true (by kernel_rfl)) k1 bel lt1) (trodAll_cons_mk (Below.trod laidOut (by kernel_rfl) (of_decide_eq_true (by kernel_rfl)) k2 bel lt2) trodAll_mk0))), rfl, bel.frame _, fun h => by cases h⟩
theorem fact0 : (Rows.fnExactHstLeastRow.inPlace == Tryz.checked.prog.inPlace 3) = true := by kernel_rfl
theorem fact1 : (Rows.fnExactHstLeastRow.unfollowed == Tryz.checked.prog.unfollowed 3) = true := by kernel_rfl
theorem fact2 : (Rows.fnExactHstLeastRow.recurses == Tryz.checked.prog.recurses 3) = true := by kernel_rfl
theorem fact3 : (Rows.fnExactHstLeastRow.named == Tryz.checked.prog.varsNamed 3) = true := by kernel_rfl
theorem named_ : Tryz.checked.prog.funcNamed Rows.fnExactHstLeastRow.func = some 3 := by kernel_rfl
theorem facts : joinedFacts Tryz.checked.prog 3 Tryz.f3 Rows.fnExactHstLeastSpec Rows.fnExactHstLeastRow = true := by
  unfold joinedFacts; rw [fact0, fact1, fact2, fact3]
  kernel_rfl
theorem over : Rows.fnExactHstLeastRow.holds Tryz.pinned (OpenSpec.ofChange Rows.fnExactHstLeastSpec) :=
  OpenClaim.holds_of_wide 3 Tryz.f3 rfl rfl rfl rfl rfl rfl rfl ⟨rfl, rfl, rfl, rfl, rfl⟩ rfl rfl rfl rfl rfl named_ Tryz.func3 facts
    (of_decide_eq_true (by kernel_rfl)) (by unfold Func.isWrapper; first | (rw [if_pos (by decide +kernel)]; kernel_rfl) | (rw [if_neg (by decide +kernel)]; exact ⟨rfl, rfl⟩))
    (fun os started H enc _ => lifted os started H enc)
theorem proved : Rows.FnExactHstLeastSaid := over
end Go.Proofs.YtlkmhmiamdbhcabGreat.fnExactHstLeast

/-
  What FnExactCmbOk returns, in one sentence: true, with new blocks alone; for every model and every simulation that lie in memory.
  For every model and every simulation the law FnExactCmbOk returns true and leaves its arguments as they were; no condition.
-/
import Derived.Deep.RegionHeld3
import Derived.Test.YtipjcjjjkkaigabDLEcbok01
import Derived.Test.YtipjcjjjkkaigabDLEcbok02
import Derived.Test.YtipjcjjjkkaigabDLEcbok03
import Derived.Test.YtipjcjjjkkaigabDLEcbok05
import Derived.Test.YtipjcjjjkkaigabDLEcbok07
import Derived.Test.YtipjcjjjkkaigabDLEcbok08
import Derived.Test.YtipjcjjjkkaigabDLEcbok13
import Derived.Test.YtipjcjjjkkaigabDLEcbok16
import Derived.Test.YtipjcjjjkkaigabDLEcbok19
import Derived.Test.YtipjcjjjkkaigabDLEcbok20
import Derived.Test.YtipjcjjjkkaigabDLEcbok21
import Derived.Test.YtipjcjjjkkaigabRows
namespace Go.Proofs.Ytipjcjjjkkaigab
set_option maxRecDepth 100000
open Go.RowKit
theorem blk2_up {w w' : World} {b c : Nat} {x0 x1 y0 y1 : Value} (u : Up w w')
    (h : b < w.heap.size ∧ c < w.heap.size ∧ w.cell? ⟨b, 0, none⟩ = some x0 ∧ w.cell? ⟨b, 1, none⟩ = some x1 ∧ w.cell? ⟨c, 0, none⟩ = some y0 ∧ w.cell? ⟨c, 1, none⟩ = some y1) :
    b < w'.heap.size ∧ c < w'.heap.size ∧ w'.cell? ⟨b, 0, none⟩ = some x0 ∧ w'.cell? ⟨b, 1, none⟩ = some x1 ∧ w'.cell? ⟨c, 0, none⟩ = some y0 ∧ w'.cell? ⟨c, 1, none⟩ = some y1 := by
  obtain ⟨h0, h1, k0, k1, l0, l1⟩ := h
  have := u.size
  exact ⟨by omega, by omega, (u.cells _ _ h0).trans k0, (u.cells _ _ h0).trans k1, (u.cells _ _ h1).trans l0, (u.cells _ _ h1).trans l1⟩
theorem two_upc {w w' : World} {b0 b1 : Nat} {x0 x1 x2 y0 y1 y2 : Value} (u : Up w w')
    (h : b0 < w.heap.size ∧ b1 < w.heap.size ∧ w.cell? ⟨b0, 0, none⟩ = some x0 ∧ w.cell? ⟨b0, 1, none⟩ = some x1 ∧ w.cell? ⟨b0, 2, none⟩ = some x2 ∧ w.cell? ⟨b1, 0, none⟩ = some y0 ∧ w.cell? ⟨b1, 1, none⟩ = some y1 ∧ w.cell? ⟨b1, 2, none⟩ = some y2) :
    b0 < w'.heap.size ∧ b1 < w'.heap.size ∧ w'.cell? ⟨b0, 0, none⟩ = some x0 ∧ w'.cell? ⟨b0, 1, none⟩ = some x1 ∧ w'.cell? ⟨b0, 2, none⟩ = some x2 ∧ w'.cell? ⟨b1, 0, none⟩ = some y0 ∧ w'.cell? ⟨b1, 1, none⟩ = some y1 ∧ w'.cell? ⟨b1, 2, none⟩ = some y2 := by
  obtain ⟨h0, h1, k0, k1, k2, l0, l1, l2⟩ := h
  have := u.size
  exact ⟨by omega, by omega, (u.cells _ _ h0).trans k0, (u.cells _ _ h0).trans k1, (u.cells _ _ h0).trans k2, (u.cells _ _ h1).trans l0, (u.cells _ _ h1).trans l1, (u.cells _ _ h1).trans l2⟩
def IsMc (m : Mdl) (til : Int) (n k : Nat) (v : Value) (w : World) : Prop := ∃ A B, v = .agg #[.slice A n n, .slice B k k, .int .i64 til] ∧ MdlV w A n B k m
theorem IsMc.up {m : Mdl} {til : Int} {n k : Nat} {v : Value} {w w' : World} (h : IsMc m til n k v w) (u : Up w w') : IsMc m til n k v w' := by
  obtain ⟨A, B, h0, h1⟩ := h
  exact ⟨A, B, h0, h1.up u⟩
def IsCc (nh nl : Nat) (hs : List Ch) (ls : List (List Rec)) (v : Value) (w : World) : Prop := ∃ ga gb : Nat, v = .agg #[.slice (some ⟨ga, 0, none⟩) nh nh, .slice (some ⟨gb, 0, none⟩) nl nl] ∧ CbV w (some ⟨ga, 0, none⟩) nh (some ⟨gb, 0, none⟩) nl hs ls
theorem IsCc.up {nh nl : Nat} {hs : List Ch} {ls : List (List Rec)} {v : Value} {w w' : World} (h : IsCc nh nl hs ls v w) (u : Up w w') : IsCc nh nl hs ls v w' := by
  obtain ⟨ga, gb, h0, h1⟩ := h
  exact ⟨ga, gb, h0, h1.up u⟩
theorem newCb {hs : List Ch} {ls : List (List Rec)} {nh nl ga gb lo : Nat} {w : World} (h1 : ChsF w lo ga nh hs) (h2 : LgsF w lo gb nl ls) (hS : ShortCb hs ls) : CbV w (some ⟨ga, 0, none⟩) nh (some ⟨gb, 0, none⟩) nl hs ls :=
  ⟨h1.chs, h2.lgs, by rw [← h1.len]; exact hS.hosts.few, by rw [← h2.len]; exact hS.logs.few⟩
def coA (VM VH : Value) (m : Mdl) (til : Int) (n k nh nl : Nat) (hs : List Ch) (ls : List (List Rec)) (r : Bool) (i : Nat) (v : Value) (w : World) : Prop :=
  if i = 20 then v = VM else if i = 21 then IsMc m til n k v w else if i = 22 then v = VH else if i = 23 then IsCc nh nl hs ls v w else if i = 24 then v = .bool r else True
theorem coA_20 (VM VH : Value) (m : Mdl) (til : Int) (n k nh nl : Nat) (hs : List Ch) (ls : List (List Rec)) (r : Bool) (v : Value) (w : World) : coA VM VH m til n k nh nl hs ls r 20 v w = (v = VM) := by simp [coA]
theorem coA_21 (VM VH : Value) (m : Mdl) (til : Int) (n k nh nl : Nat) (hs : List Ch) (ls : List (List Rec)) (r : Bool) (v : Value) (w : World) : coA VM VH m til n k nh nl hs ls r 21 v w = (IsMc m til n k v w) := by simp [coA]
theorem coA_22 (VM VH : Value) (m : Mdl) (til : Int) (n k nh nl : Nat) (hs : List Ch) (ls : List (List Rec)) (r : Bool) (v : Value) (w : World) : coA VM VH m til n k nh nl hs ls r 22 v w = (v = VH) := by simp [coA]
theorem coA_23 (VM VH : Value) (m : Mdl) (til : Int) (n k nh nl : Nat) (hs : List Ch) (ls : List (List Rec)) (r : Bool) (v : Value) (w : World) : coA VM VH m til n k nh nl hs ls r 23 v w = (IsCc nh nl hs ls v w) := by simp [coA]
theorem coA_24 (VM VH : Value) (m : Mdl) (til : Int) (n k nh nl : Nat) (hs : List Ch) (ls : List (List Rec)) (r : Bool) (v : Value) (w : World) : coA VM VH m til n k nh nl hs ls r 24 v w = (v = .bool r) := by simp [coA]
theorem coA_up (VM VH : Value) (m : Mdl) (til : Int) (n k nh nl : Nat) (hs : List Ch) (ls : List (List Rec)) (r : Bool) (i : Nat) {v : Value} {w w' : World} (h : coA VM VH m til n k nh nl hs ls r i v w) (u : Up w w') : coA VM VH m til n k nh nl hs ls r i v w' := by
  unfold coA at h ⊢
  by_cases h20 : i = 20
  · rw [if_pos h20] at h ⊢
    exact h
  rw [if_neg h20] at h ⊢
  by_cases h21 : i = 21
  · rw [if_pos h21] at h ⊢
    exact h.up u
  rw [if_neg h21] at h ⊢
  by_cases h22 : i = 22
  · rw [if_pos h22] at h ⊢
    exact h
  rw [if_neg h22] at h ⊢
  by_cases h23 : i = 23
  · rw [if_pos h23] at h ⊢
    exact h.up u
  rw [if_neg h23] at h ⊢
  by_cases h24 : i = 24
  · rw [if_pos h24] at h ⊢
    exact h
  rw [if_neg h24] at h ⊢
  exact trivial
set_option maxHeartbeats 16000000 in
theorem walkEcbok (v : Value) (m : Mdl) (v' : Value) (cb : List Ch × List (List Rec)) {w : World} (h0 : ∃ A n c B k d, v = .agg #[.slice A n c, .slice B k d, .int .i64 m.til] ∧ MdlV w A n B k m)
    (h1 : ∃ HA nh hc LB nl lc, v' = .agg #[.slice HA nh hc, .slice LB nl lc] ∧ CbW w HA nh LB nl cb.1 cb.2) :
    Calls Try.prog 3 #[v, v'] w fun x w' => x = .returned (.bool true) ∧ Up w w' := by
  obtain ⟨A, n, c, B, k, d, rfl, hM⟩ := h0; obtain ⟨HA, nh, hc, LB, nl, lc, rfl, hV⟩ := h1; obtain ⟨hs, ls⟩ := cb; dsimp only at hV
  have hk := hM.big
  have CS := Lib.hid (fun W (u : Up w W) => szMdl_any A n c B k d m W (hM.up u))
  have CT := Lib.hid (fun W (u : Up w W) hS => toMdl_any A n c B k d m W (hM.up u) hS)
  have CE := Lib.hid (fun A n c B k d A' n' c' B' k' d' W (h1 : MdlV W A n B k m) (h2 : MdlV W A' n' B' k' m) (hS : FitM m) => eqMdl_any A n c B k d m A' n' c' B' k' d' m W h1 h2 hS)
  rw [decide_eq_true (rfl : m = m)] at CE
  have CZ := Lib.hid (fun l W (u : Up w W) a b => szCmb_any HA nh hc LB nl lc hs ls l W a b (hV.up u))
  have CQ := Lib.hid (fun W (u : Up w W) hS => toCmb_any HA nh hc LB nl lc hs ls W ((hV.up u).v hS))
  have CV := Lib.hid (fun a1 a2 b1 b2 W (h1 : CbV W a1 nh a2 nl hs ls) (h2 : CbV W b1 nh b2 nl hs ls) => eqCb_same a1 nh nh a2 nl nl b1 nh b2 nl hs ls W h1 h2)
  unfold NewCmb at CQ
  have CP := Lib.hid (fun A B a1 a2 W (h : MdlV W A n B k m) (hv : CbV W a1 nh a2 nl hs ls) => specCbOk_any A n n B k k m a1 nh nh a2 nl nl hs ls W h hv)
  have CI := Lib.hid (fun A B a1 a2 W (h : MdlV W A n B k m) (hv : CbV W a1 nh a2 nl hs ls) => implCbOk_any A n n B k k m a1 nh nh a2 nl nl hs ls W h hv)
  clear hM hV
  generalize cbB m hs ls = r at CP CI
  have bne0 : (r != r) = false := by cases r <;> rfl
  unfold NewMdl at CT
  generalize htil : m.til = til at *
  have B0 := Lib.hid ((Box3.new w (.slice A n c) (.slice B k d) (.int .i64 til) 25).up ((Up.refl _).alloc (.cells #[.slice HA nh hc, .slice LB nl lc] 29)))
  have B1 := Lib.hid (Blk.new (w.alloc (.cells #[.slice A n c, .slice B k d, .int .i64 til] 25)) #[.slice HA nh hc, .slice LB nl lc] 29)
  simp only [World.size_alloc] at B1
  have UC := Lib.hid (((Up.refl w).alloc (.cells #[.slice A n c, .slice B k d, .int .i64 til] 25)).alloc (.cells #[.slice HA nh hc, .slice LB nl lc] 29))
  go_enter Try.func3, Try.ntmps3
  go_wp2_with fail
  generalize (w.alloc (.cells #[.slice A n c, .slice B k d, .int .i64 til] 25)).alloc (.cells #[.slice HA nh hc, .slice LB nl lc] 29) = W at *
  generalize hb1 : w.heap.size + 1 = b1 at *
  generalize hb0 : w.heap.size = b0 at *
  clear hb1 hb0; refine (CS.out _ UC.out).mono ?_; rintro x wA ⟨z, rfl, hz, u1⟩
  replace UC := Lib.hid (UC.out.trans u1)
  replace B0 := Lib.hid (B0.out.up u1)
  replace B1 := Lib.hid (B1.out.up u1)
  clear u1
  rcases hz with rfl | ⟨z0, z1, hS⟩
  · go_wp2
    go_ret
    exact ⟨rfl, UC.out⟩
  have SH := Lib.hid hS
  have j0 : ¬ z < 0 := by omega
  clear hS
  have y0 := B1.out.cell (j := 0) rfl; have y1 := B1.out.cell (j := 1) rfl; have ly := B1.out.lt
  go_wp2_with fail
  clear y0 y1 ly; refine (CZ.out z _ UC.out z0 z1).mono ?_; rintro x wB ⟨y, rfl, hz, u1⟩
  replace UC := Lib.hid (UC.out.trans u1)
  replace B0 := Lib.hid (B0.out.up u1)
  replace B1 := Lib.hid (B1.out.up u1)
  clear u1
  rcases hz with rfl | ⟨y0, y1, hS⟩
  · go_wp2
    go_ret
    exact ⟨rfl, UC.out⟩
  have SS := Lib.hid hS
  have j1 : ¬ y < 0 := by omega
  clear hS
  go_wp2_with fail
  generalize wB = W0 at *
  refine region_relyT 5 [] [(5, false)] [20, 21, 22, 23, 24] 5 (fun _ wX => Up W0 wX) Up (fun i v w => coA (.agg #[.slice A n c, .slice B k d, .int .i64 til]) (.agg #[.slice HA nh hc, .slice LB nl lc]) m til n k nh nl hs ls r i v w) (by kernel_rfl) (by kernel_rfl) (by kernel_rfl) (by kernel_rfl) ((Up.refl _).drew) (fun slot_ _ _ _ h u => coA_up (.agg #[.slice A n c, .slice B k d, .int .i64 til]) (.agg #[.slice HA nh hc, .slice LB nl lc]) m til n k nh nl hs ls r slot_ h u) ?_ ?_ ?_
  · simp only [List.take_succ_cons, List.take_zero]
    refine stepsT_op (by kernel_rfl) ?_ ?_
    · intro X w1_ k1 hG hdep
      obtain ⟨q0, q1, q2⟩ := And.intro (B0.out.up hG).c0 (And.intro (B0.out.up hG).c1 (B0.out.up hG).c2); simp only [opW_def, mixT]; go_simp
      exact ⟨⟨_, by first | rfl | simp [Act.put], Up.refl _, hG, (show coA (.agg #[.slice A n c, .slice B k d, .int .i64 til]) (.agg #[.slice HA nh hc, .slice LB nl lc]) m til n k nh nl hs ls r 20 _ _ from by first | (rw [coA_20]; exact rfl) | rw [coA_20])⟩⟩
    refine stepsT_op (by kernel_rfl) ?_ ?_
    · intro X w1_ k1 hG hdep
      have e20 : coA (.agg #[.slice A n c, .slice B k d, .int .i64 til]) (.agg #[.slice HA nh hc, .slice LB nl lc]) m til n k nh nl hs ls r 20 (X 20) w1_ := hdep 20 (by decide +kernel)
      rw [coA_20] at e20; simp only [opW_def, mixT, e20]; go_simp; refine (CT.out _ (UC.out.trans hG) SH.out).mono ?_; rintro x wZ ⟨g1, g2, rfl, _, _, o1, o2, u⟩
      exact ⟨⟨_, by first | rfl | simp [Act.put], u, hG.trans u, (show coA (.agg #[.slice A n c, .slice B k d, .int .i64 til]) (.agg #[.slice HA nh hc, .slice LB nl lc]) m til n k nh nl hs ls r 21 _ _ from by first | (rw [coA_21]; exact ⟨_, _, rfl, NewMdl.v o1 o2 hk⟩) | rw [coA_21])⟩⟩
    refine stepsT_op (by kernel_rfl) ?_ ?_
    · intro X w1_ k1 hG hdep
      have y0 := (B1.out.up hG).cell (j := 0) rfl; have y1 := (B1.out.up hG).cell (j := 1) rfl; have ly := (B1.out.up hG).lt
      simp only [opW_def, mixT]; go_simp
      exact ⟨⟨_, by first | rfl | simp [Act.put], Up.refl _, hG, (show coA (.agg #[.slice A n c, .slice B k d, .int .i64 til]) (.agg #[.slice HA nh hc, .slice LB nl lc]) m til n k nh nl hs ls r 22 _ _ from by first | (rw [coA_22]; exact rfl) | rw [coA_22])⟩⟩
    refine stepsT_op (by kernel_rfl) ?_ ?_
    · intro X w1_ k1 hG hdep
      have e22 : coA (.agg #[.slice A n c, .slice B k d, .int .i64 til]) (.agg #[.slice HA nh hc, .slice LB nl lc]) m til n k nh nl hs ls r 22 (X 22) w1_ := hdep 22 (by decide +kernel)
      rw [coA_22] at e22; simp only [opW_def, mixT, e22]; go_simp; refine (CQ.out _ (UC.out.trans hG) SS.out).mono ?_; rintro x wZ ⟨ga, gb, rfl, v1, v2, u⟩
      exact ⟨⟨_, by first | rfl | simp [Act.put], u, hG.trans u, (show coA (.agg #[.slice A n c, .slice B k d, .int .i64 til]) (.agg #[.slice HA nh hc, .slice LB nl lc]) m til n k nh nl hs ls r 23 _ _ from by first | (rw [coA_23]; exact ⟨_, _, rfl, newCb v1 v2 SS.out⟩) | rw [coA_23])⟩⟩
    refine stepsT_op (by kernel_rfl) ?_ ?_
    · intro X w1_ k1 hG hdep
      have e21 : coA (.agg #[.slice A n c, .slice B k d, .int .i64 til]) (.agg #[.slice HA nh hc, .slice LB nl lc]) m til n k nh nl hs ls r 21 (X 21) w1_ := hdep 21 (by decide +kernel)
      rw [coA_21] at e21; obtain ⟨A1, B2, e21, mv⟩ := e21
      have e23 : coA (.agg #[.slice A n c, .slice B k d, .int .i64 til]) (.agg #[.slice HA nh hc, .slice LB nl lc]) m til n k nh nl hs ls r 23 (X 23) w1_ := hdep 23 (by decide +kernel)
      rw [coA_23] at e23; obtain ⟨ga, gb, e23, sv⟩ := e23; simp only [opW_def, mixT, e21, e23]; go_simp; refine (CP.out _ _ _ _ w1_ mv sv).mono ?_; rintro x wZ ⟨rfl, u⟩
      exact ⟨⟨_, by first | rfl | simp [Act.put], u, hG.trans u, (show coA (.agg #[.slice A n c, .slice B k d, .int .i64 til]) (.agg #[.slice HA nh hc, .slice LB nl lc]) m til n k nh nl hs ls r 24 _ _ from by first | (rw [coA_24]; exact rfl) | rw [coA_24])⟩⟩
    exact trivial
  · intro h p _ hp
    cases hp
  · intro X wX hG hR
    have e24 : coA (.agg #[.slice A n c, .slice B k d, .int .i64 til]) (.agg #[.slice HA nh hc, .slice LB nl lc]) m til n k nh nl hs ls r 24 (X 24) wX := hR 4 (by omega)
    rw [coA_24] at e24; simp only [mixT, e24]
    replace UC := Lib.hid (UC.out.trans hG)
    replace B0 := Lib.hid (B0.out.up hG)
    replace B1 := Lib.hid (B1.out.up hG)
    clear hR hG e24; refine mix_go rfl (by rfl) (fun K hK => ?_); go_simp; refine hK _ _ ?_; clear hK K; refine mix_nil ?_; obtain ⟨p0, p1, p2⟩ := And.intro B0.out.c0 (And.intro B0.out.c1 B0.out.c2)
    go_wp2_with fail
    refine (CT.out _ UC.out SH.out).mono ?_; rintro x w3 ⟨g1, g2, rfl, _, _, o1, o2, u3⟩
    have ua := (Up.refl w3).alloc (.cells #[.slice (some ⟨g1, 0, none⟩) n n, .slice (some ⟨g2, 0, none⟩) k k, .int .i64 til] 36)
    have X7 := Lib.hid (Box3.new w3 (.slice (some ⟨g1, 0, none⟩) n n) (.slice (some ⟨g2, 0, none⟩) k k) (.int .i64 til) 36)
    have V7 := Lib.hid ((NewMdl.v o1 o2 hk).up ua)
    have u := u3.trans ua
    replace UC := Lib.hid (UC.out.trans u)
    replace B0 := Lib.hid (B0.out.up u)
    replace B1 := Lib.hid (B1.out.up u)
    clear o1 o2 u3 ua u p0 p1 p2
    have y0 := B1.out.cell (j := 0) rfl; have y1 := B1.out.cell (j := 1) rfl; have ly := B1.out.lt
    go_wp2_with fail
    clear y0 y1 ly
    generalize hb7 : w3.heap.size = b7 at *
    generalize w3.alloc (.cells #[.slice (some ⟨g1, 0, none⟩) n n, .slice (some ⟨g2, 0, none⟩) k k, .int .i64 til] 36) = W3 at *
    clear hb7; refine (CQ.out _ UC.out SS.out).mono ?_; rintro x w4 ⟨g3, g4, rfl, v1, v2, u4⟩
    have ua := (Up.refl w4).alloc (.cells #[.slice (some ⟨g3, 0, none⟩) nh nh, .slice (some ⟨g4, 0, none⟩) nl nl] 41)
    have X8 := Lib.hid (Blk.new w4 #[.slice (some ⟨g3, 0, none⟩) nh nh, .slice (some ⟨g4, 0, none⟩) nl nl] 41)
    have V8 := Lib.hid ((newCb v1 v2 SS.out).up ua)
    have u := u4.trans ua
    replace UC := Lib.hid (UC.out.trans u)
    replace B0 := Lib.hid (B0.out.up u)
    replace B1 := Lib.hid (B1.out.up u)
    replace X7 := Lib.hid (X7.out.up u)
    replace V7 := Lib.hid (V7.out.up u)
    clear v1 v2 u4 ua u; obtain ⟨p0, p1, p2⟩ := And.intro X7.out.c0 (And.intro X7.out.c1 X7.out.c2)
    have p3 := X7.out.lt
    go_wp2_with fail
    generalize hb8 : w4.heap.size = b8 at *
    generalize w4.alloc (.cells #[.slice (some ⟨g3, 0, none⟩) nh nh, .slice (some ⟨g4, 0, none⟩) nl nl] 41) = W4 at *
    clear hb8; refine (CI.out _ _ _ _ _ V7.out V8.out).mono ?_; rintro x w5 ⟨rfl, u⟩
    replace UC := Lib.hid (UC.out.trans u)
    replace B0 := Lib.hid (B0.out.up u)
    replace B1 := Lib.hid (B1.out.up u)
    replace X7 := Lib.hid (X7.out.up u)
    replace V7 := Lib.hid (V7.out.up u)
    replace X8 := Lib.hid (X8.out.up u)
    replace V8 := Lib.hid (V8.out.up u)
    clear u p0 p1 p2 p3
    go_wp2_with fail
    have HB := And.intro B0.out.lt (And.intro X7.out.lt (And.intro B0.out.c0 (And.intro B0.out.c1 (And.intro B0.out.c2 (And.intro X7.out.c0 (And.intro X7.out.c1 X7.out.c2))))))
    have HH := Lib.hid HB
    obtain ⟨l0, l1, q0, q1, q2, r0, r1, r2⟩ := HB
    go_region_held3 (fun w' => b0 < w'.heap.size ∧ b7 < w'.heap.size ∧ w'.cell? ⟨b0, 0, none⟩ = some (.slice A n c) ∧ w'.cell? ⟨b0, 1, none⟩ = some (.slice B k d) ∧ w'.cell? ⟨b0, 2, none⟩ = some (.int .i64 til) ∧ w'.cell? ⟨b7, 0, none⟩ = some (.slice (some ⟨g1, 0, none⟩) n n) ∧ w'.cell? ⟨b7, 1, none⟩ = some (.slice (some ⟨g2, 0, none⟩) k k) ∧ w'.cell? ⟨b7, 2, none⟩ = some (.int .i64 til))
      (first | (exact HH.out) | (exact two_upc uF (by assumption)) | (exact two_upc uE (by assumption)))
      (first
        | (go_at_call 9; refine (CT.out _ (UC.out.trans (Up.refl _).drew) SH.out).mono ?_; rintro x wE ⟨gm, gn, rfl, hg5, hg6, o5, o6, uE⟩; have VE := Lib.hid (NewMdl.v o5 o6 hk); clear o5 o6)
        | (go_at_call 12; refine (CE.out _ n n _ k k _ n n _ k k _ (V7.out.up ((Up.refl _).drew.trans uE)) VE.out SH.out.fit).mono ?_; rintro x wF ⟨rfl, uF⟩))
    have u := ((Up.refl w5).drew.trans uE).trans uF
    replace UC := Lib.hid (UC.out.trans u)
    replace B1 := Lib.hid (B1.out.up u)
    replace X8 := Lib.hid (X8.out.up u)
    replace V8 := Lib.hid (V8.out.up u)
    clear u uE uF l0 l1 q0 q1 q2 r0 r1 r2 VE V7 X7 HH B0
    go_wp2_with fail
    have HB : b1 < wF.heap.size ∧ b8 < wF.heap.size ∧ wF.cell? ⟨b1, 0, none⟩ = some (.slice HA nh hc) ∧ wF.cell? ⟨b1, 1, none⟩ = some (.slice LB nl lc) ∧ wF.cell? ⟨b8, 0, none⟩ = some (.slice (some ⟨g3, 0, none⟩) nh nh) ∧ wF.cell? ⟨b8, 1, none⟩ = some (.slice (some ⟨g4, 0, none⟩) nl nl) := And.intro B1.out.lt (And.intro X8.out.lt (And.intro (B1.out.cell (j := 0) rfl) (And.intro (B1.out.cell (j := 1) rfl) (And.intro (X8.out.cell (j := 0) rfl) (X8.out.cell (j := 1) rfl)))))
    have HH := Lib.hid HB
    obtain ⟨l0, l1, q0, q1, r0, r1⟩ := HB
    go_region_held3 (fun w' => b1 < w'.heap.size ∧ b8 < w'.heap.size ∧ w'.cell? ⟨b1, 0, none⟩ = some (.slice HA nh hc) ∧ w'.cell? ⟨b1, 1, none⟩ = some (.slice LB nl lc) ∧ w'.cell? ⟨b8, 0, none⟩ = some (.slice (some ⟨g3, 0, none⟩) nh nh) ∧ w'.cell? ⟨b8, 1, none⟩ = some (.slice (some ⟨g4, 0, none⟩) nl nl))
      (first | (exact blk2_up (Up.refl _).drew HH.out) | (exact blk2_up uF (by assumption)) | (exact blk2_up uE (by assumption)))
      (first
        | (go_at_call 10; refine (CQ.out _ (UC.out.trans (Up.refl _).drew) SS.out).mono ?_; rintro x wE ⟨g7, g8, rfl, v1, v2, uE⟩; have VE := Lib.hid (newCb v1 v2 SS.out); clear v1 v2)
        | (go_at_call 13; refine (CV.out _ _ _ _ _ (V8.out.up ((Up.refl _).drew.trans uE)) VE.out).mono ?_; rintro x wF ⟨rfl, uF⟩))
    have UE := Lib.hid (UC.out.trans (((Up.refl _).drew.trans uE).trans uF))
    clear uE uF l0 l1 q0 q1 r0 r1; go_wp2; go_ret
    exact ⟨rfl, UE.out⟩
end Go.Proofs.Ytipjcjjjkkaigab

namespace Go.Proofs.Ytipjcjjjkkaigab.fnExactCmbOk
set_option maxRecDepth 100000
open Go.ChangeShapes Go.WideShapes Go.ChangeAt Go.RowKit Go.Joins Go.Deep
set_option linter.unusedVariables false
set_option maxRecDepth 100000 in
theorem lifted (os : Os) (started : os.Started) (H : Type) (enc : TypeId × Value → H) :
    ReturnsInHanded {} Try.checked os 3 .any (Rows.fnExactCmbOkSpec.pre6 enc Try.prog Try.f3 Rows.fnExactCmbOkRow.domain false) (Rows.fnExactCmbOkSpec.post enc Try.prog Try.f3 false true false false) := by
  refine returnsInHanded_of_change (C := Try.checked) own started (by kernel_rfl) Try.func3
    (ChangeSpec.witness6 (enc := enc) (C := Try.checked) false ⟨#[], #[.agg #[.slice none 0 0, .slice none 0 0, .int .i64 0], .agg #[.slice none 0 0, .slice none 0 0]], []⟩ 8 (by kernel_rfl) (by kernel_rfl) (by kernel_rfl) (by kernel_rfl)) ?_
  intro W base args ds gs before hval0 hW hcnd _
  have hval : ∀ (j : Nat) t v, Try.f3.params[j]? = some t → args[j]? = some v → Value.okWide Try.prog W .any base t v := hval0
  have hW' := hW
  obtain ⟨p, q, hA0, hV, rfl, hfz, hnd⟩ := hW
  have hA : DataW.TrodAll enc Try.prog W 0 (fun _ => true) true Try.f3.params.toList args.toList ds p := hA0
  rw [Try.params3] at hA hval; obtain ⟨v0, vs0, d0, ds0, p0, q0, hargs, rfl, rfl, h0, r0⟩ := trodAll_cons hA; obtain ⟨v1, vs1, d1, ds1, p1, q1, rfl, rfl, rfl, h1, r1⟩ := trodAll_cons r0; obtain ⟨rfl, rfl, rfl⟩ := trodAll_nil r1
  obtain rfl : args = #[v0, v1] := by cases args; simp_all
  obtain ⟨rfl, rfl⟩ := trodVars_none hV
  have k0 := h0
  have lt0 : ∀ x ∈ p0, x.block < W.heap.size := by obtain ⟨m, hm⟩ := k0; exact DataW.trod_lt m _ _ _ hm
  obtain ⟨a0, w0⟩ := open_mdl (hval 0 25 v0 rfl rfl) h0
  have k1 := h1
  have lt1 : ∀ x ∈ p1, x.block < W.heap.size := by obtain ⟨m, hm⟩ := k1; exact DataW.trod_lt m _ _ _ hm
  obtain ⟨a1, w1⟩ := open_cmb (hval 1 29 v1 rfl rfl) h1; clear hA0 hval0
  refine (walkEcbok v0 a0 v1 a1 w0 w1).mono fun e W' ⟨he, bel⟩ => ?_
  subst he
  exact ⟨_, rfl, _, _, _, [], _, [], hW', trodAll_mk1 (shut_bool Try.underlying4 _), (trodAll_cons_mk (Below.trod laidOut (by kernel_rfl) (of_decide_eq_true (by kernel_rfl)) k0 bel lt0) (trodAll_cons_mk (Below.trod laidOut (by kernel_rfl) (of_decide_eq_true (by kernel_rfl)) k1 bel lt1) trodAll_mk0)), rfl, bel.frame _, fun h => by cases h⟩
theorem over : Rows.fnExactCmbOkRow.holds Try.pinned (OpenSpec.ofChange Rows.fnExactCmbOkSpec) :=
  OpenClaim.holds_of_wide 3 Try.f3 rfl rfl rfl rfl rfl rfl rfl ⟨rfl, rfl, rfl, rfl, rfl⟩ rfl rfl rfl rfl rfl (by kernel_rfl) Try.func3 (by kernel_rfl)
    (of_decide_eq_true (by kernel_rfl)) (by unfold Func.isWrapper; first | (rw [if_pos (by decide +kernel)]; kernel_rfl) | (rw [if_neg (by decide +kernel)]; exact ⟨rfl, rfl⟩))
    (fun os started H enc _ => lifted os started H enc)
theorem proved : Rows.FnExactCmbOkSaid := over
end Go.Proofs.Ytipjcjjjkkaigab.fnExactCmbOk

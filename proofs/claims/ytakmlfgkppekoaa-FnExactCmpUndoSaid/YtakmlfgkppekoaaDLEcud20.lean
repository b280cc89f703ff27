/-
  What FnExactCmpUndo returns, in one sentence: true, with new blocks alone; for every model and component and every event in memory.
-/
import Derived.Deep.RegionHeld3
import Derived.OrdersHeld
import Derived.Test.YtakmlfgkppekoaaDLEcud03
import Derived.Test.YtakmlfgkppekoaaDLEcud06
import Derived.Test.YtakmlfgkppekoaaDLEcud09
import Derived.Test.YtakmlfgkppekoaaDLEcud10
import Derived.Test.YtakmlfgkppekoaaDLEcud11
import Derived.Test.YtakmlfgkppekoaaDLEcud12
import Derived.Test.YtakmlfgkppekoaaDLEcud14
import Derived.Test.YtakmlfgkppekoaaDLEcud16
import Derived.Test.YtakmlfgkppekoaaDLEcud19
namespace Go.Proofs.Ytakmlfgkppekoaa
set_option maxRecDepth 100000
open Go.RowKit
def euA (lo : Nat) (VM VC VE VR VD : Value) (m : Mdl) (til : Int) (n k : Nat) (g : Bool) (d : Nat) (v : Value) (w : World) : Prop :=
  if d = 19 then v = VM else if d = 20 then IsMv m til n k v w else if d = 21 then v = VC else if d = 22 then v = VC else if d = 23 then v = VE else if d = 24 then v = VE else if d = 25 then v = VR else if d = 18 then v = VR else if d = 26 then v = VD else if d = 27 then v = .bool g else if d = 8 then NewB 3 41 lo v w else True
theorem euA_19 (lo : Nat) (VM VC VE VR VD : Value) (m : Mdl) (til : Int) (n k : Nat) (g : Bool) (v : Value) (w : World) : euA lo VM VC VE VR VD m til n k g 19 v w = (v = VM) := by simp [euA]
theorem euA_20 (lo : Nat) (VM VC VE VR VD : Value) (m : Mdl) (til : Int) (n k : Nat) (g : Bool) (v : Value) (w : World) : euA lo VM VC VE VR VD m til n k g 20 v w = (IsMv m til n k v w) := by simp [euA]
theorem euA_21 (lo : Nat) (VM VC VE VR VD : Value) (m : Mdl) (til : Int) (n k : Nat) (g : Bool) (v : Value) (w : World) : euA lo VM VC VE VR VD m til n k g 21 v w = (v = VC) := by simp [euA]
theorem euA_22 (lo : Nat) (VM VC VE VR VD : Value) (m : Mdl) (til : Int) (n k : Nat) (g : Bool) (v : Value) (w : World) : euA lo VM VC VE VR VD m til n k g 22 v w = (v = VC) := by simp [euA]
theorem euA_23 (lo : Nat) (VM VC VE VR VD : Value) (m : Mdl) (til : Int) (n k : Nat) (g : Bool) (v : Value) (w : World) : euA lo VM VC VE VR VD m til n k g 23 v w = (v = VE) := by simp [euA]
theorem euA_24 (lo : Nat) (VM VC VE VR VD : Value) (m : Mdl) (til : Int) (n k : Nat) (g : Bool) (v : Value) (w : World) : euA lo VM VC VE VR VD m til n k g 24 v w = (v = VE) := by simp [euA]
theorem euA_25 (lo : Nat) (VM VC VE VR VD : Value) (m : Mdl) (til : Int) (n k : Nat) (g : Bool) (v : Value) (w : World) : euA lo VM VC VE VR VD m til n k g 25 v w = (v = VR) := by simp [euA]
theorem euA_18 (lo : Nat) (VM VC VE VR VD : Value) (m : Mdl) (til : Int) (n k : Nat) (g : Bool) (v : Value) (w : World) : euA lo VM VC VE VR VD m til n k g 18 v w = (v = VR) := by simp [euA]
theorem euA_26 (lo : Nat) (VM VC VE VR VD : Value) (m : Mdl) (til : Int) (n k : Nat) (g : Bool) (v : Value) (w : World) : euA lo VM VC VE VR VD m til n k g 26 v w = (v = VD) := by simp [euA]
theorem euA_27 (lo : Nat) (VM VC VE VR VD : Value) (m : Mdl) (til : Int) (n k : Nat) (g : Bool) (v : Value) (w : World) : euA lo VM VC VE VR VD m til n k g 27 v w = (v = .bool g) := by simp [euA]
theorem euA_8 (lo : Nat) (VM VC VE VR VD : Value) (m : Mdl) (til : Int) (n k : Nat) (g : Bool) (v : Value) (w : World) : euA lo VM VC VE VR VD m til n k g 8 v w = (NewB 3 41 lo v w) := by simp [euA]
theorem euA_up (lo : Nat) (VM VC VE VR VD : Value) (m : Mdl) (til : Int) (n k : Nat) (g : Bool) (d : Nat) {v : Value} {w w' : World} (h : euA lo VM VC VE VR VD m til n k g d v w) (u : Up w w') : euA lo VM VC VE VR VD m til n k g d v w' := by
  unfold euA at h ⊢
  by_cases h19 : d = 19
  · rw [if_pos h19] at h ⊢
    exact h
  rw [if_neg h19] at h ⊢
  by_cases h20 : d = 20
  · rw [if_pos h20] at h ⊢
    exact h.up u
  rw [if_neg h20] at h ⊢
  by_cases h21 : d = 21
  · rw [if_pos h21] at h ⊢
    exact h
  rw [if_neg h21] at h ⊢
  by_cases h22 : d = 22
  · rw [if_pos h22] at h ⊢
    exact h
  rw [if_neg h22] at h ⊢
  by_cases h23 : d = 23
  · rw [if_pos h23] at h ⊢
    exact h
  rw [if_neg h23] at h ⊢
  by_cases h24 : d = 24
  · rw [if_pos h24] at h ⊢
    exact h
  rw [if_neg h24] at h ⊢
  by_cases h25 : d = 25
  · rw [if_pos h25] at h ⊢
    exact h
  rw [if_neg h25] at h ⊢
  by_cases h18 : d = 18
  · rw [if_pos h18] at h ⊢
    exact h
  rw [if_neg h18] at h ⊢
  by_cases h26 : d = 26
  · rw [if_pos h26] at h ⊢
    exact h
  rw [if_neg h26] at h ⊢
  by_cases h27 : d = 27
  · rw [if_pos h27] at h ⊢
    exact h
  rw [if_neg h27] at h ⊢
  by_cases h8 : d = 8
  · rw [if_pos h8] at h ⊢
    exact h.up u
  rw [if_neg h8] at h ⊢
  exact trivial
def euB (lo : Nat) (VM VC VE VR VD : Value) (g : Bool) (d : Nat) (v : Value) (w : World) : Prop :=
  if d = 31 then v = VM else if d = 32 then v = VC else if d = 33 then v = VC else if d = 34 then v = VE else if d = 35 then v = VE else if d = 36 then v = VR else if d = 30 then v = VR else if d = 37 then v = VD else if d = 38 then v = .bool g else if d = 11 then NewB 3 41 lo v w else True
theorem euB_31 (lo : Nat) (VM VC VE VR VD : Value) (g : Bool) (v : Value) (w : World) : euB lo VM VC VE VR VD g 31 v w = (v = VM) := by simp [euB]
theorem euB_32 (lo : Nat) (VM VC VE VR VD : Value) (g : Bool) (v : Value) (w : World) : euB lo VM VC VE VR VD g 32 v w = (v = VC) := by simp [euB]
theorem euB_33 (lo : Nat) (VM VC VE VR VD : Value) (g : Bool) (v : Value) (w : World) : euB lo VM VC VE VR VD g 33 v w = (v = VC) := by simp [euB]
theorem euB_34 (lo : Nat) (VM VC VE VR VD : Value) (g : Bool) (v : Value) (w : World) : euB lo VM VC VE VR VD g 34 v w = (v = VE) := by simp [euB]
theorem euB_35 (lo : Nat) (VM VC VE VR VD : Value) (g : Bool) (v : Value) (w : World) : euB lo VM VC VE VR VD g 35 v w = (v = VE) := by simp [euB]
theorem euB_36 (lo : Nat) (VM VC VE VR VD : Value) (g : Bool) (v : Value) (w : World) : euB lo VM VC VE VR VD g 36 v w = (v = VR) := by simp [euB]
theorem euB_30 (lo : Nat) (VM VC VE VR VD : Value) (g : Bool) (v : Value) (w : World) : euB lo VM VC VE VR VD g 30 v w = (v = VR) := by simp [euB]
theorem euB_37 (lo : Nat) (VM VC VE VR VD : Value) (g : Bool) (v : Value) (w : World) : euB lo VM VC VE VR VD g 37 v w = (v = VD) := by simp [euB]
theorem euB_38 (lo : Nat) (VM VC VE VR VD : Value) (g : Bool) (v : Value) (w : World) : euB lo VM VC VE VR VD g 38 v w = (v = .bool g) := by simp [euB]
theorem euB_11 (lo : Nat) (VM VC VE VR VD : Value) (g : Bool) (v : Value) (w : World) : euB lo VM VC VE VR VD g 11 v w = (NewB 3 41 lo v w) := by simp [euB]
theorem euB_up (lo : Nat) (VM VC VE VR VD : Value) (g : Bool) (d : Nat) {v : Value} {w w' : World} (h : euB lo VM VC VE VR VD g d v w) (u : Up w w') : euB lo VM VC VE VR VD g d v w' := by
  unfold euB at h ⊢
  by_cases h31 : d = 31
  · rw [if_pos h31] at h ⊢
    exact h
  rw [if_neg h31] at h ⊢
  by_cases h32 : d = 32
  · rw [if_pos h32] at h ⊢
    exact h
  rw [if_neg h32] at h ⊢
  by_cases h33 : d = 33
  · rw [if_pos h33] at h ⊢
    exact h
  rw [if_neg h33] at h ⊢
  by_cases h34 : d = 34
  · rw [if_pos h34] at h ⊢
    exact h
  rw [if_neg h34] at h ⊢
  by_cases h35 : d = 35
  · rw [if_pos h35] at h ⊢
    exact h
  rw [if_neg h35] at h ⊢
  by_cases h36 : d = 36
  · rw [if_pos h36] at h ⊢
    exact h
  rw [if_neg h36] at h ⊢
  by_cases h30 : d = 30
  · rw [if_pos h30] at h ⊢
    exact h
  rw [if_neg h30] at h ⊢
  by_cases h37 : d = 37
  · rw [if_pos h37] at h ⊢
    exact h
  rw [if_neg h37] at h ⊢
  by_cases h38 : d = 38
  · rw [if_pos h38] at h ⊢
    exact h
  rw [if_neg h38] at h ⊢
  by_cases h11 : d = 11
  · rw [if_pos h11] at h ⊢
    exact h.up u
  rw [if_neg h11] at h ⊢
  exact trivial
set_option maxHeartbeats 40000000 in
theorem walkEcud (v : Value) (m : Mdl) (s : Cst) (hI : s.ct ≤ 9223372036854775807) (e : Evt) {w : World} (h : ∃ A n c B k d, v = .agg #[.slice A n c, .slice B k d, .int .i64 m.til] ∧ MdlV w A n B k m) :
    Calls Try.prog 5 #[v, s.v, e.v] w fun x w' => x = .returned (.bool true) ∧ Up w w' := by
  obtain ⟨A, n, c, B, k, d, rfl, hM⟩ := h
  have hk := hM.big
  have HM := Lib.hid hM
  obtain ⟨ss, sq, st⟩ := s; obtain ⟨et, eto, efr, esq, ekd, edt⟩ := e
  have CS := Lib.hid (fun W (u : Up w W) => szMdl_any A n c B k d m W (hM.up u))
  have CT := Lib.hid (fun W (u : Up w W) hS => toMdl_any A n c B k d m W (hM.up u) hS)
  have CC := Lib.hid (fun W => toCst_any ⟨ss, sq, st⟩ W)
  have CV := Lib.hid (fun W => toEvt_any ⟨et, eto, efr, esq, ekd, edt⟩ W)
  have CP := Lib.hid (fun A B W (h : MdlV W A n B k m) => specUndo_any A n n B k k m ⟨ss, sq, st⟩ hI ⟨et, eto, efr, esq, ekd, edt⟩ W h)
  have CI := Lib.hid (fun A B W (h : MdlV W A n B k m) => implCud_any A n n B k k m ⟨ss, sq, st⟩ hI ⟨et, eto, efr, esq, ekd, edt⟩ W h)
  obtain ⟨d0, d1, d2, g, hR⟩ := undoR_form (undoM m ⟨ss, sq, st⟩ ⟨et, eto, efr, esq, ekd, edt⟩); rw [hR] at CP CI
  have CE := Lib.hid (fun A n c B k d A' n' c' B' k' d' W (h1 : MdlV W A n B k m) (h2 : MdlV W A' n' B' k' m) (hS : FitM m) => eqMdl_any A n c B k d m A' n' c' B' k' d' m W h1 h2 hS)
  rw [decide_eq_true (rfl : m = m)] at CE
  have CQ := Lib.hid (fun W => eqCst_any ⟨d0, d1, d2⟩ ⟨d0, d1, d2⟩ W)
  rw [decide_eq_true (rfl : (⟨d0, d1, d2⟩ : Cst) = ⟨d0, d1, d2⟩)] at CQ
  have gg : (g != g) = false := by simp
  have GG := Lib.hid gg
  clear gg; unfold NewMdl at CT; unfold Cst.v at CC CP CI CQ ⊢; unfold Evt.v at CV CP CI ⊢; dsimp only at CC CP CI CQ CV ⊢
  generalize htil : m.til = til at *
  clear hM hR
  have BX := Lib.hid ((Box3.new w (.slice A n c) (.slice B k d) (.int .i64 til) 27).up (((Up.refl _).alloc (.cells #[.int .i64 ss, .int .i64 sq, .int .i64 st] 38)).alloc (.cells #[.int .i64 et, .int .i64 eto, .int .i64 efr, .int .i64 esq, .int .i64 ekd, .int .i64 edt] 40)))
  have BC := Lib.hid ((Box3.new (w.alloc (.cells #[.slice A n c, .slice B k d, .int .i64 til] 27)) (.int .i64 ss) (.int .i64 sq) (.int .i64 st) 38).up ((Up.refl _).alloc (.cells #[.int .i64 et, .int .i64 eto, .int .i64 efr, .int .i64 esq, .int .i64 ekd, .int .i64 edt] 40)))
  have BE := Lib.hid (Box.new ((w.alloc (.cells #[.slice A n c, .slice B k d, .int .i64 til] 27)).alloc (.cells #[.int .i64 ss, .int .i64 sq, .int .i64 st] 38)) ⟨et, eto, efr, esq, ekd, edt⟩ 40)
  have UC0 := Lib.hid ((((Up.refl w).alloc (.cells #[.slice A n c, .slice B k d, .int .i64 til] 27)).alloc (.cells #[.int .i64 ss, .int .i64 sq, .int .i64 st] 38)).alloc (.cells #[.int .i64 et, .int .i64 eto, .int .i64 efr, .int .i64 esq, .int .i64 ekd, .int .i64 edt] 40))
  simp only [World.size_alloc] at BC BE
  go_enter Try.func5, Try.ntmps5
  go_wp2_with fail
  generalize (((w.alloc (.cells #[.slice A n c, .slice B k d, .int .i64 til] 27)).alloc (.cells #[.int .i64 ss, .int .i64 sq, .int .i64 st] 38)).alloc (.cells #[.int .i64 et, .int .i64 eto, .int .i64 efr, .int .i64 esq, .int .i64 ekd, .int .i64 edt] 40)) = w0 at *
  generalize hb3 : w.heap.size = b3 at *
  generalize hb4 : b3 + 1 = b4 at *
  generalize hb5 : b4 + 1 = b5 at *
  refine (CS.out _ UC0.out).mono ?_; rintro x w1 ⟨z, rfl, hz, u1⟩
  have UB := Lib.hid u1
  have UC := Lib.hid (UC0.out.trans u1)
  clear u1
  rcases hz with rfl | ⟨z0, z1, hS⟩
  · go_wp2
    go_ret
    exact ⟨rfl, UC.out⟩
  · have SH := Lib.hid hS
    have j0 : ¬ z < 0 := by omega
    clear hS; clear z0 z1
    go_wp2_with fail
    generalize w1 = W0 at *
    refine region_relyT 11 [(7, 9)] [(11, false), (12, false)] [19, 20, 21, 22, 23, 24, 25, 18, 26, 27, 8] 10 (fun _ w1 => Up W0 w1) Up (fun i v w => euA W0.heap.size (.agg #[.slice A n c, .slice B k d, .int .i64 til]) (.agg #[.int .i64 ss, .int .i64 sq, .int .i64 st]) (.agg #[.int .i64 et, .int .i64 eto, .int .i64 efr, .int .i64 esq, .int .i64 ekd, .int .i64 edt]) (.tuple #[.agg #[.int .i64 d0, .int .i64 d1, .int .i64 d2], .bool g]) (.agg #[.int .i64 d0, .int .i64 d1, .int .i64 d2]) m til n k g i v w) (by kernel_rfl) (by kernel_rfl) (by kernel_rfl) (by kernel_rfl) ((Up.refl _).drew) (fun slot_ _ _ _ h u => euA_up W0.heap.size (.agg #[.slice A n c, .slice B k d, .int .i64 til]) (.agg #[.int .i64 ss, .int .i64 sq, .int .i64 st]) (.agg #[.int .i64 et, .int .i64 eto, .int .i64 efr, .int .i64 esq, .int .i64 ekd, .int .i64 edt]) (.tuple #[.agg #[.int .i64 d0, .int .i64 d1, .int .i64 d2], .bool g]) (.agg #[.int .i64 d0, .int .i64 d1, .int .i64 d2]) m til n k g slot_ h u) ?_ ?_ ?_
    · simp only [List.take_succ_cons, List.take_zero]
      refine stepsT_op (by kernel_rfl) ?_ ?_
      · intro X w1 k1 hG hdep
        obtain ⟨p0, p1, p2⟩ := And.intro (BX.out.up (UB.out.trans hG)).c0 (And.intro (BX.out.up (UB.out.trans hG)).c1 (BX.out.up (UB.out.trans hG)).c2); simp only [opW_def, mixT]; go_simp
        exact ⟨⟨(.agg #[.slice A n c, .slice B k d, .int .i64 til]), by first | rfl | simp [Act.put], Up.refl _, hG, (show euA W0.heap.size (.agg #[.slice A n c, .slice B k d, .int .i64 til]) (.agg #[.int .i64 ss, .int .i64 sq, .int .i64 st]) (.agg #[.int .i64 et, .int .i64 eto, .int .i64 efr, .int .i64 esq, .int .i64 ekd, .int .i64 edt]) (.tuple #[.agg #[.int .i64 d0, .int .i64 d1, .int .i64 d2], .bool g]) (.agg #[.int .i64 d0, .int .i64 d1, .int .i64 d2]) m til n k g 19 _ _ from by first | (rw [euA_19]; exact rfl) | rw [euA_19])⟩⟩
      refine stepsT_op (by kernel_rfl) ?_ ?_
      · intro X w1 k1 hG hdep
        have e19 : euA W0.heap.size (.agg #[.slice A n c, .slice B k d, .int .i64 til]) (.agg #[.int .i64 ss, .int .i64 sq, .int .i64 st]) (.agg #[.int .i64 et, .int .i64 eto, .int .i64 efr, .int .i64 esq, .int .i64 ekd, .int .i64 edt]) (.tuple #[.agg #[.int .i64 d0, .int .i64 d1, .int .i64 d2], .bool g]) (.agg #[.int .i64 d0, .int .i64 d1, .int .i64 d2]) m til n k g 19 (X 19) w1 := hdep 19 (by decide +kernel)
        rw [euA_19] at e19; simp only [opW_def, mixT, e19]; go_simp; refine (CT.out _ (UC.out.trans hG) SH.out).mono ?_; rintro x w2 ⟨g1, g2, rfl, h1, h2, o1, o2, u⟩
        exact ⟨⟨_, by first | rfl | simp [Act.put], u, hG.trans u, (show euA W0.heap.size (.agg #[.slice A n c, .slice B k d, .int .i64 til]) (.agg #[.int .i64 ss, .int .i64 sq, .int .i64 st]) (.agg #[.int .i64 et, .int .i64 eto, .int .i64 efr, .int .i64 esq, .int .i64 ekd, .int .i64 edt]) (.tuple #[.agg #[.int .i64 d0, .int .i64 d1, .int .i64 d2], .bool g]) (.agg #[.int .i64 d0, .int .i64 d1, .int .i64 d2]) m til n k g 20 _ _ from by first | (rw [euA_20]; exact ⟨_, _, rfl, NewMdl.v o1 o2 hk⟩) | rw [euA_20])⟩⟩
      refine stepsT_op (by kernel_rfl) ?_ ?_
      · intro X w1 k1 hG hdep
        obtain ⟨p0, p1, p2⟩ := And.intro (BC.out.up (UB.out.trans hG)).c0 (And.intro (BC.out.up (UB.out.trans hG)).c1 (BC.out.up (UB.out.trans hG)).c2); simp only [opW_def, mixT]; go_simp
        exact ⟨⟨(.agg #[.int .i64 ss, .int .i64 sq, .int .i64 st]), by first | rfl | simp [Act.put], Up.refl _, hG, (show euA W0.heap.size (.agg #[.slice A n c, .slice B k d, .int .i64 til]) (.agg #[.int .i64 ss, .int .i64 sq, .int .i64 st]) (.agg #[.int .i64 et, .int .i64 eto, .int .i64 efr, .int .i64 esq, .int .i64 ekd, .int .i64 edt]) (.tuple #[.agg #[.int .i64 d0, .int .i64 d1, .int .i64 d2], .bool g]) (.agg #[.int .i64 d0, .int .i64 d1, .int .i64 d2]) m til n k g 21 _ _ from by first | (rw [euA_21]; exact rfl) | rw [euA_21])⟩⟩
      refine stepsT_op (by kernel_rfl) ?_ ?_
      · intro X w1 k1 hG hdep
        have e21 : euA W0.heap.size (.agg #[.slice A n c, .slice B k d, .int .i64 til]) (.agg #[.int .i64 ss, .int .i64 sq, .int .i64 st]) (.agg #[.int .i64 et, .int .i64 eto, .int .i64 efr, .int .i64 esq, .int .i64 ekd, .int .i64 edt]) (.tuple #[.agg #[.int .i64 d0, .int .i64 d1, .int .i64 d2], .bool g]) (.agg #[.int .i64 d0, .int .i64 d1, .int .i64 d2]) m til n k g 21 (X 21) w1 := hdep 21 (by decide +kernel)
        rw [euA_21] at e21; simp only [opW_def, mixT, e21]; go_simp; refine (CC.out w1).mono ?_; rintro x w2 ⟨rfl, u⟩
        exact ⟨⟨(.agg #[.int .i64 ss, .int .i64 sq, .int .i64 st]), by first | rfl | simp [Act.put], u, hG.trans u, (show euA W0.heap.size (.agg #[.slice A n c, .slice B k d, .int .i64 til]) (.agg #[.int .i64 ss, .int .i64 sq, .int .i64 st]) (.agg #[.int .i64 et, .int .i64 eto, .int .i64 efr, .int .i64 esq, .int .i64 ekd, .int .i64 edt]) (.tuple #[.agg #[.int .i64 d0, .int .i64 d1, .int .i64 d2], .bool g]) (.agg #[.int .i64 d0, .int .i64 d1, .int .i64 d2]) m til n k g 22 _ _ from by first | (rw [euA_22]; exact rfl) | rw [euA_22])⟩⟩
      refine stepsT_op (by kernel_rfl) ?_ ?_
      · intro X w1 k1 hG hdep
        obtain ⟨⟨p0, p1, p2, p3, p4, p5⟩, -⟩ := (BE.out.up (UB.out.trans hG)).mk6; simp only [opW_def, mixT]; go_simp
        exact ⟨⟨(.agg #[.int .i64 et, .int .i64 eto, .int .i64 efr, .int .i64 esq, .int .i64 ekd, .int .i64 edt]), by first | rfl | simp [Act.put], Up.refl _, hG, (show euA W0.heap.size (.agg #[.slice A n c, .slice B k d, .int .i64 til]) (.agg #[.int .i64 ss, .int .i64 sq, .int .i64 st]) (.agg #[.int .i64 et, .int .i64 eto, .int .i64 efr, .int .i64 esq, .int .i64 ekd, .int .i64 edt]) (.tuple #[.agg #[.int .i64 d0, .int .i64 d1, .int .i64 d2], .bool g]) (.agg #[.int .i64 d0, .int .i64 d1, .int .i64 d2]) m til n k g 23 _ _ from by first | (rw [euA_23]; exact rfl) | rw [euA_23])⟩⟩
      refine stepsT_op (by kernel_rfl) ?_ ?_
      · intro X w1 k1 hG hdep
        have e23 : euA W0.heap.size (.agg #[.slice A n c, .slice B k d, .int .i64 til]) (.agg #[.int .i64 ss, .int .i64 sq, .int .i64 st]) (.agg #[.int .i64 et, .int .i64 eto, .int .i64 efr, .int .i64 esq, .int .i64 ekd, .int .i64 edt]) (.tuple #[.agg #[.int .i64 d0, .int .i64 d1, .int .i64 d2], .bool g]) (.agg #[.int .i64 d0, .int .i64 d1, .int .i64 d2]) m til n k g 23 (X 23) w1 := hdep 23 (by decide +kernel)
        rw [euA_23] at e23; simp only [opW_def, mixT, e23]; go_simp; refine (CV.out w1).mono ?_; rintro x w2 ⟨rfl, u⟩
        exact ⟨⟨(.agg #[.int .i64 et, .int .i64 eto, .int .i64 efr, .int .i64 esq, .int .i64 ekd, .int .i64 edt]), by first | rfl | simp [Act.put], u, hG.trans u, (show euA W0.heap.size (.agg #[.slice A n c, .slice B k d, .int .i64 til]) (.agg #[.int .i64 ss, .int .i64 sq, .int .i64 st]) (.agg #[.int .i64 et, .int .i64 eto, .int .i64 efr, .int .i64 esq, .int .i64 ekd, .int .i64 edt]) (.tuple #[.agg #[.int .i64 d0, .int .i64 d1, .int .i64 d2], .bool g]) (.agg #[.int .i64 d0, .int .i64 d1, .int .i64 d2]) m til n k g 24 _ _ from by first | (rw [euA_24]; exact rfl) | rw [euA_24])⟩⟩
      refine stepsT_op (by kernel_rfl) ?_ ?_
      · intro X w1 k1 hG hdep
        have e20 : euA W0.heap.size (.agg #[.slice A n c, .slice B k d, .int .i64 til]) (.agg #[.int .i64 ss, .int .i64 sq, .int .i64 st]) (.agg #[.int .i64 et, .int .i64 eto, .int .i64 efr, .int .i64 esq, .int .i64 ekd, .int .i64 edt]) (.tuple #[.agg #[.int .i64 d0, .int .i64 d1, .int .i64 d2], .bool g]) (.agg #[.int .i64 d0, .int .i64 d1, .int .i64 d2]) m til n k g 20 (X 20) w1 := hdep 20 (by decide +kernel)
        rw [euA_20] at e20; obtain ⟨A1, B1, e20, mv⟩ := e20
        have e22 : euA W0.heap.size (.agg #[.slice A n c, .slice B k d, .int .i64 til]) (.agg #[.int .i64 ss, .int .i64 sq, .int .i64 st]) (.agg #[.int .i64 et, .int .i64 eto, .int .i64 efr, .int .i64 esq, .int .i64 ekd, .int .i64 edt]) (.tuple #[.agg #[.int .i64 d0, .int .i64 d1, .int .i64 d2], .bool g]) (.agg #[.int .i64 d0, .int .i64 d1, .int .i64 d2]) m til n k g 22 (X 22) w1 := hdep 22 (by decide +kernel)
        rw [euA_22] at e22
        have e24 : euA W0.heap.size (.agg #[.slice A n c, .slice B k d, .int .i64 til]) (.agg #[.int .i64 ss, .int .i64 sq, .int .i64 st]) (.agg #[.int .i64 et, .int .i64 eto, .int .i64 efr, .int .i64 esq, .int .i64 ekd, .int .i64 edt]) (.tuple #[.agg #[.int .i64 d0, .int .i64 d1, .int .i64 d2], .bool g]) (.agg #[.int .i64 d0, .int .i64 d1, .int .i64 d2]) m til n k g 24 (X 24) w1 := hdep 24 (by decide +kernel)
        rw [euA_24] at e24; simp only [opW_def, mixT, e20, e22, e24]; go_simp; refine (CP.out _ _ w1 mv).mono ?_; rintro x w2 ⟨rfl, u⟩
        exact ⟨⟨(.tuple #[.agg #[.int .i64 d0, .int .i64 d1, .int .i64 d2], .bool g]), by first | rfl | simp [Act.put], u, hG.trans u, (show euA W0.heap.size (.agg #[.slice A n c, .slice B k d, .int .i64 til]) (.agg #[.int .i64 ss, .int .i64 sq, .int .i64 st]) (.agg #[.int .i64 et, .int .i64 eto, .int .i64 efr, .int .i64 esq, .int .i64 ekd, .int .i64 edt]) (.tuple #[.agg #[.int .i64 d0, .int .i64 d1, .int .i64 d2], .bool g]) (.agg #[.int .i64 d0, .int .i64 d1, .int .i64 d2]) m til n k g 25 _ _ from by first | (rw [euA_25]; exact rfl) | rw [euA_25])⟩⟩
      refine stepsT_op (by kernel_rfl) ?_ ?_
      · intro X w1 k1 hG hdep
        have e25 : euA W0.heap.size (.agg #[.slice A n c, .slice B k d, .int .i64 til]) (.agg #[.int .i64 ss, .int .i64 sq, .int .i64 st]) (.agg #[.int .i64 et, .int .i64 eto, .int .i64 efr, .int .i64 esq, .int .i64 ekd, .int .i64 edt]) (.tuple #[.agg #[.int .i64 d0, .int .i64 d1, .int .i64 d2], .bool g]) (.agg #[.int .i64 d0, .int .i64 d1, .int .i64 d2]) m til n k g 25 (X 25) w1 := hdep 25 (by decide +kernel)
        rw [euA_25] at e25; simp only [opW_def, mixT, e25]; go_simp
        exact ⟨⟨(.tuple #[.agg #[.int .i64 d0, .int .i64 d1, .int .i64 d2], .bool g]), by first | rfl | simp [Act.put], Up.refl _, hG, (show euA W0.heap.size (.agg #[.slice A n c, .slice B k d, .int .i64 til]) (.agg #[.int .i64 ss, .int .i64 sq, .int .i64 st]) (.agg #[.int .i64 et, .int .i64 eto, .int .i64 efr, .int .i64 esq, .int .i64 ekd, .int .i64 edt]) (.tuple #[.agg #[.int .i64 d0, .int .i64 d1, .int .i64 d2], .bool g]) (.agg #[.int .i64 d0, .int .i64 d1, .int .i64 d2]) m til n k g 18 _ _ from by first | (rw [euA_18]; exact rfl) | rw [euA_18])⟩⟩
      refine stepsT_op (by kernel_rfl) ?_ ?_
      · intro X w1 k1 hG hdep
        have e18 : euA W0.heap.size (.agg #[.slice A n c, .slice B k d, .int .i64 til]) (.agg #[.int .i64 ss, .int .i64 sq, .int .i64 st]) (.agg #[.int .i64 et, .int .i64 eto, .int .i64 efr, .int .i64 esq, .int .i64 ekd, .int .i64 edt]) (.tuple #[.agg #[.int .i64 d0, .int .i64 d1, .int .i64 d2], .bool g]) (.agg #[.int .i64 d0, .int .i64 d1, .int .i64 d2]) m til n k g 18 (X 18) w1 := hdep 18 (by decide +kernel)
        rw [euA_18] at e18; simp only [opW_def, mixT, e18]; go_simp
        exact ⟨⟨(.agg #[.int .i64 d0, .int .i64 d1, .int .i64 d2]), by first | rfl | simp [Act.put], Up.refl _, hG, (show euA W0.heap.size (.agg #[.slice A n c, .slice B k d, .int .i64 til]) (.agg #[.int .i64 ss, .int .i64 sq, .int .i64 st]) (.agg #[.int .i64 et, .int .i64 eto, .int .i64 efr, .int .i64 esq, .int .i64 ekd, .int .i64 edt]) (.tuple #[.agg #[.int .i64 d0, .int .i64 d1, .int .i64 d2], .bool g]) (.agg #[.int .i64 d0, .int .i64 d1, .int .i64 d2]) m til n k g 26 _ _ from by first | (rw [euA_26]; exact rfl) | rw [euA_26])⟩⟩
      refine stepsT_guest (by kernel_rfl) ?_; refine stepsT_op (by kernel_rfl) ?_ ?_
      · intro X w1 k1 hG hdep
        have hlo := hG.size
        simp only [opW_def, mixT]; go_simp
        exact ⟨⟨_, by first | rfl | simp [Act.put], (Up.refl _).alloc _, hG.alloc _, (show euA W0.heap.size (.agg #[.slice A n c, .slice B k d, .int .i64 til]) (.agg #[.int .i64 ss, .int .i64 sq, .int .i64 st]) (.agg #[.int .i64 et, .int .i64 eto, .int .i64 efr, .int .i64 esq, .int .i64 ekd, .int .i64 edt]) (.tuple #[.agg #[.int .i64 d0, .int .i64 d1, .int .i64 d2], .bool g]) (.agg #[.int .i64 d0, .int .i64 d1, .int .i64 d2]) m til n k g 8 _ _ from by first | (rw [euA_8]; exact NewB.new w1 _ _ 3 rfl hlo) | rw [euA_8])⟩⟩
      exact trivial
    · intro h p _ hp
      obtain ⟨rfl, rfl⟩ := gOf_one hp; intro X w1 o ho hr
      have ho2 : some _ = some o := ho
      injection ho2 with ho2
      subst ho2
      have e18 : euA W0.heap.size (.agg #[.slice A n c, .slice B k d, .int .i64 til]) (.agg #[.int .i64 ss, .int .i64 sq, .int .i64 st]) (.agg #[.int .i64 et, .int .i64 eto, .int .i64 efr, .int .i64 esq, .int .i64 ekd, .int .i64 edt]) (.tuple #[.agg #[.int .i64 d0, .int .i64 d1, .int .i64 d2], .bool g]) (.agg #[.int .i64 d0, .int .i64 d1, .int .i64 d2]) m til n k g 18 (X 18) w1 := hr
      rw [euA_18] at e18; obtain e18 := e18; refine ⟨(.bool g), fun w2 => ?_, (show euA W0.heap.size (.agg #[.slice A n c, .slice B k d, .int .i64 til]) (.agg #[.int .i64 ss, .int .i64 sq, .int .i64 st]) (.agg #[.int .i64 et, .int .i64 eto, .int .i64 efr, .int .i64 esq, .int .i64 ekd, .int .i64 edt]) (.tuple #[.agg #[.int .i64 d0, .int .i64 d1, .int .i64 d2], .bool g]) (.agg #[.int .i64 d0, .int .i64 d1, .int .i64 d2]) m til n k g 27 _ _ from by first | (rw [euA_27]; exact rfl) | rw [euA_27])⟩; simp only [mixT, e18]; go_simp
    · intro X w1 hG hR
      have e26 : euA W0.heap.size (.agg #[.slice A n c, .slice B k d, .int .i64 til]) (.agg #[.int .i64 ss, .int .i64 sq, .int .i64 st]) (.agg #[.int .i64 et, .int .i64 eto, .int .i64 efr, .int .i64 esq, .int .i64 ekd, .int .i64 edt]) (.tuple #[.agg #[.int .i64 d0, .int .i64 d1, .int .i64 d2], .bool g]) (.agg #[.int .i64 d0, .int .i64 d1, .int .i64 d2]) m til n k g 26 (X 26) w1 := hR 8 (by omega)
      rw [euA_26] at e26
      have e27 : euA W0.heap.size (.agg #[.slice A n c, .slice B k d, .int .i64 til]) (.agg #[.int .i64 ss, .int .i64 sq, .int .i64 st]) (.agg #[.int .i64 et, .int .i64 eto, .int .i64 efr, .int .i64 esq, .int .i64 ekd, .int .i64 edt]) (.tuple #[.agg #[.int .i64 d0, .int .i64 d1, .int .i64 d2], .bool g]) (.agg #[.int .i64 d0, .int .i64 d1, .int .i64 d2]) m til n k g 27 (X 27) w1 := hR 9 (by omega)
      rw [euA_27] at e27
      have e8 : euA W0.heap.size (.agg #[.slice A n c, .slice B k d, .int .i64 til]) (.agg #[.int .i64 ss, .int .i64 sq, .int .i64 st]) (.agg #[.int .i64 et, .int .i64 eto, .int .i64 efr, .int .i64 esq, .int .i64 ekd, .int .i64 edt]) (.tuple #[.agg #[.int .i64 d0, .int .i64 d1, .int .i64 d2], .bool g]) (.agg #[.int .i64 d0, .int .i64 d1, .int .i64 d2]) m til n k g 8 (X 8) w1 := hR 10 (by omega)
      rw [euA_8] at e8; obtain ⟨b8, e8, l8, t8, s8, f8, n8, h8⟩ := e8.parts
      have D8 := Lib.hid (Cell3.laid t8 s8 f8 d0 d1 d2)
      have U1 := Lib.hid (((hG.setCell (p := ⟨b8, 0, none⟩) l8 (.int .i64 d0)).setCell (p := ⟨b8, 1, none⟩) l8 (.int .i64 d1)).setCell (p := ⟨b8, 2, none⟩) l8 (.int .i64 d2))
      obtain ⟨v0, c0⟩ := s8 0 (by omega); obtain ⟨v1, c1'⟩ := s8 1 (by omega); obtain ⟨v2, c2⟩ := s8 2 (by omega); clear hR s8 n8 h8; simp only [mixT, e26, e27, e8]; refine mix_go rfl (by rfl) (fun K hK => ?_); go_simp; refine hK _ _ ?_; clear hK K; refine mix_go rfl (by rfl) (fun K hK => ?_); go_simp; refine hK _ _ ?_; clear hK K; refine mix_nil ?_; clear f8 c0 c1' c2 e26 e27 e8 hG
      generalize ((w1.setCell ⟨b8, 0, none⟩ (.int .i64 d0)).setCell ⟨b8, 1, none⟩ (.int .i64 d1)).setCell ⟨b8, 2, none⟩ (.int .i64 d2) = W8 at *
      have UBC := Lib.hid U1.out
      have UC := Lib.hid (UC.out.trans U1.out)
      have UB := Lib.hid (UB.out.trans U1.out)
      clear U1 UBC; obtain ⟨p0, p1, p2⟩ := And.intro (BX.out.up UB.out).c0 (And.intro (BX.out.up UB.out).c1 (BX.out.up UB.out).c2)
      go_wp2_with fail
      refine (CT.out _ UC.out SH.out).mono ?_; rintro x w4 ⟨g1, g2, rfl, hg1, hg2, o1, o2, u4⟩
      have ua := (Up.refl w4).alloc (.cells #[.slice (some ⟨g1, 0, none⟩) n n, .slice (some ⟨g2, 0, none⟩) k k, .int .i64 til] 33)
      have X4 := Lib.hid (Box3.new w4 (.slice (some ⟨g1, 0, none⟩) n n) (.slice (some ⟨g2, 0, none⟩) k k) (.int .i64 til) 33)
      have V4 := Lib.hid ((NewMdl.v o1 o2 hk).up ua)
      have u := u4.trans ua
      replace UB := Lib.hid (UB.out.trans u)
      replace UC := Lib.hid (UC.out.trans u)
      replace D8 := Lib.hid (D8.out.up u)
      clear o1 o2 u4 ua u p0 p1 p2 hg1 hg2
      go_wp2_with fail
      generalize hb10 : w4.heap.size = b10 at *
      generalize w4.alloc (.cells #[.slice (some ⟨g1, 0, none⟩) n n, .slice (some ⟨g2, 0, none⟩) k k, .int .i64 til] 33) = V0 at *
      clear hb10; refine region_relyT 10 [(6, 8)] [(10, false), (11, false)] [31, 32, 33, 34, 35, 36, 30, 37, 38, 11] 9 (fun _ w1 => Up V0 w1) Up (fun i v w => euB V0.heap.size (.agg #[.slice (some ⟨g1, 0, none⟩) n n, .slice (some ⟨g2, 0, none⟩) k k, .int .i64 til]) (.agg #[.int .i64 ss, .int .i64 sq, .int .i64 st]) (.agg #[.int .i64 et, .int .i64 eto, .int .i64 efr, .int .i64 esq, .int .i64 ekd, .int .i64 edt]) (.tuple #[.agg #[.int .i64 d0, .int .i64 d1, .int .i64 d2], .bool g]) (.agg #[.int .i64 d0, .int .i64 d1, .int .i64 d2]) g i v w) (by kernel_rfl) (by kernel_rfl) (by kernel_rfl) (by kernel_rfl) ((Up.refl _).drew) (fun slot_ _ _ _ h u => euB_up V0.heap.size (.agg #[.slice (some ⟨g1, 0, none⟩) n n, .slice (some ⟨g2, 0, none⟩) k k, .int .i64 til]) (.agg #[.int .i64 ss, .int .i64 sq, .int .i64 st]) (.agg #[.int .i64 et, .int .i64 eto, .int .i64 efr, .int .i64 esq, .int .i64 ekd, .int .i64 edt]) (.tuple #[.agg #[.int .i64 d0, .int .i64 d1, .int .i64 d2], .bool g]) (.agg #[.int .i64 d0, .int .i64 d1, .int .i64 d2]) g slot_ h u) ?_ ?_ ?_
      · simp only [List.take_succ_cons, List.take_zero]
        refine stepsT_op (by kernel_rfl) ?_ ?_
        · intro X w1 k1 hG hdep
          obtain ⟨p0, p1, p2⟩ := And.intro (X4.out.up hG).c0 (And.intro (X4.out.up hG).c1 (X4.out.up hG).c2); simp only [opW_def, mixT]; go_simp
          exact ⟨⟨(.agg #[.slice (some ⟨g1, 0, none⟩) n n, .slice (some ⟨g2, 0, none⟩) k k, .int .i64 til]), by first | rfl | simp [Act.put], Up.refl _, hG, (show euB V0.heap.size (.agg #[.slice (some ⟨g1, 0, none⟩) n n, .slice (some ⟨g2, 0, none⟩) k k, .int .i64 til]) (.agg #[.int .i64 ss, .int .i64 sq, .int .i64 st]) (.agg #[.int .i64 et, .int .i64 eto, .int .i64 efr, .int .i64 esq, .int .i64 ekd, .int .i64 edt]) (.tuple #[.agg #[.int .i64 d0, .int .i64 d1, .int .i64 d2], .bool g]) (.agg #[.int .i64 d0, .int .i64 d1, .int .i64 d2]) g 31 _ _ from by first | (rw [euB_31]; exact rfl) | rw [euB_31])⟩⟩
        refine stepsT_op (by kernel_rfl) ?_ ?_
        · intro X w1 k1 hG hdep
          obtain ⟨p0, p1, p2⟩ := And.intro (BC.out.up (UB.out.trans hG)).c0 (And.intro (BC.out.up (UB.out.trans hG)).c1 (BC.out.up (UB.out.trans hG)).c2); simp only [opW_def, mixT]; go_simp
          exact ⟨⟨(.agg #[.int .i64 ss, .int .i64 sq, .int .i64 st]), by first | rfl | simp [Act.put], Up.refl _, hG, (show euB V0.heap.size (.agg #[.slice (some ⟨g1, 0, none⟩) n n, .slice (some ⟨g2, 0, none⟩) k k, .int .i64 til]) (.agg #[.int .i64 ss, .int .i64 sq, .int .i64 st]) (.agg #[.int .i64 et, .int .i64 eto, .int .i64 efr, .int .i64 esq, .int .i64 ekd, .int .i64 edt]) (.tuple #[.agg #[.int .i64 d0, .int .i64 d1, .int .i64 d2], .bool g]) (.agg #[.int .i64 d0, .int .i64 d1, .int .i64 d2]) g 32 _ _ from by first | (rw [euB_32]; exact rfl) | rw [euB_32])⟩⟩
        refine stepsT_op (by kernel_rfl) ?_ ?_
        · intro X w1 k1 hG hdep
          have e32 : euB V0.heap.size (.agg #[.slice (some ⟨g1, 0, none⟩) n n, .slice (some ⟨g2, 0, none⟩) k k, .int .i64 til]) (.agg #[.int .i64 ss, .int .i64 sq, .int .i64 st]) (.agg #[.int .i64 et, .int .i64 eto, .int .i64 efr, .int .i64 esq, .int .i64 ekd, .int .i64 edt]) (.tuple #[.agg #[.int .i64 d0, .int .i64 d1, .int .i64 d2], .bool g]) (.agg #[.int .i64 d0, .int .i64 d1, .int .i64 d2]) g 32 (X 32) w1 := hdep 32 (by decide +kernel)
          rw [euB_32] at e32; simp only [opW_def, mixT, e32]; go_simp; refine (CC.out w1).mono ?_; rintro x w2 ⟨rfl, u⟩
          exact ⟨⟨(.agg #[.int .i64 ss, .int .i64 sq, .int .i64 st]), by first | rfl | simp [Act.put], u, hG.trans u, (show euB V0.heap.size (.agg #[.slice (some ⟨g1, 0, none⟩) n n, .slice (some ⟨g2, 0, none⟩) k k, .int .i64 til]) (.agg #[.int .i64 ss, .int .i64 sq, .int .i64 st]) (.agg #[.int .i64 et, .int .i64 eto, .int .i64 efr, .int .i64 esq, .int .i64 ekd, .int .i64 edt]) (.tuple #[.agg #[.int .i64 d0, .int .i64 d1, .int .i64 d2], .bool g]) (.agg #[.int .i64 d0, .int .i64 d1, .int .i64 d2]) g 33 _ _ from by first | (rw [euB_33]; exact rfl) | rw [euB_33])⟩⟩
        refine stepsT_op (by kernel_rfl) ?_ ?_
        · intro X w1 k1 hG hdep
          obtain ⟨⟨p0, p1, p2, p3, p4, p5⟩, -⟩ := (BE.out.up (UB.out.trans hG)).mk6; simp only [opW_def, mixT]; go_simp
          exact ⟨⟨(.agg #[.int .i64 et, .int .i64 eto, .int .i64 efr, .int .i64 esq, .int .i64 ekd, .int .i64 edt]), by first | rfl | simp [Act.put], Up.refl _, hG, (show euB V0.heap.size (.agg #[.slice (some ⟨g1, 0, none⟩) n n, .slice (some ⟨g2, 0, none⟩) k k, .int .i64 til]) (.agg #[.int .i64 ss, .int .i64 sq, .int .i64 st]) (.agg #[.int .i64 et, .int .i64 eto, .int .i64 efr, .int .i64 esq, .int .i64 ekd, .int .i64 edt]) (.tuple #[.agg #[.int .i64 d0, .int .i64 d1, .int .i64 d2], .bool g]) (.agg #[.int .i64 d0, .int .i64 d1, .int .i64 d2]) g 34 _ _ from by first | (rw [euB_34]; exact rfl) | rw [euB_34])⟩⟩
        refine stepsT_op (by kernel_rfl) ?_ ?_
        · intro X w1 k1 hG hdep
          have e34 : euB V0.heap.size (.agg #[.slice (some ⟨g1, 0, none⟩) n n, .slice (some ⟨g2, 0, none⟩) k k, .int .i64 til]) (.agg #[.int .i64 ss, .int .i64 sq, .int .i64 st]) (.agg #[.int .i64 et, .int .i64 eto, .int .i64 efr, .int .i64 esq, .int .i64 ekd, .int .i64 edt]) (.tuple #[.agg #[.int .i64 d0, .int .i64 d1, .int .i64 d2], .bool g]) (.agg #[.int .i64 d0, .int .i64 d1, .int .i64 d2]) g 34 (X 34) w1 := hdep 34 (by decide +kernel)
          rw [euB_34] at e34; simp only [opW_def, mixT, e34]; go_simp; refine (CV.out w1).mono ?_; rintro x w2 ⟨rfl, u⟩
          exact ⟨⟨(.agg #[.int .i64 et, .int .i64 eto, .int .i64 efr, .int .i64 esq, .int .i64 ekd, .int .i64 edt]), by first | rfl | simp [Act.put], u, hG.trans u, (show euB V0.heap.size (.agg #[.slice (some ⟨g1, 0, none⟩) n n, .slice (some ⟨g2, 0, none⟩) k k, .int .i64 til]) (.agg #[.int .i64 ss, .int .i64 sq, .int .i64 st]) (.agg #[.int .i64 et, .int .i64 eto, .int .i64 efr, .int .i64 esq, .int .i64 ekd, .int .i64 edt]) (.tuple #[.agg #[.int .i64 d0, .int .i64 d1, .int .i64 d2], .bool g]) (.agg #[.int .i64 d0, .int .i64 d1, .int .i64 d2]) g 35 _ _ from by first | (rw [euB_35]; exact rfl) | rw [euB_35])⟩⟩
        refine stepsT_op (by kernel_rfl) ?_ ?_
        · intro X w1 k1 hG hdep
          have e31 : euB V0.heap.size (.agg #[.slice (some ⟨g1, 0, none⟩) n n, .slice (some ⟨g2, 0, none⟩) k k, .int .i64 til]) (.agg #[.int .i64 ss, .int .i64 sq, .int .i64 st]) (.agg #[.int .i64 et, .int .i64 eto, .int .i64 efr, .int .i64 esq, .int .i64 ekd, .int .i64 edt]) (.tuple #[.agg #[.int .i64 d0, .int .i64 d1, .int .i64 d2], .bool g]) (.agg #[.int .i64 d0, .int .i64 d1, .int .i64 d2]) g 31 (X 31) w1 := hdep 31 (by decide +kernel)
          rw [euB_31] at e31
          have e33 : euB V0.heap.size (.agg #[.slice (some ⟨g1, 0, none⟩) n n, .slice (some ⟨g2, 0, none⟩) k k, .int .i64 til]) (.agg #[.int .i64 ss, .int .i64 sq, .int .i64 st]) (.agg #[.int .i64 et, .int .i64 eto, .int .i64 efr, .int .i64 esq, .int .i64 ekd, .int .i64 edt]) (.tuple #[.agg #[.int .i64 d0, .int .i64 d1, .int .i64 d2], .bool g]) (.agg #[.int .i64 d0, .int .i64 d1, .int .i64 d2]) g 33 (X 33) w1 := hdep 33 (by decide +kernel)
          rw [euB_33] at e33
          have e35 : euB V0.heap.size (.agg #[.slice (some ⟨g1, 0, none⟩) n n, .slice (some ⟨g2, 0, none⟩) k k, .int .i64 til]) (.agg #[.int .i64 ss, .int .i64 sq, .int .i64 st]) (.agg #[.int .i64 et, .int .i64 eto, .int .i64 efr, .int .i64 esq, .int .i64 ekd, .int .i64 edt]) (.tuple #[.agg #[.int .i64 d0, .int .i64 d1, .int .i64 d2], .bool g]) (.agg #[.int .i64 d0, .int .i64 d1, .int .i64 d2]) g 35 (X 35) w1 := hdep 35 (by decide +kernel)
          rw [euB_35] at e35; simp only [opW_def, mixT, e31, e33, e35]; go_simp; refine (CI.out _ _ w1 (V4.out.up hG)).mono ?_; rintro x w2 ⟨rfl, u⟩
          exact ⟨⟨(.tuple #[.agg #[.int .i64 d0, .int .i64 d1, .int .i64 d2], .bool g]), by first | rfl | simp [Act.put], u, hG.trans u, (show euB V0.heap.size (.agg #[.slice (some ⟨g1, 0, none⟩) n n, .slice (some ⟨g2, 0, none⟩) k k, .int .i64 til]) (.agg #[.int .i64 ss, .int .i64 sq, .int .i64 st]) (.agg #[.int .i64 et, .int .i64 eto, .int .i64 efr, .int .i64 esq, .int .i64 ekd, .int .i64 edt]) (.tuple #[.agg #[.int .i64 d0, .int .i64 d1, .int .i64 d2], .bool g]) (.agg #[.int .i64 d0, .int .i64 d1, .int .i64 d2]) g 36 _ _ from by first | (rw [euB_36]; exact rfl) | rw [euB_36])⟩⟩
        refine stepsT_op (by kernel_rfl) ?_ ?_
        · intro X w1 k1 hG hdep
          have e36 : euB V0.heap.size (.agg #[.slice (some ⟨g1, 0, none⟩) n n, .slice (some ⟨g2, 0, none⟩) k k, .int .i64 til]) (.agg #[.int .i64 ss, .int .i64 sq, .int .i64 st]) (.agg #[.int .i64 et, .int .i64 eto, .int .i64 efr, .int .i64 esq, .int .i64 ekd, .int .i64 edt]) (.tuple #[.agg #[.int .i64 d0, .int .i64 d1, .int .i64 d2], .bool g]) (.agg #[.int .i64 d0, .int .i64 d1, .int .i64 d2]) g 36 (X 36) w1 := hdep 36 (by decide +kernel)
          rw [euB_36] at e36; simp only [opW_def, mixT, e36]; go_simp
          exact ⟨⟨(.tuple #[.agg #[.int .i64 d0, .int .i64 d1, .int .i64 d2], .bool g]), by first | rfl | simp [Act.put], Up.refl _, hG, (show euB V0.heap.size (.agg #[.slice (some ⟨g1, 0, none⟩) n n, .slice (some ⟨g2, 0, none⟩) k k, .int .i64 til]) (.agg #[.int .i64 ss, .int .i64 sq, .int .i64 st]) (.agg #[.int .i64 et, .int .i64 eto, .int .i64 efr, .int .i64 esq, .int .i64 ekd, .int .i64 edt]) (.tuple #[.agg #[.int .i64 d0, .int .i64 d1, .int .i64 d2], .bool g]) (.agg #[.int .i64 d0, .int .i64 d1, .int .i64 d2]) g 30 _ _ from by first | (rw [euB_30]; exact rfl) | rw [euB_30])⟩⟩
        refine stepsT_op (by kernel_rfl) ?_ ?_
        · intro X w1 k1 hG hdep
          have e30 : euB V0.heap.size (.agg #[.slice (some ⟨g1, 0, none⟩) n n, .slice (some ⟨g2, 0, none⟩) k k, .int .i64 til]) (.agg #[.int .i64 ss, .int .i64 sq, .int .i64 st]) (.agg #[.int .i64 et, .int .i64 eto, .int .i64 efr, .int .i64 esq, .int .i64 ekd, .int .i64 edt]) (.tuple #[.agg #[.int .i64 d0, .int .i64 d1, .int .i64 d2], .bool g]) (.agg #[.int .i64 d0, .int .i64 d1, .int .i64 d2]) g 30 (X 30) w1 := hdep 30 (by decide +kernel)
          rw [euB_30] at e30; simp only [opW_def, mixT, e30]; go_simp
          exact ⟨⟨(.agg #[.int .i64 d0, .int .i64 d1, .int .i64 d2]), by first | rfl | simp [Act.put], Up.refl _, hG, (show euB V0.heap.size (.agg #[.slice (some ⟨g1, 0, none⟩) n n, .slice (some ⟨g2, 0, none⟩) k k, .int .i64 til]) (.agg #[.int .i64 ss, .int .i64 sq, .int .i64 st]) (.agg #[.int .i64 et, .int .i64 eto, .int .i64 efr, .int .i64 esq, .int .i64 ekd, .int .i64 edt]) (.tuple #[.agg #[.int .i64 d0, .int .i64 d1, .int .i64 d2], .bool g]) (.agg #[.int .i64 d0, .int .i64 d1, .int .i64 d2]) g 37 _ _ from by first | (rw [euB_37]; exact rfl) | rw [euB_37])⟩⟩
        refine stepsT_guest (by kernel_rfl) ?_; refine stepsT_op (by kernel_rfl) ?_ ?_
        · intro X w1 k1 hG hdep
          have hlo := hG.size
          simp only [opW_def, mixT]; go_simp
          exact ⟨⟨_, by first | rfl | simp [Act.put], (Up.refl _).alloc _, hG.alloc _, (show euB V0.heap.size (.agg #[.slice (some ⟨g1, 0, none⟩) n n, .slice (some ⟨g2, 0, none⟩) k k, .int .i64 til]) (.agg #[.int .i64 ss, .int .i64 sq, .int .i64 st]) (.agg #[.int .i64 et, .int .i64 eto, .int .i64 efr, .int .i64 esq, .int .i64 ekd, .int .i64 edt]) (.tuple #[.agg #[.int .i64 d0, .int .i64 d1, .int .i64 d2], .bool g]) (.agg #[.int .i64 d0, .int .i64 d1, .int .i64 d2]) g 11 _ _ from by first | (rw [euB_11]; exact NewB.new w1 _ _ 3 rfl hlo) | rw [euB_11])⟩⟩
        exact trivial
      · intro h p _ hp
        obtain ⟨rfl, rfl⟩ := gOf_one hp; intro X w1 o ho hr
        have ho2 : some _ = some o := ho
        injection ho2 with ho2
        subst ho2
        have e30 : euB V0.heap.size (.agg #[.slice (some ⟨g1, 0, none⟩) n n, .slice (some ⟨g2, 0, none⟩) k k, .int .i64 til]) (.agg #[.int .i64 ss, .int .i64 sq, .int .i64 st]) (.agg #[.int .i64 et, .int .i64 eto, .int .i64 efr, .int .i64 esq, .int .i64 ekd, .int .i64 edt]) (.tuple #[.agg #[.int .i64 d0, .int .i64 d1, .int .i64 d2], .bool g]) (.agg #[.int .i64 d0, .int .i64 d1, .int .i64 d2]) g 30 (X 30) w1 := hr
        rw [euB_30] at e30; obtain e30 := e30; refine ⟨(.bool g), fun w2 => ?_, (show euB V0.heap.size (.agg #[.slice (some ⟨g1, 0, none⟩) n n, .slice (some ⟨g2, 0, none⟩) k k, .int .i64 til]) (.agg #[.int .i64 ss, .int .i64 sq, .int .i64 st]) (.agg #[.int .i64 et, .int .i64 eto, .int .i64 efr, .int .i64 esq, .int .i64 ekd, .int .i64 edt]) (.tuple #[.agg #[.int .i64 d0, .int .i64 d1, .int .i64 d2], .bool g]) (.agg #[.int .i64 d0, .int .i64 d1, .int .i64 d2]) g 38 _ _ from by first | (rw [euB_38]; exact rfl) | rw [euB_38])⟩; simp only [mixT, e30]; go_simp
      · intro X w1 hG hR
        have e37 : euB V0.heap.size (.agg #[.slice (some ⟨g1, 0, none⟩) n n, .slice (some ⟨g2, 0, none⟩) k k, .int .i64 til]) (.agg #[.int .i64 ss, .int .i64 sq, .int .i64 st]) (.agg #[.int .i64 et, .int .i64 eto, .int .i64 efr, .int .i64 esq, .int .i64 ekd, .int .i64 edt]) (.tuple #[.agg #[.int .i64 d0, .int .i64 d1, .int .i64 d2], .bool g]) (.agg #[.int .i64 d0, .int .i64 d1, .int .i64 d2]) g 37 (X 37) w1 := hR 7 (by omega)
        rw [euB_37] at e37
        have e38 : euB V0.heap.size (.agg #[.slice (some ⟨g1, 0, none⟩) n n, .slice (some ⟨g2, 0, none⟩) k k, .int .i64 til]) (.agg #[.int .i64 ss, .int .i64 sq, .int .i64 st]) (.agg #[.int .i64 et, .int .i64 eto, .int .i64 efr, .int .i64 esq, .int .i64 ekd, .int .i64 edt]) (.tuple #[.agg #[.int .i64 d0, .int .i64 d1, .int .i64 d2], .bool g]) (.agg #[.int .i64 d0, .int .i64 d1, .int .i64 d2]) g 38 (X 38) w1 := hR 8 (by omega)
        rw [euB_38] at e38
        have e11 : euB V0.heap.size (.agg #[.slice (some ⟨g1, 0, none⟩) n n, .slice (some ⟨g2, 0, none⟩) k k, .int .i64 til]) (.agg #[.int .i64 ss, .int .i64 sq, .int .i64 st]) (.agg #[.int .i64 et, .int .i64 eto, .int .i64 efr, .int .i64 esq, .int .i64 ekd, .int .i64 edt]) (.tuple #[.agg #[.int .i64 d0, .int .i64 d1, .int .i64 d2], .bool g]) (.agg #[.int .i64 d0, .int .i64 d1, .int .i64 d2]) g 11 (X 11) w1 := hR 9 (by omega)
        rw [euB_11] at e11; obtain ⟨b11, e11, l8, t8, s8, f8, n8, h8⟩ := e11.parts
        have D11 := Lib.hid (Cell3.laid t8 s8 f8 d0 d1 d2)
        have U1 := Lib.hid (((hG.setCell (p := ⟨b11, 0, none⟩) l8 (.int .i64 d0)).setCell (p := ⟨b11, 1, none⟩) l8 (.int .i64 d1)).setCell (p := ⟨b11, 2, none⟩) l8 (.int .i64 d2))
        obtain ⟨v0, c0⟩ := s8 0 (by omega); obtain ⟨v1, c1'⟩ := s8 1 (by omega); obtain ⟨v2, c2⟩ := s8 2 (by omega); clear hR s8 n8 h8; simp only [mixT, e37, e38, e11]; refine mix_go rfl (by rfl) (fun K hK => ?_); go_simp; refine hK _ _ ?_; clear hK K; refine mix_go rfl (by rfl) (fun K hK => ?_); go_simp; refine hK _ _ ?_; clear hK K; refine mix_nil ?_; clear f8 c0 c1' c2 e37 e38 e11 hG
        generalize ((w1.setCell ⟨b11, 0, none⟩ (.int .i64 d0)).setCell ⟨b11, 1, none⟩ (.int .i64 d1)).setCell ⟨b11, 2, none⟩ (.int .i64 d2) = W11 at *
        replace UB := Lib.hid (UB.out.trans U1.out)
        replace UC := Lib.hid (UC.out.trans U1.out)
        replace D8 := Lib.hid (D8.out.up U1.out)
        replace X4 := Lib.hid (X4.out.up U1.out)
        replace V4 := Lib.hid (V4.out.up U1.out)
        clear U1; obtain ⟨p0, p1, p2⟩ := And.intro D11.out.c0 (And.intro D11.out.c1 D11.out.c2); obtain ⟨q0, q1, q2⟩ := And.intro D8.out.c0 (And.intro D8.out.c1 D8.out.c2)
        have gg := GG.out
        go_wp2_with fail
        refine (CQ.out _).mono ?_; rintro x w6 ⟨rfl, u⟩
        replace UB := Lib.hid (UB.out.trans u)
        replace UC := Lib.hid (UC.out.trans u)
        replace X4 := Lib.hid (X4.out.up u)
        replace V4 := Lib.hid (V4.out.up u)
        clear u p0 p1 p2 q0 q1 q2
        go_wp2_with fail
        have HB := And.intro (BX.out.up UB.out).lt (And.intro X4.out.lt (And.intro (BX.out.up UB.out).c0 (And.intro (BX.out.up UB.out).c1 (And.intro (BX.out.up UB.out).c2 (And.intro X4.out.c0 (And.intro X4.out.c1 X4.out.c2))))))
        have HH := Lib.hid HB
        obtain ⟨l0, l1, q0, q1, q2, r0, r1, r2⟩ := HB
        have ud := (Up.refl w6).drew
        go_region_held3 (fun w' => b3 < w'.heap.size ∧ b10 < w'.heap.size ∧ w'.cell? ⟨b3, 0, none⟩ = some (.slice A n c) ∧ w'.cell? ⟨b3, 1, none⟩ = some (.slice B k d) ∧ w'.cell? ⟨b3, 2, none⟩ = some (.int .i64 til) ∧ w'.cell? ⟨b10, 0, none⟩ = some (.slice (some ⟨g1, 0, none⟩) n n) ∧ w'.cell? ⟨b10, 1, none⟩ = some (.slice (some ⟨g2, 0, none⟩) k k) ∧ w'.cell? ⟨b10, 2, none⟩ = some (.int .i64 til))
          (first | (exact HH.out) | (exact two_upr uF (by assumption)) | (exact two_upr uE (by assumption)))
          (first
            | (go_at_call 20; refine (CT.out _ (UC.out.trans (Up.refl _).drew) SH.out).mono ?_; rintro x wE ⟨g5, g6, rfl, hg5, hg6, o5, o6, uE⟩; have VE := Lib.hid (NewMdl.v o5 o6 hk); clear o5 o6)
            | (go_at_call 22; refine (CE.out _ n n _ k k _ n n _ k k _ (V4.out.up ((Up.refl _).drew.trans uE)) VE.out SH.out.fit).mono ?_; rintro x wF ⟨rfl, uF⟩))
        have u7 := ((Up.refl w6).drew.trans uE).trans uF
        replace UC := Lib.hid (UC.out.trans u7)
        clear u7 uE uF ud l0 l1 q0 q1 q2 r0 r1 r2 VE HH; go_wp2; go_ret
        exact ⟨rfl, UC.out⟩
end Go.Proofs.Ytakmlfgkppekoaa

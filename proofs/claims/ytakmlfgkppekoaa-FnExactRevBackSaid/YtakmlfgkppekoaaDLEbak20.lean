/-
  What FnExactRevBack returns, in one sentence: true, with new blocks alone; for every model and component and every row of events in memory.
-/
import Derived.Deep.RegionHeld3
import Derived.Test.YtakmlfgkppekoaaDLEbak03
import Derived.Test.YtakmlfgkppekoaaDLEbak09
import Derived.Test.YtakmlfgkppekoaaDLEbak10
import Derived.Test.YtakmlfgkppekoaaDLEbak11
import Derived.Test.YtakmlfgkppekoaaDLEbak12
import Derived.Test.YtakmlfgkppekoaaDLEbak15
import Derived.Test.YtakmlfgkppekoaaDLEbak17
import Derived.Test.YtakmlfgkppekoaaDLEbak19
namespace Go.Proofs.Ytakmlfgkppekoaa
set_option maxRecDepth 100000
open Go.RowKit
/-- A row of events. -/
def IsLs (es : List Evt) (ln : Nat) (v : Value) (w : World) : Prop := ∃ A, v = .slice A ln ln ∧ Evs w A ln es
theorem IsLs.up {es : List Evt} {ln : Nat} {v : Value} {w w' : World} (h : IsLs es ln v w) (u : Up w w') : IsLs es ln v w' := by
  obtain ⟨A, h0, h1⟩ := h
  exact ⟨A, h0, h1.up u⟩
def ebA (lo : Nat) (VM VC VE VR VD : Value) (m : Mdl) (til : Int) (n k : Nat) (es : List Evt) (ln : Nat) (g : Bool) (d : Nat) (v : Value) (w : World) : Prop :=
  if d = 25 then v = VM else if d = 26 then IsMv m til n k v w else if d = 27 then v = VC else if d = 28 then v = VC else if d = 29 then v = VE else if d = 30 then IsLs es ln v w else if d = 31 then v = VR else if d = 24 then v = VR else if d = 32 then v = VD else if d = 33 then v = .bool g else if d = 8 then NewB 3 41 lo v w else True
theorem ebA_25 (lo : Nat) (VM VC VE VR VD : Value) (m : Mdl) (til : Int) (n k : Nat) (es : List Evt) (ln : Nat) (g : Bool) (v : Value) (w : World) : ebA lo VM VC VE VR VD m til n k es ln g 25 v w = (v = VM) := by simp [ebA]
theorem ebA_26 (lo : Nat) (VM VC VE VR VD : Value) (m : Mdl) (til : Int) (n k : Nat) (es : List Evt) (ln : Nat) (g : Bool) (v : Value) (w : World) : ebA lo VM VC VE VR VD m til n k es ln g 26 v w = (IsMv m til n k v w) := by simp [ebA]
theorem ebA_27 (lo : Nat) (VM VC VE VR VD : Value) (m : Mdl) (til : Int) (n k : Nat) (es : List Evt) (ln : Nat) (g : Bool) (v : Value) (w : World) : ebA lo VM VC VE VR VD m til n k es ln g 27 v w = (v = VC) := by simp [ebA]
theorem ebA_28 (lo : Nat) (VM VC VE VR VD : Value) (m : Mdl) (til : Int) (n k : Nat) (es : List Evt) (ln : Nat) (g : Bool) (v : Value) (w : World) : ebA lo VM VC VE VR VD m til n k es ln g 28 v w = (v = VC) := by simp [ebA]
theorem ebA_29 (lo : Nat) (VM VC VE VR VD : Value) (m : Mdl) (til : Int) (n k : Nat) (es : List Evt) (ln : Nat) (g : Bool) (v : Value) (w : World) : ebA lo VM VC VE VR VD m til n k es ln g 29 v w = (v = VE) := by simp [ebA]
theorem ebA_30 (lo : Nat) (VM VC VE VR VD : Value) (m : Mdl) (til : Int) (n k : Nat) (es : List Evt) (ln : Nat) (g : Bool) (v : Value) (w : World) : ebA lo VM VC VE VR VD m til n k es ln g 30 v w = (IsLs es ln v w) := by simp [ebA]
theorem ebA_31 (lo : Nat) (VM VC VE VR VD : Value) (m : Mdl) (til : Int) (n k : Nat) (es : List Evt) (ln : Nat) (g : Bool) (v : Value) (w : World) : ebA lo VM VC VE VR VD m til n k es ln g 31 v w = (v = VR) := by simp [ebA]
theorem ebA_24 (lo : Nat) (VM VC VE VR VD : Value) (m : Mdl) (til : Int) (n k : Nat) (es : List Evt) (ln : Nat) (g : Bool) (v : Value) (w : World) : ebA lo VM VC VE VR VD m til n k es ln g 24 v w = (v = VR) := by simp [ebA]
theorem ebA_32 (lo : Nat) (VM VC VE VR VD : Value) (m : Mdl) (til : Int) (n k : Nat) (es : List Evt) (ln : Nat) (g : Bool) (v : Value) (w : World) : ebA lo VM VC VE VR VD m til n k es ln g 32 v w = (v = VD) := by simp [ebA]
theorem ebA_33 (lo : Nat) (VM VC VE VR VD : Value) (m : Mdl) (til : Int) (n k : Nat) (es : List Evt) (ln : Nat) (g : Bool) (v : Value) (w : World) : ebA lo VM VC VE VR VD m til n k es ln g 33 v w = (v = .bool g) := by simp [ebA]
theorem ebA_8 (lo : Nat) (VM VC VE VR VD : Value) (m : Mdl) (til : Int) (n k : Nat) (es : List Evt) (ln : Nat) (g : Bool) (v : Value) (w : World) : ebA lo VM VC VE VR VD m til n k es ln g 8 v w = (NewB 3 41 lo v w) := by simp [ebA]
theorem ebA_up (lo : Nat) (VM VC VE VR VD : Value) (m : Mdl) (til : Int) (n k : Nat) (es : List Evt) (ln : Nat) (g : Bool) (d : Nat) {v : Value} {w w' : World} (h : ebA lo VM VC VE VR VD m til n k es ln g d v w) (u : Up w w') : ebA lo VM VC VE VR VD m til n k es ln g d v w' := by
  unfold ebA at h ⊢
  by_cases h25 : d = 25
  · rw [if_pos h25] at h ⊢
    exact h
  rw [if_neg h25] at h ⊢
  by_cases h26 : d = 26
  · rw [if_pos h26] at h ⊢
    exact h.up u
  rw [if_neg h26] at h ⊢
  by_cases h27 : d = 27
  · rw [if_pos h27] at h ⊢
    exact h
  rw [if_neg h27] at h ⊢
  by_cases h28 : d = 28
  · rw [if_pos h28] at h ⊢
    exact h
  rw [if_neg h28] at h ⊢
  by_cases h29 : d = 29
  · rw [if_pos h29] at h ⊢
    exact h
  rw [if_neg h29] at h ⊢
  by_cases h30 : d = 30
  · rw [if_pos h30] at h ⊢
    exact h.up u
  rw [if_neg h30] at h ⊢
  by_cases h31 : d = 31
  · rw [if_pos h31] at h ⊢
    exact h
  rw [if_neg h31] at h ⊢
  by_cases h24 : d = 24
  · rw [if_pos h24] at h ⊢
    exact h
  rw [if_neg h24] at h ⊢
  by_cases h32 : d = 32
  · rw [if_pos h32] at h ⊢
    exact h
  rw [if_neg h32] at h ⊢
  by_cases h33 : d = 33
  · rw [if_pos h33] at h ⊢
    exact h
  rw [if_neg h33] at h ⊢
  by_cases h8 : d = 8
  · rw [if_pos h8] at h ⊢
    exact h.up u
  rw [if_neg h8] at h ⊢
  exact trivial
def ebB (lo : Nat) (VM VC VE VR VD : Value) (g : Bool) (d : Nat) (v : Value) (w : World) : Prop :=
  if d = 39 then v = VM else if d = 40 then v = VC else if d = 41 then v = VC else if d = 42 then v = VE else if d = 43 then v = VR else if d = 38 then v = VR else if d = 44 then v = VD else if d = 45 then v = .bool g else if d = 12 then NewB 3 41 lo v w else True
theorem ebB_39 (lo : Nat) (VM VC VE VR VD : Value) (g : Bool) (v : Value) (w : World) : ebB lo VM VC VE VR VD g 39 v w = (v = VM) := by simp [ebB]
theorem ebB_40 (lo : Nat) (VM VC VE VR VD : Value) (g : Bool) (v : Value) (w : World) : ebB lo VM VC VE VR VD g 40 v w = (v = VC) := by simp [ebB]
theorem ebB_41 (lo : Nat) (VM VC VE VR VD : Value) (g : Bool) (v : Value) (w : World) : ebB lo VM VC VE VR VD g 41 v w = (v = VC) := by simp [ebB]
theorem ebB_42 (lo : Nat) (VM VC VE VR VD : Value) (g : Bool) (v : Value) (w : World) : ebB lo VM VC VE VR VD g 42 v w = (v = VE) := by simp [ebB]
theorem ebB_43 (lo : Nat) (VM VC VE VR VD : Value) (g : Bool) (v : Value) (w : World) : ebB lo VM VC VE VR VD g 43 v w = (v = VR) := by simp [ebB]
theorem ebB_38 (lo : Nat) (VM VC VE VR VD : Value) (g : Bool) (v : Value) (w : World) : ebB lo VM VC VE VR VD g 38 v w = (v = VR) := by simp [ebB]
theorem ebB_44 (lo : Nat) (VM VC VE VR VD : Value) (g : Bool) (v : Value) (w : World) : ebB lo VM VC VE VR VD g 44 v w = (v = VD) := by simp [ebB]
theorem ebB_45 (lo : Nat) (VM VC VE VR VD : Value) (g : Bool) (v : Value) (w : World) : ebB lo VM VC VE VR VD g 45 v w = (v = .bool g) := by simp [ebB]
theorem ebB_12 (lo : Nat) (VM VC VE VR VD : Value) (g : Bool) (v : Value) (w : World) : ebB lo VM VC VE VR VD g 12 v w = (NewB 3 41 lo v w) := by simp [ebB]
theorem ebB_up (lo : Nat) (VM VC VE VR VD : Value) (g : Bool) (d : Nat) {v : Value} {w w' : World} (h : ebB lo VM VC VE VR VD g d v w) (u : Up w w') : ebB lo VM VC VE VR VD g d v w' := by
  unfold ebB at h ⊢
  by_cases h39 : d = 39
  · rw [if_pos h39] at h ⊢
    exact h
  rw [if_neg h39] at h ⊢
  by_cases h40 : d = 40
  · rw [if_pos h40] at h ⊢
    exact h
  rw [if_neg h40] at h ⊢
  by_cases h41 : d = 41
  · rw [if_pos h41] at h ⊢
    exact h
  rw [if_neg h41] at h ⊢
  by_cases h42 : d = 42
  · rw [if_pos h42] at h ⊢
    exact h
  rw [if_neg h42] at h ⊢
  by_cases h43 : d = 43
  · rw [if_pos h43] at h ⊢
    exact h
  rw [if_neg h43] at h ⊢
  by_cases h38 : d = 38
  · rw [if_pos h38] at h ⊢
    exact h
  rw [if_neg h38] at h ⊢
  by_cases h44 : d = 44
  · rw [if_pos h44] at h ⊢
    exact h
  rw [if_neg h44] at h ⊢
  by_cases h45 : d = 45
  · rw [if_pos h45] at h ⊢
    exact h
  rw [if_neg h45] at h ⊢
  by_cases h12 : d = 12
  · rw [if_pos h12] at h ⊢
    exact h.up u
  rw [if_neg h12] at h ⊢
  exact trivial
set_option maxHeartbeats 40000000 in
theorem walkEbak (v : Value) (m : Mdl) (s : Cst) (hI : s.ct ≤ 9223372036854775807) (L : Option Addr) (ln cap : Nat) (es : List Evt) {w : World} (hE : Evs w L ln es) (hln : ln ≤ 9223372036854775807) (h : ∃ A n c B k d, v = .agg #[.slice A n c, .slice B k d, .int .i64 m.til] ∧ MdlV w A n B k m) :
    Calls Try.prog 6 #[v, s.v, .slice L ln cap] w fun x w' => x = .returned (.bool true) ∧ Up w w' := by
  obtain ⟨A, n, c, B, k, d, rfl, hM⟩ := h
  have hk := hM.big
  have HM := Lib.hid hM
  obtain ⟨ss, sq, st⟩ := s
  have HL := Lib.hid hE
  have CS := Lib.hid (fun W (u : Up w W) => szMdl_any A n c B k d m W (hM.up u))
  have CT := Lib.hid (fun W (u : Up w W) hS => toMdl_any A n c B k d m W (hM.up u) hS)
  have CC := Lib.hid (fun W => toCst_any ⟨ss, sq, st⟩ W)
  have CZ := Lib.hid (fun l W a b => sz_any L ln cap l W a b hln)
  have CV := Lib.hid (fun (hs : ln ≤ 1000000000) W (u : Up w W) => toS_any L ln cap es W hs (hE.up u))
  have CL := Lib.hid (fun A B ca cb W (hs : ln ≤ 1000000000) h1 h2 => eqS_any A B ln ln ca cb es es W hs h1 h2)
  rw [decide_eq_true (rfl : es = es)] at CL
  have CP := Lib.hid (fun A B L W (h : MdlV W A n B k m) (hE : Evs W L ln es) => specBack_any A n n B k k m ⟨ss, sq, st⟩ hI L ln ln es W h hE)
  have CI := Lib.hid (fun A B L W (h : MdlV W A n B k m) (hE : Evs W L ln es) => implBack_any A n n B k k m ⟨ss, sq, st⟩ hI L ln ln es W h hE)
  obtain ⟨d0, d1, d2, g, hR⟩ := undoR_form (backM m ⟨ss, sq, st⟩ es); rw [hR] at CP CI
  have CE := Lib.hid (fun A n c B k d A' n' c' B' k' d' W (h1 : MdlV W A n B k m) (h2 : MdlV W A' n' B' k' m) (hS : FitM m) => eqMdl_any A n c B k d m A' n' c' B' k' d' m W h1 h2 hS)
  rw [decide_eq_true (rfl : m = m)] at CE
  have CQ := Lib.hid (fun W => eqCst_any ⟨d0, d1, d2⟩ ⟨d0, d1, d2⟩ W)
  rw [decide_eq_true (rfl : (⟨d0, d1, d2⟩ : Cst) = ⟨d0, d1, d2⟩)] at CQ
  have gg : (g != g) = false := by simp
  have GG := Lib.hid gg
  clear gg; unfold NewMdl at CT; unfold Cst.v at CC CP CI CQ ⊢; dsimp only at CC CP CI CQ ⊢
  generalize htil : m.til = til at *
  clear hM hR hE
  have BX := Lib.hid ((Box3.new w (.slice A n c) (.slice B k d) (.int .i64 til) 27).up ((Up.refl _).alloc (.cells #[.int .i64 ss, .int .i64 sq, .int .i64 st] 38)))
  have BC := Lib.hid ((Box3.new (w.alloc (.cells #[.slice A n c, .slice B k d, .int .i64 til] 27)) (.int .i64 ss) (.int .i64 sq) (.int .i64 st) 38))
  have UC0 := Lib.hid (((Up.refl w).alloc (.cells #[.slice A n c, .slice B k d, .int .i64 til] 27)).alloc (.cells #[.int .i64 ss, .int .i64 sq, .int .i64 st] 38))
  simp only [World.size_alloc] at BC
  go_enter Try.func6, Try.ntmps6
  go_wp2_with fail
  generalize ((w.alloc (.cells #[.slice A n c, .slice B k d, .int .i64 til] 27)).alloc (.cells #[.int .i64 ss, .int .i64 sq, .int .i64 st] 38)) = w0 at *
  generalize hb3 : w.heap.size = b3 at *
  generalize hb4 : b3 + 1 = b4 at *
  refine (CS.out _ UC0.out).mono ?_; rintro x w1 ⟨z, rfl, hz, u1⟩
  have UB := Lib.hid u1
  have UC := Lib.hid (UC0.out.trans u1)
  clear u1
  rcases hz with rfl | ⟨z0, z1, hS⟩
  · go_wp2
    go_ret
    exact ⟨rfl, UC.out⟩
  · have SH := Lib.hid hS
    have j0 : ¬ z < 0 := by omega
    clear hS
    go_wp2_with fail
    refine (CZ.out z _ z0 (by omega)).mono ?_; rintro x w2 ⟨rfl, rfl⟩
    by_cases hzl : z < ln
    · rw [if_pos hzl]
      go_wp2; go_ret
      exact ⟨rfl, UC.out⟩
    · rw [if_neg hzl]
      have j1 : ¬ z - (ln : Int) < 0 := by omega
      have LNS := Lib.hid (show ln ≤ 1000000000 by omega)
      replace CV := Lib.hid (CV.out LNS.out)
      clear z0 z1 j0 hzl
      go_wp2_with fail
      generalize w1 = W0 at *
      refine region_relyT 11 [(7, 9)] [(11, false), (12, false)] [25, 26, 27, 28, 29, 30, 31, 24, 32, 33, 8] 10 (fun _ w1 => Up W0 w1) Up (fun i v w => ebA W0.heap.size (.agg #[.slice A n c, .slice B k d, .int .i64 til]) (.agg #[.int .i64 ss, .int .i64 sq, .int .i64 st]) (.slice L ln cap) (.tuple #[.agg #[.int .i64 d0, .int .i64 d1, .int .i64 d2], .bool g]) (.agg #[.int .i64 d0, .int .i64 d1, .int .i64 d2]) m til n k es ln g i v w) (by kernel_rfl) (by kernel_rfl) (by kernel_rfl) (by kernel_rfl) ((Up.refl _).drew) (fun slot_ _ _ _ h u => ebA_up W0.heap.size (.agg #[.slice A n c, .slice B k d, .int .i64 til]) (.agg #[.int .i64 ss, .int .i64 sq, .int .i64 st]) (.slice L ln cap) (.tuple #[.agg #[.int .i64 d0, .int .i64 d1, .int .i64 d2], .bool g]) (.agg #[.int .i64 d0, .int .i64 d1, .int .i64 d2]) m til n k es ln g slot_ h u) ?_ ?_ ?_
      · simp only [List.take_succ_cons, List.take_zero]
        refine stepsT_op (by kernel_rfl) ?_ ?_
        · intro X w1 k1 hG hdep
          obtain ⟨p0, p1, p2⟩ := And.intro (BX.out.up (UB.out.trans hG)).c0 (And.intro (BX.out.up (UB.out.trans hG)).c1 (BX.out.up (UB.out.trans hG)).c2); simp only [opW_def, mixT]; go_simp
          exact ⟨⟨(.agg #[.slice A n c, .slice B k d, .int .i64 til]), by first | rfl | simp [Act.put], Up.refl _, hG, (show ebA W0.heap.size (.agg #[.slice A n c, .slice B k d, .int .i64 til]) (.agg #[.int .i64 ss, .int .i64 sq, .int .i64 st]) (.slice L ln cap) (.tuple #[.agg #[.int .i64 d0, .int .i64 d1, .int .i64 d2], .bool g]) (.agg #[.int .i64 d0, .int .i64 d1, .int .i64 d2]) m til n k es ln g 25 _ _ from by first | (rw [ebA_25]; exact rfl) | rw [ebA_25])⟩⟩
        refine stepsT_op (by kernel_rfl) ?_ ?_
        · intro X w1 k1 hG hdep
          have e25 : ebA W0.heap.size (.agg #[.slice A n c, .slice B k d, .int .i64 til]) (.agg #[.int .i64 ss, .int .i64 sq, .int .i64 st]) (.slice L ln cap) (.tuple #[.agg #[.int .i64 d0, .int .i64 d1, .int .i64 d2], .bool g]) (.agg #[.int .i64 d0, .int .i64 d1, .int .i64 d2]) m til n k es ln g 25 (X 25) w1 := hdep 25 (by decide +kernel)
          rw [ebA_25] at e25; simp only [opW_def, mixT, e25]; go_simp; refine (CT.out _ (UC.out.trans hG) SH.out).mono ?_; rintro x w2 ⟨g1, g2, rfl, h1, h2, o1, o2, u⟩
          exact ⟨⟨_, by first | rfl | simp [Act.put], u, hG.trans u, (show ebA W0.heap.size (.agg #[.slice A n c, .slice B k d, .int .i64 til]) (.agg #[.int .i64 ss, .int .i64 sq, .int .i64 st]) (.slice L ln cap) (.tuple #[.agg #[.int .i64 d0, .int .i64 d1, .int .i64 d2], .bool g]) (.agg #[.int .i64 d0, .int .i64 d1, .int .i64 d2]) m til n k es ln g 26 _ _ from by first | (rw [ebA_26]; exact ⟨_, _, rfl, NewMdl.v o1 o2 hk⟩) | rw [ebA_26])⟩⟩
        refine stepsT_op (by kernel_rfl) ?_ ?_
        · intro X w1 k1 hG hdep
          obtain ⟨p0, p1, p2⟩ := And.intro (BC.out.up (UB.out.trans hG)).c0 (And.intro (BC.out.up (UB.out.trans hG)).c1 (BC.out.up (UB.out.trans hG)).c2); simp only [opW_def, mixT]; go_simp
          exact ⟨⟨(.agg #[.int .i64 ss, .int .i64 sq, .int .i64 st]), by first | rfl | simp [Act.put], Up.refl _, hG, (show ebA W0.heap.size (.agg #[.slice A n c, .slice B k d, .int .i64 til]) (.agg #[.int .i64 ss, .int .i64 sq, .int .i64 st]) (.slice L ln cap) (.tuple #[.agg #[.int .i64 d0, .int .i64 d1, .int .i64 d2], .bool g]) (.agg #[.int .i64 d0, .int .i64 d1, .int .i64 d2]) m til n k es ln g 27 _ _ from by first | (rw [ebA_27]; exact rfl) | rw [ebA_27])⟩⟩
        refine stepsT_op (by kernel_rfl) ?_ ?_
        · intro X w1 k1 hG hdep
          have e27 : ebA W0.heap.size (.agg #[.slice A n c, .slice B k d, .int .i64 til]) (.agg #[.int .i64 ss, .int .i64 sq, .int .i64 st]) (.slice L ln cap) (.tuple #[.agg #[.int .i64 d0, .int .i64 d1, .int .i64 d2], .bool g]) (.agg #[.int .i64 d0, .int .i64 d1, .int .i64 d2]) m til n k es ln g 27 (X 27) w1 := hdep 27 (by decide +kernel)
          rw [ebA_27] at e27; simp only [opW_def, mixT, e27]; go_simp; refine (CC.out w1).mono ?_; rintro x w2 ⟨rfl, u⟩
          exact ⟨⟨(.agg #[.int .i64 ss, .int .i64 sq, .int .i64 st]), by first | rfl | simp [Act.put], u, hG.trans u, (show ebA W0.heap.size (.agg #[.slice A n c, .slice B k d, .int .i64 til]) (.agg #[.int .i64 ss, .int .i64 sq, .int .i64 st]) (.slice L ln cap) (.tuple #[.agg #[.int .i64 d0, .int .i64 d1, .int .i64 d2], .bool g]) (.agg #[.int .i64 d0, .int .i64 d1, .int .i64 d2]) m til n k es ln g 28 _ _ from by first | (rw [ebA_28]; exact rfl) | rw [ebA_28])⟩⟩
        refine stepsT_op (by kernel_rfl) ?_ ?_
        · intro X w1 k1 hG hdep
          simp only [opW_def, mixT]; go_simp
          exact ⟨⟨(.slice L ln cap), by first | rfl | simp [Act.put], Up.refl _, hG, (show ebA W0.heap.size (.agg #[.slice A n c, .slice B k d, .int .i64 til]) (.agg #[.int .i64 ss, .int .i64 sq, .int .i64 st]) (.slice L ln cap) (.tuple #[.agg #[.int .i64 d0, .int .i64 d1, .int .i64 d2], .bool g]) (.agg #[.int .i64 d0, .int .i64 d1, .int .i64 d2]) m til n k es ln g 29 _ _ from by first | (rw [ebA_29]; exact rfl) | rw [ebA_29])⟩⟩
        refine stepsT_op (by kernel_rfl) ?_ ?_
        · intro X w1 k1 hG hdep
          have e29 : ebA W0.heap.size (.agg #[.slice A n c, .slice B k d, .int .i64 til]) (.agg #[.int .i64 ss, .int .i64 sq, .int .i64 st]) (.slice L ln cap) (.tuple #[.agg #[.int .i64 d0, .int .i64 d1, .int .i64 d2], .bool g]) (.agg #[.int .i64 d0, .int .i64 d1, .int .i64 d2]) m til n k es ln g 29 (X 29) w1 := hdep 29 (by decide +kernel)
          rw [ebA_29] at e29; simp only [opW_def, mixT, e29]; go_simp; refine (CV.out w1 (UC.out.trans hG)).mono ?_; rintro x w2 ⟨g1, rfl, _, o1, u⟩
          exact ⟨⟨_, by first | rfl | simp [Act.put], u, hG.trans u, (show ebA W0.heap.size (.agg #[.slice A n c, .slice B k d, .int .i64 til]) (.agg #[.int .i64 ss, .int .i64 sq, .int .i64 st]) (.slice L ln cap) (.tuple #[.agg #[.int .i64 d0, .int .i64 d1, .int .i64 d2], .bool g]) (.agg #[.int .i64 d0, .int .i64 d1, .int .i64 d2]) m til n k es ln g 30 _ _ from by first | (rw [ebA_30]; exact ⟨_, rfl, o1.evs⟩) | rw [ebA_30])⟩⟩
        refine stepsT_op (by kernel_rfl) ?_ ?_
        · intro X w1 k1 hG hdep
          have e26 : ebA W0.heap.size (.agg #[.slice A n c, .slice B k d, .int .i64 til]) (.agg #[.int .i64 ss, .int .i64 sq, .int .i64 st]) (.slice L ln cap) (.tuple #[.agg #[.int .i64 d0, .int .i64 d1, .int .i64 d2], .bool g]) (.agg #[.int .i64 d0, .int .i64 d1, .int .i64 d2]) m til n k es ln g 26 (X 26) w1 := hdep 26 (by decide +kernel)
          rw [ebA_26] at e26; obtain ⟨A1, B1, e26, mv⟩ := e26
          have e28 : ebA W0.heap.size (.agg #[.slice A n c, .slice B k d, .int .i64 til]) (.agg #[.int .i64 ss, .int .i64 sq, .int .i64 st]) (.slice L ln cap) (.tuple #[.agg #[.int .i64 d0, .int .i64 d1, .int .i64 d2], .bool g]) (.agg #[.int .i64 d0, .int .i64 d1, .int .i64 d2]) m til n k es ln g 28 (X 28) w1 := hdep 28 (by decide +kernel)
          rw [ebA_28] at e28
          have e30 : ebA W0.heap.size (.agg #[.slice A n c, .slice B k d, .int .i64 til]) (.agg #[.int .i64 ss, .int .i64 sq, .int .i64 st]) (.slice L ln cap) (.tuple #[.agg #[.int .i64 d0, .int .i64 d1, .int .i64 d2], .bool g]) (.agg #[.int .i64 d0, .int .i64 d1, .int .i64 d2]) m til n k es ln g 30 (X 30) w1 := hdep 30 (by decide +kernel)
          rw [ebA_30] at e30; obtain ⟨A3, e30, le⟩ := e30; simp only [opW_def, mixT, e26, e28, e30]; go_simp; refine (CP.out _ _ _ w1 mv le).mono ?_; rintro x w2 ⟨rfl, u⟩
          exact ⟨⟨(.tuple #[.agg #[.int .i64 d0, .int .i64 d1, .int .i64 d2], .bool g]), by first | rfl | simp [Act.put], u, hG.trans u, (show ebA W0.heap.size (.agg #[.slice A n c, .slice B k d, .int .i64 til]) (.agg #[.int .i64 ss, .int .i64 sq, .int .i64 st]) (.slice L ln cap) (.tuple #[.agg #[.int .i64 d0, .int .i64 d1, .int .i64 d2], .bool g]) (.agg #[.int .i64 d0, .int .i64 d1, .int .i64 d2]) m til n k es ln g 31 _ _ from by first | (rw [ebA_31]; exact rfl) | rw [ebA_31])⟩⟩
        refine stepsT_op (by kernel_rfl) ?_ ?_
        · intro X w1 k1 hG hdep
          have e31 : ebA W0.heap.size (.agg #[.slice A n c, .slice B k d, .int .i64 til]) (.agg #[.int .i64 ss, .int .i64 sq, .int .i64 st]) (.slice L ln cap) (.tuple #[.agg #[.int .i64 d0, .int .i64 d1, .int .i64 d2], .bool g]) (.agg #[.int .i64 d0, .int .i64 d1, .int .i64 d2]) m til n k es ln g 31 (X 31) w1 := hdep 31 (by decide +kernel)
          rw [ebA_31] at e31; simp only [opW_def, mixT, e31]; go_simp
          exact ⟨⟨(.tuple #[.agg #[.int .i64 d0, .int .i64 d1, .int .i64 d2], .bool g]), by first | rfl | simp [Act.put], Up.refl _, hG, (show ebA W0.heap.size (.agg #[.slice A n c, .slice B k d, .int .i64 til]) (.agg #[.int .i64 ss, .int .i64 sq, .int .i64 st]) (.slice L ln cap) (.tuple #[.agg #[.int .i64 d0, .int .i64 d1, .int .i64 d2], .bool g]) (.agg #[.int .i64 d0, .int .i64 d1, .int .i64 d2]) m til n k es ln g 24 _ _ from by first | (rw [ebA_24]; exact rfl) | rw [ebA_24])⟩⟩
        refine stepsT_op (by kernel_rfl) ?_ ?_
        · intro X w1 k1 hG hdep
          have e24 : ebA W0.heap.size (.agg #[.slice A n c, .slice B k d, .int .i64 til]) (.agg #[.int .i64 ss, .int .i64 sq, .int .i64 st]) (.slice L ln cap) (.tuple #[.agg #[.int .i64 d0, .int .i64 d1, .int .i64 d2], .bool g]) (.agg #[.int .i64 d0, .int .i64 d1, .int .i64 d2]) m til n k es ln g 24 (X 24) w1 := hdep 24 (by decide +kernel)
          rw [ebA_24] at e24; simp only [opW_def, mixT, e24]; go_simp
          exact ⟨⟨(.agg #[.int .i64 d0, .int .i64 d1, .int .i64 d2]), by first | rfl | simp [Act.put], Up.refl _, hG, (show ebA W0.heap.size (.agg #[.slice A n c, .slice B k d, .int .i64 til]) (.agg #[.int .i64 ss, .int .i64 sq, .int .i64 st]) (.slice L ln cap) (.tuple #[.agg #[.int .i64 d0, .int .i64 d1, .int .i64 d2], .bool g]) (.agg #[.int .i64 d0, .int .i64 d1, .int .i64 d2]) m til n k es ln g 32 _ _ from by first | (rw [ebA_32]; exact rfl) | rw [ebA_32])⟩⟩
        refine stepsT_guest (by kernel_rfl) ?_; refine stepsT_op (by kernel_rfl) ?_ ?_
        · intro X w1 k1 hG hdep
          have hlo := hG.size
          simp only [opW_def, mixT]; go_simp
          exact ⟨⟨_, by first | rfl | simp [Act.put], (Up.refl _).alloc _, hG.alloc _, (show ebA W0.heap.size (.agg #[.slice A n c, .slice B k d, .int .i64 til]) (.agg #[.int .i64 ss, .int .i64 sq, .int .i64 st]) (.slice L ln cap) (.tuple #[.agg #[.int .i64 d0, .int .i64 d1, .int .i64 d2], .bool g]) (.agg #[.int .i64 d0, .int .i64 d1, .int .i64 d2]) m til n k es ln g 8 _ _ from by first | (rw [ebA_8]; exact NewB.new w1 _ _ 3 rfl hlo) | rw [ebA_8])⟩⟩
        exact trivial
      · intro h p _ hp
        obtain ⟨rfl, rfl⟩ := gOf_one hp; intro X w1 o ho hr
        have ho2 : some _ = some o := ho
        injection ho2 with ho2
        subst ho2
        have e24 : ebA W0.heap.size (.agg #[.slice A n c, .slice B k d, .int .i64 til]) (.agg #[.int .i64 ss, .int .i64 sq, .int .i64 st]) (.slice L ln cap) (.tuple #[.agg #[.int .i64 d0, .int .i64 d1, .int .i64 d2], .bool g]) (.agg #[.int .i64 d0, .int .i64 d1, .int .i64 d2]) m til n k es ln g 24 (X 24) w1 := hr
        rw [ebA_24] at e24; obtain e24 := e24; refine ⟨(.bool g), fun w2 => ?_, (show ebA W0.heap.size (.agg #[.slice A n c, .slice B k d, .int .i64 til]) (.agg #[.int .i64 ss, .int .i64 sq, .int .i64 st]) (.slice L ln cap) (.tuple #[.agg #[.int .i64 d0, .int .i64 d1, .int .i64 d2], .bool g]) (.agg #[.int .i64 d0, .int .i64 d1, .int .i64 d2]) m til n k es ln g 33 _ _ from by first | (rw [ebA_33]; exact rfl) | rw [ebA_33])⟩; simp only [mixT, e24]; go_simp
      · intro X w1 hG hR
        have e32 : ebA W0.heap.size (.agg #[.slice A n c, .slice B k d, .int .i64 til]) (.agg #[.int .i64 ss, .int .i64 sq, .int .i64 st]) (.slice L ln cap) (.tuple #[.agg #[.int .i64 d0, .int .i64 d1, .int .i64 d2], .bool g]) (.agg #[.int .i64 d0, .int .i64 d1, .int .i64 d2]) m til n k es ln g 32 (X 32) w1 := hR 8 (by omega)
        rw [ebA_32] at e32
        have e33 : ebA W0.heap.size (.agg #[.slice A n c, .slice B k d, .int .i64 til]) (.agg #[.int .i64 ss, .int .i64 sq, .int .i64 st]) (.slice L ln cap) (.tuple #[.agg #[.int .i64 d0, .int .i64 d1, .int .i64 d2], .bool g]) (.agg #[.int .i64 d0, .int .i64 d1, .int .i64 d2]) m til n k es ln g 33 (X 33) w1 := hR 9 (by omega)
        rw [ebA_33] at e33
        have e8 : ebA W0.heap.size (.agg #[.slice A n c, .slice B k d, .int .i64 til]) (.agg #[.int .i64 ss, .int .i64 sq, .int .i64 st]) (.slice L ln cap) (.tuple #[.agg #[.int .i64 d0, .int .i64 d1, .int .i64 d2], .bool g]) (.agg #[.int .i64 d0, .int .i64 d1, .int .i64 d2]) m til n k es ln g 8 (X 8) w1 := hR 10 (by omega)
        rw [ebA_8] at e8; obtain ⟨b8, e8, l8, t8, s8, f8, n8, h8⟩ := e8.parts
        have D8 := Lib.hid (Cell3.laid t8 s8 f8 d0 d1 d2)
        have U1 := Lib.hid (((hG.setCell (p := ⟨b8, 0, none⟩) l8 (.int .i64 d0)).setCell (p := ⟨b8, 1, none⟩) l8 (.int .i64 d1)).setCell (p := ⟨b8, 2, none⟩) l8 (.int .i64 d2))
        obtain ⟨v0, c0⟩ := s8 0 (by omega); obtain ⟨v1, c1'⟩ := s8 1 (by omega); obtain ⟨v2, c2⟩ := s8 2 (by omega); clear hR s8 n8 h8; simp only [mixT, e32, e33, e8]; refine mix_go rfl (by rfl) (fun K hK => ?_); go_simp; refine hK _ _ ?_; clear hK K; refine mix_go rfl (by rfl) (fun K hK => ?_); go_simp; refine hK _ _ ?_; clear hK K; refine mix_nil ?_; clear f8 c0 c1' c2 e32 e33 e8 hG
        generalize ((w1.setCell ⟨b8, 0, none⟩ (.int .i64 d0)).setCell ⟨b8, 1, none⟩ (.int .i64 d1)).setCell ⟨b8, 2, none⟩ (.int .i64 d2) = W8 at *
        have UBC := Lib.hid U1.out
        have UC := Lib.hid (UC.out.trans U1.out)
        have UB := Lib.hid (UB.out.trans U1.out)
        clear U1 UBC; obtain ⟨p0, p1, p2⟩ := And.intro (BX.out.up UB.out).c0 (And.intro (BX.out.up UB.out).c1 (BX.out.up UB.out).c2)
        go_wp2_with fail
        refine (CT.out _ UC.out SH.out).mono ?_; rintro x w4 ⟨g1, g2, rfl, hg1, hg2, o1, o2, u4⟩
        have ua := (Up.refl w4).alloc (.cells #[.slice (some ⟨g1, 0, none⟩) n n, .slice (some ⟨g2, 0, none⟩) k k, .int .i64 til] 33)
        have X4 := Lib.hid (Box3.new w4 (.slice (some ⟨g1, 0, none⟩) n n) (.slice (some ⟨g2, 0, none⟩) k k) (.int .i64 til) 33)
        have V4 := Lib.hid ((NewMdl.v o1 o2 hk).up ua)
        have u := u4.trans ua
        replace UB := Lib.hid (UB.out.trans u)
        replace UC := Lib.hid (UC.out.trans u)
        replace D8 := Lib.hid (D8.out.up u)
        clear o1 o2 u4 ua u p0 p1 p2 hg1 hg2
        go_wp2_with fail
        generalize hb10 : w4.heap.size = b10 at *
        generalize w4.alloc (.cells #[.slice (some ⟨g1, 0, none⟩) n n, .slice (some ⟨g2, 0, none⟩) k k, .int .i64 til] 33) = Vm at *
        clear hb10; refine (CV.out _ UC.out).mono ?_; rintro x w5 ⟨g3, rfl, _, o3, u⟩
        have L4 := Lib.hid o3.evs
        replace UB := Lib.hid (UB.out.trans u)
        replace UC := Lib.hid (UC.out.trans u)
        replace D8 := Lib.hid (D8.out.up u)
        replace X4 := Lib.hid (X4.out.up u)
        replace V4 := Lib.hid (V4.out.up u)
        clear o3 u
        go_wp2_with fail
        generalize w5 = V0 at *
        refine region_relyT 9 [(5, 7)] [(9, false), (10, false)] [39, 40, 41, 42, 43, 38, 44, 45, 12] 8 (fun _ w1 => Up V0 w1) Up (fun i v w => ebB V0.heap.size (.agg #[.slice (some ⟨g1, 0, none⟩) n n, .slice (some ⟨g2, 0, none⟩) k k, .int .i64 til]) (.agg #[.int .i64 ss, .int .i64 sq, .int .i64 st]) (.slice (some ⟨g3, 0, none⟩) ln ln) (.tuple #[.agg #[.int .i64 d0, .int .i64 d1, .int .i64 d2], .bool g]) (.agg #[.int .i64 d0, .int .i64 d1, .int .i64 d2]) g i v w) (by kernel_rfl) (by kernel_rfl) (by kernel_rfl) (by kernel_rfl) ((Up.refl _).drew) (fun slot_ _ _ _ h u => ebB_up V0.heap.size (.agg #[.slice (some ⟨g1, 0, none⟩) n n, .slice (some ⟨g2, 0, none⟩) k k, .int .i64 til]) (.agg #[.int .i64 ss, .int .i64 sq, .int .i64 st]) (.slice (some ⟨g3, 0, none⟩) ln ln) (.tuple #[.agg #[.int .i64 d0, .int .i64 d1, .int .i64 d2], .bool g]) (.agg #[.int .i64 d0, .int .i64 d1, .int .i64 d2]) g slot_ h u) ?_ ?_ ?_
        · simp only [List.take_succ_cons, List.take_zero]
          refine stepsT_op (by kernel_rfl) ?_ ?_
          · intro X w1 k1 hG hdep
            obtain ⟨p0, p1, p2⟩ := And.intro (X4.out.up hG).c0 (And.intro (X4.out.up hG).c1 (X4.out.up hG).c2); simp only [opW_def, mixT]; go_simp
            exact ⟨⟨(.agg #[.slice (some ⟨g1, 0, none⟩) n n, .slice (some ⟨g2, 0, none⟩) k k, .int .i64 til]), by first | rfl | simp [Act.put], Up.refl _, hG, (show ebB V0.heap.size (.agg #[.slice (some ⟨g1, 0, none⟩) n n, .slice (some ⟨g2, 0, none⟩) k k, .int .i64 til]) (.agg #[.int .i64 ss, .int .i64 sq, .int .i64 st]) (.slice (some ⟨g3, 0, none⟩) ln ln) (.tuple #[.agg #[.int .i64 d0, .int .i64 d1, .int .i64 d2], .bool g]) (.agg #[.int .i64 d0, .int .i64 d1, .int .i64 d2]) g 39 _ _ from by first | (rw [ebB_39]; exact rfl) | rw [ebB_39])⟩⟩
          refine stepsT_op (by kernel_rfl) ?_ ?_
          · intro X w1 k1 hG hdep
            obtain ⟨p0, p1, p2⟩ := And.intro (BC.out.up (UB.out.trans hG)).c0 (And.intro (BC.out.up (UB.out.trans hG)).c1 (BC.out.up (UB.out.trans hG)).c2); simp only [opW_def, mixT]; go_simp
            exact ⟨⟨(.agg #[.int .i64 ss, .int .i64 sq, .int .i64 st]), by first | rfl | simp [Act.put], Up.refl _, hG, (show ebB V0.heap.size (.agg #[.slice (some ⟨g1, 0, none⟩) n n, .slice (some ⟨g2, 0, none⟩) k k, .int .i64 til]) (.agg #[.int .i64 ss, .int .i64 sq, .int .i64 st]) (.slice (some ⟨g3, 0, none⟩) ln ln) (.tuple #[.agg #[.int .i64 d0, .int .i64 d1, .int .i64 d2], .bool g]) (.agg #[.int .i64 d0, .int .i64 d1, .int .i64 d2]) g 40 _ _ from by first | (rw [ebB_40]; exact rfl) | rw [ebB_40])⟩⟩
          refine stepsT_op (by kernel_rfl) ?_ ?_
          · intro X w1 k1 hG hdep
            have e40 : ebB V0.heap.size (.agg #[.slice (some ⟨g1, 0, none⟩) n n, .slice (some ⟨g2, 0, none⟩) k k, .int .i64 til]) (.agg #[.int .i64 ss, .int .i64 sq, .int .i64 st]) (.slice (some ⟨g3, 0, none⟩) ln ln) (.tuple #[.agg #[.int .i64 d0, .int .i64 d1, .int .i64 d2], .bool g]) (.agg #[.int .i64 d0, .int .i64 d1, .int .i64 d2]) g 40 (X 40) w1 := hdep 40 (by decide +kernel)
            rw [ebB_40] at e40; simp only [opW_def, mixT, e40]; go_simp; refine (CC.out w1).mono ?_; rintro x w2 ⟨rfl, u⟩
            exact ⟨⟨(.agg #[.int .i64 ss, .int .i64 sq, .int .i64 st]), by first | rfl | simp [Act.put], u, hG.trans u, (show ebB V0.heap.size (.agg #[.slice (some ⟨g1, 0, none⟩) n n, .slice (some ⟨g2, 0, none⟩) k k, .int .i64 til]) (.agg #[.int .i64 ss, .int .i64 sq, .int .i64 st]) (.slice (some ⟨g3, 0, none⟩) ln ln) (.tuple #[.agg #[.int .i64 d0, .int .i64 d1, .int .i64 d2], .bool g]) (.agg #[.int .i64 d0, .int .i64 d1, .int .i64 d2]) g 41 _ _ from by first | (rw [ebB_41]; exact rfl) | rw [ebB_41])⟩⟩
          refine stepsT_op (by kernel_rfl) ?_ ?_
          · intro X w1 k1 hG hdep
            simp only [opW_def, mixT]; go_simp
            exact ⟨⟨(.slice (some ⟨g3, 0, none⟩) ln ln), by first | rfl | simp [Act.put], Up.refl _, hG, (show ebB V0.heap.size (.agg #[.slice (some ⟨g1, 0, none⟩) n n, .slice (some ⟨g2, 0, none⟩) k k, .int .i64 til]) (.agg #[.int .i64 ss, .int .i64 sq, .int .i64 st]) (.slice (some ⟨g3, 0, none⟩) ln ln) (.tuple #[.agg #[.int .i64 d0, .int .i64 d1, .int .i64 d2], .bool g]) (.agg #[.int .i64 d0, .int .i64 d1, .int .i64 d2]) g 42 _ _ from by first | (rw [ebB_42]; exact rfl) | rw [ebB_42])⟩⟩
          refine stepsT_op (by kernel_rfl) ?_ ?_
          · intro X w1 k1 hG hdep
            have e39 : ebB V0.heap.size (.agg #[.slice (some ⟨g1, 0, none⟩) n n, .slice (some ⟨g2, 0, none⟩) k k, .int .i64 til]) (.agg #[.int .i64 ss, .int .i64 sq, .int .i64 st]) (.slice (some ⟨g3, 0, none⟩) ln ln) (.tuple #[.agg #[.int .i64 d0, .int .i64 d1, .int .i64 d2], .bool g]) (.agg #[.int .i64 d0, .int .i64 d1, .int .i64 d2]) g 39 (X 39) w1 := hdep 39 (by decide +kernel)
            rw [ebB_39] at e39
            have e41 : ebB V0.heap.size (.agg #[.slice (some ⟨g1, 0, none⟩) n n, .slice (some ⟨g2, 0, none⟩) k k, .int .i64 til]) (.agg #[.int .i64 ss, .int .i64 sq, .int .i64 st]) (.slice (some ⟨g3, 0, none⟩) ln ln) (.tuple #[.agg #[.int .i64 d0, .int .i64 d1, .int .i64 d2], .bool g]) (.agg #[.int .i64 d0, .int .i64 d1, .int .i64 d2]) g 41 (X 41) w1 := hdep 41 (by decide +kernel)
            rw [ebB_41] at e41
            have e42 : ebB V0.heap.size (.agg #[.slice (some ⟨g1, 0, none⟩) n n, .slice (some ⟨g2, 0, none⟩) k k, .int .i64 til]) (.agg #[.int .i64 ss, .int .i64 sq, .int .i64 st]) (.slice (some ⟨g3, 0, none⟩) ln ln) (.tuple #[.agg #[.int .i64 d0, .int .i64 d1, .int .i64 d2], .bool g]) (.agg #[.int .i64 d0, .int .i64 d1, .int .i64 d2]) g 42 (X 42) w1 := hdep 42 (by decide +kernel)
            rw [ebB_42] at e42; simp only [opW_def, mixT, e39, e41, e42]; go_simp; refine (CI.out _ _ _ w1 (V4.out.up hG) (L4.out.up hG)).mono ?_; rintro x w2 ⟨rfl, u⟩
            exact ⟨⟨(.tuple #[.agg #[.int .i64 d0, .int .i64 d1, .int .i64 d2], .bool g]), by first | rfl | simp [Act.put], u, hG.trans u, (show ebB V0.heap.size (.agg #[.slice (some ⟨g1, 0, none⟩) n n, .slice (some ⟨g2, 0, none⟩) k k, .int .i64 til]) (.agg #[.int .i64 ss, .int .i64 sq, .int .i64 st]) (.slice (some ⟨g3, 0, none⟩) ln ln) (.tuple #[.agg #[.int .i64 d0, .int .i64 d1, .int .i64 d2], .bool g]) (.agg #[.int .i64 d0, .int .i64 d1, .int .i64 d2]) g 43 _ _ from by first | (rw [ebB_43]; exact rfl) | rw [ebB_43])⟩⟩
          refine stepsT_op (by kernel_rfl) ?_ ?_
          · intro X w1 k1 hG hdep
            have e43 : ebB V0.heap.size (.agg #[.slice (some ⟨g1, 0, none⟩) n n, .slice (some ⟨g2, 0, none⟩) k k, .int .i64 til]) (.agg #[.int .i64 ss, .int .i64 sq, .int .i64 st]) (.slice (some ⟨g3, 0, none⟩) ln ln) (.tuple #[.agg #[.int .i64 d0, .int .i64 d1, .int .i64 d2], .bool g]) (.agg #[.int .i64 d0, .int .i64 d1, .int .i64 d2]) g 43 (X 43) w1 := hdep 43 (by decide +kernel)
            rw [ebB_43] at e43; simp only [opW_def, mixT, e43]; go_simp
            exact ⟨⟨(.tuple #[.agg #[.int .i64 d0, .int .i64 d1, .int .i64 d2], .bool g]), by first | rfl | simp [Act.put], Up.refl _, hG, (show ebB V0.heap.size (.agg #[.slice (some ⟨g1, 0, none⟩) n n, .slice (some ⟨g2, 0, none⟩) k k, .int .i64 til]) (.agg #[.int .i64 ss, .int .i64 sq, .int .i64 st]) (.slice (some ⟨g3, 0, none⟩) ln ln) (.tuple #[.agg #[.int .i64 d0, .int .i64 d1, .int .i64 d2], .bool g]) (.agg #[.int .i64 d0, .int .i64 d1, .int .i64 d2]) g 38 _ _ from by first | (rw [ebB_38]; exact rfl) | rw [ebB_38])⟩⟩
          refine stepsT_op (by kernel_rfl) ?_ ?_
          · intro X w1 k1 hG hdep
            have e38 : ebB V0.heap.size (.agg #[.slice (some ⟨g1, 0, none⟩) n n, .slice (some ⟨g2, 0, none⟩) k k, .int .i64 til]) (.agg #[.int .i64 ss, .int .i64 sq, .int .i64 st]) (.slice (some ⟨g3, 0, none⟩) ln ln) (.tuple #[.agg #[.int .i64 d0, .int .i64 d1, .int .i64 d2], .bool g]) (.agg #[.int .i64 d0, .int .i64 d1, .int .i64 d2]) g 38 (X 38) w1 := hdep 38 (by decide +kernel)
            rw [ebB_38] at e38; simp only [opW_def, mixT, e38]; go_simp
            exact ⟨⟨(.agg #[.int .i64 d0, .int .i64 d1, .int .i64 d2]), by first | rfl | simp [Act.put], Up.refl _, hG, (show ebB V0.heap.size (.agg #[.slice (some ⟨g1, 0, none⟩) n n, .slice (some ⟨g2, 0, none⟩) k k, .int .i64 til]) (.agg #[.int .i64 ss, .int .i64 sq, .int .i64 st]) (.slice (some ⟨g3, 0, none⟩) ln ln) (.tuple #[.agg #[.int .i64 d0, .int .i64 d1, .int .i64 d2], .bool g]) (.agg #[.int .i64 d0, .int .i64 d1, .int .i64 d2]) g 44 _ _ from by first | (rw [ebB_44]; exact rfl) | rw [ebB_44])⟩⟩
          refine stepsT_guest (by kernel_rfl) ?_; refine stepsT_op (by kernel_rfl) ?_ ?_
          · intro X w1 k1 hG hdep
            have hlo := hG.size
            simp only [opW_def, mixT]; go_simp
            exact ⟨⟨_, by first | rfl | simp [Act.put], (Up.refl _).alloc _, hG.alloc _, (show ebB V0.heap.size (.agg #[.slice (some ⟨g1, 0, none⟩) n n, .slice (some ⟨g2, 0, none⟩) k k, .int .i64 til]) (.agg #[.int .i64 ss, .int .i64 sq, .int .i64 st]) (.slice (some ⟨g3, 0, none⟩) ln ln) (.tuple #[.agg #[.int .i64 d0, .int .i64 d1, .int .i64 d2], .bool g]) (.agg #[.int .i64 d0, .int .i64 d1, .int .i64 d2]) g 12 _ _ from by first | (rw [ebB_12]; exact NewB.new w1 _ _ 3 rfl hlo) | rw [ebB_12])⟩⟩
          exact trivial
        · intro h p _ hp
          obtain ⟨rfl, rfl⟩ := gOf_one hp; intro X w1 o ho hr
          have ho2 : some _ = some o := ho
          injection ho2 with ho2
          subst ho2
          have e38 : ebB V0.heap.size (.agg #[.slice (some ⟨g1, 0, none⟩) n n, .slice (some ⟨g2, 0, none⟩) k k, .int .i64 til]) (.agg #[.int .i64 ss, .int .i64 sq, .int .i64 st]) (.slice (some ⟨g3, 0, none⟩) ln ln) (.tuple #[.agg #[.int .i64 d0, .int .i64 d1, .int .i64 d2], .bool g]) (.agg #[.int .i64 d0, .int .i64 d1, .int .i64 d2]) g 38 (X 38) w1 := hr
          rw [ebB_38] at e38; obtain e38 := e38; refine ⟨(.bool g), fun w2 => ?_, (show ebB V0.heap.size (.agg #[.slice (some ⟨g1, 0, none⟩) n n, .slice (some ⟨g2, 0, none⟩) k k, .int .i64 til]) (.agg #[.int .i64 ss, .int .i64 sq, .int .i64 st]) (.slice (some ⟨g3, 0, none⟩) ln ln) (.tuple #[.agg #[.int .i64 d0, .int .i64 d1, .int .i64 d2], .bool g]) (.agg #[.int .i64 d0, .int .i64 d1, .int .i64 d2]) g 45 _ _ from by first | (rw [ebB_45]; exact rfl) | rw [ebB_45])⟩; simp only [mixT, e38]; go_simp
        · intro X w1 hG hR
          have e44 : ebB V0.heap.size (.agg #[.slice (some ⟨g1, 0, none⟩) n n, .slice (some ⟨g2, 0, none⟩) k k, .int .i64 til]) (.agg #[.int .i64 ss, .int .i64 sq, .int .i64 st]) (.slice (some ⟨g3, 0, none⟩) ln ln) (.tuple #[.agg #[.int .i64 d0, .int .i64 d1, .int .i64 d2], .bool g]) (.agg #[.int .i64 d0, .int .i64 d1, .int .i64 d2]) g 44 (X 44) w1 := hR 6 (by omega)
          rw [ebB_44] at e44
          have e45 : ebB V0.heap.size (.agg #[.slice (some ⟨g1, 0, none⟩) n n, .slice (some ⟨g2, 0, none⟩) k k, .int .i64 til]) (.agg #[.int .i64 ss, .int .i64 sq, .int .i64 st]) (.slice (some ⟨g3, 0, none⟩) ln ln) (.tuple #[.agg #[.int .i64 d0, .int .i64 d1, .int .i64 d2], .bool g]) (.agg #[.int .i64 d0, .int .i64 d1, .int .i64 d2]) g 45 (X 45) w1 := hR 7 (by omega)
          rw [ebB_45] at e45
          have e12 : ebB V0.heap.size (.agg #[.slice (some ⟨g1, 0, none⟩) n n, .slice (some ⟨g2, 0, none⟩) k k, .int .i64 til]) (.agg #[.int .i64 ss, .int .i64 sq, .int .i64 st]) (.slice (some ⟨g3, 0, none⟩) ln ln) (.tuple #[.agg #[.int .i64 d0, .int .i64 d1, .int .i64 d2], .bool g]) (.agg #[.int .i64 d0, .int .i64 d1, .int .i64 d2]) g 12 (X 12) w1 := hR 8 (by omega)
          rw [ebB_12] at e12; obtain ⟨b11, e12, l8, t8, s8, f8, n8, h8⟩ := e12.parts
          have D11 := Lib.hid (Cell3.laid t8 s8 f8 d0 d1 d2)
          have U1 := Lib.hid (((hG.setCell (p := ⟨b11, 0, none⟩) l8 (.int .i64 d0)).setCell (p := ⟨b11, 1, none⟩) l8 (.int .i64 d1)).setCell (p := ⟨b11, 2, none⟩) l8 (.int .i64 d2))
          obtain ⟨v0, c0⟩ := s8 0 (by omega); obtain ⟨v1, c1'⟩ := s8 1 (by omega); obtain ⟨v2, c2⟩ := s8 2 (by omega); clear hR s8 n8 h8; simp only [mixT, e44, e45, e12]; refine mix_go rfl (by rfl) (fun K hK => ?_); go_simp; refine hK _ _ ?_; clear hK K; refine mix_go rfl (by rfl) (fun K hK => ?_); go_simp; refine hK _ _ ?_; clear hK K; refine mix_nil ?_; clear f8 c0 c1' c2 e44 e45 e12 hG
          generalize ((w1.setCell ⟨b11, 0, none⟩ (.int .i64 d0)).setCell ⟨b11, 1, none⟩ (.int .i64 d1)).setCell ⟨b11, 2, none⟩ (.int .i64 d2) = W11 at *
          replace UB := Lib.hid (UB.out.trans U1.out)
          replace UC := Lib.hid (UC.out.trans U1.out)
          replace D8 := Lib.hid (D8.out.up U1.out)
          replace X4 := Lib.hid (X4.out.up U1.out)
          replace V4 := Lib.hid (V4.out.up U1.out)
          replace L4 := Lib.hid (L4.out.up U1.out)
          clear U1; obtain ⟨p0, p1, p2⟩ := And.intro D11.out.c0 (And.intro D11.out.c1 D11.out.c2); obtain ⟨q0, q1, q2⟩ := And.intro D8.out.c0 (And.intro D8.out.c1 D8.out.c2)
          have gg := GG.out
          go_wp2_with fail
          refine (CQ.out _).mono ?_; rintro x w6 ⟨rfl, u⟩
          replace UB := Lib.hid (UB.out.trans u)
          replace UC := Lib.hid (UC.out.trans u)
          replace X4 := Lib.hid (X4.out.up u)
          replace V4 := Lib.hid (V4.out.up u)
          replace L4 := Lib.hid (L4.out.up u)
          clear u p0 p1 p2 q0 q1 q2
          go_wp2_with fail
          have HB := And.intro (BX.out.up UB.out).lt (And.intro X4.out.lt (And.intro (BX.out.up UB.out).c0 (And.intro (BX.out.up UB.out).c1 (And.intro (BX.out.up UB.out).c2 (And.intro X4.out.c0 (And.intro X4.out.c1 X4.out.c2))))))
          have HH := Lib.hid HB
          obtain ⟨l0, l1, q0, q1, q2, r0, r1, r2⟩ := HB
          have ud := (Up.refl w6).drew
          go_region_held3 (fun w' => b3 < w'.heap.size ∧ b10 < w'.heap.size ∧ w'.cell? ⟨b3, 0, none⟩ = some (.slice A n c) ∧ w'.cell? ⟨b3, 1, none⟩ = some (.slice B k d) ∧ w'.cell? ⟨b3, 2, none⟩ = some (.int .i64 til) ∧ w'.cell? ⟨b10, 0, none⟩ = some (.slice (some ⟨g1, 0, none⟩) n n) ∧ w'.cell? ⟨b10, 1, none⟩ = some (.slice (some ⟨g2, 0, none⟩) k k) ∧ w'.cell? ⟨b10, 2, none⟩ = some (.int .i64 til))
            (first | (exact HH.out) | (exact two_upr uF (by assumption)) | (exact two_upr uE (by assumption)))
            (first
              | (go_at_call 20; refine (CT.out _ (UC.out.trans (Up.refl _).drew) SH.out).mono ?_; rintro x wE ⟨g5, g6, rfl, hg5, hg6, o5, o6, uE⟩; have VE := Lib.hid (NewMdl.v o5 o6 hk); clear o5 o6)
              | (go_at_call 22; refine (CE.out _ n n _ k k _ n n _ k k _ (V4.out.up ((Up.refl _).drew.trans uE)) VE.out SH.out.fit).mono ?_; rintro x wF ⟨rfl, uF⟩))
          have u7 := ((Up.refl w6).drew.trans uE).trans uF
          replace UC := Lib.hid (UC.out.trans u7)
          replace L4 := Lib.hid (L4.out.up u7)
          clear u7 uE uF ud l0 l1 q0 q1 q2 r0 r1 r2 VE HH
          go_wp2_with fail
          refine (CV.out _ UC.out).mono ?_; rintro x w8 ⟨g7, rfl, _, o7, u⟩
          replace UC := Lib.hid (UC.out.trans u)
          replace L4 := Lib.hid (L4.out.up u)
          have L7 := Lib.hid o7.evs
          clear o7 u
          go_wp2_with fail
          refine (CL.out _ _ _ _ _ LNS.out L4.out L7.out).mono ?_; rintro x w9 ⟨rfl, u⟩
          replace UC := Lib.hid (UC.out.trans u)
          clear u; go_wp2; go_ret
          exact ⟨rfl, UC.out⟩
end Go.Proofs.Ytakmlfgkppekoaa

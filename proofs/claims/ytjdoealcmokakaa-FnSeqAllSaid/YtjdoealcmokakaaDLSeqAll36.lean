/-
  What the sequential simulator's state returns, in one sentence: its component list and its log as they lie, and its pending events in order in a row of the call's own; for every simulator that lies in memory.
-/
import Derived.Test.YtjdoealcmokakaaDLSeqAll30
import Derived.Test.YtjdoealcmokakaaDLSeqAll35
namespace Go.Proofs.Ytjdoealcmokakaa
set_option maxRecDepth 100000
open Go.RowKit
/-- A list in order, in a row from lo on. -/
def StO (lo nw : Nat) (es fs : List Evt) (A : Option Addr) (c : Nat) (w : World) : Prop :=
  nw ≤ c ∧ c ≤ 9223372036854775807 ∧ fs.Perm es ∧ fs.Pairwise leE ∧ Evs w A nw fs ∧ (0 < nw → ∃ g, A = some ⟨g, 0, none⟩ ∧ lo ≤ g ∧ Own w g nw fs)
theorem StO.up {lo nw c : Nat} {es fs : List Evt} {A : Option Addr} {w w' : World} (h : StO lo nw es fs A c w) (u : Up w w') : StO lo nw es fs A c w' :=
  ⟨h.1, h.2.1, h.2.2.1, h.2.2.2.1, h.2.2.2.2.1.up u, fun h0 => by
    obtain ⟨g, e, l, o⟩ := h.2.2.2.2.2 h0
    exact ⟨g, e, l, o.1, Nat.lt_of_lt_of_le o.2.1 u.size, fun i hi => (o.2.2.1 i hi).up u o.2.1, fun j hj => (u.frozens _ _ o.2.1).trans (o.2.2.2 j hj)⟩⟩
theorem StO.mv {lo lo' b nw c : Nat} {es fs : List Evt} {A : Option Addr} {w w' : World} (h : StO lo nw es fs A c w) (m : Mv b w w') (hl : lo' ≤ b ∧ b < lo) : StO lo' nw es fs A c w' := by
  have k : 0 < nw → ∃ g, A = some ⟨g, 0, none⟩ ∧ lo ≤ g ∧ Own w' g nw fs := fun h0 => by
    obtain ⟨g, e, l, o⟩ := h.2.2.2.2.2 h0
    have hne : g ≠ b := by omega
    exact ⟨g, e, l, o.1, Nat.lt_of_lt_of_le o.2.1 m.size, fun i hi => by
      have M := fun j => m.cells g j o.2.1 hne
      obtain ⟨a0, a1, a2, a3, a4, a5⟩ := o.2.2.1 i hi
      exact ⟨(M _).trans a0, (M _).trans a1, (M _).trans a2, (M _).trans a3, (M _).trans a4, (M _).trans a5⟩, fun j hj => (m.frozens _ _ o.2.1 hne).trans (o.2.2.2 j hj)⟩
  refine ⟨h.1, h.2.1, h.2.2.1, h.2.2.2.1, ⟨h.2.2.2.2.1.1, fun h0 => ?_⟩, fun h0 => ?_⟩
  · obtain ⟨g, e, l, o⟩ := k h0
    exact ⟨g, 0, e, o.2.1, fun i hi => by rw [Nat.zero_add]; exact o.2.2.1 i hi⟩
  · obtain ⟨g, e, l, o⟩ := k h0
    exact ⟨g, e, by omega, o⟩
def IsSt (lo nw : Nat) (es : List Evt) (v : Value) (w : World) : Prop := ∃ fs A c, v = .slice A nw c ∧ StO lo nw es fs A c w
theorem IsSt.up {lo nw : Nat} {es : List Evt} {v : Value} {w w' : World} (h : IsSt lo nw es v w) (u : Up w w') : IsSt lo nw es v w' := by
  obtain ⟨fs, A, c, h0, h1⟩ := h
  exact ⟨fs, A, c, h0, h1.up u⟩
theorem IsSt.of {lo nw c : Nat} {es fs : List Evt} {A : Option Addr} {w w' : World} (h : nw ≤ c ∧ c ≤ 9223372036854775807 ∧ fs.Perm es ∧ fs.Pairwise leE ∧ Evs w' A nw fs ∧ (0 < nw → ∃ g, A = some ⟨g, 0, none⟩ ∧ w.heap.size ≤ g ∧ Own w' g nw fs) ∧ Up w w') (hl : lo ≤ w.heap.size) : IsSt lo nw es (.slice A nw c) w' :=
  ⟨fs, A, c, rfl, h.1, h.2.1, h.2.2.1, h.2.2.2.1, h.2.2.2.2.1, fun h0 => by
    obtain ⟨g, e, l, o⟩ := h.2.2.2.2.2.1 h0
    exact ⟨g, e, Nat.le_trans hl l, o⟩⟩
def IsSt3 (lo : Nat) (vc : Value) (nw : Nat) (vl : Value) (es : List Evt) (v : Value) (w : World) : Prop := ∃ fs A c, v = .agg #[vc, .slice A nw c, vl] ∧ StO lo nw es fs A c w
theorem IsSt3.up {lo nw : Nat} {vc vl : Value} {es : List Evt} {v : Value} {w w' : World} (h : IsSt3 lo vc nw vl es v w) (u : Up w w') : IsSt3 lo vc nw vl es v w' := by
  obtain ⟨fs, A, c, h0, h1⟩ := h
  exact ⟨fs, A, c, h0, h1.up u⟩
/-- A new block of three that may be written. -/
structure BoxF (w : World) (b : Nat) (x y z : Value) : Prop where
  k : Box3 w b x y z
  f : ∀ j, w.frozen? ⟨b, j, none⟩ = false
theorem BoxF.new (w : World) (x y z : Value) (t : TypeId) : BoxF (w.alloc (.cells #[x, y, z] t)) w.heap.size x y z := by
  have hh := heap_alloc_new w (.cells #[x, y, z] t)
  exact ⟨Box3.new w x y z t, fun j => by unfold World.frozen?; rw [hh]; simp⟩
theorem BoxF.up {w w' : World} {b : Nat} {x y z : Value} (h : BoxF w b x y z) (u : Up w w') : BoxF w' b x y z := ⟨h.k.up u, fun j => (u.frozens _ _ h.k.lt).trans (h.f j)⟩
theorem BoxF.laid {w : World} {b : Nat} {x0 y0 z0 : Value} (h : BoxF w b x0 y0 z0) (x y z : Value) : Box3 (((w.setCell ⟨b, 0, none⟩ x).setCell ⟨b, 1, none⟩ y).setCell ⟨b, 2, none⟩ z) b x y z := by
  have ne : ∀ k j, k ≠ j → (⟨b, k, none⟩ : Addr) ≠ ⟨b, j, none⟩ := fun k j hk => addr_ne (by omega)
  refine ⟨by simpa using h.k.lt, ?_, ?_, ?_⟩
  · rw [World.cell?_setCell_other _ _ _ _ (ne 2 0 (by omega)), World.cell?_setCell_other _ _ _ _ (ne 1 0 (by omega))]
    exact World.cell?_setCell_same _ _ _ h.k.c0
  · rw [World.cell?_setCell_other _ _ _ _ (ne 2 1 (by omega))]
    exact World.cell?_setCell_same _ _ _ ((World.cell?_setCell_other _ _ _ _ (ne 0 1 (by omega))).trans h.k.c1)
  · exact World.cell?_setCell_same _ _ _ ((World.cell?_setCell_other _ _ _ _ (ne 1 2 (by omega))).trans ((World.cell?_setCell_other _ _ _ _ (ne 0 2 (by omega))).trans h.k.c2))
def resB (p lo : Nat) (Ac : Option Addr) (nc cc : Nat) (Aw : Option Addr) (nw cw : Nat) (Al : Option Addr) (nl cl : Nat) (es : List Evt) (d : Nat) (v : Value) (w : World) : Prop :=
  if d = 3 then v = .pointer (some ⟨p, 0, none⟩) else if d = 4 then v = .pointer (some ⟨p, 0, none⟩) else if d = 5 then v = .pointer (some ⟨p, 3, none⟩) else if d = 6 then v = .slice Ac nc cc else if d = 7 then v = .pointer (some ⟨p, 0, none⟩) else if d = 8 then v = .pointer (some ⟨p, 0, none⟩) else if d = 9 then v = .pointer (some ⟨p, 4, none⟩) else if d = 10 then v = .slice Aw nw cw else if d = 11 then IsRow1 lo (.slice Aw nw cw) v w else if d = 12 then IsSt lo nw es v w else if d = 13 then v = .pointer (some ⟨p, 0, none⟩) else if d = 14 then v = .pointer (some ⟨p, 0, none⟩) else if d = 15 then v = .pointer (some ⟨p, 5, none⟩) else if d = 16 then v = .slice Al nl cl else if d = 17 then IsSt3 lo (.slice Ac nc cc) nw (.slice Al nl cl) es v w else True
theorem resB_3 (p lo : Nat) (Ac : Option Addr) (nc cc : Nat) (Aw : Option Addr) (nw cw : Nat) (Al : Option Addr) (nl cl : Nat) (es : List Evt) (v : Value) (w : World) : resB p lo Ac nc cc Aw nw cw Al nl cl es 3 v w = (v = .pointer (some ⟨p, 0, none⟩)) := by simp [resB]
theorem resB_4 (p lo : Nat) (Ac : Option Addr) (nc cc : Nat) (Aw : Option Addr) (nw cw : Nat) (Al : Option Addr) (nl cl : Nat) (es : List Evt) (v : Value) (w : World) : resB p lo Ac nc cc Aw nw cw Al nl cl es 4 v w = (v = .pointer (some ⟨p, 0, none⟩)) := by simp [resB]
theorem resB_5 (p lo : Nat) (Ac : Option Addr) (nc cc : Nat) (Aw : Option Addr) (nw cw : Nat) (Al : Option Addr) (nl cl : Nat) (es : List Evt) (v : Value) (w : World) : resB p lo Ac nc cc Aw nw cw Al nl cl es 5 v w = (v = .pointer (some ⟨p, 3, none⟩)) := by simp [resB]
theorem resB_6 (p lo : Nat) (Ac : Option Addr) (nc cc : Nat) (Aw : Option Addr) (nw cw : Nat) (Al : Option Addr) (nl cl : Nat) (es : List Evt) (v : Value) (w : World) : resB p lo Ac nc cc Aw nw cw Al nl cl es 6 v w = (v = .slice Ac nc cc) := by simp [resB]
theorem resB_7 (p lo : Nat) (Ac : Option Addr) (nc cc : Nat) (Aw : Option Addr) (nw cw : Nat) (Al : Option Addr) (nl cl : Nat) (es : List Evt) (v : Value) (w : World) : resB p lo Ac nc cc Aw nw cw Al nl cl es 7 v w = (v = .pointer (some ⟨p, 0, none⟩)) := by simp [resB]
theorem resB_8 (p lo : Nat) (Ac : Option Addr) (nc cc : Nat) (Aw : Option Addr) (nw cw : Nat) (Al : Option Addr) (nl cl : Nat) (es : List Evt) (v : Value) (w : World) : resB p lo Ac nc cc Aw nw cw Al nl cl es 8 v w = (v = .pointer (some ⟨p, 0, none⟩)) := by simp [resB]
theorem resB_9 (p lo : Nat) (Ac : Option Addr) (nc cc : Nat) (Aw : Option Addr) (nw cw : Nat) (Al : Option Addr) (nl cl : Nat) (es : List Evt) (v : Value) (w : World) : resB p lo Ac nc cc Aw nw cw Al nl cl es 9 v w = (v = .pointer (some ⟨p, 4, none⟩)) := by simp [resB]
theorem resB_10 (p lo : Nat) (Ac : Option Addr) (nc cc : Nat) (Aw : Option Addr) (nw cw : Nat) (Al : Option Addr) (nl cl : Nat) (es : List Evt) (v : Value) (w : World) : resB p lo Ac nc cc Aw nw cw Al nl cl es 10 v w = (v = .slice Aw nw cw) := by simp [resB]
theorem resB_11 (p lo : Nat) (Ac : Option Addr) (nc cc : Nat) (Aw : Option Addr) (nw cw : Nat) (Al : Option Addr) (nl cl : Nat) (es : List Evt) (v : Value) (w : World) : resB p lo Ac nc cc Aw nw cw Al nl cl es 11 v w = (IsRow1 lo (.slice Aw nw cw) v w) := by simp [resB]
theorem resB_12 (p lo : Nat) (Ac : Option Addr) (nc cc : Nat) (Aw : Option Addr) (nw cw : Nat) (Al : Option Addr) (nl cl : Nat) (es : List Evt) (v : Value) (w : World) : resB p lo Ac nc cc Aw nw cw Al nl cl es 12 v w = (IsSt lo nw es v w) := by simp [resB]
theorem resB_13 (p lo : Nat) (Ac : Option Addr) (nc cc : Nat) (Aw : Option Addr) (nw cw : Nat) (Al : Option Addr) (nl cl : Nat) (es : List Evt) (v : Value) (w : World) : resB p lo Ac nc cc Aw nw cw Al nl cl es 13 v w = (v = .pointer (some ⟨p, 0, none⟩)) := by simp [resB]
theorem resB_14 (p lo : Nat) (Ac : Option Addr) (nc cc : Nat) (Aw : Option Addr) (nw cw : Nat) (Al : Option Addr) (nl cl : Nat) (es : List Evt) (v : Value) (w : World) : resB p lo Ac nc cc Aw nw cw Al nl cl es 14 v w = (v = .pointer (some ⟨p, 0, none⟩)) := by simp [resB]
theorem resB_15 (p lo : Nat) (Ac : Option Addr) (nc cc : Nat) (Aw : Option Addr) (nw cw : Nat) (Al : Option Addr) (nl cl : Nat) (es : List Evt) (v : Value) (w : World) : resB p lo Ac nc cc Aw nw cw Al nl cl es 15 v w = (v = .pointer (some ⟨p, 5, none⟩)) := by simp [resB]
theorem resB_16 (p lo : Nat) (Ac : Option Addr) (nc cc : Nat) (Aw : Option Addr) (nw cw : Nat) (Al : Option Addr) (nl cl : Nat) (es : List Evt) (v : Value) (w : World) : resB p lo Ac nc cc Aw nw cw Al nl cl es 16 v w = (v = .slice Al nl cl) := by simp [resB]
theorem resB_17 (p lo : Nat) (Ac : Option Addr) (nc cc : Nat) (Aw : Option Addr) (nw cw : Nat) (Al : Option Addr) (nl cl : Nat) (es : List Evt) (v : Value) (w : World) : resB p lo Ac nc cc Aw nw cw Al nl cl es 17 v w = (IsSt3 lo (.slice Ac nc cc) nw (.slice Al nl cl) es v w) := by simp [resB]
theorem resB_up (p lo : Nat) (Ac : Option Addr) (nc cc : Nat) (Aw : Option Addr) (nw cw : Nat) (Al : Option Addr) (nl cl : Nat) (es : List Evt) (d : Nat) {v : Value} {w w' : World} (h : resB p lo Ac nc cc Aw nw cw Al nl cl es d v w) (u : Up w w') : resB p lo Ac nc cc Aw nw cw Al nl cl es d v w' := by
  unfold resB at h ⊢
  by_cases h3 : d = 3
  · rw [if_pos h3] at h ⊢
    exact h
  rw [if_neg h3] at h ⊢
  by_cases h4 : d = 4
  · rw [if_pos h4] at h ⊢
    exact h
  rw [if_neg h4] at h ⊢
  by_cases h5 : d = 5
  · rw [if_pos h5] at h ⊢
    exact h
  rw [if_neg h5] at h ⊢
  by_cases h6 : d = 6
  · rw [if_pos h6] at h ⊢
    exact h
  rw [if_neg h6] at h ⊢
  by_cases h7 : d = 7
  · rw [if_pos h7] at h ⊢
    exact h
  rw [if_neg h7] at h ⊢
  by_cases h8 : d = 8
  · rw [if_pos h8] at h ⊢
    exact h
  rw [if_neg h8] at h ⊢
  by_cases h9 : d = 9
  · rw [if_pos h9] at h ⊢
    exact h
  rw [if_neg h9] at h ⊢
  by_cases h10 : d = 10
  · rw [if_pos h10] at h ⊢
    exact h
  rw [if_neg h10] at h ⊢
  by_cases h11 : d = 11
  · rw [if_pos h11] at h ⊢
    exact h.up u
  rw [if_neg h11] at h ⊢
  by_cases h12 : d = 12
  · rw [if_pos h12] at h ⊢
    exact h.up u
  rw [if_neg h12] at h ⊢
  by_cases h13 : d = 13
  · rw [if_pos h13] at h ⊢
    exact h
  rw [if_neg h13] at h ⊢
  by_cases h14 : d = 14
  · rw [if_pos h14] at h ⊢
    exact h
  rw [if_neg h14] at h ⊢
  by_cases h15 : d = 15
  · rw [if_pos h15] at h ⊢
    exact h
  rw [if_neg h15] at h ⊢
  by_cases h16 : d = 16
  · rw [if_pos h16] at h ⊢
    exact h
  rw [if_neg h16] at h ⊢
  by_cases h17 : d = 17
  · rw [if_pos h17] at h ⊢
    exact h.up u
  rw [if_neg h17] at h ⊢
  exact trivial
set_option maxHeartbeats 8000000 in
theorem state_any (p lo nc nw nl : Nat) (cs : List Cst) (es : List Evt) (ls : List Rec) (vc vw vl : Value) (w : World) (hlt : p < w.heap.size) (e3 : w.cell? ⟨p, 3, none⟩ = some vc) (e4 : w.cell? ⟨p, 4, none⟩ = some vw) (e5 : w.cell? ⟨p, 5, none⟩ = some vl)
    (oc : w.ownsRow lo 46 3 vc nc (flat3 cs)) (ow : w.ownsRow lo 39 6 vw nw (flat es)) (ol : w.ownsRow lo 41 7 vl nl (flat7 ls)) (hn : nw ≤ 1100000) :
    Calls Try.prog 44 #[.pointer (some ⟨p, 0, none⟩)] w fun x w' => ∃ fs A c, x = .returned (.agg #[vc, .slice A nw c, vl]) ∧ StO w.heap.size nw es fs A c w' ∧ Up w w' := by
  obtain ⟨Ac, cc, rfl, -, -⟩ := (own3_slice oc).2; obtain ⟨Aw, cw, rfl, -, -⟩ := (own_slice ow).2; obtain ⟨Al, cl, rfl, -, -⟩ := (own7_slice ol).2
  have UW := Lib.hid ((Up.refl w).alloc (.cells #[.slice none 0 0, .slice none 0 0, .slice none 0 0] 36))
  have CE := Lib.hid (And.intro ((UW.out.cells _ _ hlt).trans e3) (And.intro ((UW.out.cells _ _ hlt).trans e4) ((UW.out.cells _ _ hlt).trans e5)))
  have PL := Lib.hid (Nat.lt_of_lt_of_le hlt UW.out.size)
  have XB := Lib.hid (BoxF.new w (.slice none 0 0) (.slice none 0 0) (.slice none 0 0) 36)
  have CS := Lib.hid (fun (b : Nat) W (hb : b < W.heap.size) (h : W.cell? ⟨b, 0, none⟩ = some (.slice Aw nw cw)) (u : Up w W) => sortAny b Aw nw cw es W hb h ((own_evs ow).up u) hn)
  clear oc ow ol hn e3 e4 e5
  go_enter Try.func44, Try.ntmps44
  go_wp2_with fail
  clear hlt
  generalize hW0 : w.alloc (.cells #[.slice none 0 0, .slice none 0 0, .slice none 0 0] 36) = W0 at *
  have hs0 : W0.heap.size = w.heap.size + 1 := by rw [← hW0]; simp
  have HS0 := Lib.hid hs0
  clear hs0 hW0; refine region_relyT 15 [] [(15, false)] [3, 4, 5, 6, 7, 8, 9, 10, 11, 12, 13, 14, 15, 16, 17] 15 (fun _ w1 => Up W0 w1) Up (fun i v w => resB p W0.heap.size Ac nc cc Aw nw cw Al nl cl es i v w) (by kernel_rfl) (by kernel_rfl) (by kernel_rfl) (by kernel_rfl) ((Up.refl _).drew) (fun slot_ _ _ _ h u => resB_up p W0.heap.size Ac nc cc Aw nw cw Al nl cl es slot_ h u) ?_ ?_ ?_
  · simp only [List.take_succ_cons, List.take_zero]
    refine stepsT_op (by kernel_rfl) ?_ ?_
    · intro X w1 k1 hG hdep
      simp only [opW_def, mixT]; go_simp
      exact ⟨⟨.pointer (some ⟨p, 0, none⟩), by first | rfl | simp [Act.put], Up.refl _, hG, (show resB p W0.heap.size Ac nc cc Aw nw cw Al nl cl es 3 _ _ from by first | (rw [resB_3]; exact rfl) | rw [resB_3])⟩⟩
    refine stepsT_op (by kernel_rfl) ?_ ?_
    · intro X w1 k1 hG hdep
      have e3 : resB p W0.heap.size Ac nc cc Aw nw cw Al nl cl es 3 (X 3) w1 := hdep 3 (by decide +kernel)
      rw [resB_3] at e3; simp only [opW_def, mixT, e3]; go_simp
      exact ⟨⟨.pointer (some ⟨p, 0, none⟩), by first | rfl | simp [Act.put], Up.refl _, hG, (show resB p W0.heap.size Ac nc cc Aw nw cw Al nl cl es 4 _ _ from by first | (rw [resB_4]; exact rfl) | rw [resB_4])⟩⟩
    refine stepsT_op (by kernel_rfl) ?_ ?_
    · intro X w1 k1 hG hdep
      have e4 : resB p W0.heap.size Ac nc cc Aw nw cw Al nl cl es 4 (X 4) w1 := hdep 4 (by decide +kernel)
      rw [resB_4] at e4
      have lp := Nat.lt_of_lt_of_le PL.out hG.size
      simp only [opW_def, mixT, e4]; go_simp
      exact ⟨⟨.pointer (some ⟨p, 3, none⟩), by first | rfl | simp [Act.put], Up.refl _, hG, (show resB p W0.heap.size Ac nc cc Aw nw cw Al nl cl es 5 _ _ from by first | (rw [resB_5]; exact rfl) | rw [resB_5])⟩⟩
    refine stepsT_op (by kernel_rfl) ?_ ?_
    · intro X w1 k1 hG hdep
      have e5 : resB p W0.heap.size Ac nc cc Aw nw cw Al nl cl es 5 (X 5) w1 := hdep 5 (by decide +kernel)
      rw [resB_5] at e5; obtain ⟨q3, q4, q5⟩ := And.intro ((hG.cells _ _ PL.out).trans CE.out.1) (And.intro ((hG.cells _ _ PL.out).trans CE.out.2.1) ((hG.cells _ _ PL.out).trans CE.out.2.2))
      have lp := Nat.lt_of_lt_of_le PL.out hG.size
      simp only [opW_def, mixT, e5]; go_simp
      exact ⟨⟨.slice Ac nc cc, by first | rfl | simp [Act.put], Up.refl _, hG, (show resB p W0.heap.size Ac nc cc Aw nw cw Al nl cl es 6 _ _ from by first | (rw [resB_6]; exact rfl) | rw [resB_6])⟩⟩
    refine stepsT_op (by kernel_rfl) ?_ ?_
    · intro X w1 k1 hG hdep
      simp only [opW_def, mixT]; go_simp
      exact ⟨⟨.pointer (some ⟨p, 0, none⟩), by first | rfl | simp [Act.put], Up.refl _, hG, (show resB p W0.heap.size Ac nc cc Aw nw cw Al nl cl es 7 _ _ from by first | (rw [resB_7]; exact rfl) | rw [resB_7])⟩⟩
    refine stepsT_op (by kernel_rfl) ?_ ?_
    · intro X w1 k1 hG hdep
      have e7 : resB p W0.heap.size Ac nc cc Aw nw cw Al nl cl es 7 (X 7) w1 := hdep 7 (by decide +kernel)
      rw [resB_7] at e7; simp only [opW_def, mixT, e7]; go_simp
      exact ⟨⟨.pointer (some ⟨p, 0, none⟩), by first | rfl | simp [Act.put], Up.refl _, hG, (show resB p W0.heap.size Ac nc cc Aw nw cw Al nl cl es 8 _ _ from by first | (rw [resB_8]; exact rfl) | rw [resB_8])⟩⟩
    refine stepsT_op (by kernel_rfl) ?_ ?_
    · intro X w1 k1 hG hdep
      have e8 : resB p W0.heap.size Ac nc cc Aw nw cw Al nl cl es 8 (X 8) w1 := hdep 8 (by decide +kernel)
      rw [resB_8] at e8
      have lp := Nat.lt_of_lt_of_le PL.out hG.size
      simp only [opW_def, mixT, e8]; go_simp
      exact ⟨⟨.pointer (some ⟨p, 4, none⟩), by first | rfl | simp [Act.put], Up.refl _, hG, (show resB p W0.heap.size Ac nc cc Aw nw cw Al nl cl es 9 _ _ from by first | (rw [resB_9]; exact rfl) | rw [resB_9])⟩⟩
    refine stepsT_op (by kernel_rfl) ?_ ?_
    · intro X w1 k1 hG hdep
      have e9 : resB p W0.heap.size Ac nc cc Aw nw cw Al nl cl es 9 (X 9) w1 := hdep 9 (by decide +kernel)
      rw [resB_9] at e9; obtain ⟨q3, q4, q5⟩ := And.intro ((hG.cells _ _ PL.out).trans CE.out.1) (And.intro ((hG.cells _ _ PL.out).trans CE.out.2.1) ((hG.cells _ _ PL.out).trans CE.out.2.2))
      have lp := Nat.lt_of_lt_of_le PL.out hG.size
      simp only [opW_def, mixT, e9]; go_simp
      exact ⟨⟨.slice Aw nw cw, by first | rfl | simp [Act.put], Up.refl _, hG, (show resB p W0.heap.size Ac nc cc Aw nw cw Al nl cl es 10 _ _ from by first | (rw [resB_10]; exact rfl) | rw [resB_10])⟩⟩
    refine stepsT_op (by kernel_rfl) ?_ ?_
    · intro X w1 k1 hG hdep
      have e10 : resB p W0.heap.size Ac nc cc Aw nw cw Al nl cl es 10 (X 10) w1 := hdep 10 (by decide +kernel)
      rw [resB_10] at e10
      have hlo := hG.size
      simp only [opW_def, mixT, e10]; go_simp
      exact ⟨⟨_, by first | rfl | simp [Act.put], (Up.refl _).alloc _, hG.alloc _, (show resB p W0.heap.size Ac nc cc Aw nw cw Al nl cl es 11 _ _ from by first | (rw [resB_11]; exact IsRow1.new w1 _ _ hlo) | rw [resB_11])⟩⟩
    refine stepsT_op (by kernel_rfl) ?_ ?_
    · intro X w1 k1 hG hdep
      have e11 : resB p W0.heap.size Ac nc cc Aw nw cw Al nl cl es 11 (X 11) w1 := hdep 11 (by decide +kernel)
      rw [resB_11] at e11; obtain ⟨gb, e11, lb, lt, cb⟩ := e11
      have hlo := hG.size
      simp only [opW_def, mixT, e11]; go_simp; refine (CS.out gb w1 lt cb (UW.out.trans hG)).mono ?_; rintro x w2 ⟨fs, A9, c9, rfl, hs⟩
      exact ⟨⟨_, by first | rfl | simp [Act.put], hs.2.2.2.2.2.2, hG.trans hs.2.2.2.2.2.2, (show resB p W0.heap.size Ac nc cc Aw nw cw Al nl cl es 12 _ _ from by first | (rw [resB_12]; exact IsSt.of hs hlo) | rw [resB_12])⟩⟩
    refine stepsT_op (by kernel_rfl) ?_ ?_
    · intro X w1 k1 hG hdep
      simp only [opW_def, mixT]; go_simp
      exact ⟨⟨.pointer (some ⟨p, 0, none⟩), by first | rfl | simp [Act.put], Up.refl _, hG, (show resB p W0.heap.size Ac nc cc Aw nw cw Al nl cl es 13 _ _ from by first | (rw [resB_13]; exact rfl) | rw [resB_13])⟩⟩
    refine stepsT_op (by kernel_rfl) ?_ ?_
    · intro X w1 k1 hG hdep
      have e13 : resB p W0.heap.size Ac nc cc Aw nw cw Al nl cl es 13 (X 13) w1 := hdep 13 (by decide +kernel)
      rw [resB_13] at e13; simp only [opW_def, mixT, e13]; go_simp
      exact ⟨⟨.pointer (some ⟨p, 0, none⟩), by first | rfl | simp [Act.put], Up.refl _, hG, (show resB p W0.heap.size Ac nc cc Aw nw cw Al nl cl es 14 _ _ from by first | (rw [resB_14]; exact rfl) | rw [resB_14])⟩⟩
    refine stepsT_op (by kernel_rfl) ?_ ?_
    · intro X w1 k1 hG hdep
      have e14 : resB p W0.heap.size Ac nc cc Aw nw cw Al nl cl es 14 (X 14) w1 := hdep 14 (by decide +kernel)
      rw [resB_14] at e14
      have lp := Nat.lt_of_lt_of_le PL.out hG.size
      simp only [opW_def, mixT, e14]; go_simp
      exact ⟨⟨.pointer (some ⟨p, 5, none⟩), by first | rfl | simp [Act.put], Up.refl _, hG, (show resB p W0.heap.size Ac nc cc Aw nw cw Al nl cl es 15 _ _ from by first | (rw [resB_15]; exact rfl) | rw [resB_15])⟩⟩
    refine stepsT_op (by kernel_rfl) ?_ ?_
    · intro X w1 k1 hG hdep
      have e15 : resB p W0.heap.size Ac nc cc Aw nw cw Al nl cl es 15 (X 15) w1 := hdep 15 (by decide +kernel)
      rw [resB_15] at e15; obtain ⟨q3, q4, q5⟩ := And.intro ((hG.cells _ _ PL.out).trans CE.out.1) (And.intro ((hG.cells _ _ PL.out).trans CE.out.2.1) ((hG.cells _ _ PL.out).trans CE.out.2.2))
      have lp := Nat.lt_of_lt_of_le PL.out hG.size
      simp only [opW_def, mixT, e15]; go_simp
      exact ⟨⟨.slice Al nl cl, by first | rfl | simp [Act.put], Up.refl _, hG, (show resB p W0.heap.size Ac nc cc Aw nw cw Al nl cl es 16 _ _ from by first | (rw [resB_16]; exact rfl) | rw [resB_16])⟩⟩
    refine stepsT_op (by kernel_rfl) ?_ ?_
    · intro X w1 k1 hG hdep
      have e6 : resB p W0.heap.size Ac nc cc Aw nw cw Al nl cl es 6 (X 6) w1 := hdep 6 (by decide +kernel)
      rw [resB_6] at e6
      have e12 : resB p W0.heap.size Ac nc cc Aw nw cw Al nl cl es 12 (X 12) w1 := hdep 12 (by decide +kernel)
      rw [resB_12] at e12; obtain ⟨fs, A9, c9, e12, hh⟩ := e12
      have e16 : resB p W0.heap.size Ac nc cc Aw nw cw Al nl cl es 16 (X 16) w1 := hdep 16 (by decide +kernel)
      rw [resB_16] at e16; simp only [opW_def, mixT, e6, e12, e16]; go_simp
      exact ⟨⟨_, by first | rfl | simp [Act.put], Up.refl _, hG, (show resB p W0.heap.size Ac nc cc Aw nw cw Al nl cl es 17 _ _ from by first | (rw [resB_17]; exact ⟨_, _, _, rfl, hh⟩) | rw [resB_17])⟩⟩
    exact trivial
  · intro h p _ hp
    cases hp
  · intro X w1 hG hR
    have e17 : resB p W0.heap.size Ac nc cc Aw nw cw Al nl cl es 17 (X 17) w1 := hR 14 (by omega)
    rw [resB_17] at e17; obtain ⟨fs, A9, c9, e17, hh⟩ := e17; clear hR
    have XB := Lib.hid (XB.out.up hG)
    obtain ⟨b0, b1, b2⟩ := And.intro XB.out.k.c0 (And.intro XB.out.k.c1 XB.out.k.c2)
    have bl := XB.out.k.lt
    have bf := XB.out.f
    simp only [mixT, e17]; refine mix_go rfl (by rfl) (fun K hK => ?_); go_simp; refine hK _ _ ?_; clear hK K; refine mix_nil ?_
    have LB := XB.out.laid (.slice Ac nc cc) (.slice A9 nw c9) (.slice Al nl cl)
    obtain ⟨k0, k1, k2⟩ := And.intro LB.c0 (And.intro LB.c1 LB.c2)
    have U1 := UW.out.trans hG
    have UE := Lib.hid (((U1.setCell (p := ⟨w.heap.size, 0, none⟩) (Nat.le_refl _) (.slice Ac nc cc)).setCell (p := ⟨w.heap.size, 1, none⟩) (Nat.le_refl _) (.slice A9 nw c9)).setCell (p := ⟨w.heap.size, 2, none⟩) (Nat.le_refl _) (.slice Al nl cl))
    have UX := Lib.hid ((((Up.refl w1).mv w.heap.size).setCell (o := 0) (.slice Ac nc cc)).setCell (o := 1) (.slice A9 nw c9) |>.setCell (o := 2) (.slice Al nl cl))
    have HH := Lib.hid hh
    clear b0 b1 b2 bf LB hh; go_wp2
    exact bodyPost_ret (v := .agg #[.slice Ac nc cc, .slice A9 nw c9, .slice Al nl cl]) (by simp [results, Try.results44, go_sem, k0, k1, k2]) rfl ⟨fs, A9, c9, rfl, StO.mv (lo := W0.heap.size) (lo' := w.heap.size) HH.out UX.out ⟨Nat.le_refl _, by have := HS0.out; omega⟩, UE.out⟩
end Go.Proofs.Ytjdoealcmokakaa

/-
  What spec.l3Copy returns, in one sentence: the simulator's lists in rows of the call's own; for every simulator of short lists that lies in memory.
  The reference's simulator between two operations, in one sentence: a block of three slices, whose rows are the call's own and lie apart; what its changes keep; no condition is made.
  What szSeqState and toSeqState return, in one sentence: -1, or what is left, and then each list is short; a copy in new memory; for every simulator that lies in memory.
  Which records and which pending events are valid, in one sentence: two functions on numbers; no condition is made.
-/
import Derived.Test.YtklldniapombiaaDLWev03
import Derived.Test.YtklldniapombiaaDLWev16
import Derived.Test.YtklldniapombiaaDLWev17
import Derived.Test.YtklldniapombiaaDLWev21
import Derived.Test.YtklldniapombiaaDLWev24
namespace Go.Proofs.Ytklldniapombiaa
set_option maxRecDepth 100000
open Go.RowKit
/-- An empty literal of any element. -/
def IsLitG (lo : Nat) (e : TypeId) (size : Nat) (v : Value) (w : World) : Prop := ∃ g, v = .slice (some ⟨g, 0, none⟩) 0 0 ∧ w.ownsRow lo e size (.slice (some ⟨g, 0, none⟩) 0 0) 0 []
theorem IsLitG.up {lo size : Nat} {e : TypeId} {v : Value} {w w' : World} (h : IsLitG lo e size v w) (u : Up w w') : IsLitG lo e size v w' := by
  obtain ⟨g, h1, h2⟩ := h
  exact ⟨g, h1, own_up h2 u⟩
theorem IsLitG.new {lo : Nat} (w : World) (e : TypeId) (size : Nat) (h : lo ≤ w.heap.size) : IsLitG lo e size (.slice (some ⟨w.heap.size, 0, none⟩) 0 0) (w.alloc (.cells #[] e)) :=
  ⟨w.heap.size, rfl, by simpa using World.ownsRow_lit (base := lo) (e := e) (size := size) w #[] 0 h (by simp only [maxLen]; omega) (by simp)⟩
/-- A simulator in rows of the call's own, as a value. -/
def IsSl3 (lo nc nw nl : Nat) (s : Sq) (v : Value) (w : World) : Prop := ∃ A1 c1 A2 c2 A3 c3, v = .agg #[.slice A1 nc c1, .slice A2 nw c2, .slice A3 nl c3] ∧ w.ownsRow lo 76 3 (.slice A1 nc c1) nc (flat3 s.comps) ∧ w.ownsRow lo 74 6 (.slice A2 nw c2) nw (flat s.wait) ∧ w.ownsRow lo 180 7 (.slice A3 nl c3) nl (flat7 s.log)
theorem IsSl3.up {lo nc nw nl : Nat} {s : Sq} {v : Value} {w w' : World} (h : IsSl3 lo nc nw nl s v w) (u : Up w w') : IsSl3 lo nc nw nl s v w' := by
  obtain ⟨A1, c1, A2, c2, A3, c3, h0, h1, h2, h3⟩ := h
  exact ⟨A1, c1, A2, c2, A3, c3, h0, own_up h1 u, own_up h2 u, own_up h3 u⟩
def resD (lo b1 : Nat) (Ac : Option Addr) (nc cc : Nat) (Aw : Option Addr) (nw cw : Nat) (Al : Option Addr) (nl cl : Nat) (s : Sq) (d : Nat) (v : Value) (w : World) : Prop :=
  if d = 3 then IsLitG lo 76 3 v w else if d = 4 then v = .pointer (some ⟨b1, 0, none⟩) else if d = 5 then v = .slice Ac nc cc else if d = 6 then w.ownsRow lo 76 3 v nc (flat3 s.comps) else if d = 7 then IsLitG lo 74 6 v w else if d = 8 then v = .pointer (some ⟨b1, 1, none⟩) else if d = 9 then v = .slice Aw nw cw else if d = 10 then w.ownsRow lo 74 6 v nw (flat s.wait) else if d = 11 then IsLitG lo 180 7 v w else if d = 12 then v = .pointer (some ⟨b1, 2, none⟩) else if d = 13 then v = .slice Al nl cl else if d = 14 then w.ownsRow lo 180 7 v nl (flat7 s.log) else if d = 15 then IsSl3 lo nc nw nl s v w else True
theorem resD_3 (lo b1 : Nat) (Ac : Option Addr) (nc cc : Nat) (Aw : Option Addr) (nw cw : Nat) (Al : Option Addr) (nl cl : Nat) (s : Sq) (v : Value) (w : World) : resD lo b1 Ac nc cc Aw nw cw Al nl cl s 3 v w = (IsLitG lo 76 3 v w) := by simp [resD]
theorem resD_4 (lo b1 : Nat) (Ac : Option Addr) (nc cc : Nat) (Aw : Option Addr) (nw cw : Nat) (Al : Option Addr) (nl cl : Nat) (s : Sq) (v : Value) (w : World) : resD lo b1 Ac nc cc Aw nw cw Al nl cl s 4 v w = (v = .pointer (some ⟨b1, 0, none⟩)) := by simp [resD]
theorem resD_5 (lo b1 : Nat) (Ac : Option Addr) (nc cc : Nat) (Aw : Option Addr) (nw cw : Nat) (Al : Option Addr) (nl cl : Nat) (s : Sq) (v : Value) (w : World) : resD lo b1 Ac nc cc Aw nw cw Al nl cl s 5 v w = (v = .slice Ac nc cc) := by simp [resD]
theorem resD_6 (lo b1 : Nat) (Ac : Option Addr) (nc cc : Nat) (Aw : Option Addr) (nw cw : Nat) (Al : Option Addr) (nl cl : Nat) (s : Sq) (v : Value) (w : World) : resD lo b1 Ac nc cc Aw nw cw Al nl cl s 6 v w = (w.ownsRow lo 76 3 v nc (flat3 s.comps)) := by simp [resD]
theorem resD_7 (lo b1 : Nat) (Ac : Option Addr) (nc cc : Nat) (Aw : Option Addr) (nw cw : Nat) (Al : Option Addr) (nl cl : Nat) (s : Sq) (v : Value) (w : World) : resD lo b1 Ac nc cc Aw nw cw Al nl cl s 7 v w = (IsLitG lo 74 6 v w) := by simp [resD]
theorem resD_8 (lo b1 : Nat) (Ac : Option Addr) (nc cc : Nat) (Aw : Option Addr) (nw cw : Nat) (Al : Option Addr) (nl cl : Nat) (s : Sq) (v : Value) (w : World) : resD lo b1 Ac nc cc Aw nw cw Al nl cl s 8 v w = (v = .pointer (some ⟨b1, 1, none⟩)) := by simp [resD]
theorem resD_9 (lo b1 : Nat) (Ac : Option Addr) (nc cc : Nat) (Aw : Option Addr) (nw cw : Nat) (Al : Option Addr) (nl cl : Nat) (s : Sq) (v : Value) (w : World) : resD lo b1 Ac nc cc Aw nw cw Al nl cl s 9 v w = (v = .slice Aw nw cw) := by simp [resD]
theorem resD_10 (lo b1 : Nat) (Ac : Option Addr) (nc cc : Nat) (Aw : Option Addr) (nw cw : Nat) (Al : Option Addr) (nl cl : Nat) (s : Sq) (v : Value) (w : World) : resD lo b1 Ac nc cc Aw nw cw Al nl cl s 10 v w = (w.ownsRow lo 74 6 v nw (flat s.wait)) := by simp [resD]
theorem resD_11 (lo b1 : Nat) (Ac : Option Addr) (nc cc : Nat) (Aw : Option Addr) (nw cw : Nat) (Al : Option Addr) (nl cl : Nat) (s : Sq) (v : Value) (w : World) : resD lo b1 Ac nc cc Aw nw cw Al nl cl s 11 v w = (IsLitG lo 180 7 v w) := by simp [resD]
theorem resD_12 (lo b1 : Nat) (Ac : Option Addr) (nc cc : Nat) (Aw : Option Addr) (nw cw : Nat) (Al : Option Addr) (nl cl : Nat) (s : Sq) (v : Value) (w : World) : resD lo b1 Ac nc cc Aw nw cw Al nl cl s 12 v w = (v = .pointer (some ⟨b1, 2, none⟩)) := by simp [resD]
theorem resD_13 (lo b1 : Nat) (Ac : Option Addr) (nc cc : Nat) (Aw : Option Addr) (nw cw : Nat) (Al : Option Addr) (nl cl : Nat) (s : Sq) (v : Value) (w : World) : resD lo b1 Ac nc cc Aw nw cw Al nl cl s 13 v w = (v = .slice Al nl cl) := by simp [resD]
theorem resD_14 (lo b1 : Nat) (Ac : Option Addr) (nc cc : Nat) (Aw : Option Addr) (nw cw : Nat) (Al : Option Addr) (nl cl : Nat) (s : Sq) (v : Value) (w : World) : resD lo b1 Ac nc cc Aw nw cw Al nl cl s 14 v w = (w.ownsRow lo 180 7 v nl (flat7 s.log)) := by simp [resD]
theorem resD_15 (lo b1 : Nat) (Ac : Option Addr) (nc cc : Nat) (Aw : Option Addr) (nw cw : Nat) (Al : Option Addr) (nl cl : Nat) (s : Sq) (v : Value) (w : World) : resD lo b1 Ac nc cc Aw nw cw Al nl cl s 15 v w = (IsSl3 lo nc nw nl s v w) := by simp [resD]
theorem resD_up (lo b1 : Nat) (Ac : Option Addr) (nc cc : Nat) (Aw : Option Addr) (nw cw : Nat) (Al : Option Addr) (nl cl : Nat) (s : Sq) (d : Nat) {v : Value} {w w' : World} (h : resD lo b1 Ac nc cc Aw nw cw Al nl cl s d v w) (u : Up w w') : resD lo b1 Ac nc cc Aw nw cw Al nl cl s d v w' := by
  unfold resD at h ⊢
  by_cases h3 : d = 3
  · rw [if_pos h3] at h ⊢
    exact h.up u
  rw [if_neg h3] at h ⊢
  by_cases h4 : d = 4
  · rw [if_pos h4] at h ⊢
    exact h
  rw [if_neg h4] at h ⊢
  by_cases h5 : d = 5
  · rw [if_pos h5] at h ⊢
    exact h
  rw [if_neg h5] at h ⊢
  by_cases h6 : d = 6
  · rw [if_pos h6] at h ⊢
    exact own_up h u
  rw [if_neg h6] at h ⊢
  by_cases h7 : d = 7
  · rw [if_pos h7] at h ⊢
    exact h.up u
  rw [if_neg h7] at h ⊢
  by_cases h8 : d = 8
  · rw [if_pos h8] at h ⊢
    exact h
  rw [if_neg h8] at h ⊢
  by_cases h9 : d = 9
  · rw [if_pos h9] at h ⊢
    exact h
  rw [if_neg h9] at h ⊢
  by_cases h10 : d = 10
  · rw [if_pos h10] at h ⊢
    exact own_up h u
  rw [if_neg h10] at h ⊢
  by_cases h11 : d = 11
  · rw [if_pos h11] at h ⊢
    exact h.up u
  rw [if_neg h11] at h ⊢
  by_cases h12 : d = 12
  · rw [if_pos h12] at h ⊢
    exact h
  rw [if_neg h12] at h ⊢
  by_cases h13 : d = 13
  · rw [if_pos h13] at h ⊢
    exact h
  rw [if_neg h13] at h ⊢
  by_cases h14 : d = 14
  · rw [if_pos h14] at h ⊢
    exact own_up h u
  rw [if_neg h14] at h ⊢
  by_cases h15 : d = 15
  · rw [if_pos h15] at h ⊢
    exact h.up u
  rw [if_neg h15] at h ⊢
  exact trivial
set_option maxHeartbeats 8000000 in
theorem specCopy_any (Ac : Option Addr) (nc cc : Nat) (Aw : Option Addr) (nw cw : Nat) (Al : Option Addr) (nl cl : Nat) (s : Sq) (w : World) (hV : SqV w Ac nc Aw nw Al nl s) (hS : nc ≤ 2000000 ∧ nw ≤ 2000000 ∧ nl ≤ 2000000) :
    Calls Try.prog 100 #[.agg #[.slice Ac nc cc, .slice Aw nw cw, .slice Al nl cl]] w fun x w' => (∃ v, x = .returned v ∧ IsSl3 w.heap.size nc nw nl s v w') ∧ Up w w' := by
  obtain ⟨i3, ha0, ha1, ha2, ha3⟩ := info_parts info76
  have INF3 := Lib.hid (And.intro ha0 (And.intro ha1 (And.intro ha2 ha3)))
  obtain ⟨i6, hb0, hb1, hb2, hb3⟩ := info_parts info74
  have INF6 := Lib.hid (And.intro hb0 (And.intro hb1 (And.intro hb2 hb3)))
  obtain ⟨i7, hc0, hc1, hc2, hc3⟩ := info_parts info180
  have INF7 := Lib.hid (And.intro hc0 (And.intro hc1 (And.intro hc2 hc3)))
  clear ha0 ha1 ha2 ha3 hb0 hb1 hb2 hb3 hc0 hc1 hc2 hc3; obtain ⟨n1, n2, n3⟩ := hS
  have BX := Box3.new w (.slice Ac nc cc) (.slice Aw nw cw) (.slice Al nl cl) 62
  have XB := BoxF.new (w.alloc (.cells #[.slice Ac nc cc, .slice Aw nw cw, .slice Al nl cl] 62)) (.slice none 0 0) (.slice none 0 0) (.slice none 0 0) 62
  simp only [World.size_alloc] at XB
  have BX := Lib.hid (BX.up ((Up.refl _).alloc (.cells #[.slice none 0 0, .slice none 0 0, .slice none 0 0] 62)))
  have XB := Lib.hid XB
  have UW := Lib.hid (((Up.refl w).alloc (.cells #[.slice Ac nc cc, .slice Aw nw cw, .slice Al nl cl] 62)).alloc (.cells #[.slice none 0 0, .slice none 0 0, .slice none 0 0] 62))
  have EC := Lib.hid (hV.comps.up UW.out)
  have EW := Lib.hid (hV.wait.up UW.out)
  have EL := Lib.hid (hV.log.up UW.out)
  clear hV
  go_enter Try.func100, Try.ntmps100
  go_wp2_with fail
  generalize hW0 : (w.alloc (.cells #[.slice Ac nc cc, .slice Aw nw cw, .slice Al nl cl] 62)).alloc (.cells #[.slice none 0 0, .slice none 0 0, .slice none 0 0] 62) = W0 at *
  have HS0 := Lib.hid (show W0.heap.size = w.heap.size + 2 by rw [← hW0]; simp)
  generalize hb1 : w.heap.size = b1 at *
  generalize hb2 : b1 + 1 = b2 at *
  have HB := Lib.hid (show w.heap.size ≤ b2 ∧ b2 < W0.heap.size by have := HS0.out; omega)
  have H1 := Lib.hid (show w.heap.size ≤ W0.heap.size by have := HB.out; omega)
  clear hW0 HS0 hb2; refine region_relyT 13 [] [(13, false)] [3, 4, 5, 6, 7, 8, 9, 10, 11, 12, 13, 14, 15] 13 (fun _ w1 => Up W0 w1) Up (fun i v w => resD W0.heap.size b1 Ac nc cc Aw nw cw Al nl cl s i v w) (by kernel_rfl) (by kernel_rfl) (by kernel_rfl) (by kernel_rfl) ((Up.refl _).drew) (fun slot_ _ _ _ h u => resD_up W0.heap.size b1 Ac nc cc Aw nw cw Al nl cl s slot_ h u) ?_ ?_ ?_
  · simp only [List.take_succ_cons, List.take_zero]
    refine stepsT_op (by kernel_rfl) ?_ ?_
    · intro X w1 k1 hG hdep
      have hlo := hG.size
      simp only [opW_def, mixT]; go_simp
      exact ⟨⟨_, by first | rfl | simp [Act.put], (Up.refl _).alloc _, hG.alloc _, (show resD W0.heap.size b1 Ac nc cc Aw nw cw Al nl cl s 3 _ _ from by first | (rw [resD_3]; exact IsLitG.new w1 76 3 hlo) | rw [resD_3])⟩⟩
    refine stepsT_op (by kernel_rfl) ?_ ?_
    · intro X w1 k1 hG hdep
      obtain ⟨p0, p1, p2⟩ := And.intro (BX.out.up hG).c0 (And.intro (BX.out.up hG).c1 (BX.out.up hG).c2)
      have lp := (BX.out.up hG).lt
      simp only [opW_def, mixT]; go_simp
      exact ⟨⟨.pointer (some ⟨b1, 0, none⟩), by first | rfl | simp [Act.put], Up.refl _, hG, (show resD W0.heap.size b1 Ac nc cc Aw nw cw Al nl cl s 4 _ _ from by first | (rw [resD_4]; exact rfl) | rw [resD_4])⟩⟩
    refine stepsT_op (by kernel_rfl) ?_ ?_
    · intro X w1 k1 hG hdep
      have e4 : resD W0.heap.size b1 Ac nc cc Aw nw cw Al nl cl s 4 (X 4) w1 := hdep 4 (by decide +kernel)
      rw [resD_4] at e4; obtain ⟨p0, p1, p2⟩ := And.intro (BX.out.up hG).c0 (And.intro (BX.out.up hG).c1 (BX.out.up hG).c2)
      have lp := (BX.out.up hG).lt
      simp only [opW_def, mixT, e4]; go_simp
      exact ⟨⟨.slice Ac nc cc, by first | rfl | simp [Act.put], Up.refl _, hG, (show resD W0.heap.size b1 Ac nc cc Aw nw cw Al nl cl s 5 _ _ from by first | (rw [resD_5]; exact rfl) | rw [resD_5])⟩⟩
    refine stepsT_op (by kernel_rfl) ?_ ?_
    · intro X w1 k1 hG hdep
      have e3 : resD W0.heap.size b1 Ac nc cc Aw nw cw Al nl cl s 3 (X 3) w1 := hdep 3 (by decide +kernel)
      rw [resD_3] at e3; obtain ⟨g1, e3, o1⟩ := e3
      have e5 : resD W0.heap.size b1 Ac nc cc Aw nw cw Al nl cl s 5 (X 5) w1 := hdep 5 (by decide +kernel)
      rw [resD_5] at e5
      have hlo := hG.size
      have ES1 := EC.out.up hG
      simp only [opW_def, mixT, e3, e5]; refine wp_append_lit (P := Try.prog) w1 (.tmp 3) (.tmp 5) 59 rfl W0.heap.size 76 i3 _ 3 24 Try.underlying59 INF3.out.1 INF3.out.2.1 INF3.out.2.2.1 INF3.out.2.2.2 rfl (by omega) g1 (by go_simp) o1 _ Ac nc cc (flat3 s.comps) (by go_simp) ES1.reads (flat3_one _) (by simp only [maxLen]; omega) (by omega) hlo ?_; intro v' w' ho u
      exact ⟨⟨v', by first | rfl | simp [Act.put], u, hG.trans u, (show resD W0.heap.size b1 Ac nc cc Aw nw cw Al nl cl s 6 _ _ from by first | (rw [resD_6]; exact ho) | rw [resD_6])⟩⟩
    refine stepsT_op (by kernel_rfl) ?_ ?_
    · intro X w1 k1 hG hdep
      have hlo := hG.size
      simp only [opW_def, mixT]; go_simp
      exact ⟨⟨_, by first | rfl | simp [Act.put], (Up.refl _).alloc _, hG.alloc _, (show resD W0.heap.size b1 Ac nc cc Aw nw cw Al nl cl s 7 _ _ from by first | (rw [resD_7]; exact IsLitG.new w1 74 6 hlo) | rw [resD_7])⟩⟩
    refine stepsT_op (by kernel_rfl) ?_ ?_
    · intro X w1 k1 hG hdep
      obtain ⟨p0, p1, p2⟩ := And.intro (BX.out.up hG).c0 (And.intro (BX.out.up hG).c1 (BX.out.up hG).c2)
      have lp := (BX.out.up hG).lt
      simp only [opW_def, mixT]; go_simp
      exact ⟨⟨.pointer (some ⟨b1, 1, none⟩), by first | rfl | simp [Act.put], Up.refl _, hG, (show resD W0.heap.size b1 Ac nc cc Aw nw cw Al nl cl s 8 _ _ from by first | (rw [resD_8]; exact rfl) | rw [resD_8])⟩⟩
    refine stepsT_op (by kernel_rfl) ?_ ?_
    · intro X w1 k1 hG hdep
      have e8 : resD W0.heap.size b1 Ac nc cc Aw nw cw Al nl cl s 8 (X 8) w1 := hdep 8 (by decide +kernel)
      rw [resD_8] at e8; obtain ⟨p0, p1, p2⟩ := And.intro (BX.out.up hG).c0 (And.intro (BX.out.up hG).c1 (BX.out.up hG).c2)
      have lp := (BX.out.up hG).lt
      simp only [opW_def, mixT, e8]; go_simp
      exact ⟨⟨.slice Aw nw cw, by first | rfl | simp [Act.put], Up.refl _, hG, (show resD W0.heap.size b1 Ac nc cc Aw nw cw Al nl cl s 9 _ _ from by first | (rw [resD_9]; exact rfl) | rw [resD_9])⟩⟩
    refine stepsT_op (by kernel_rfl) ?_ ?_
    · intro X w1 k1 hG hdep
      have e7 : resD W0.heap.size b1 Ac nc cc Aw nw cw Al nl cl s 7 (X 7) w1 := hdep 7 (by decide +kernel)
      rw [resD_7] at e7; obtain ⟨g1, e7, o1⟩ := e7
      have e9 : resD W0.heap.size b1 Ac nc cc Aw nw cw Al nl cl s 9 (X 9) w1 := hdep 9 (by decide +kernel)
      rw [resD_9] at e9
      have hlo := hG.size
      have ES1 := EW.out.up hG
      simp only [opW_def, mixT, e7, e9]; refine wp_append_lit (P := Try.prog) w1 (.tmp 7) (.tmp 9) 34 rfl W0.heap.size 74 i6 _ 6 48 Try.underlying34 INF6.out.1 INF6.out.2.1 INF6.out.2.2.1 INF6.out.2.2.2 rfl (by omega) g1 (by go_simp) o1 _ Aw nw cw (flat s.wait) (by go_simp) ES1.reads (flat_one _) (by simp only [maxLen]; omega) (by omega) hlo ?_; intro v' w' ho u
      exact ⟨⟨v', by first | rfl | simp [Act.put], u, hG.trans u, (show resD W0.heap.size b1 Ac nc cc Aw nw cw Al nl cl s 10 _ _ from by first | (rw [resD_10]; exact ho) | rw [resD_10])⟩⟩
    refine stepsT_op (by kernel_rfl) ?_ ?_
    · intro X w1 k1 hG hdep
      have hlo := hG.size
      simp only [opW_def, mixT]; go_simp
      exact ⟨⟨_, by first | rfl | simp [Act.put], (Up.refl _).alloc _, hG.alloc _, (show resD W0.heap.size b1 Ac nc cc Aw nw cw Al nl cl s 11 _ _ from by first | (rw [resD_11]; exact IsLitG.new w1 180 7 hlo) | rw [resD_11])⟩⟩
    refine stepsT_op (by kernel_rfl) ?_ ?_
    · intro X w1 k1 hG hdep
      obtain ⟨p0, p1, p2⟩ := And.intro (BX.out.up hG).c0 (And.intro (BX.out.up hG).c1 (BX.out.up hG).c2)
      have lp := (BX.out.up hG).lt
      simp only [opW_def, mixT]; go_simp
      exact ⟨⟨.pointer (some ⟨b1, 2, none⟩), by first | rfl | simp [Act.put], Up.refl _, hG, (show resD W0.heap.size b1 Ac nc cc Aw nw cw Al nl cl s 12 _ _ from by first | (rw [resD_12]; exact rfl) | rw [resD_12])⟩⟩
    refine stepsT_op (by kernel_rfl) ?_ ?_
    · intro X w1 k1 hG hdep
      have e12 : resD W0.heap.size b1 Ac nc cc Aw nw cw Al nl cl s 12 (X 12) w1 := hdep 12 (by decide +kernel)
      rw [resD_12] at e12; obtain ⟨p0, p1, p2⟩ := And.intro (BX.out.up hG).c0 (And.intro (BX.out.up hG).c1 (BX.out.up hG).c2)
      have lp := (BX.out.up hG).lt
      simp only [opW_def, mixT, e12]; go_simp
      exact ⟨⟨.slice Al nl cl, by first | rfl | simp [Act.put], Up.refl _, hG, (show resD W0.heap.size b1 Ac nc cc Aw nw cw Al nl cl s 13 _ _ from by first | (rw [resD_13]; exact rfl) | rw [resD_13])⟩⟩
    refine stepsT_op (by kernel_rfl) ?_ ?_
    · intro X w1 k1 hG hdep
      have e11 : resD W0.heap.size b1 Ac nc cc Aw nw cw Al nl cl s 11 (X 11) w1 := hdep 11 (by decide +kernel)
      rw [resD_11] at e11; obtain ⟨g1, e11, o1⟩ := e11
      have e13 : resD W0.heap.size b1 Ac nc cc Aw nw cw Al nl cl s 13 (X 13) w1 := hdep 13 (by decide +kernel)
      rw [resD_13] at e13
      have hlo := hG.size
      have ES1 := EL.out.up hG
      simp only [opW_def, mixT, e11, e13]; refine wp_append_lit (P := Try.prog) w1 (.tmp 11) (.tmp 13) 60 rfl W0.heap.size 180 i7 _ 7 56 Try.underlying60 INF7.out.1 INF7.out.2.1 INF7.out.2.2.1 INF7.out.2.2.2 rfl (by omega) g1 (by go_simp) o1 _ Al nl cl (flat7 s.log) (by go_simp) ES1.reads (flat7_one _) (by simp only [maxLen]; omega) (by omega) hlo ?_; intro v' w' ho u
      exact ⟨⟨v', by first | rfl | simp [Act.put], u, hG.trans u, (show resD W0.heap.size b1 Ac nc cc Aw nw cw Al nl cl s 14 _ _ from by first | (rw [resD_14]; exact ho) | rw [resD_14])⟩⟩
    refine stepsT_op (by kernel_rfl) ?_ ?_
    · intro X w1 k1 hG hdep
      have e6 : resD W0.heap.size b1 Ac nc cc Aw nw cw Al nl cl s 6 (X 6) w1 := hdep 6 (by decide +kernel)
      rw [resD_6] at e6
      have e10 : resD W0.heap.size b1 Ac nc cc Aw nw cw Al nl cl s 10 (X 10) w1 := hdep 10 (by decide +kernel)
      rw [resD_10] at e10
      have e14 : resD W0.heap.size b1 Ac nc cc Aw nw cw Al nl cl s 14 (X 14) w1 := hdep 14 (by decide +kernel)
      rw [resD_14] at e14; obtain ⟨A6, c6, hX6, _, _⟩ := (own3_slice e6).2; rw [hX6] at e6; obtain ⟨A10, c10, hX10, _, _⟩ := (own_slice e10).2; rw [hX10] at e10; obtain ⟨A14, c14, hX14, _, _⟩ := (own7_slice e14).2; rw [hX14] at e14; simp only [opW_def, mixT, hX6, hX10, hX14]; go_simp
      exact ⟨⟨_, by first | rfl | simp [Act.put], Up.refl _, hG, (show resD W0.heap.size b1 Ac nc cc Aw nw cw Al nl cl s 15 _ _ from by first | (rw [resD_15]; exact ⟨_, _, _, _, _, _, rfl, e6, e10, e14⟩) | rw [resD_15])⟩⟩
    exact trivial
  · intro h p _ hp
    cases hp
  · intro X w1 hG hR
    have e15 : resD W0.heap.size b1 Ac nc cc Aw nw cw Al nl cl s 15 (X 15) w1 := hR 12 (by omega)
    rw [resD_15] at e15; obtain ⟨A1, c1, A2, c2, A3, c3, e15, o1, o2, o3⟩ := e15; clear hR
    have XB := Lib.hid (XB.out.up hG)
    obtain ⟨q0, q1, q2⟩ := And.intro XB.out.k.c0 (And.intro XB.out.k.c1 XB.out.k.c2)
    have bl := XB.out.k.lt
    have bf := XB.out.f
    simp only [mixT, e15]; refine mix_go rfl (by rfl) (fun K hK => ?_); go_simp; refine hK _ _ ?_; clear hK K; refine mix_nil ?_
    have LB := XB.out.laid (.slice A1 nc c1) (.slice A2 nw c2) (.slice A3 nl c3)
    obtain ⟨k0, k1, k2⟩ := And.intro LB.c0 (And.intro LB.c1 LB.c2)
    have U1 := UW.out.trans hG
    have UE := Lib.hid (((U1.setCell (p := ⟨b2, 0, none⟩) HB.out.1 (.slice A1 nc c1)).setCell (p := ⟨b2, 1, none⟩) HB.out.1 (.slice A2 nw c2)).setCell (p := ⟨b2, 2, none⟩) HB.out.1 (.slice A3 nl c3))
    have MX := ((((Up.refl w1).mv b2).setCell (o := 0) (.slice A1 nc c1)).setCell (o := 1) (.slice A2 nw c2) |>.setCell (o := 2) (.slice A3 nl c3))
    have O := Lib.hid (show IsSl3 w.heap.size nc nw nl s _ _ from ⟨A1, c1, A2, c2, A3, c3, rfl, own_mono (own_mv o1 MX HB.out.2) H1.out, own_mono (own_mv o2 MX HB.out.2) H1.out, own_mono (own_mv o3 MX HB.out.2) H1.out⟩)
    clear q0 q1 q2 bf LB o1 o2 o3 MX U1; go_wp2
    exact bodyPost_ret (v := .agg #[.slice A1 nc c1, .slice A2 nw c2, .slice A3 nl c3]) (by simp [results, Try.results100, go_sem, k0, k1, k2]) rfl ⟨⟨_, rfl, O.out⟩, UE.out⟩
end Go.Proofs.Ytklldniapombiaa

namespace Go.Proofs.Ytklldniapombiaa
set_option maxRecDepth 100000
open Go.RowKit
structure Sp (lo b nc nl nw : Nat) (cs : List Cst) (es : List Evt) (ls : List Rec) (vc vw vl : Value) (w : World) : Prop where
  lt : b < w.heap.size
  c0 : w.cell? ⟨b, 0, none⟩ = some vc
  c1 : w.cell? ⟨b, 1, none⟩ = some vw
  c2 : w.cell? ⟨b, 2, none⟩ = some vl
  fz : ∀ j, w.frozen? ⟨b, j, none⟩ = false
  rc : w.ownsRow lo 76 3 vc nc (flat3 cs)
  rq : w.ownsRow lo 74 6 vw nw (flat es)
  rl : w.ownsRow lo 180 7 vl nl (flat7 ls)
  apc : ∀ x, vc.ownBlock = some x → x ≠ b
  apw : ∀ x, vw.ownBlock = some x → x ≠ b
  apl : ∀ x, vl.ownBlock = some x → x ≠ b
theorem Sp.up {lo b nc nl nw : Nat} {cs : List Cst} {es : List Evt} {ls : List Rec} {vc vw vl : Value} {w : World} (h : Sp lo b nc nl nw cs es ls vc vw vl w) {w' : World} (u : Up w w') : Sp lo b nc nl nw cs es ls vc vw vl w' :=
  ⟨Nat.lt_of_lt_of_le h.lt u.size, (u.cells _ _ h.lt).trans h.c0, (u.cells _ _ h.lt).trans h.c1, (u.cells _ _ h.lt).trans h.c2, fun j => (u.frozens _ _ h.lt).trans (h.fz j), own_up h.rc u, own_up h.rq u, own_up h.rl u, h.apc, h.apw, h.apl⟩
/-- After the waiting list is replaced. -/
theorem Sp.wait {lo b nc nl nw : Nat} {cs : List Cst} {es : List Evt} {ls : List Rec} {vc vw vl : Value} {w : World} (h : Sp lo b nc nl nw cs es ls vc vw vl w) {n' : Nat} {es' : List Evt} {v' : Value} (ho : w.ownsRow lo 74 6 v' n' (flat es')) (hv : ∀ x, v'.ownBlock = some x → x ≠ b) : Sp lo b nc nl n' cs es' ls vc v' vl (w.setCell ⟨b, 1, none⟩ v') := by
  have M : Mv b w (w.setCell ⟨b, 1, none⟩ v') := ((Up.refl w).mv b).setCell _
  have ne : ∀ j, j ≠ 1 → (⟨b, 1, none⟩ : Addr) ≠ ⟨b, j, none⟩ := fun j hj => addr_ne (by omega)
  exact ⟨Nat.lt_of_lt_of_le h.lt M.size, (World.cell?_setCell_other _ _ _ _ (ne 0 (by omega))).trans h.c0, World.cell?_setCell_same _ _ _ h.c1, (World.cell?_setCell_other _ _ _ _ (ne 2 (by omega))).trans h.c2,
    fun j => by
      have : (w.setCell ⟨b, 1, none⟩ v').frozen? ⟨b, j, none⟩ = w.frozen? ⟨b, j, none⟩ := by simp [go_sem]
      rw [this]
      exact h.fz j,
    own_keep h.rc (fun x hx hl => M.block x hl (h.apc x hx)), own_keep ho (fun x hx hl => M.block x hl (hv x hx)), own_keep h.rl (fun x hx hl => M.block x hl (h.apl x hx)), h.apc, hv, h.apl⟩
/-- After a component's state is stored. -/
theorem Sp.set {lo b nc nl nw gc cc k : Nat} {cs : List Cst} {es : List Evt} {ls : List Rec} {vw vl : Value} {w : World} (h : Sp lo b nc nl nw cs es ls (.slice (some ⟨gc, 0, none⟩) nc cc) vw vl w) (t : Cst) (hk : k < nc) :
    Sp lo b nc nl nw (cs.set k t) es ls (.slice (some ⟨gc, 0, none⟩) nc cc) vw vl (((w.setCell ⟨gc, k * 3, none⟩ (.int .i64 t.s)).setCell ⟨gc, k * 3 + 1, none⟩ (.int .i64 t.sq)).setCell ⟨gc, k * 3 + 2, none⟩ (.int .i64 t.ct)) := by
  have M := ((((Up.refl w).mv gc).setCell (o := k * 3) (.int .i64 t.s)).setCell (o := k * 3 + 1) (.int .i64 t.sq) |>.setCell (o := k * 3 + 2) (.int .i64 t.ct))
  have hl : k < cs.length := by have := h.rc.1; rw [flat3_len] at this; omega
  have O := own_setCell (j := k * 3 + 2) (own_setCell (j := k * 3 + 1) (own_setCell (j := k * 3) h.rc (.int .i64 t.s)) (.int .i64 t.sq)) (.int .i64 t.ct)
  rw [flat3_set cs k t hl] at O
  have hne : b ≠ gc := (h.apc gc rfl).symm
  exact ⟨Nat.lt_of_lt_of_le h.lt M.size, (M.cells _ _ h.lt hne).trans h.c0, (M.cells _ _ h.lt hne).trans h.c1, (M.cells _ _ h.lt hne).trans h.c2, fun j => (M.frozens _ _ h.lt hne).trans (h.fz j), O,
    own_keep h.rq (fun x hx hl => M.block x hl (fun e => own_apart h.rc h.rq (by decide) gc rfl (e ▸ hx))), own_keep h.rl (fun x hx hl => M.block x hl (fun e => own_apart h.rc h.rl (by decide) gc rfl (e ▸ hx))), h.apc, h.apw, h.apl⟩
/-- After a record joins the log. -/
theorem Sp.log {lo b nc nl nw : Nat} {cs : List Cst} {es : List Evt} {ls : List Rec} {vc vw vl : Value} {X : World} (h : Sp lo b nc nl nw cs es ls vc vw vl X) {w6 : World} {v6 : Value} {r : Rec} (hg : X.grownBy w6 vl.ownBlock) (ho : w6.ownsRow lo 180 7 v6 (nl + 1) (flat7 ls ++ flat7 [r])) (hv : v6.ownBlock = vl.ownBlock ∨ v6.ownBlock = some X.heap.size) :
    Sp lo b nc (nl + 1) nw cs es (ls ++ [r]) vc vw v6 (w6.setCell ⟨b, 2, none⟩ v6) := by
  have B : ∀ x, x < X.heap.size → vl.ownBlock ≠ some x → w6.heap[x]? = X.heap[x]? := fun x hx hne => hg.block x hx (fun e => hne e.symm)
  have bp := B b h.lt (fun e => h.apl b e rfl)
  have M6 := fun j => World.cell?_of_block (a := ⟨b, j, none⟩) bp
  have lt6 := Nat.lt_of_lt_of_le h.lt hg.size
  have ne : ∀ j, j ≠ 2 → (⟨b, 2, none⟩ : Addr) ≠ ⟨b, j, none⟩ := fun j hj => addr_ne (by omega)
  have M : Mv b w6 (w6.setCell ⟨b, 2, none⟩ v6) := ((Up.refl w6).mv b).setCell _
  have ap6 : ∀ x, v6.ownBlock = some x → x ≠ b := fun x hx => by
    rcases hv with h1 | h1
    · exact h.apl x (h1 ▸ hx)
    · rw [h1] at hx
      injection hx with hx
      have := h.lt
      omega
  have ho' : w6.ownsRow lo 180 7 v6 (nl + 1) (flat7 (ls ++ [r])) := by rw [flat7_app]; exact ho
  exact ⟨Nat.lt_of_lt_of_le lt6 M.size, (World.cell?_setCell_other _ _ _ _ (ne 0 (by omega))).trans ((M6 0).trans h.c0), (World.cell?_setCell_other _ _ _ _ (ne 1 (by omega))).trans ((M6 1).trans h.c1), World.cell?_setCell_same _ _ _ ((M6 2).trans h.c2),
    fun j => by
      have : (w6.setCell ⟨b, 2, none⟩ v6).frozen? ⟨b, j, none⟩ = w6.frozen? ⟨b, j, none⟩ := by simp [go_sem]
      rw [this]; unfold World.frozen?; rw [bp]
      exact h.fz j,
    own_keep (own_keep h.rc (fun x hx hl => B x hl (fun e => own_apart h.rc h.rl (by decide) x hx e))) (fun x hx hl => M.block x hl (h.apc x hx)),
    own_keep (own_keep h.rq (fun x hx hl => B x hl (fun e => own_apart h.rq h.rl (by decide) x hx e))) (fun x hx hl => M.block x hl (h.apw x hx)),
    own_keep ho' (fun x hx hl => M.block x hl (ap6 x hx)), h.apc, h.apw, ap6⟩
end Go.Proofs.Ytklldniapombiaa

namespace Go.Proofs.Ytklldniapombiaa
set_option maxRecDepth 100000
open Go.RowKit
structure ShortSq (nc nw nl : Nat) : Prop where
  c : nc ≤ 1048576
  w : nw ≤ 1048576
  l : nl ≤ 1048576
end Go.Proofs.Ytklldniapombiaa

namespace Go.Proofs.Ytklldniapombiaa
set_option maxRecDepth 100000
open Go.RowKit
/-- Is a record one, among so many components? -/
def recB (many : Int) (r : Rec) : Bool := okB r.ev many && inB r.s 0 96
/-- May an event be pending, among so many components and up to that end? -/
def takB (many til : Int) (e : Evt) : Bool := okB e many && decide (e.t ≤ til)
end Go.Proofs.Ytklldniapombiaa

/-
  Numbers and new blocks behind a reader, in one sentence: a pick's number, a block of so many cells of this type, each kept by what moves the reader alone; no condition is made.
-/
import Derived.Test.YtpainlcehgiokaaDLVisit05
import Derived.Test.YtpainlcehgiokaaDLVisit20
namespace Go.Proofs.Ytpainlcehgiokaa
set_option maxRecDepth 100000
open Go.RowKit
set_option linter.unusedVariables false
def IsNum (v : Value) (_ : World) : Prop := ∃ z : Int, v = .int .i64 z
def IsBn (v : Value) (_ : World) : Prop := ∃ b : Bool, v = .bool b
def IsGm (v : Value) (_ : World) : Prop := ∃ q0 q1 q2 q3 : Int, v = .agg #[.int .i64 q0, .int .i64 q1, .int .i64 q2, .int .i64 q3]
def IsGk (v : Value) (_ : World) : Prop := ∃ (q0 : Bool) (q1 q2 q3 q4 : Int), v = .agg #[.bool q0, .int .i64 q1, .int .i64 q2, .int .i64 q3, .int .i64 q4]
def IsNewN (g B n t : Nat) (v : Value) (w : World) : Prop := ∃ (b : Nat) (xs : Array Value), v = .pointer (some ⟨b, 0, none⟩) ∧ b ≠ g ∧ B ≤ b ∧ w.heap[b]? = some (.cells xs t (0, 0)) ∧ xs.size = n
theorem IsNewN.mv {g B n t : Nat} {v : Value} {w w' : World} (h : IsNewN g B n t v w) (m : Mv g w w') : IsNewN g B n t v w' := by
  obtain ⟨b, xs, h0, h1, h2, h3, h4⟩ := h
  exact ⟨b, xs, h0, h1, h2, (m.block b (Array.getElem?_eq_some_iff.1 h3).1 h1).trans h3, h4⟩
theorem IsNewN.new {g B n : Nat} (w : World) (xs : Array Value) (t : TypeId) (hn : xs.size = n) (hg : g < w.heap.size) (hB : B ≤ w.heap.size) : IsNewN g B n t (.pointer (some ⟨w.heap.size, 0, none⟩)) (w.alloc (.cells xs t)) :=
  ⟨w.heap.size, xs, rfl, by omega, hB, heap_alloc_new w (.cells xs t), hn⟩
theorem Left.pickI {g B k : Nat} {w0 w : World} (h : Left g B w0 (k + 1) w) (hB : B ≤ 1000000) (m : Int) (hm : I64 m) :
    Calls Try.prog 20 #[.pointer (some ⟨g, 0, none⟩), .int .i64 m] w fun x w' => ∃ z : Int, x = .returned (.int .i64 z) ∧ 0 ≤ z ∧ Mv g w w' ∧ Left g B w0 k w' := by
  obtain ⟨⟨N, hN, hR⟩, mv⟩ := h; refine (pick_any g N m w hm (by omega) hR).mono ?_; rintro x w' ⟨z, rfl, h0, h1, r, m'⟩
  exact ⟨z, rfl, h0, m', ⟨⟨N + 1, by omega, r⟩, mv.trans m'⟩⟩
theorem Left.base {g B k : Nat} {w0 w : World} (h : Left g B w0 k w) : w0.heap.size ≤ w.heap.size := h.2.size
theorem Bk.mv {w w' : World} {g b : Nat} {arr : Array Value} (h : Bk w b arr) (m : Mv g w w') (hb : b ≠ g) : Bk w' b arr := by
  have hl := h.lt
  obtain ⟨e, h⟩ := h
  exact ⟨e, (m.block b hl hb).trans h⟩
/-- A mark stored. -/
def putG (w : World) (b : Nat) (q0 q1 q2 q3 : Int) : World := (((w.setCell ⟨b, 0, none⟩ (.int .i64 q0)).setCell ⟨b, 1, none⟩ (.int .i64 q1)).setCell ⟨b, 2, none⟩ (.int .i64 q2)).setCell ⟨b, 3, none⟩ (.int .i64 q3)
def putK (w : World) (b : Nat) (q0 : Bool) (q1 q2 q3 q4 : Int) : World := ((((w.setCell ⟨b, 0, none⟩ (.bool q0)).setCell ⟨b, 1, none⟩ (.int .i64 q1)).setCell ⟨b, 2, none⟩ (.int .i64 q2)).setCell ⟨b, 3, none⟩ (.int .i64 q3)).setCell ⟨b, 4, none⟩ (.int .i64 q4)
theorem putG_bk {w : World} {b : Nat} {x0 x1 x2 x3 : Value} (h : Bk w b #[x0, x1, x2, x3]) (q0 q1 q2 q3 : Int) : Bk (putG w b q0 q1 q2 q3) b #[.int .i64 q0, .int .i64 q1, .int .i64 q2, .int .i64 q3] :=
  bk_setC _ _ _ _ (bk_setC _ _ _ _ (bk_setC _ _ _ _ (bk_setC _ _ _ _ h)))
theorem putK_bk {w : World} {b : Nat} {x0 x1 x2 x3 x4 : Value} (h : Bk w b #[x0, x1, x2, x3, x4]) (q0 : Bool) (q1 q2 q3 q4 : Int) : Bk (putK w b q0 q1 q2 q3 q4) b #[.bool q0, .int .i64 q1, .int .i64 q2, .int .i64 q3, .int .i64 q4] :=
  bk_setC _ _ _ _ (bk_setC _ _ _ _ (bk_setC _ _ _ _ (bk_setC _ _ _ _ (bk_setC _ _ _ _ h))))
theorem putG_far {w : World} {b b' : Nat} {arr : Array Value} (h : Bk w b' arr) (hb : b' ≠ b) (q0 q1 q2 q3 : Int) : Bk (putG w b q0 q1 q2 q3) b' arr := bk_far _ _ (bk_far _ _ (bk_far _ _ (bk_far _ _ h hb) hb) hb) hb
theorem putK_far {w : World} {b b' : Nat} {arr : Array Value} (h : Bk w b' arr) (hb : b' ≠ b) (q0 : Bool) (q1 q2 q3 q4 : Int) : Bk (putK w b q0 q1 q2 q3 q4) b' arr := bk_far _ _ (bk_far _ _ (bk_far _ _ (bk_far _ _ (bk_far _ _ h hb) hb) hb) hb) hb
theorem putG_rd {w : World} {g N b : Nat} (h : Rd w g N) (hb : g < b) (q0 q1 q2 q3 : Int) : Rd (putG w b q0 q1 q2 q3) g N := (((h.setCell (p := ⟨b, 0, none⟩) hb _).setCell (p := ⟨b, 1, none⟩) hb _).setCell (p := ⟨b, 2, none⟩) hb _).setCell (p := ⟨b, 3, none⟩) hb _
theorem putK_rd {w : World} {g N b : Nat} (h : Rd w g N) (hb : g < b) (q0 : Bool) (q1 q2 q3 q4 : Int) : Rd (putK w b q0 q1 q2 q3 q4) g N := ((((h.setCell (p := ⟨b, 0, none⟩) hb _).setCell (p := ⟨b, 1, none⟩) hb _).setCell (p := ⟨b, 2, none⟩) hb _).setCell (p := ⟨b, 3, none⟩) hb _).setCell (p := ⟨b, 4, none⟩) hb _
theorem putG_mv {a w : World} {g b : Nat} (h : Mv g a w) (hb : a.heap.size ≤ b) (q0 q1 q2 q3 : Int) : Mv g a (putG w b q0 q1 q2 q3) := (((h.setNew (p := ⟨b, 0, none⟩) hb _).setNew (p := ⟨b, 1, none⟩) hb _).setNew (p := ⟨b, 2, none⟩) hb _).setNew (p := ⟨b, 3, none⟩) hb _
theorem putK_mv {a w : World} {g b : Nat} (h : Mv g a w) (hb : a.heap.size ≤ b) (q0 : Bool) (q1 q2 q3 q4 : Int) : Mv g a (putK w b q0 q1 q2 q3 q4) := ((((h.setNew (p := ⟨b, 0, none⟩) hb _).setNew (p := ⟨b, 1, none⟩) hb _).setNew (p := ⟨b, 2, none⟩) hb _).setNew (p := ⟨b, 3, none⟩) hb _).setNew (p := ⟨b, 4, none⟩) hb _
/-- What the drawing of a mark, or of a token, gives. -/
def GmDrawn (g N : Nat) (w : World) (x : Ending) (w' : World) : Prop := ∃ q : Gm, x = .returned q.v ∧ Rd w' g N ∧ Mv g w w'
def GkDrawn (g N : Nat) (w : World) (x : Ending) (w' : World) : Prop := ∃ q : Gk, x = .returned q.v ∧ Rd w' g N ∧ Mv g w w'
def mrkR (g b4 lo n : Nat) (til : Int) (q19 q20 : Int) (d : Nat) (v : Value) (w : World) : Prop :=
  if d = 8 then v = .pointer (some ⟨g, 0, none⟩) else if d = 9 then IsNum v w else if d = 10 then v = .pointer (some ⟨g, 0, none⟩) else if d = 11 then IsNum v w else if d = 12 then IsNum v w else if d = 13 then v = .pointer (some ⟨g, 0, none⟩) else if d = 14 then IsNum v w else if d = 15 then IsNum v w else if d = 16 then v = .pointer (some ⟨g, 0, none⟩) else if d = 17 then v = .pointer (some ⟨b4, 2, none⟩) else if d = 18 then v = .int .i64 til else if d = 19 then v = .int .i64 q19 else if d = 20 then v = .int .i64 q20 else if d = 21 then IsNum v w else if d = 22 then IsGm v w else if d = 7 then IsNewN g lo 4 30 v w else True
theorem mrkR_8 (g b4 lo n : Nat) (til : Int) (q19 q20 : Int) (v : Value) (w : World) : mrkR g b4 lo n til q19 q20 8 v w = (v = .pointer (some ⟨g, 0, none⟩)) := by simp [mrkR]
theorem mrkR_9 (g b4 lo n : Nat) (til : Int) (q19 q20 : Int) (v : Value) (w : World) : mrkR g b4 lo n til q19 q20 9 v w = (IsNum v w) := by simp [mrkR]
theorem mrkR_10 (g b4 lo n : Nat) (til : Int) (q19 q20 : Int) (v : Value) (w : World) : mrkR g b4 lo n til q19 q20 10 v w = (v = .pointer (some ⟨g, 0, none⟩)) := by simp [mrkR]
theorem mrkR_11 (g b4 lo n : Nat) (til : Int) (q19 q20 : Int) (v : Value) (w : World) : mrkR g b4 lo n til q19 q20 11 v w = (IsNum v w) := by simp [mrkR]
theorem mrkR_12 (g b4 lo n : Nat) (til : Int) (q19 q20 : Int) (v : Value) (w : World) : mrkR g b4 lo n til q19 q20 12 v w = (IsNum v w) := by simp [mrkR]
theorem mrkR_13 (g b4 lo n : Nat) (til : Int) (q19 q20 : Int) (v : Value) (w : World) : mrkR g b4 lo n til q19 q20 13 v w = (v = .pointer (some ⟨g, 0, none⟩)) := by simp [mrkR]
theorem mrkR_14 (g b4 lo n : Nat) (til : Int) (q19 q20 : Int) (v : Value) (w : World) : mrkR g b4 lo n til q19 q20 14 v w = (IsNum v w) := by simp [mrkR]
theorem mrkR_15 (g b4 lo n : Nat) (til : Int) (q19 q20 : Int) (v : Value) (w : World) : mrkR g b4 lo n til q19 q20 15 v w = (IsNum v w) := by simp [mrkR]
theorem mrkR_16 (g b4 lo n : Nat) (til : Int) (q19 q20 : Int) (v : Value) (w : World) : mrkR g b4 lo n til q19 q20 16 v w = (v = .pointer (some ⟨g, 0, none⟩)) := by simp [mrkR]
theorem mrkR_17 (g b4 lo n : Nat) (til : Int) (q19 q20 : Int) (v : Value) (w : World) : mrkR g b4 lo n til q19 q20 17 v w = (v = .pointer (some ⟨b4, 2, none⟩)) := by simp [mrkR]
theorem mrkR_18 (g b4 lo n : Nat) (til : Int) (q19 q20 : Int) (v : Value) (w : World) : mrkR g b4 lo n til q19 q20 18 v w = (v = .int .i64 til) := by simp [mrkR]
theorem mrkR_19 (g b4 lo n : Nat) (til : Int) (q19 q20 : Int) (v : Value) (w : World) : mrkR g b4 lo n til q19 q20 19 v w = (v = .int .i64 q19) := by simp [mrkR]
theorem mrkR_20 (g b4 lo n : Nat) (til : Int) (q19 q20 : Int) (v : Value) (w : World) : mrkR g b4 lo n til q19 q20 20 v w = (v = .int .i64 q20) := by simp [mrkR]
theorem mrkR_21 (g b4 lo n : Nat) (til : Int) (q19 q20 : Int) (v : Value) (w : World) : mrkR g b4 lo n til q19 q20 21 v w = (IsNum v w) := by simp [mrkR]
theorem mrkR_22 (g b4 lo n : Nat) (til : Int) (q19 q20 : Int) (v : Value) (w : World) : mrkR g b4 lo n til q19 q20 22 v w = (IsGm v w) := by simp [mrkR]
theorem mrkR_7 (g b4 lo n : Nat) (til : Int) (q19 q20 : Int) (v : Value) (w : World) : mrkR g b4 lo n til q19 q20 7 v w = (IsNewN g lo 4 30 v w) := by simp [mrkR]
theorem mrkR_mv (g b4 lo n : Nat) (til : Int) (q19 q20 : Int) (d : Nat) {v : Value} {w w' : World} (h : mrkR g b4 lo n til q19 q20 d v w) (u : Mv g w w') : mrkR g b4 lo n til q19 q20 d v w' := by
  unfold mrkR at h ⊢
  by_cases h8 : d = 8
  · rw [if_pos h8] at h ⊢
    exact h
  rw [if_neg h8] at h ⊢
  by_cases h9 : d = 9
  · rw [if_pos h9] at h ⊢
    exact h
  rw [if_neg h9] at h ⊢
  by_cases h10 : d = 10
  · rw [if_pos h10] at h ⊢
    exact h
  rw [if_neg h10] at h ⊢
  by_cases h11 : d = 11
  · rw [if_pos h11] at h ⊢
    exact h
  rw [if_neg h11] at h ⊢
  by_cases h12 : d = 12
  · rw [if_pos h12] at h ⊢
    exact h
  rw [if_neg h12] at h ⊢
  by_cases h13 : d = 13
  · rw [if_pos h13] at h ⊢
    exact h
  rw [if_neg h13] at h ⊢
  by_cases h14 : d = 14
  · rw [if_pos h14] at h ⊢
    exact h
  rw [if_neg h14] at h ⊢
  by_cases h15 : d = 15
  · rw [if_pos h15] at h ⊢
    exact h
  rw [if_neg h15] at h ⊢
  by_cases h16 : d = 16
  · rw [if_pos h16] at h ⊢
    exact h
  rw [if_neg h16] at h ⊢
  by_cases h17 : d = 17
  · rw [if_pos h17] at h ⊢
    exact h
  rw [if_neg h17] at h ⊢
  by_cases h18 : d = 18
  · rw [if_pos h18] at h ⊢
    exact h
  rw [if_neg h18] at h ⊢
  by_cases h19 : d = 19
  · rw [if_pos h19] at h ⊢
    exact h
  rw [if_neg h19] at h ⊢
  by_cases h20 : d = 20
  · rw [if_pos h20] at h ⊢
    exact h
  rw [if_neg h20] at h ⊢
  by_cases h21 : d = 21
  · rw [if_pos h21] at h ⊢
    exact h
  rw [if_neg h21] at h ⊢
  by_cases h22 : d = 22
  · rw [if_pos h22] at h ⊢
    exact h
  rw [if_neg h22] at h ⊢
  by_cases h7 : d = 7
  · rw [if_pos h7] at h ⊢
    exact h.mv u
  rw [if_neg h7] at h ⊢
  exact trivial
def mrkF (g b4 lo lo2 n : Nat) (til : Int) (q19 q20 : Int) (d : Nat) (v : Value) (w : World) : Prop :=
  if d = 28 then v = .pointer (some ⟨b4, 2, none⟩) else if d = 29 then v = .int .i64 til else if d = 30 then v = .int .i64 q19 else if d = 31 then IsTwo g lo v w else if d = 32 then v = .pointer (some ⟨g, 0, none⟩) else if d = 33 then IsN 0 1 v w else if d = 34 then IsCell g v w else if d = 35 then IsNum v w else if d = 36 then v = .pointer (some ⟨lo2, 3, none⟩) else True
theorem mrkF_28 (g b4 lo lo2 n : Nat) (til : Int) (q19 q20 : Int) (v : Value) (w : World) : mrkF g b4 lo lo2 n til q19 q20 28 v w = (v = .pointer (some ⟨b4, 2, none⟩)) := by simp [mrkF]
theorem mrkF_29 (g b4 lo lo2 n : Nat) (til : Int) (q19 q20 : Int) (v : Value) (w : World) : mrkF g b4 lo lo2 n til q19 q20 29 v w = (v = .int .i64 til) := by simp [mrkF]
theorem mrkF_30 (g b4 lo lo2 n : Nat) (til : Int) (q19 q20 : Int) (v : Value) (w : World) : mrkF g b4 lo lo2 n til q19 q20 30 v w = (v = .int .i64 q19) := by simp [mrkF]
theorem mrkF_31 (g b4 lo lo2 n : Nat) (til : Int) (q19 q20 : Int) (v : Value) (w : World) : mrkF g b4 lo lo2 n til q19 q20 31 v w = (IsTwo g lo v w) := by simp [mrkF]
theorem mrkF_32 (g b4 lo lo2 n : Nat) (til : Int) (q19 q20 : Int) (v : Value) (w : World) : mrkF g b4 lo lo2 n til q19 q20 32 v w = (v = .pointer (some ⟨g, 0, none⟩)) := by simp [mrkF]
theorem mrkF_33 (g b4 lo lo2 n : Nat) (til : Int) (q19 q20 : Int) (v : Value) (w : World) : mrkF g b4 lo lo2 n til q19 q20 33 v w = (IsN 0 1 v w) := by simp [mrkF]
theorem mrkF_34 (g b4 lo lo2 n : Nat) (til : Int) (q19 q20 : Int) (v : Value) (w : World) : mrkF g b4 lo lo2 n til q19 q20 34 v w = (IsCell g v w) := by simp [mrkF]
theorem mrkF_35 (g b4 lo lo2 n : Nat) (til : Int) (q19 q20 : Int) (v : Value) (w : World) : mrkF g b4 lo lo2 n til q19 q20 35 v w = (IsNum v w) := by simp [mrkF]
theorem mrkF_36 (g b4 lo lo2 n : Nat) (til : Int) (q19 q20 : Int) (v : Value) (w : World) : mrkF g b4 lo lo2 n til q19 q20 36 v w = (v = .pointer (some ⟨lo2, 3, none⟩)) := by simp [mrkF]
theorem mrkF_mv (g b4 lo lo2 n : Nat) (til : Int) (q19 q20 : Int) (d : Nat) {v : Value} {w w' : World} (h : mrkF g b4 lo lo2 n til q19 q20 d v w) (u : Mv g w w') : mrkF g b4 lo lo2 n til q19 q20 d v w' := by
  unfold mrkF at h ⊢
  by_cases h28 : d = 28
  · rw [if_pos h28] at h ⊢
    exact h
  rw [if_neg h28] at h ⊢
  by_cases h29 : d = 29
  · rw [if_pos h29] at h ⊢
    exact h
  rw [if_neg h29] at h ⊢
  by_cases h30 : d = 30
  · rw [if_pos h30] at h ⊢
    exact h
  rw [if_neg h30] at h ⊢
  by_cases h31 : d = 31
  · rw [if_pos h31] at h ⊢
    exact h.mv u
  rw [if_neg h31] at h ⊢
  by_cases h32 : d = 32
  · rw [if_pos h32] at h ⊢
    exact h
  rw [if_neg h32] at h ⊢
  by_cases h33 : d = 33
  · rw [if_pos h33] at h ⊢
    exact h
  rw [if_neg h33] at h ⊢
  by_cases h34 : d = 34
  · rw [if_pos h34] at h ⊢
    exact h.mv u
  rw [if_neg h34] at h ⊢
  by_cases h35 : d = 35
  · rw [if_pos h35] at h ⊢
    exact h
  rw [if_neg h35] at h ⊢
  by_cases h36 : d = 36
  · rw [if_pos h36] at h ⊢
    exact h
  rw [if_neg h36] at h ⊢
  exact trivial
def tokR (g b4 lo n : Nat) (til : Int) (VR : Value) (q17 q25 q26 : Int) (d : Nat) (v : Value) (w : World) : Prop :=
  if d = 8 then v = .pointer (some ⟨g, 0, none⟩) else if d = 9 then IsNum v w else if d = 10 then IsBn v w else if d = 11 then v = .pointer (some ⟨g, 0, none⟩) else if d = 12 then IsNum v w else if d = 13 then v = .pointer (some ⟨g, 0, none⟩) else if d = 14 then v = .pointer (some ⟨b4, 0, none⟩) else if d = 15 then v = VR else if d = 16 then v = .int .i64 (n : Int) else if d = 17 then v = .int .i64 q17 else if d = 18 then IsNum v w else if d = 19 then v = .pointer (some ⟨g, 0, none⟩) else if d = 20 then IsNum v w else if d = 21 then IsNum v w else if d = 22 then v = .pointer (some ⟨g, 0, none⟩) else if d = 23 then v = .pointer (some ⟨b4, 2, none⟩) else if d = 24 then v = .int .i64 til else if d = 25 then v = .int .i64 q25 else if d = 26 then v = .int .i64 q26 else if d = 27 then IsNum v w else if d = 28 then IsGk v w else if d = 7 then IsNewN g lo 5 28 v w else True
theorem tokR_8 (g b4 lo n : Nat) (til : Int) (VR : Value) (q17 q25 q26 : Int) (v : Value) (w : World) : tokR g b4 lo n til VR q17 q25 q26 8 v w = (v = .pointer (some ⟨g, 0, none⟩)) := by simp [tokR]
theorem tokR_9 (g b4 lo n : Nat) (til : Int) (VR : Value) (q17 q25 q26 : Int) (v : Value) (w : World) : tokR g b4 lo n til VR q17 q25 q26 9 v w = (IsNum v w) := by simp [tokR]
theorem tokR_10 (g b4 lo n : Nat) (til : Int) (VR : Value) (q17 q25 q26 : Int) (v : Value) (w : World) : tokR g b4 lo n til VR q17 q25 q26 10 v w = (IsBn v w) := by simp [tokR]
theorem tokR_11 (g b4 lo n : Nat) (til : Int) (VR : Value) (q17 q25 q26 : Int) (v : Value) (w : World) : tokR g b4 lo n til VR q17 q25 q26 11 v w = (v = .pointer (some ⟨g, 0, none⟩)) := by simp [tokR]
theorem tokR_12 (g b4 lo n : Nat) (til : Int) (VR : Value) (q17 q25 q26 : Int) (v : Value) (w : World) : tokR g b4 lo n til VR q17 q25 q26 12 v w = (IsNum v w) := by simp [tokR]
theorem tokR_13 (g b4 lo n : Nat) (til : Int) (VR : Value) (q17 q25 q26 : Int) (v : Value) (w : World) : tokR g b4 lo n til VR q17 q25 q26 13 v w = (v = .pointer (some ⟨g, 0, none⟩)) := by simp [tokR]
theorem tokR_14 (g b4 lo n : Nat) (til : Int) (VR : Value) (q17 q25 q26 : Int) (v : Value) (w : World) : tokR g b4 lo n til VR q17 q25 q26 14 v w = (v = .pointer (some ⟨b4, 0, none⟩)) := by simp [tokR]
theorem tokR_15 (g b4 lo n : Nat) (til : Int) (VR : Value) (q17 q25 q26 : Int) (v : Value) (w : World) : tokR g b4 lo n til VR q17 q25 q26 15 v w = (v = VR) := by simp [tokR]
theorem tokR_16 (g b4 lo n : Nat) (til : Int) (VR : Value) (q17 q25 q26 : Int) (v : Value) (w : World) : tokR g b4 lo n til VR q17 q25 q26 16 v w = (v = .int .i64 (n : Int)) := by simp [tokR]
theorem tokR_17 (g b4 lo n : Nat) (til : Int) (VR : Value) (q17 q25 q26 : Int) (v : Value) (w : World) : tokR g b4 lo n til VR q17 q25 q26 17 v w = (v = .int .i64 q17) := by simp [tokR]
theorem tokR_18 (g b4 lo n : Nat) (til : Int) (VR : Value) (q17 q25 q26 : Int) (v : Value) (w : World) : tokR g b4 lo n til VR q17 q25 q26 18 v w = (IsNum v w) := by simp [tokR]
theorem tokR_19 (g b4 lo n : Nat) (til : Int) (VR : Value) (q17 q25 q26 : Int) (v : Value) (w : World) : tokR g b4 lo n til VR q17 q25 q26 19 v w = (v = .pointer (some ⟨g, 0, none⟩)) := by simp [tokR]
theorem tokR_20 (g b4 lo n : Nat) (til : Int) (VR : Value) (q17 q25 q26 : Int) (v : Value) (w : World) : tokR g b4 lo n til VR q17 q25 q26 20 v w = (IsNum v w) := by simp [tokR]
theorem tokR_21 (g b4 lo n : Nat) (til : Int) (VR : Value) (q17 q25 q26 : Int) (v : Value) (w : World) : tokR g b4 lo n til VR q17 q25 q26 21 v w = (IsNum v w) := by simp [tokR]
theorem tokR_22 (g b4 lo n : Nat) (til : Int) (VR : Value) (q17 q25 q26 : Int) (v : Value) (w : World) : tokR g b4 lo n til VR q17 q25 q26 22 v w = (v = .pointer (some ⟨g, 0, none⟩)) := by simp [tokR]
theorem tokR_23 (g b4 lo n : Nat) (til : Int) (VR : Value) (q17 q25 q26 : Int) (v : Value) (w : World) : tokR g b4 lo n til VR q17 q25 q26 23 v w = (v = .pointer (some ⟨b4, 2, none⟩)) := by simp [tokR]
theorem tokR_24 (g b4 lo n : Nat) (til : Int) (VR : Value) (q17 q25 q26 : Int) (v : Value) (w : World) : tokR g b4 lo n til VR q17 q25 q26 24 v w = (v = .int .i64 til) := by simp [tokR]
theorem tokR_25 (g b4 lo n : Nat) (til : Int) (VR : Value) (q17 q25 q26 : Int) (v : Value) (w : World) : tokR g b4 lo n til VR q17 q25 q26 25 v w = (v = .int .i64 q25) := by simp [tokR]
theorem tokR_26 (g b4 lo n : Nat) (til : Int) (VR : Value) (q17 q25 q26 : Int) (v : Value) (w : World) : tokR g b4 lo n til VR q17 q25 q26 26 v w = (v = .int .i64 q26) := by simp [tokR]
theorem tokR_27 (g b4 lo n : Nat) (til : Int) (VR : Value) (q17 q25 q26 : Int) (v : Value) (w : World) : tokR g b4 lo n til VR q17 q25 q26 27 v w = (IsNum v w) := by simp [tokR]
theorem tokR_28 (g b4 lo n : Nat) (til : Int) (VR : Value) (q17 q25 q26 : Int) (v : Value) (w : World) : tokR g b4 lo n til VR q17 q25 q26 28 v w = (IsGk v w) := by simp [tokR]
theorem tokR_7 (g b4 lo n : Nat) (til : Int) (VR : Value) (q17 q25 q26 : Int) (v : Value) (w : World) : tokR g b4 lo n til VR q17 q25 q26 7 v w = (IsNewN g lo 5 28 v w) := by simp [tokR]
theorem tokR_mv (g b4 lo n : Nat) (til : Int) (VR : Value) (q17 q25 q26 : Int) (d : Nat) {v : Value} {w w' : World} (h : tokR g b4 lo n til VR q17 q25 q26 d v w) (u : Mv g w w') : tokR g b4 lo n til VR q17 q25 q26 d v w' := by
  unfold tokR at h ⊢
  by_cases h8 : d = 8
  · rw [if_pos h8] at h ⊢
    exact h
  rw [if_neg h8] at h ⊢
  by_cases h9 : d = 9
  · rw [if_pos h9] at h ⊢
    exact h
  rw [if_neg h9] at h ⊢
  by_cases h10 : d = 10
  · rw [if_pos h10] at h ⊢
    exact h
  rw [if_neg h10] at h ⊢
  by_cases h11 : d = 11
  · rw [if_pos h11] at h ⊢
    exact h
  rw [if_neg h11] at h ⊢
  by_cases h12 : d = 12
  · rw [if_pos h12] at h ⊢
    exact h
  rw [if_neg h12] at h ⊢
  by_cases h13 : d = 13
  · rw [if_pos h13] at h ⊢
    exact h
  rw [if_neg h13] at h ⊢
  by_cases h14 : d = 14
  · rw [if_pos h14] at h ⊢
    exact h
  rw [if_neg h14] at h ⊢
  by_cases h15 : d = 15
  · rw [if_pos h15] at h ⊢
    exact h
  rw [if_neg h15] at h ⊢
  by_cases h16 : d = 16
  · rw [if_pos h16] at h ⊢
    exact h
  rw [if_neg h16] at h ⊢
  by_cases h17 : d = 17
  · rw [if_pos h17] at h ⊢
    exact h
  rw [if_neg h17] at h ⊢
  by_cases h18 : d = 18
  · rw [if_pos h18] at h ⊢
    exact h
  rw [if_neg h18] at h ⊢
  by_cases h19 : d = 19
  · rw [if_pos h19] at h ⊢
    exact h
  rw [if_neg h19] at h ⊢
  by_cases h20 : d = 20
  · rw [if_pos h20] at h ⊢
    exact h
  rw [if_neg h20] at h ⊢
  by_cases h21 : d = 21
  · rw [if_pos h21] at h ⊢
    exact h
  rw [if_neg h21] at h ⊢
  by_cases h22 : d = 22
  · rw [if_pos h22] at h ⊢
    exact h
  rw [if_neg h22] at h ⊢
  by_cases h23 : d = 23
  · rw [if_pos h23] at h ⊢
    exact h
  rw [if_neg h23] at h ⊢
  by_cases h24 : d = 24
  · rw [if_pos h24] at h ⊢
    exact h
  rw [if_neg h24] at h ⊢
  by_cases h25 : d = 25
  · rw [if_pos h25] at h ⊢
    exact h
  rw [if_neg h25] at h ⊢
  by_cases h26 : d = 26
  · rw [if_pos h26] at h ⊢
    exact h
  rw [if_neg h26] at h ⊢
  by_cases h27 : d = 27
  · rw [if_pos h27] at h ⊢
    exact h
  rw [if_neg h27] at h ⊢
  by_cases h28 : d = 28
  · rw [if_pos h28] at h ⊢
    exact h
  rw [if_neg h28] at h ⊢
  by_cases h7 : d = 7
  · rw [if_pos h7] at h ⊢
    exact h.mv u
  rw [if_neg h7] at h ⊢
  exact trivial
def tokF (g b4 lo lo2 n : Nat) (til : Int) (VR : Value) (q17 q25 q26 : Int) (d : Nat) (v : Value) (w : World) : Prop :=
  if d = 34 then v = .pointer (some ⟨b4, 2, none⟩) else if d = 35 then v = .int .i64 til else if d = 36 then v = .int .i64 q25 else if d = 37 then IsTwo g lo v w else if d = 38 then v = .pointer (some ⟨g, 0, none⟩) else if d = 39 then IsN 0 1 v w else if d = 40 then IsCell g v w else if d = 41 then IsNum v w else if d = 42 then v = .pointer (some ⟨lo2, 4, none⟩) else True
theorem tokF_34 (g b4 lo lo2 n : Nat) (til : Int) (VR : Value) (q17 q25 q26 : Int) (v : Value) (w : World) : tokF g b4 lo lo2 n til VR q17 q25 q26 34 v w = (v = .pointer (some ⟨b4, 2, none⟩)) := by simp [tokF]
theorem tokF_35 (g b4 lo lo2 n : Nat) (til : Int) (VR : Value) (q17 q25 q26 : Int) (v : Value) (w : World) : tokF g b4 lo lo2 n til VR q17 q25 q26 35 v w = (v = .int .i64 til) := by simp [tokF]
theorem tokF_36 (g b4 lo lo2 n : Nat) (til : Int) (VR : Value) (q17 q25 q26 : Int) (v : Value) (w : World) : tokF g b4 lo lo2 n til VR q17 q25 q26 36 v w = (v = .int .i64 q25) := by simp [tokF]
theorem tokF_37 (g b4 lo lo2 n : Nat) (til : Int) (VR : Value) (q17 q25 q26 : Int) (v : Value) (w : World) : tokF g b4 lo lo2 n til VR q17 q25 q26 37 v w = (IsTwo g lo v w) := by simp [tokF]
theorem tokF_38 (g b4 lo lo2 n : Nat) (til : Int) (VR : Value) (q17 q25 q26 : Int) (v : Value) (w : World) : tokF g b4 lo lo2 n til VR q17 q25 q26 38 v w = (v = .pointer (some ⟨g, 0, none⟩)) := by simp [tokF]
theorem tokF_39 (g b4 lo lo2 n : Nat) (til : Int) (VR : Value) (q17 q25 q26 : Int) (v : Value) (w : World) : tokF g b4 lo lo2 n til VR q17 q25 q26 39 v w = (IsN 0 1 v w) := by simp [tokF]
theorem tokF_40 (g b4 lo lo2 n : Nat) (til : Int) (VR : Value) (q17 q25 q26 : Int) (v : Value) (w : World) : tokF g b4 lo lo2 n til VR q17 q25 q26 40 v w = (IsCell g v w) := by simp [tokF]
theorem tokF_41 (g b4 lo lo2 n : Nat) (til : Int) (VR : Value) (q17 q25 q26 : Int) (v : Value) (w : World) : tokF g b4 lo lo2 n til VR q17 q25 q26 41 v w = (IsNum v w) := by simp [tokF]
theorem tokF_42 (g b4 lo lo2 n : Nat) (til : Int) (VR : Value) (q17 q25 q26 : Int) (v : Value) (w : World) : tokF g b4 lo lo2 n til VR q17 q25 q26 42 v w = (v = .pointer (some ⟨lo2, 4, none⟩)) := by simp [tokF]
theorem tokF_mv (g b4 lo lo2 n : Nat) (til : Int) (VR : Value) (q17 q25 q26 : Int) (d : Nat) {v : Value} {w w' : World} (h : tokF g b4 lo lo2 n til VR q17 q25 q26 d v w) (u : Mv g w w') : tokF g b4 lo lo2 n til VR q17 q25 q26 d v w' := by
  unfold tokF at h ⊢
  by_cases h34 : d = 34
  · rw [if_pos h34] at h ⊢
    exact h
  rw [if_neg h34] at h ⊢
  by_cases h35 : d = 35
  · rw [if_pos h35] at h ⊢
    exact h
  rw [if_neg h35] at h ⊢
  by_cases h36 : d = 36
  · rw [if_pos h36] at h ⊢
    exact h
  rw [if_neg h36] at h ⊢
  by_cases h37 : d = 37
  · rw [if_pos h37] at h ⊢
    exact h.mv u
  rw [if_neg h37] at h ⊢
  by_cases h38 : d = 38
  · rw [if_pos h38] at h ⊢
    exact h
  rw [if_neg h38] at h ⊢
  by_cases h39 : d = 39
  · rw [if_pos h39] at h ⊢
    exact h
  rw [if_neg h39] at h ⊢
  by_cases h40 : d = 40
  · rw [if_pos h40] at h ⊢
    exact h.mv u
  rw [if_neg h40] at h ⊢
  by_cases h41 : d = 41
  · rw [if_pos h41] at h ⊢
    exact h
  rw [if_neg h41] at h ⊢
  by_cases h42 : d = 42
  · rw [if_pos h42] at h ⊢
    exact h
  rw [if_neg h42] at h ⊢
  exact trivial
def tokE (g b4 lo lo2 n : Nat) (til : Int) (VR : Value) (q17 q25 q26 : Int) (d : Nat) (v : Value) (w : World) : Prop :=
  if d = 53 then v = .pointer (some ⟨b4, 0, none⟩) else if d = 54 then v = VR else if d = 55 then v = .int .i64 (n : Int) else if d = 56 then IsTwo g lo v w else if d = 57 then v = .pointer (some ⟨g, 0, none⟩) else if d = 58 then IsN 0 1 v w else if d = 59 then IsCell g v w else if d = 60 then IsNum v w else if d = 61 then v = .pointer (some ⟨lo2, 2, none⟩) else True
theorem tokE_53 (g b4 lo lo2 n : Nat) (til : Int) (VR : Value) (q17 q25 q26 : Int) (v : Value) (w : World) : tokE g b4 lo lo2 n til VR q17 q25 q26 53 v w = (v = .pointer (some ⟨b4, 0, none⟩)) := by simp [tokE]
theorem tokE_54 (g b4 lo lo2 n : Nat) (til : Int) (VR : Value) (q17 q25 q26 : Int) (v : Value) (w : World) : tokE g b4 lo lo2 n til VR q17 q25 q26 54 v w = (v = VR) := by simp [tokE]
theorem tokE_55 (g b4 lo lo2 n : Nat) (til : Int) (VR : Value) (q17 q25 q26 : Int) (v : Value) (w : World) : tokE g b4 lo lo2 n til VR q17 q25 q26 55 v w = (v = .int .i64 (n : Int)) := by simp [tokE]
theorem tokE_56 (g b4 lo lo2 n : Nat) (til : Int) (VR : Value) (q17 q25 q26 : Int) (v : Value) (w : World) : tokE g b4 lo lo2 n til VR q17 q25 q26 56 v w = (IsTwo g lo v w) := by simp [tokE]
theorem tokE_57 (g b4 lo lo2 n : Nat) (til : Int) (VR : Value) (q17 q25 q26 : Int) (v : Value) (w : World) : tokE g b4 lo lo2 n til VR q17 q25 q26 57 v w = (v = .pointer (some ⟨g, 0, none⟩)) := by simp [tokE]
theorem tokE_58 (g b4 lo lo2 n : Nat) (til : Int) (VR : Value) (q17 q25 q26 : Int) (v : Value) (w : World) : tokE g b4 lo lo2 n til VR q17 q25 q26 58 v w = (IsN 0 1 v w) := by simp [tokE]
theorem tokE_59 (g b4 lo lo2 n : Nat) (til : Int) (VR : Value) (q17 q25 q26 : Int) (v : Value) (w : World) : tokE g b4 lo lo2 n til VR q17 q25 q26 59 v w = (IsCell g v w) := by simp [tokE]
theorem tokE_60 (g b4 lo lo2 n : Nat) (til : Int) (VR : Value) (q17 q25 q26 : Int) (v : Value) (w : World) : tokE g b4 lo lo2 n til VR q17 q25 q26 60 v w = (IsNum v w) := by simp [tokE]
theorem tokE_61 (g b4 lo lo2 n : Nat) (til : Int) (VR : Value) (q17 q25 q26 : Int) (v : Value) (w : World) : tokE g b4 lo lo2 n til VR q17 q25 q26 61 v w = (v = .pointer (some ⟨lo2, 2, none⟩)) := by simp [tokE]
theorem tokE_mv (g b4 lo lo2 n : Nat) (til : Int) (VR : Value) (q17 q25 q26 : Int) (d : Nat) {v : Value} {w w' : World} (h : tokE g b4 lo lo2 n til VR q17 q25 q26 d v w) (u : Mv g w w') : tokE g b4 lo lo2 n til VR q17 q25 q26 d v w' := by
  unfold tokE at h ⊢
  by_cases h53 : d = 53
  · rw [if_pos h53] at h ⊢
    exact h
  rw [if_neg h53] at h ⊢
  by_cases h54 : d = 54
  · rw [if_pos h54] at h ⊢
    exact h
  rw [if_neg h54] at h ⊢
  by_cases h55 : d = 55
  · rw [if_pos h55] at h ⊢
    exact h
  rw [if_neg h55] at h ⊢
  by_cases h56 : d = 56
  · rw [if_pos h56] at h ⊢
    exact h.mv u
  rw [if_neg h56] at h ⊢
  by_cases h57 : d = 57
  · rw [if_pos h57] at h ⊢
    exact h
  rw [if_neg h57] at h ⊢
  by_cases h58 : d = 58
  · rw [if_pos h58] at h ⊢
    exact h
  rw [if_neg h58] at h ⊢
  by_cases h59 : d = 59
  · rw [if_pos h59] at h ⊢
    exact h.mv u
  rw [if_neg h59] at h ⊢
  by_cases h60 : d = 60
  · rw [if_pos h60] at h ⊢
    exact h
  rw [if_neg h60] at h ⊢
  by_cases h61 : d = 61
  · rw [if_pos h61] at h ⊢
    exact h
  rw [if_neg h61] at h ⊢
  exact trivial
end Go.Proofs.Ytpainlcehgiokaa

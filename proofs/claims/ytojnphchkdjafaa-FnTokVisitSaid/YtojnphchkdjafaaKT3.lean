/-
  Numbers and new blocks behind a reader, in one sentence: a pick's number, a block of so many cells of this type, each kept by what moves the reader alone; no condition is made.
  What l20Mark gives, in one sentence: a mark of some numbers, and the reader some steps further; for every reader.
  What l20Tok gives, in one sentence: a token of some numbers, and the reader some steps further; for every reader.
  What DrawMrkOk and DrawTokOk give, in one sentence: a model and a mark, or a token, with new blocks alone; for every code that lies in memory.
  What DrawTokVisit gives, in one sentence: a model, a token, a mark and a number, with new blocks alone; for every code that lies in memory.
-/
import Derived.Test.YtojnphchkdjafaaKQ
import Derived.Test.YtojnphchkdjafaaKP
import Derived.Test.YtojnphchkdjafaaKT1
import Derived.Test.YtojnphchkdjafaaKDrawM
import Derived.Test.YtojnphchkdjafaaKMixH
namespace Go.Proofs.Ytojnphchkdjafaa
set_option maxRecDepth 100000
open Go.RowKit
set_option linter.unusedVariables false

def IsNum (v : Value) (_ : World) : Prop := ∃ z : Int, v = .int .i64 z
def IsBn (v : Value) (_ : World) : Prop := ∃ b : Bool, v = .bool b
def IsGm (v : Value) (_ : World) : Prop := ∃ q0 q1 q2 q3 : Int, v = .agg #[.int .i64 q0, .int .i64 q1, .int .i64 q2, .int .i64 q3]
def IsGk (v : Value) (_ : World) : Prop := ∃ (q0 : Bool) (q1 q2 q3 q4 : Int), v = .agg #[.bool q0, .int .i64 q1, .int .i64 q2, .int .i64 q3, .int .i64 q4]
def IsNewN (g B n t : Nat) (v : Value) (w : World) : Prop := ∃ (b : Nat) (xs : Array Value), v = .pointer (some ⟨b, 0, none⟩) ∧ b ≠ g ∧ B ≤ b ∧ w.heap[b]? = some (.cells xs t (0, 0)) ∧ xs.size = n
theorem IsNewN.mv {g B n t : Nat} {v : Value} {w w' : World} (h : IsNewN g B n t v w) (m : Mv g w w') : IsNewN g B n t v w' := by
  obtain ⟨b, xs, h0, h1, h2, h3, h4⟩ := h
  exact ⟨b, xs, h0, h1, h2, (m.block b (Array.getElem?_eq_some_iff.1 h3).1 h1).trans h3, h4⟩
theorem IsNewN.new {g B n : Nat} (w : World) (xs : Array Value) (t : TypeId) (hn : xs.size = n) (hg : g < w.heap.size) (hB : B ≤ w.heap.size) : IsNewN g B n t (.pointer (some ⟨w.heap.size, 0, none⟩)) (w.alloc (.cells xs t)) :=
  ⟨w.heap.size, xs, rfl, by omega, hB, heap_alloc_new w (.cells xs t), hn⟩
theorem Left.pickI {g B k : Nat} {w0 w : World} (h : Left g B w0 (k + 1) w) (hB : B ≤ 1000000) (m : Int) (hm : I64 m) :
    Calls Try.prog 42 #[.pointer (some ⟨g, 0, none⟩), .int .i64 m] w fun x w' => ∃ z : Int, x = .returned (.int .i64 z) ∧ 0 ≤ z ∧ Mv g w w' ∧ Left g B w0 k w' := by
  obtain ⟨⟨N, hN, hR⟩, mv⟩ := h
  refine (pick_any g N m w hm (by omega) hR).mono ?_
  rintro x w' ⟨z, rfl, h0, h1, r, m'⟩
  exact ⟨z, rfl, h0, m', ⟨⟨N + 1, by omega, r⟩, mv.trans m'⟩⟩
theorem Left.base {g B k : Nat} {w0 w : World} (h : Left g B w0 k w) : w0.heap.size ≤ w.heap.size := h.2.size
theorem Bk.mv {w w' : World} {g b : Nat} {arr : Array Value} (h : Bk w b arr) (m : Mv g w w') (hb : b ≠ g) : Bk w' b arr := by
  have hl := h.lt
  obtain ⟨e, h⟩ := h
  exact ⟨e, (m.block b hl hb).trans h⟩
/-- A mark stored. -/
def putG (w : World) (b : Nat) (q0 q1 q2 q3 : Int) : World := (((w.setCell ⟨b, 0, none⟩ (.int .i64 q0)).setCell ⟨b, 1, none⟩ (.int .i64 q1)).setCell ⟨b, 2, none⟩ (.int .i64 q2)).setCell ⟨b, 3, none⟩ (.int .i64 q3)
def putK (w : World) (b : Nat) (q0 : Bool) (q1 q2 q3 q4 : Int) : World := ((((w.setCell ⟨b, 0, none⟩ (.bool q0)).setCell ⟨b, 1, none⟩ (.int .i64 q1)).setCell ⟨b, 2, none⟩ (.int .i64 q2)).setCell ⟨b, 3, none⟩ (.int .i64 q3)).setCell ⟨b, 4, none⟩ (.int .i64 q4)
theorem putG_bk {w : World} {b : Nat} {x0 x1 x2 x3 : Value} (h : Bk w b #[x0, x1, x2, x3]) (q0 q1 q2 q3 : Int) : Bk (putG w b q0 q1 q2 q3) b #[.int .i64 q0, .int .i64 q1, .int .i64 q2, .int .i64 q3] :=
  bk_setC _ _ _ _ (bk_setC _ _ _ _ (bk_setC _ _ _ _ (bk_setC _ _ _ _ h)))
theorem putK_bk {w : World} {b : Nat} {x0 x1 x2 x3 x4 : Value} (h : Bk w b #[x0, x1, x2, x3, x4]) (q0 : Bool) (q1 q2 q3 q4 : Int) : Bk (putK w b q0 q1 q2 q3 q4) b #[.bool q0, .int .i64 q1, .int .i64 q2, .int .i64 q3, .int .i64 q4] :=
  bk_setC _ _ _ _ (bk_setC _ _ _ _ (bk_setC _ _ _ _ (bk_setC _ _ _ _ (bk_setC _ _ _ _ h))))
theorem putG_far {w : World} {b b' : Nat} {arr : Array Value} (h : Bk w b' arr) (hb : b' ≠ b) (q0 q1 q2 q3 : Int) : Bk (putG w b q0 q1 q2 q3) b' arr := bk_far _ _ (bk_far _ _ (bk_far _ _ (bk_far _ _ h hb) hb) hb) hb
theorem putK_far {w : World} {b b' : Nat} {arr : Array Value} (h : Bk w b' arr) (hb : b' ≠ b) (q0 : Bool) (q1 q2 q3 q4 : Int) : Bk (putK w b q0 q1 q2 q3 q4) b' arr := bk_far _ _ (bk_far _ _ (bk_far _ _ (bk_far _ _ (bk_far _ _ h hb) hb) hb) hb) hb
theorem putG_rd {w : World} {g N b : Nat} (h : Rd w g N) (hb : g < b) (q0 q1 q2 q3 : Int) : Rd (putG w b q0 q1 q2 q3) g N := (((h.setCell (p := ⟨b, 0, none⟩) hb _).setCell (p := ⟨b, 1, none⟩) hb _).setCell (p := ⟨b, 2, none⟩) hb _).setCell (p := ⟨b, 3, none⟩) hb _
theorem putK_rd {w : World} {g N b : Nat} (h : Rd w g N) (hb : g < b) (q0 : Bool) (q1 q2 q3 q4 : Int) : Rd (putK w b q0 q1 q2 q3 q4) g N := ((((h.setCell (p := ⟨b, 0, none⟩) hb _).setCell (p := ⟨b, 1, none⟩) hb _).setCell (p := ⟨b, 2, none⟩) hb _).setCell (p := ⟨b, 3, none⟩) hb _).setCell (p := ⟨b, 4, none⟩) hb _
theorem putG_mv {a w : World} {g b : Nat} (h : Mv g a w) (hb : a.heap.size ≤ b) (q0 q1 q2 q3 : Int) : Mv g a (putG w b q0 q1 q2 q3) := (((h.setNew (p := ⟨b, 0, none⟩) hb _).setNew (p := ⟨b, 1, none⟩) hb _).setNew (p := ⟨b, 2, none⟩) hb _).setNew (p := ⟨b, 3, none⟩) hb _
theorem putK_mv {a w : World} {g b : Nat} (h : Mv g a w) (hb : a.heap.size ≤ b) (q0 : Bool) (q1 q2 q3 q4 : Int) : Mv g a (putK w b q0 q1 q2 q3 q4) := ((((h.setNew (p := ⟨b, 0, none⟩) hb _).setNew (p := ⟨b, 1, none⟩) hb _).setNew (p := ⟨b, 2, none⟩) hb _).setNew (p := ⟨b, 3, none⟩) hb _).setNew (p := ⟨b, 4, none⟩) hb _

/-- What the drawing of a mark, or of a token, gives. -/
def GmDrawn (g N : Nat) (w : World) (x : Ending) (w' : World) : Prop := ∃ q : Gm, x = .returned q.v ∧ Rd w' g N ∧ Mv g w w'
def GkDrawn (g N : Nat) (w : World) (x : Ending) (w' : World) : Prop := ∃ q : Gk, x = .returned q.v ∧ Rd w' g N ∧ Mv g w w'

def mrkR (g b4 lo n : Nat) (til : Int) (q19 q20 : Int) (d : Nat) (v : Value) (w : World) : Prop :=
  if d = 8 then v = .pointer (some ⟨g, 0, none⟩) else if d = 9 then IsNum v w else if d = 10 then v = .pointer (some ⟨g, 0, none⟩) else if d = 11 then IsNum v w else if d = 12 then IsNum v w else if d = 13 then v = .pointer (some ⟨g, 0, none⟩) else if d = 14 then IsNum v w else if d = 15 then IsNum v w else if d = 16 then v = .pointer (some ⟨g, 0, none⟩) else if d = 17 then v = .pointer (some ⟨b4, 2, none⟩) else if d = 18 then v = .int .i64 til else if d = 19 then v = .int .i64 q19 else if d = 20 then v = .int .i64 q20 else if d = 21 then IsNum v w else if d = 22 then IsGm v w else if d = 7 then IsNewN g lo 4 28 v w else True
theorem mrkR_8 (g b4 lo n : Nat) (til : Int) (q19 q20 : Int) (v : Value) (w : World) : mrkR g b4 lo n til q19 q20 8 v w = (v = .pointer (some ⟨g, 0, none⟩)) := by simp [mrkR]
theorem mrkR_9 (g b4 lo n : Nat) (til : Int) (q19 q20 : Int) (v : Value) (w : World) : mrkR g b4 lo n til q19 q20 9 v w = (IsNum v w) := by simp [mrkR]
theorem mrkR_10 (g b4 lo n : Nat) (til : Int) (q19 q20 : Int) (v : Value) (w : World) : mrkR g b4 lo n til q19 q20 10 v w = (v = .pointer (some ⟨g, 0, none⟩)) := by simp [mrkR]
theorem mrkR_11 (g b4 lo n : Nat) (til : Int) (q19 q20 : Int) (v : Value) (w : World) : mrkR g b4 lo n til q19 q20 11 v w = (IsNum v w) := by simp [mrkR]
theorem mrkR_12 (g b4 lo n : Nat) (til : Int) (q19 q20 : Int) (v : Value) (w : World) : mrkR g b4 lo n til q19 q20 12 v w = (IsNum v w) := by simp [mrkR]
theorem mrkR_13 (g b4 lo n : Nat) (til : Int) (q19 q20 : Int) (v : Value) (w : World) : mrkR g b4 lo n til q19 q20 13 v w = (v = .pointer (some ⟨g, 0, none⟩)) := by simp [mrkR]
theorem mrkR_14 (g b4 lo n : Nat) (til : Int) (q19 q20 : Int) (v : Value) (w : World) : mrkR g b4 lo n til q19 q20 14 v w = (IsNum v w) := by simp [mrkR]
theorem mrkR_15 (g b4 lo n : Nat) (til : Int) (q19 q20 : Int) (v : Value) (w : World) : mrkR g b4 lo n til q19 q20 15 v w = (IsNum v w) := by simp [mrkR]
theorem mrkR_16 (g b4 lo n : Nat) (til : Int) (q19 q20 : Int) (v : Value) (w : World) : mrkR g b4 lo n til q19 q20 16 v w = (v = .pointer (some ⟨g, 0, none⟩)) := by simp [mrkR]
theorem mrkR_17 (g b4 lo n : Nat) (til : Int) (q19 q20 : Int) (v : Value) (w : World) : mrkR g b4 lo n til q19 q20 17 v w = (v = .pointer (some ⟨b4, 2, none⟩)) := by simp [mrkR]
theorem mrkR_18 (g b4 lo n : Nat) (til : Int) (q19 q20 : Int) (v : Value) (w : World) : mrkR g b4 lo n til q19 q20 18 v w = (v = .int .i64 til) := by simp [mrkR]
theorem mrkR_19 (g b4 lo n : Nat) (til : Int) (q19 q20 : Int) (v : Value) (w : World) : mrkR g b4 lo n til q19 q20 19 v w = (v = .int .i64 q19) := by simp [mrkR]
theorem mrkR_20 (g b4 lo n : Nat) (til : Int) (q19 q20 : Int) (v : Value) (w : World) : mrkR g b4 lo n til q19 q20 20 v w = (v = .int .i64 q20) := by simp [mrkR]
theorem mrkR_21 (g b4 lo n : Nat) (til : Int) (q19 q20 : Int) (v : Value) (w : World) : mrkR g b4 lo n til q19 q20 21 v w = (IsNum v w) := by simp [mrkR]
theorem mrkR_22 (g b4 lo n : Nat) (til : Int) (q19 q20 : Int) (v : Value) (w : World) : mrkR g b4 lo n til q19 q20 22 v w = (IsGm v w) := by simp [mrkR]
theorem mrkR_7 (g b4 lo n : Nat) (til : Int) (q19 q20 : Int) (v : Value) (w : World) : mrkR g b4 lo n til q19 q20 7 v w = (IsNewN g lo 4 28 v w) := by simp [mrkR]
theorem mrkR_mv (g b4 lo n : Nat) (til : Int) (q19 q20 : Int) (d : Nat) {v : Value} {w w' : World} (h : mrkR g b4 lo n til q19 q20 d v w) (u : Mv g w w') : mrkR g b4 lo n til q19 q20 d v w' := by
  unfold mrkR at h ⊢
  by_cases h8 : d = 8
  · rw [if_pos h8] at h ⊢
    exact h
  rw [if_neg h8] at h ⊢
  by_cases h9 : d = 9
  · rw [if_pos h9] at h ⊢
    exact h
  rw [if_neg h9] at h ⊢
  by_cases h10 : d = 10
  · rw [if_pos h10] at h ⊢
    exact h
  rw [if_neg h10] at h ⊢
  by_cases h11 : d = 11
  · rw [if_pos h11] at h ⊢
    exact h
  rw [if_neg h11] at h ⊢
  by_cases h12 : d = 12
  · rw [if_pos h12] at h ⊢
    exact h
  rw [if_neg h12] at h ⊢
  by_cases h13 : d = 13
  · rw [if_pos h13] at h ⊢
    exact h
  rw [if_neg h13] at h ⊢
  by_cases h14 : d = 14
  · rw [if_pos h14] at h ⊢
    exact h
  rw [if_neg h14] at h ⊢
  by_cases h15 : d = 15
  · rw [if_pos h15] at h ⊢
    exact h
  rw [if_neg h15] at h ⊢
  by_cases h16 : d = 16
  · rw [if_pos h16] at h ⊢
    exact h
  rw [if_neg h16] at h ⊢
  by_cases h17 : d = 17
  · rw [if_pos h17] at h ⊢
    exact h
  rw [if_neg h17] at h ⊢
  by_cases h18 : d = 18
  · rw [if_pos h18] at h ⊢
    exact h
  rw [if_neg h18] at h ⊢
  by_cases h19 : d = 19
  · rw [if_pos h19] at h ⊢
    exact h
  rw [if_neg h19] at h ⊢
  by_cases h20 : d = 20
  · rw [if_pos h20] at h ⊢
    exact h
  rw [if_neg h20] at h ⊢
  by_cases h21 : d = 21
  · rw [if_pos h21] at h ⊢
    exact h
  rw [if_neg h21] at h ⊢
  by_cases h22 : d = 22
  · rw [if_pos h22] at h ⊢
    exact h
  rw [if_neg h22] at h ⊢
  by_cases h7 : d = 7
  · rw [if_pos h7] at h ⊢
    exact h.mv u
  rw [if_neg h7] at h ⊢
  exact trivial
def mrkF (g b4 lo lo2 n : Nat) (til : Int) (q19 q20 : Int) (d : Nat) (v : Value) (w : World) : Prop :=
  if d = 28 then v = .pointer (some ⟨b4, 2, none⟩) else if d = 29 then v = .int .i64 til else if d = 30 then v = .int .i64 q19 else if d = 31 then IsTwo g lo v w else if d = 32 then v = .pointer (some ⟨g, 0, none⟩) else if d = 33 then IsN 0 1 v w else if d = 34 then IsCell g v w else if d = 35 then IsNum v w else if d = 36 then v = .pointer (some ⟨lo2, 3, none⟩) else True
theorem mrkF_28 (g b4 lo lo2 n : Nat) (til : Int) (q19 q20 : Int) (v : Value) (w : World) : mrkF g b4 lo lo2 n til q19 q20 28 v w = (v = .pointer (some ⟨b4, 2, none⟩)) := by simp [mrkF]
theorem mrkF_29 (g b4 lo lo2 n : Nat) (til : Int) (q19 q20 : Int) (v : Value) (w : World) : mrkF g b4 lo lo2 n til q19 q20 29 v w = (v = .int .i64 til) := by simp [mrkF]
theorem mrkF_30 (g b4 lo lo2 n : Nat) (til : Int) (q19 q20 : Int) (v : Value) (w : World) : mrkF g b4 lo lo2 n til q19 q20 30 v w = (v = .int .i64 q19) := by simp [mrkF]
theorem mrkF_31 (g b4 lo lo2 n : Nat) (til : Int) (q19 q20 : Int) (v : Value) (w : World) : mrkF g b4 lo lo2 n til q19 q20 31 v w = (IsTwo g lo v w) := by simp [mrkF]
theorem mrkF_32 (g b4 lo lo2 n : Nat) (til : Int) (q19 q20 : Int) (v : Value) (w : World) : mrkF g b4 lo lo2 n til q19 q20 32 v w = (v = .pointer (some ⟨g, 0, none⟩)) := by simp [mrkF]
theorem mrkF_33 (g b4 lo lo2 n : Nat) (til : Int) (q19 q20 : Int) (v : Value) (w : World) : mrkF g b4 lo lo2 n til q19 q20 33 v w = (IsN 0 1 v w) := by simp [mrkF]
theorem mrkF_34 (g b4 lo lo2 n : Nat) (til : Int) (q19 q20 : Int) (v : Value) (w : World) : mrkF g b4 lo lo2 n til q19 q20 34 v w = (IsCell g v w) := by simp [mrkF]
theorem mrkF_35 (g b4 lo lo2 n : Nat) (til : Int) (q19 q20 : Int) (v : Value) (w : World) : mrkF g b4 lo lo2 n til q19 q20 35 v w = (IsNum v w) := by simp [mrkF]
theorem mrkF_36 (g b4 lo lo2 n : Nat) (til : Int) (q19 q20 : Int) (v : Value) (w : World) : mrkF g b4 lo lo2 n til q19 q20 36 v w = (v = .pointer (some ⟨lo2, 3, none⟩)) := by simp [mrkF]
theorem mrkF_mv (g b4 lo lo2 n : Nat) (til : Int) (q19 q20 : Int) (d : Nat) {v : Value} {w w' : World} (h : mrkF g b4 lo lo2 n til q19 q20 d v w) (u : Mv g w w') : mrkF g b4 lo lo2 n til q19 q20 d v w' := by
  unfold mrkF at h ⊢
  by_cases h28 : d = 28
  · rw [if_pos h28] at h ⊢
    exact h
  rw [if_neg h28] at h ⊢
  by_cases h29 : d = 29
  · rw [if_pos h29] at h ⊢
    exact h
  rw [if_neg h29] at h ⊢
  by_cases h30 : d = 30
  · rw [if_pos h30] at h ⊢
    exact h
  rw [if_neg h30] at h ⊢
  by_cases h31 : d = 31
  · rw [if_pos h31] at h ⊢
    exact h.mv u
  rw [if_neg h31] at h ⊢
  by_cases h32 : d = 32
  · rw [if_pos h32] at h ⊢
    exact h
  rw [if_neg h32] at h ⊢
  by_cases h33 : d = 33
  · rw [if_pos h33] at h ⊢
    exact h
  rw [if_neg h33] at h ⊢
  by_cases h34 : d = 34
  · rw [if_pos h34] at h ⊢
    exact h.mv u
  rw [if_neg h34] at h ⊢
  by_cases h35 : d = 35
  · rw [if_pos h35] at h ⊢
    exact h
  rw [if_neg h35] at h ⊢
  by_cases h36 : d = 36
  · rw [if_pos h36] at h ⊢
    exact h
  rw [if_neg h36] at h ⊢
  exact trivial
def tokR (g b4 lo n : Nat) (til : Int) (VR : Value) (q17 q25 q26 : Int) (d : Nat) (v : Value) (w : World) : Prop :=
  if d = 8 then v = .pointer (some ⟨g, 0, none⟩) else if d = 9 then IsNum v w else if d = 10 then IsBn v w else if d = 11 then v = .pointer (some ⟨g, 0, none⟩) else if d = 12 then IsNum v w else if d = 13 then v = .pointer (some ⟨g, 0, none⟩) else if d = 14 then v = .pointer (some ⟨b4, 0, none⟩) else if d = 15 then v = VR else if d = 16 then v = .int .i64 (n : Int) else if d = 17 then v = .int .i64 q17 else if d = 18 then IsNum v w else if d = 19 then v = .pointer (some ⟨g, 0, none⟩) else if d = 20 then IsNum v w else if d = 21 then IsNum v w else if d = 22 then v = .pointer (some ⟨g, 0, none⟩) else if d = 23 then v = .pointer (some ⟨b4, 2, none⟩) else if d = 24 then v = .int .i64 til else if d = 25 then v = .int .i64 q25 else if d = 26 then v = .int .i64 q26 else if d = 27 then IsNum v w else if d = 28 then IsGk v w else if d = 7 then IsNewN g lo 5 32 v w else True
theorem tokR_8 (g b4 lo n : Nat) (til : Int) (VR : Value) (q17 q25 q26 : Int) (v : Value) (w : World) : tokR g b4 lo n til VR q17 q25 q26 8 v w = (v = .pointer (some ⟨g, 0, none⟩)) := by simp [tokR]
theorem tokR_9 (g b4 lo n : Nat) (til : Int) (VR : Value) (q17 q25 q26 : Int) (v : Value) (w : World) : tokR g b4 lo n til VR q17 q25 q26 9 v w = (IsNum v w) := by simp [tokR]
theorem tokR_10 (g b4 lo n : Nat) (til : Int) (VR : Value) (q17 q25 q26 : Int) (v : Value) (w : World) : tokR g b4 lo n til VR q17 q25 q26 10 v w = (IsBn v w) := by simp [tokR]
theorem tokR_11 (g b4 lo n : Nat) (til : Int) (VR : Value) (q17 q25 q26 : Int) (v : Value) (w : World) : tokR g b4 lo n til VR q17 q25 q26 11 v w = (v = .pointer (some ⟨g, 0, none⟩)) := by simp [tokR]
theorem tokR_12 (g b4 lo n : Nat) (til : Int) (VR : Value) (q17 q25 q26 : Int) (v : Value) (w : World) : tokR g b4 lo n til VR q17 q25 q26 12 v w = (IsNum v w) := by simp [tokR]
theorem tokR_13 (g b4 lo n : Nat) (til : Int) (VR : Value) (q17 q25 q26 : Int) (v : Value) (w : World) : tokR g b4 lo n til VR q17 q25 q26 13 v w = (v = .pointer (some ⟨g, 0, none⟩)) := by simp [tokR]
theorem tokR_14 (g b4 lo n : Nat) (til : Int) (VR : Value) (q17 q25 q26 : Int) (v : Value) (w : World) : tokR g b4 lo n til VR q17 q25 q26 14 v w = (v = .pointer (some ⟨b4, 0, none⟩)) := by simp [tokR]
theorem tokR_15 (g b4 lo n : Nat) (til : Int) (VR : Value) (q17 q25 q26 : Int) (v : Value) (w : World) : tokR g b4 lo n til VR q17 q25 q26 15 v w = (v = VR) := by simp [tokR]
theorem tokR_16 (g b4 lo n : Nat) (til : Int) (VR : Value) (q17 q25 q26 : Int) (v : Value) (w : World) : tokR g b4 lo n til VR q17 q25 q26 16 v w = (v = .int .i64 (n : Int)) := by simp [tokR]
theorem tokR_17 (g b4 lo n : Nat) (til : Int) (VR : Value) (q17 q25 q26 : Int) (v : Value) (w : World) : tokR g b4 lo n til VR q17 q25 q26 17 v w = (v = .int .i64 q17) := by simp [tokR]
theorem tokR_18 (g b4 lo n : Nat) (til : Int) (VR : Value) (q17 q25 q26 : Int) (v : Value) (w : World) : tokR g b4 lo n til VR q17 q25 q26 18 v w = (IsNum v w) := by simp [tokR]
theorem tokR_19 (g b4 lo n : Nat) (til : Int) (VR : Value) (q17 q25 q26 : Int) (v : Value) (w : World) : tokR g b4 lo n til VR q17 q25 q26 19 v w = (v = .pointer (some ⟨g, 0, none⟩)) := by simp [tokR]
theorem tokR_20 (g b4 lo n : Nat) (til : Int) (VR : Value) (q17 q25 q26 : Int) (v : Value) (w : World) : tokR g b4 lo n til VR q17 q25 q26 20 v w = (IsNum v w) := by simp [tokR]
theorem tokR_21 (g b4 lo n : Nat) (til : Int) (VR : Value) (q17 q25 q26 : Int) (v : Value) (w : World) : tokR g b4 lo n til VR q17 q25 q26 21 v w = (IsNum v w) := by simp [tokR]
theorem tokR_22 (g b4 lo n : Nat) (til : Int) (VR : Value) (q17 q25 q26 : Int) (v : Value) (w : World) : tokR g b4 lo n til VR q17 q25 q26 22 v w = (v = .pointer (some ⟨g, 0, none⟩)) := by simp [tokR]
theorem tokR_23 (g b4 lo n : Nat) (til : Int) (VR : Value) (q17 q25 q26 : Int) (v : Value) (w : World) : tokR g b4 lo n til VR q17 q25 q26 23 v w = (v = .pointer (some ⟨b4, 2, none⟩)) := by simp [tokR]
theorem tokR_24 (g b4 lo n : Nat) (til : Int) (VR : Value) (q17 q25 q26 : Int) (v : Value) (w : World) : tokR g b4 lo n til VR q17 q25 q26 24 v w = (v = .int .i64 til) := by simp [tokR]
theorem tokR_25 (g b4 lo n : Nat) (til : Int) (VR : Value) (q17 q25 q26 : Int) (v : Value) (w : World) : tokR g b4 lo n til VR q17 q25 q26 25 v w = (v = .int .i64 q25) := by simp [tokR]
theorem tokR_26 (g b4 lo n : Nat) (til : Int) (VR : Value) (q17 q25 q26 : Int) (v : Value) (w : World) : tokR g b4 lo n til VR q17 q25 q26 26 v w = (v = .int .i64 q26) := by simp [tokR]
theorem tokR_27 (g b4 lo n : Nat) (til : Int) (VR : Value) (q17 q25 q26 : Int) (v : Value) (w : World) : tokR g b4 lo n til VR q17 q25 q26 27 v w = (IsNum v w) := by simp [tokR]
theorem tokR_28 (g b4 lo n : Nat) (til : Int) (VR : Value) (q17 q25 q26 : Int) (v : Value) (w : World) : tokR g b4 lo n til VR q17 q25 q26 28 v w = (IsGk v w) := by simp [tokR]
theorem tokR_7 (g b4 lo n : Nat) (til : Int) (VR : Value) (q17 q25 q26 : Int) (v : Value) (w : World) : tokR g b4 lo n til VR q17 q25 q26 7 v w = (IsNewN g lo 5 32 v w) := by simp [tokR]
theorem tokR_mv (g b4 lo n : Nat) (til : Int) (VR : Value) (q17 q25 q26 : Int) (d : Nat) {v : Value} {w w' : World} (h : tokR g b4 lo n til VR q17 q25 q26 d v w) (u : Mv g w w') : tokR g b4 lo n til VR q17 q25 q26 d v w' := by
  unfold tokR at h ⊢
  by_cases h8 : d = 8
  · rw [if_pos h8] at h ⊢
    exact h
  rw [if_neg h8] at h ⊢
  by_cases h9 : d = 9
  · rw [if_pos h9] at h ⊢
    exact h
  rw [if_neg h9] at h ⊢
  by_cases h10 : d = 10
  · rw [if_pos h10] at h ⊢
    exact h
  rw [if_neg h10] at h ⊢
  by_cases h11 : d = 11
  · rw [if_pos h11] at h ⊢
    exact h
  rw [if_neg h11] at h ⊢
  by_cases h12 : d = 12
  · rw [if_pos h12] at h ⊢
    exact h
  rw [if_neg h12] at h ⊢
  by_cases h13 : d = 13
  · rw [if_pos h13] at h ⊢
    exact h
  rw [if_neg h13] at h ⊢
  by_cases h14 : d = 14
  · rw [if_pos h14] at h ⊢
    exact h
  rw [if_neg h14] at h ⊢
  by_cases h15 : d = 15
  · rw [if_pos h15] at h ⊢
    exact h
  rw [if_neg h15] at h ⊢
  by_cases h16 : d = 16
  · rw [if_pos h16] at h ⊢
    exact h
  rw [if_neg h16] at h ⊢
  by_cases h17 : d = 17
  · rw [if_pos h17] at h ⊢
    exact h
  rw [if_neg h17] at h ⊢
  by_cases h18 : d = 18
  · rw [if_pos h18] at h ⊢
    exact h
  rw [if_neg h18] at h ⊢
  by_cases h19 : d = 19
  · rw [if_pos h19] at h ⊢
    exact h
  rw [if_neg h19] at h ⊢
  by_cases h20 : d = 20
  · rw [if_pos h20] at h ⊢
    exact h
  rw [if_neg h20] at h ⊢
  by_cases h21 : d = 21
  · rw [if_pos h21] at h ⊢
    exact h
  rw [if_neg h21] at h ⊢
  by_cases h22 : d = 22
  · rw [if_pos h22] at h ⊢
    exact h
  rw [if_neg h22] at h ⊢
  by_cases h23 : d = 23
  · rw [if_pos h23] at h ⊢
    exact h
  rw [if_neg h23] at h ⊢
  by_cases h24 : d = 24
  · rw [if_pos h24] at h ⊢
    exact h
  rw [if_neg h24] at h ⊢
  by_cases h25 : d = 25
  · rw [if_pos h25] at h ⊢
    exact h
  rw [if_neg h25] at h ⊢
  by_cases h26 : d = 26
  · rw [if_pos h26] at h ⊢
    exact h
  rw [if_neg h26] at h ⊢
  by_cases h27 : d = 27
  · rw [if_pos h27] at h ⊢
    exact h
  rw [if_neg h27] at h ⊢
  by_cases h28 : d = 28
  · rw [if_pos h28] at h ⊢
    exact h
  rw [if_neg h28] at h ⊢
  by_cases h7 : d = 7
  · rw [if_pos h7] at h ⊢
    exact h.mv u
  rw [if_neg h7] at h ⊢
  exact trivial
def tokF (g b4 lo lo2 n : Nat) (til : Int) (VR : Value) (q17 q25 q26 : Int) (d : Nat) (v : Value) (w : World) : Prop :=
  if d = 34 then v = .pointer (some ⟨b4, 2, none⟩) else if d = 35 then v = .int .i64 til else if d = 36 then v = .int .i64 q25 else if d = 37 then IsTwo g lo v w else if d = 38 then v = .pointer (some ⟨g, 0, none⟩) else if d = 39 then IsN 0 1 v w else if d = 40 then IsCell g v w else if d = 41 then IsNum v w else if d = 42 then v = .pointer (some ⟨lo2, 4, none⟩) else True
theorem tokF_34 (g b4 lo lo2 n : Nat) (til : Int) (VR : Value) (q17 q25 q26 : Int) (v : Value) (w : World) : tokF g b4 lo lo2 n til VR q17 q25 q26 34 v w = (v = .pointer (some ⟨b4, 2, none⟩)) := by simp [tokF]
theorem tokF_35 (g b4 lo lo2 n : Nat) (til : Int) (VR : Value) (q17 q25 q26 : Int) (v : Value) (w : World) : tokF g b4 lo lo2 n til VR q17 q25 q26 35 v w = (v = .int .i64 til) := by simp [tokF]
theorem tokF_36 (g b4 lo lo2 n : Nat) (til : Int) (VR : Value) (q17 q25 q26 : Int) (v : Value) (w : World) : tokF g b4 lo lo2 n til VR q17 q25 q26 36 v w = (v = .int .i64 q25) := by simp [tokF]
theorem tokF_37 (g b4 lo lo2 n : Nat) (til : Int) (VR : Value) (q17 q25 q26 : Int) (v : Value) (w : World) : tokF g b4 lo lo2 n til VR q17 q25 q26 37 v w = (IsTwo g lo v w) := by simp [tokF]
theorem tokF_38 (g b4 lo lo2 n : Nat) (til : Int) (VR : Value) (q17 q25 q26 : Int) (v : Value) (w : World) : tokF g b4 lo lo2 n til VR q17 q25 q26 38 v w = (v = .pointer (some ⟨g, 0, none⟩)) := by simp [tokF]
theorem tokF_39 (g b4 lo lo2 n : Nat) (til : Int) (VR : Value) (q17 q25 q26 : Int) (v : Value) (w : World) : tokF g b4 lo lo2 n til VR q17 q25 q26 39 v w = (IsN 0 1 v w) := by simp [tokF]
theorem tokF_40 (g b4 lo lo2 n : Nat) (til : Int) (VR : Value) (q17 q25 q26 : Int) (v : Value) (w : World) : tokF g b4 lo lo2 n til VR q17 q25 q26 40 v w = (IsCell g v w) := by simp [tokF]
theorem tokF_41 (g b4 lo lo2 n : Nat) (til : Int) (VR : Value) (q17 q25 q26 : Int) (v : Value) (w : World) : tokF g b4 lo lo2 n til VR q17 q25 q26 41 v w = (IsNum v w) := by simp [tokF]
theorem tokF_42 (g b4 lo lo2 n : Nat) (til : Int) (VR : Value) (q17 q25 q26 : Int) (v : Value) (w : World) : tokF g b4 lo lo2 n til VR q17 q25 q26 42 v w = (v = .pointer (some ⟨lo2, 4, none⟩)) := by simp [tokF]
theorem tokF_mv (g b4 lo lo2 n : Nat) (til : Int) (VR : Value) (q17 q25 q26 : Int) (d : Nat) {v : Value} {w w' : World} (h : tokF g b4 lo lo2 n til VR q17 q25 q26 d v w) (u : Mv g w w') : tokF g b4 lo lo2 n til VR q17 q25 q26 d v w' := by
  unfold tokF at h ⊢
  by_cases h34 : d = 34
  · rw [if_pos h34] at h ⊢
    exact h
  rw [if_neg h34] at h ⊢
  by_cases h35 : d = 35
  · rw [if_pos h35] at h ⊢
    exact h
  rw [if_neg h35] at h ⊢
  by_cases h36 : d = 36
  · rw [if_pos h36] at h ⊢
    exact h
  rw [if_neg h36] at h ⊢
  by_cases h37 : d = 37
  · rw [if_pos h37] at h ⊢
    exact h.mv u
  rw [if_neg h37] at h ⊢
  by_cases h38 : d = 38
  · rw [if_pos h38] at h ⊢
    exact h
  rw [if_neg h38] at h ⊢
  by_cases h39 : d = 39
  · rw [if_pos h39] at h ⊢
    exact h
  rw [if_neg h39] at h ⊢
  by_cases h40 : d = 40
  · rw [if_pos h40] at h ⊢
    exact h.mv u
  rw [if_neg h40] at h ⊢
  by_cases h41 : d = 41
  · rw [if_pos h41] at h ⊢
    exact h
  rw [if_neg h41] at h ⊢
  by_cases h42 : d = 42
  · rw [if_pos h42] at h ⊢
    exact h
  rw [if_neg h42] at h ⊢
  exact trivial
def tokE (g b4 lo lo2 n : Nat) (til : Int) (VR : Value) (q17 q25 q26 : Int) (d : Nat) (v : Value) (w : World) : Prop :=
  if d = 53 then v = .pointer (some ⟨b4, 0, none⟩) else if d = 54 then v = VR else if d = 55 then v = .int .i64 (n : Int) else if d = 56 then IsTwo g lo v w else if d = 57 then v = .pointer (some ⟨g, 0, none⟩) else if d = 58 then IsN 0 1 v w else if d = 59 then IsCell g v w else if d = 60 then IsNum v w else if d = 61 then v = .pointer (some ⟨lo2, 2, none⟩) else True
theorem tokE_53 (g b4 lo lo2 n : Nat) (til : Int) (VR : Value) (q17 q25 q26 : Int) (v : Value) (w : World) : tokE g b4 lo lo2 n til VR q17 q25 q26 53 v w = (v = .pointer (some ⟨b4, 0, none⟩)) := by simp [tokE]
theorem tokE_54 (g b4 lo lo2 n : Nat) (til : Int) (VR : Value) (q17 q25 q26 : Int) (v : Value) (w : World) : tokE g b4 lo lo2 n til VR q17 q25 q26 54 v w = (v = VR) := by simp [tokE]
theorem tokE_55 (g b4 lo lo2 n : Nat) (til : Int) (VR : Value) (q17 q25 q26 : Int) (v : Value) (w : World) : tokE g b4 lo lo2 n til VR q17 q25 q26 55 v w = (v = .int .i64 (n : Int)) := by simp [tokE]
theorem tokE_56 (g b4 lo lo2 n : Nat) (til : Int) (VR : Value) (q17 q25 q26 : Int) (v : Value) (w : World) : tokE g b4 lo lo2 n til VR q17 q25 q26 56 v w = (IsTwo g lo v w) := by simp [tokE]
theorem tokE_57 (g b4 lo lo2 n : Nat) (til : Int) (VR : Value) (q17 q25 q26 : Int) (v : Value) (w : World) : tokE g b4 lo lo2 n til VR q17 q25 q26 57 v w = (v = .pointer (some ⟨g, 0, none⟩)) := by simp [tokE]
theorem tokE_58 (g b4 lo lo2 n : Nat) (til : Int) (VR : Value) (q17 q25 q26 : Int) (v : Value) (w : World) : tokE g b4 lo lo2 n til VR q17 q25 q26 58 v w = (IsN 0 1 v w) := by simp [tokE]
theorem tokE_59 (g b4 lo lo2 n : Nat) (til : Int) (VR : Value) (q17 q25 q26 : Int) (v : Value) (w : World) : tokE g b4 lo lo2 n til VR q17 q25 q26 59 v w = (IsCell g v w) := by simp [tokE]
theorem tokE_60 (g b4 lo lo2 n : Nat) (til : Int) (VR : Value) (q17 q25 q26 : Int) (v : Value) (w : World) : tokE g b4 lo lo2 n til VR q17 q25 q26 60 v w = (IsNum v w) := by simp [tokE]
theorem tokE_61 (g b4 lo lo2 n : Nat) (til : Int) (VR : Value) (q17 q25 q26 : Int) (v : Value) (w : World) : tokE g b4 lo lo2 n til VR q17 q25 q26 61 v w = (v = .pointer (some ⟨lo2, 2, none⟩)) := by simp [tokE]
theorem tokE_mv (g b4 lo lo2 n : Nat) (til : Int) (VR : Value) (q17 q25 q26 : Int) (d : Nat) {v : Value} {w w' : World} (h : tokE g b4 lo lo2 n til VR q17 q25 q26 d v w) (u : Mv g w w') : tokE g b4 lo lo2 n til VR q17 q25 q26 d v w' := by
  unfold tokE at h ⊢
  by_cases h53 : d = 53
  · rw [if_pos h53] at h ⊢
    exact h
  rw [if_neg h53] at h ⊢
  by_cases h54 : d = 54
  · rw [if_pos h54] at h ⊢
    exact h
  rw [if_neg h54] at h ⊢
  by_cases h55 : d = 55
  · rw [if_pos h55] at h ⊢
    exact h
  rw [if_neg h55] at h ⊢
  by_cases h56 : d = 56
  · rw [if_pos h56] at h ⊢
    exact h.mv u
  rw [if_neg h56] at h ⊢
  by_cases h57 : d = 57
  · rw [if_pos h57] at h ⊢
    exact h
  rw [if_neg h57] at h ⊢
  by_cases h58 : d = 58
  · rw [if_pos h58] at h ⊢
    exact h
  rw [if_neg h58] at h ⊢
  by_cases h59 : d = 59
  · rw [if_pos h59] at h ⊢
    exact h.mv u
  rw [if_neg h59] at h ⊢
  by_cases h60 : d = 60
  · rw [if_pos h60] at h ⊢
    exact h
  rw [if_neg h60] at h ⊢
  by_cases h61 : d = 61
  · rw [if_pos h61] at h ⊢
    exact h
  rw [if_neg h61] at h ⊢
  exact trivial

end Go.Proofs.Ytojnphchkdjafaa

namespace Go.Proofs.Ytojnphchkdjafaa
set_option maxRecDepth 100000
open Go.RowKit
set_option linter.unusedVariables false

set_option maxHeartbeats 8000000 in
theorem mark_any (g N : Nat) (A : Option Addr) (n c : Nat) (B : Option Addr) (k d : Nat) (til : Int) (num : Int) (w : World) (hnum : I64 num) (hN : N ≤ 900000) (hn : n ≤ 1000) (ht : -1 ≤ til ∧ til ≤ 100) (hR : Rd w g N) :
    Calls Try.prog 34 #[.pointer (some ⟨g, 0, none⟩), .agg #[.slice A n c, .slice B k d, .int .i64 til], .int .i64 num] w (GmDrawn g (N + 60) w) := by
  have hgw : g < w.heap.size := hR.lt'
  have HN := Lib.hid hnum
  have MM := Lib.hid (((Mv.refl g w).alloc (.cells #[.slice A n c, .slice B k d, .int .i64 til] 26)).alloc (.cells #[.int .i64 0, .int .i64 0, .int .i64 0, .int .i64 0] 28))
  have RR := Lib.hid ((hR.alloc (.cells #[.slice A n c, .slice B k d, .int .i64 til] 26)).alloc (.cells #[.int .i64 0, .int .i64 0, .int .i64 0, .int .i64 0] 28))
  have X4 := Lib.hid ((Bk.new w #[.slice A n c, .slice B k d, .int .i64 til] 26).alloc (.cells #[.int .i64 0, .int .i64 0, .int .i64 0, .int .i64 0] 28))
  have X6 := Lib.hid (Bk.new (w.alloc (.cells #[.slice A n c, .slice B k d, .int .i64 til] 26)) #[.int .i64 0, .int .i64 0, .int .i64 0, .int .i64 0] 28)
  simp only [World.size_alloc] at X6
  have hs1 := Lib.hid (show w.heap.size + 1 + 1 = ((w.alloc (.cells #[.slice A n c, .slice B k d, .int .i64 til] 26)).alloc (.cells #[.int .i64 0, .int .i64 0, .int .i64 0, .int .i64 0] 28)).heap.size by simp)
  obtain ⟨q19, h19⟩ : ∃ q, IntKind.i64.wrap (til + 2) = q := ⟨_, rfl⟩
  have v19 : q19 = til + 2 := h19.symm.trans (IntWalk.i64_in _ (by omega))
  obtain ⟨q20, h20⟩ : ∃ q, (if q19 > 1 then q19 else 1) = q := ⟨_, rfl⟩
  have hq20 : I64 q20 := by rw [← h20]; split <;> exact ⟨by omega, by omega⟩
  have V19 := Lib.hid v19
  clear v19
  clear hR hnum
  go_enter Try.func34, Try.ntmps34
  go_wp2_with fail
  generalize (w.alloc (.cells #[.slice A n c, .slice B k d, .int .i64 til] 26)).alloc (.cells #[.int .i64 0, .int .i64 0, .int .i64 0, .int .i64 0] 28) = W0 at *
  generalize hb6 : w.heap.size + 1 = b6 at *
  generalize hb4 : w.heap.size = b4 at *
  have nb4 := Lib.hid (show b4 ≠ g by omega)
  have nb6 := Lib.hid (show b6 ≠ g by omega)
  have HG := Lib.hid (show Left g (N + 16) W0 16 W0.drew from ⟨⟨N, Nat.le_refl _, RR.out.up (Up.refl _).drew⟩, (Up.refl _).drew.mv g⟩)
  refine region_relyT 16 [] [(16, false)] [8, 9, 10, 11, 12, 13, 14, 15, 16, 17, 18, 19, 20, 21, 22, 7] 16 (Left g (N + 16) W0) (Mv g) (fun i v w => mrkR g b4 W0.heap.size n til q19 q20 i v w) (by kernel_rfl) (by kernel_rfl) (by kernel_rfl) (by kernel_rfl) HG.out (fun slot_ _ _ _ h u => mrkR_mv g b4 W0.heap.size n til q19 q20 slot_ h u) ?_ ?_ ?_
  · simp only [List.take_succ_cons, List.take_zero]
    refine stepsT_op (by kernel_rfl) ?_ ?_
    · intro X w1 k1 hG hdep
      simp only [opW_def, mixT]
      go_simp
      exact ⟨⟨.pointer (some ⟨g, 0, none⟩), by first | rfl | simp [Act.put], Mv.refl _ _, hG.less, (show mrkR g b4 W0.heap.size n til q19 q20 8 _ _ from by first | (rw [mrkR_8]; exact rfl) | rw [mrkR_8])⟩⟩
    refine stepsT_op (by kernel_rfl) ?_ ?_
    · intro X w1 k1 hG hdep
      have e8 : mrkR g b4 W0.heap.size n til q19 q20 8 (X 8) w1 := hdep 8 (by decide +kernel)
      rw [mrkR_8] at e8
      simp only [opW_def, mixT, e8]
      go_simp
      refine (Left.pickI hG (by omega) 4 ⟨by omega, by omega⟩).mono ?_
      rintro x w2 ⟨z, rfl, hz, m9, hl⟩
      exact ⟨⟨.int .i64 z, by first | rfl | simp [Act.put], m9, hl, (show mrkR g b4 W0.heap.size n til q19 q20 9 _ _ from by first | (rw [mrkR_9]; exact ⟨z, rfl⟩) | rw [mrkR_9])⟩⟩
    refine stepsT_op (by kernel_rfl) ?_ ?_
    · intro X w1 k1 hG hdep
      simp only [opW_def, mixT]
      go_simp
      exact ⟨⟨.pointer (some ⟨g, 0, none⟩), by first | rfl | simp [Act.put], Mv.refl _ _, hG.less, (show mrkR g b4 W0.heap.size n til q19 q20 10 _ _ from by first | (rw [mrkR_10]; exact rfl) | rw [mrkR_10])⟩⟩
    refine stepsT_op (by kernel_rfl) ?_ ?_
    · intro X w1 k1 hG hdep
      have e10 : mrkR g b4 W0.heap.size n til q19 q20 10 (X 10) w1 := hdep 10 (by decide +kernel)
      rw [mrkR_10] at e10
      simp only [opW_def, mixT, e10]
      go_simp
      refine (Left.pickI hG (by omega) 5 ⟨by omega, by omega⟩).mono ?_
      rintro x w2 ⟨z, rfl, hz, m9, hl⟩
      exact ⟨⟨.int .i64 z, by first | rfl | simp [Act.put], m9, hl, (show mrkR g b4 W0.heap.size n til q19 q20 11 _ _ from by first | (rw [mrkR_11]; exact ⟨z, rfl⟩) | rw [mrkR_11])⟩⟩
    refine stepsT_op (by kernel_rfl) ?_ ?_
    · intro X w1 k1 hG hdep
      have e11 : mrkR g b4 W0.heap.size n til q19 q20 11 (X 11) w1 := hdep 11 (by decide +kernel)
      rw [mrkR_11] at e11
      obtain ⟨z11, e11⟩ := e11
      simp only [opW_def, mixT, e11]
      go_simp
      exact ⟨⟨_, by first | rfl | simp [Act.put], Mv.refl _ _, hG.less, (show mrkR g b4 W0.heap.size n til q19 q20 12 _ _ from by first | (rw [mrkR_12]; exact ⟨_, rfl⟩) | rw [mrkR_12])⟩⟩
    refine stepsT_op (by kernel_rfl) ?_ ?_
    · intro X w1 k1 hG hdep
      simp only [opW_def, mixT]
      go_simp
      exact ⟨⟨.pointer (some ⟨g, 0, none⟩), by first | rfl | simp [Act.put], Mv.refl _ _, hG.less, (show mrkR g b4 W0.heap.size n til q19 q20 13 _ _ from by first | (rw [mrkR_13]; exact rfl) | rw [mrkR_13])⟩⟩
    refine stepsT_op (by kernel_rfl) ?_ ?_
    · intro X w1 k1 hG hdep
      have e13 : mrkR g b4 W0.heap.size n til q19 q20 13 (X 13) w1 := hdep 13 (by decide +kernel)
      rw [mrkR_13] at e13
      simp only [opW_def, mixT, e13]
      go_simp
      refine (Left.pickI hG (by omega) 5 ⟨by omega, by omega⟩).mono ?_
      rintro x w2 ⟨z, rfl, hz, m9, hl⟩
      exact ⟨⟨.int .i64 z, by first | rfl | simp [Act.put], m9, hl, (show mrkR g b4 W0.heap.size n til q19 q20 14 _ _ from by first | (rw [mrkR_14]; exact ⟨z, rfl⟩) | rw [mrkR_14])⟩⟩
    refine stepsT_op (by kernel_rfl) ?_ ?_
    · intro X w1 k1 hG hdep
      have e14 : mrkR g b4 W0.heap.size n til q19 q20 14 (X 14) w1 := hdep 14 (by decide +kernel)
      rw [mrkR_14] at e14
      obtain ⟨z14, e14⟩ := e14
      simp only [opW_def, mixT, e14]
      go_simp
      exact ⟨⟨_, by first | rfl | simp [Act.put], Mv.refl _ _, hG.less, (show mrkR g b4 W0.heap.size n til q19 q20 15 _ _ from by first | (rw [mrkR_15]; exact ⟨_, rfl⟩) | rw [mrkR_15])⟩⟩
    refine stepsT_op (by kernel_rfl) ?_ ?_
    · intro X w1 k1 hG hdep
      simp only [opW_def, mixT]
      go_simp
      exact ⟨⟨.pointer (some ⟨g, 0, none⟩), by first | rfl | simp [Act.put], Mv.refl _ _, hG.less, (show mrkR g b4 W0.heap.size n til q19 q20 16 _ _ from by first | (rw [mrkR_16]; exact rfl) | rw [mrkR_16])⟩⟩
    refine stepsT_op (by kernel_rfl) ?_ ?_
    · intro X w1 k1 hG hdep
      have lp := (X4.out.mv hG.2 nb4.out).lt
      simp only [opW_def, mixT]
      go_simp
      exact ⟨⟨.pointer (some ⟨b4, 2, none⟩), by first | rfl | simp [Act.put], Mv.refl _ _, hG.less, (show mrkR g b4 W0.heap.size n til q19 q20 17 _ _ from by first | (rw [mrkR_17]; exact rfl) | rw [mrkR_17])⟩⟩
    refine stepsT_op (by kernel_rfl) ?_ ?_
    · intro X w1 k1 hG hdep
      have e17 : mrkR g b4 W0.heap.size n til q19 q20 17 (X 17) w1 := hdep 17 (by decide +kernel)
      rw [mrkR_17] at e17
      have p2 := (X4.out.mv hG.2 nb4.out).cell (j := 2) rfl
      have lp := (X4.out.mv hG.2 nb4.out).lt
      simp only [opW_def, mixT, e17]
      go_simp
      exact ⟨⟨.int .i64 til, by first | rfl | simp [Act.put], Mv.refl _ _, hG.less, (show mrkR g b4 W0.heap.size n til q19 q20 18 _ _ from by first | (rw [mrkR_18]; exact rfl) | rw [mrkR_18])⟩⟩
    refine stepsT_op (by kernel_rfl) ?_ ?_
    · intro X w1 k1 hG hdep
      have e18 : mrkR g b4 W0.heap.size n til q19 q20 18 (X 18) w1 := hdep 18 (by decide +kernel)
      rw [mrkR_18] at e18
      simp only [opW_def, mixT, e18]
      go_simp
      exact ⟨⟨.int .i64 q19, by first | rfl | simp [Act.put], Mv.refl _ _, hG.less, (show mrkR g b4 W0.heap.size n til q19 q20 19 _ _ from by first | (rw [mrkR_19]; exact rfl) | rw [mrkR_19])⟩⟩
    refine stepsT_op (by kernel_rfl) ?_ ?_
    · intro X w1 k1 hG hdep
      have e19 : mrkR g b4 W0.heap.size n til q19 q20 19 (X 19) w1 := hdep 19 (by decide +kernel)
      rw [mrkR_19] at e19
      simp only [opW_def, mixT, e19]
      go_simp
      exact ⟨⟨.int .i64 q20, by first | rfl | simp [Act.put], Mv.refl _ _, hG.less, (show mrkR g b4 W0.heap.size n til q19 q20 20 _ _ from by first | (rw [mrkR_20]; exact rfl) | rw [mrkR_20])⟩⟩
    refine stepsT_op (by kernel_rfl) ?_ ?_
    · intro X w1 k1 hG hdep
      have e16 : mrkR g b4 W0.heap.size n til q19 q20 16 (X 16) w1 := hdep 16 (by decide +kernel)
      rw [mrkR_16] at e16
      have e20 : mrkR g b4 W0.heap.size n til q19 q20 20 (X 20) w1 := hdep 20 (by decide +kernel)
      rw [mrkR_20] at e20
      simp only [opW_def, mixT, e16, e20]
      go_simp
      refine (Left.pickI hG (by omega) q20 hq20).mono ?_
      rintro x w2 ⟨z, rfl, hz, m9, hl⟩
      exact ⟨⟨.int .i64 z, by first | rfl | simp [Act.put], m9, hl, (show mrkR g b4 W0.heap.size n til q19 q20 21 _ _ from by first | (rw [mrkR_21]; exact ⟨z, rfl⟩) | rw [mrkR_21])⟩⟩
    refine stepsT_op (by kernel_rfl) ?_ ?_
    · intro X w1 k1 hG hdep
      have e9 : mrkR g b4 W0.heap.size n til q19 q20 9 (X 9) w1 := hdep 9 (by decide +kernel)
      rw [mrkR_9] at e9
      obtain ⟨z9, e9⟩ := e9
      have e12 : mrkR g b4 W0.heap.size n til q19 q20 12 (X 12) w1 := hdep 12 (by decide +kernel)
      rw [mrkR_12] at e12
      obtain ⟨z12, e12⟩ := e12
      have e15 : mrkR g b4 W0.heap.size n til q19 q20 15 (X 15) w1 := hdep 15 (by decide +kernel)
      rw [mrkR_15] at e15
      obtain ⟨z15, e15⟩ := e15
      have e21 : mrkR g b4 W0.heap.size n til q19 q20 21 (X 21) w1 := hdep 21 (by decide +kernel)
      rw [mrkR_21] at e21
      obtain ⟨z21, e21⟩ := e21
      simp only [opW_def, mixT, e9, e12, e15, e21]
      go_simp
      exact ⟨⟨_, by first | rfl | simp [Act.put], Mv.refl _ _, hG.less, (show mrkR g b4 W0.heap.size n til q19 q20 22 _ _ from by first | (rw [mrkR_22]; exact ⟨_, _, _, _, rfl⟩) | rw [mrkR_22])⟩⟩
    refine stepsT_op (by kernel_rfl) ?_ ?_
    · intro X w1 k1 hG hdep
      have hg := hG.lt
      have hlo := hG.base
      simp only [opW_def, mixT]
      go_simp
      exact ⟨⟨_, by first | rfl | simp [Act.put], (Mv.refl _ _).alloc _, hG.mv ((Up.refl _).alloc _), (show mrkR g b4 W0.heap.size n til q19 q20 7 _ _ from by first | (rw [mrkR_7]; exact IsNewN.new w1 _ _ rfl hg hlo) | rw [mrkR_7])⟩⟩
    exact trivial
  · intro h p _ hp
    cases hp
  · intro X w1 hG hR
    have e22 : mrkR g b4 W0.heap.size n til q19 q20 22 (X 22) w1 := hR 14 (by omega)
    rw [mrkR_22] at e22
    obtain ⟨q0, q1, q2, q3, e22⟩ := e22
    have e7 : mrkR g b4 W0.heap.size n til q19 q20 7 (X 7) w1 := hR 15 (by omega)
    rw [mrkR_7] at e7
    obtain ⟨b7, xs, e7, h7g, h7b, h7, h7s⟩ := e7
    obtain ⟨x0, x1, x2, x3, rfl⟩ := arr_four h7s
    have B7 : Bk w1 b7 _ := ⟨_, h7⟩
    obtain ⟨⟨N1, hN1, rd1⟩, mv1⟩ := hG
    have n67 : b6 ≠ b7 := by have := hs1.out; omega
    have n47 : b4 ≠ b7 := by have := hs1.out; omega
    have h7w : b4 ≤ b7 := by have := hs1.out; omega
    have X7 := Lib.hid (putG_bk B7 q0 q1 q2 q3)
    replace X6 := Lib.hid (putG_far (X6.out.mv mv1 nb6.out) n67 q0 q1 q2 q3)
    replace X4 := Lib.hid (putG_far (X4.out.mv mv1 nb4.out) n47 q0 q1 q2 q3)
    replace RR := Lib.hid (putG_rd (b := b7) rd1 (by have := hs1.out; omega) q0 q1 q2 q3)
    replace MM := Lib.hid (putG_mv (b := b7) (MM.out.trans mv1) (by have := hs1.out; omega) q0 q1 q2 q3)
    unfold putG at X7 X6 X4 RR MM
    have c0 := B7.cell (j := 0) rfl
    have c1 := B7.cell (j := 1) rfl
    have c2 := B7.cell (j := 2) rfl
    have c3 := B7.cell (j := 3) rfl
    have f7 := fun j => B7.frozen j
    have l7 := B7.lt
    clear hR B7 h7 mv1 rd1 HG
    simp only [mixT, e22, e7]
    refine mix_go rfl (by rfl) (fun K hK => ?_)
    go_simp
    refine hK _ _ ?_
    clear hK K
    refine mix_nil ?_
    clear c0 c1 c2 c3 f7 l7 e22 e7
    generalize (((w1.setCell ⟨b7, 0, none⟩ (.int .i64 q0)).setCell ⟨b7, 1, none⟩ (.int .i64 q1)).setCell ⟨b7, 2, none⟩ (.int .i64 q2)).setCell ⟨b7, 3, none⟩ (.int .i64 q3) = W1 at *
    have n7g := Lib.hid h7g
    have h7g2 : g < b7 := by omega
    clear h7g
    go_wp2_with fail
    refine (odd_any g N1 num _ HN.out (by omega) RR.out).mono ?_
    rintro x w5 ⟨bb, rfl, r5, m5⟩
    replace X4 := Lib.hid (X4.out.mv m5 nb4.out)
    replace X6 := Lib.hid (X6.out.mv m5 nb6.out)
    replace X7 := Lib.hid (X7.out.mv m5 n7g.out)
    replace RR := Lib.hid r5
    replace MM := Lib.hid (MM.out.trans m5)
    clear r5 m5
    cases bb
    · have K6 := Lib.hid (putG_bk X6.out (q0) (q1) (q2) (q3))
      have RE := Lib.hid (putG_rd RR.out (show g < b6 by omega) (q0) (q1) (q2) (q3))
      have ME := Lib.hid (putG_mv (b := b6) MM.out (by omega) (q0) (q1) (q2) (q3))
      unfold putG at K6 RE ME
      have c0 := X7.out.cell (j := 0) rfl
      have c1 := X7.out.cell (j := 1) rfl
      have c2 := X7.out.cell (j := 2) rfl
      have c3 := X7.out.cell (j := 3) rfl
      have y0 := X6.out.cell (j := 0) rfl
      have y1 := X6.out.cell (j := 1) rfl
      have y2 := X6.out.cell (j := 2) rfl
      have y3 := X6.out.cell (j := 3) rfl
      have f6 := fun j => X6.out.frozen j
      have l7 := X7.out.lt
      have l6 := X6.out.lt
      go_wp2
      have k0 := K6.out.cell (j := 0) rfl
      have k1 := K6.out.cell (j := 1) rfl
      have k2 := K6.out.cell (j := 2) rfl
      have k3 := K6.out.cell (j := 3) rfl
      exact bodyPost_ret (v := .agg #[.int .i64 q0, .int .i64 q1, .int .i64 q2, .int .i64 q3]) (by simp [results, Try.results34, go_sem, k0, k1, k2, k3]) rfl ⟨⟨q0, q1, q2, q3⟩, rfl, RE.out.mono (by omega), ME.out⟩

    · go_wp2_with fail
      refine (pick_any g (N1 + 1) 3 _ ⟨by omega, by omega⟩ (by omega) RR.out).mono ?_
      intro x w6 pk
      obtain ⟨v6, rfl, a6, b6', c6', r6, m6⟩ := pk.cases (by omega)
      replace X4 := Lib.hid (X4.out.mv m6 nb4.out)
      replace X6 := Lib.hid (X6.out.mv m6 nb6.out)
      replace X7 := Lib.hid (X7.out.mv m6 n7g.out)
      replace RR := Lib.hid r6
      replace MM := Lib.hid (MM.out.trans m6)
      clear pk r6 m6 c6'
      by_cases jv0 : v6 = 0
      · subst jv0
        go_wp2_with fail
        refine (pick_any g (N1 + 2) 2 _ ⟨by omega, by omega⟩ (by omega) (RR.out.alloc _)).mono ?_
        intro x w8 pk
        obtain ⟨v7, rfl, a7, b7', c7', r7, m7⟩ := pk.cases (by omega)
        obtain ⟨v8, hv8, hl8⟩ := two_num m7 (show g < w6.heap.size by have := X7.out.lt; omega) a7 (by omega)
        have l8 : v7 < 2 := by omega
        replace X4 := Lib.hid ((X4.out.alloc (.cells #[.int .i64 (-1), .int .i64 (1000)] 3)).mv m7 nb4.out)
        replace X6 := Lib.hid ((X6.out.alloc (.cells #[.int .i64 (-1), .int .i64 (1000)] 3)).mv m7 nb6.out)
        replace X7 := Lib.hid ((X7.out.alloc (.cells #[.int .i64 (-1), .int .i64 (1000)] 3)).mv m7 n7g.out)
        replace RR := Lib.hid r7
        replace MM := Lib.hid ((MM.out.alloc _).trans m7)
        have hw8 : w6.heap.size < w8.heap.size := by have := m7.size; simp at this; omega
        clear pk r7 m7 c7' hv8
        have c0 := X7.out.cell (j := 0) rfl
        have c1 := X7.out.cell (j := 1) rfl
        have c2 := X7.out.cell (j := 2) rfl
        have c3 := X7.out.cell (j := 3) rfl
        have f7 := fun j => X7.out.frozen j
        have l7 := X7.out.lt

        have hs8 := hl8
        have X6s := bk_far _ (o := 0) (.int .i64 v8) X6.out n67
        have RRs := Lib.hid (RR.out.setCell (p := ⟨b7, 0, none⟩) h7g2 (.int .i64 v8))
        have MMs := Lib.hid (MM.out.setNew (p := ⟨b7, 0, none⟩) (show w.heap.size ≤ b7 by omega) (.int .i64 v8))
        have X6s := Lib.hid X6s

        have K6 := Lib.hid (putG_bk X6s.out (v8) (q1) (q2) (q3))
        have RE := Lib.hid (putG_rd RRs.out (show g < b6 by omega) (v8) (q1) (q2) (q3))
        have ME := Lib.hid (putG_mv (b := b6) MMs.out (by omega) (v8) (q1) (q2) (q3))
        unfold putG at K6 RE ME
        have y0 := X6.out.cell (j := 0) rfl
        have y1 := X6.out.cell (j := 1) rfl
        have y2 := X6.out.cell (j := 2) rfl
        have y3 := X6.out.cell (j := 3) rfl
        have f6 := fun j => X6.out.frozen j
        have l6 := X6.out.lt
        go_wp2
        have k0 := K6.out.cell (j := 0) rfl
        have k1 := K6.out.cell (j := 1) rfl
        have k2 := K6.out.cell (j := 2) rfl
        have k3 := K6.out.cell (j := 3) rfl
        exact bodyPost_ret (v := .agg #[.int .i64 v8, .int .i64 q1, .int .i64 q2, .int .i64 q3]) (by simp [results, Try.results34, go_sem, k0, k1, k2, k3]) rfl ⟨⟨v8, q1, q2, q3⟩, rfl, RE.out.mono (by omega), ME.out⟩

      · have jn0 : ((v6 : Int) == 0) = false := by simp; omega
        by_cases jv1 : v6 = 1
        · subst jv1
          go_wp2_with fail
          refine (pick_any g (N1 + 2) 2 _ ⟨by omega, by omega⟩ (by omega) (RR.out.alloc _)).mono ?_
          intro x w8 pk
          obtain ⟨v7, rfl, a7, b7', c7', r7, m7⟩ := pk.cases (by omega)
          obtain ⟨v8, hv8, hl8⟩ := two_num m7 (show g < w6.heap.size by have := X7.out.lt; omega) a7 (by omega)
          have l8 : v7 < 2 := by omega
          replace X4 := Lib.hid ((X4.out.alloc (.cells #[.int .i64 (-10000), .int .i64 (10000)] 3)).mv m7 nb4.out)
          replace X6 := Lib.hid ((X6.out.alloc (.cells #[.int .i64 (-10000), .int .i64 (10000)] 3)).mv m7 nb6.out)
          replace X7 := Lib.hid ((X7.out.alloc (.cells #[.int .i64 (-10000), .int .i64 (10000)] 3)).mv m7 n7g.out)
          replace RR := Lib.hid r7
          replace MM := Lib.hid ((MM.out.alloc _).trans m7)
          have hw8 : w6.heap.size < w8.heap.size := by have := m7.size; simp at this; omega
          clear pk r7 m7 c7' hv8
          have c0 := X7.out.cell (j := 0) rfl
          have c1 := X7.out.cell (j := 1) rfl
          have c2 := X7.out.cell (j := 2) rfl
          have c3 := X7.out.cell (j := 3) rfl
          have f7 := fun j => X7.out.frozen j
          have l7 := X7.out.lt

          have hs8 := hl8
          have X6s := bk_far _ (o := 1) (.int .i64 v8) X6.out n67
          have RRs := Lib.hid (RR.out.setCell (p := ⟨b7, 1, none⟩) h7g2 (.int .i64 v8))
          have MMs := Lib.hid (MM.out.setNew (p := ⟨b7, 1, none⟩) (show w.heap.size ≤ b7 by omega) (.int .i64 v8))
          have X6s := Lib.hid X6s

          have K6 := Lib.hid (putG_bk X6s.out (q0) (v8) (q2) (q3))
          have RE := Lib.hid (putG_rd RRs.out (show g < b6 by omega) (q0) (v8) (q2) (q3))
          have ME := Lib.hid (putG_mv (b := b6) MMs.out (by omega) (q0) (v8) (q2) (q3))
          unfold putG at K6 RE ME
          have y0 := X6.out.cell (j := 0) rfl
          have y1 := X6.out.cell (j := 1) rfl
          have y2 := X6.out.cell (j := 2) rfl
          have y3 := X6.out.cell (j := 3) rfl
          have f6 := fun j => X6.out.frozen j
          have l6 := X6.out.lt
          go_wp2
          have k0 := K6.out.cell (j := 0) rfl
          have k1 := K6.out.cell (j := 1) rfl
          have k2 := K6.out.cell (j := 2) rfl
          have k3 := K6.out.cell (j := 3) rfl
          exact bodyPost_ret (v := .agg #[.int .i64 q0, .int .i64 v8, .int .i64 q2, .int .i64 q3]) (by simp [results, Try.results34, go_sem, k0, k1, k2, k3]) rfl ⟨⟨q0, v8, q2, q3⟩, rfl, RE.out.mono (by omega), ME.out⟩

        · have jn1 : ((v6 : Int) == 1) = false := by simp; omega
          go_wp2_with fail
          have HG := Lib.hid (show Left g (N1 + 2 + 9) w6 9 w6.drew from ⟨⟨N1 + 2, Nat.le_refl _, RR.out.up (Up.refl _).drew⟩, (Up.refl _).drew.mv g⟩)
          have hlo7 := X7.out.lt
          refine region_relyT 9 [] [(9, false)] [28, 29, 30, 31, 32, 33, 34, 35, 36] 9 (Left g (N1 + 2 + 9) w6) (Mv g) (fun i v w => mrkF g b4 w6.heap.size b7 n til q19 q20 i v w) (by kernel_rfl) (by kernel_rfl) (by kernel_rfl) (by kernel_rfl) HG.out (fun slot_ _ _ _ h u => mrkF_mv g b4 w6.heap.size b7 n til q19 q20 slot_ h u) ?_ ?_ ?_
          · simp only [List.take_succ_cons, List.take_zero]
            refine stepsT_op (by kernel_rfl) ?_ ?_
            · intro X w1 k1 hG hdep
              have lp := (X4.out.mv hG.2 nb4.out).lt
              simp only [opW_def, mixT]
              go_simp
              exact ⟨⟨.pointer (some ⟨b4, 2, none⟩), by first | rfl | simp [Act.put], Mv.refl _ _, hG.less, (show mrkF g b4 w6.heap.size b7 n til q19 q20 28 _ _ from by first | (rw [mrkF_28]; exact rfl) | rw [mrkF_28])⟩⟩
            refine stepsT_op (by kernel_rfl) ?_ ?_
            · intro X w1 k1 hG hdep
              have e28 : mrkF g b4 w6.heap.size b7 n til q19 q20 28 (X 28) w1 := hdep 28 (by decide +kernel)
              rw [mrkF_28] at e28
              have p2 := (X4.out.mv hG.2 nb4.out).cell (j := 2) rfl
              have lp := (X4.out.mv hG.2 nb4.out).lt
              simp only [opW_def, mixT, e28]
              go_simp
              exact ⟨⟨.int .i64 til, by first | rfl | simp [Act.put], Mv.refl _ _, hG.less, (show mrkF g b4 w6.heap.size b7 n til q19 q20 29 _ _ from by first | (rw [mrkF_29]; exact rfl) | rw [mrkF_29])⟩⟩
            refine stepsT_op (by kernel_rfl) ?_ ?_
            · intro X w1 k1 hG hdep
              have e29 : mrkF g b4 w6.heap.size b7 n til q19 q20 29 (X 29) w1 := hdep 29 (by decide +kernel)
              rw [mrkF_29] at e29
              simp only [opW_def, mixT, e29]
              go_simp
              exact ⟨⟨.int .i64 q19, by first | rfl | simp [Act.put], Mv.refl _ _, hG.less, (show mrkF g b4 w6.heap.size b7 n til q19 q20 30 _ _ from by first | (rw [mrkF_30]; exact rfl) | rw [mrkF_30])⟩⟩
            refine stepsT_op (by kernel_rfl) ?_ ?_
            · intro X w1 k1 hG hdep
              have e30 : mrkF g b4 w6.heap.size b7 n til q19 q20 30 (X 30) w1 := hdep 30 (by decide +kernel)
              rw [mrkF_30] at e30
              have hg := hG.lt
              have hlo := hG.base
              simp only [opW_def, mixT, e30]
              go_simp
              exact ⟨⟨.slice (some ⟨w1.heap.size, 0, none⟩) 2 2, by first | rfl | simp [Act.put], (Mv.refl _ _).alloc _, hG.mv ((Up.refl _).alloc _), (show mrkF g b4 w6.heap.size b7 n til q19 q20 31 _ _ from by first | (rw [mrkF_31]; exact IsTwo.new w1 (-1) (q19) _ hg hlo (by omega) (by have := V19.out; omega)) | rw [mrkF_31])⟩⟩
            refine stepsT_op (by kernel_rfl) ?_ ?_
            · intro X w1 k1 hG hdep
              simp only [opW_def, mixT]
              go_simp
              exact ⟨⟨.pointer (some ⟨g, 0, none⟩), by first | rfl | simp [Act.put], Mv.refl _ _, hG.less, (show mrkF g b4 w6.heap.size b7 n til q19 q20 32 _ _ from by first | (rw [mrkF_32]; exact rfl) | rw [mrkF_32])⟩⟩
            refine stepsT_op (by kernel_rfl) ?_ ?_
            · intro X w1 k1 hG hdep
              have e32 : mrkF g b4 w6.heap.size b7 n til q19 q20 32 (X 32) w1 := hdep 32 (by decide +kernel)
              rw [mrkF_32] at e32
              simp only [opW_def, mixT, e32]
              go_simp
              refine (Left.pick hG (by omega) 2 (by omega) (by omega)).mono ?_
              rintro x w2 ⟨z, rfl, hz, m9, hl⟩
              exact ⟨⟨.int .i64 z, by first | rfl | simp [Act.put], m9, hl, (show mrkF g b4 w6.heap.size b7 n til q19 q20 33 _ _ from by first | (rw [mrkF_33]; exact ⟨z, rfl, by omega, by omega⟩) | rw [mrkF_33])⟩⟩
            refine stepsT_op (by kernel_rfl) ?_ ?_
            · intro X w1 k1 hG hdep
              have e31 : mrkF g b4 w6.heap.size b7 n til q19 q20 31 (X 31) w1 := hdep 31 (by decide +kernel)
              rw [mrkF_31] at e31
              obtain ⟨b, x, y, e31, h1, h2, h3, h4, h5, h6, h7⟩ := e31
              have e33 : mrkF g b4 w6.heap.size b7 n til q19 q20 33 (X 33) w1 := hdep 33 (by decide +kernel)
              rw [mrkF_33] at e33
              obtain ⟨z33, e33, h33⟩ := e33
              have h34 : z33 = 0 ∨ z33 = 1 := by omega
              rcases h34 with rfl | rfl
              · simp only [opW_def, mixT, e31, e33]
                go_simp
                exact ⟨⟨.pointer (some ⟨b, 0, none⟩), by first | rfl | simp [Act.put], Mv.refl _ _, hG.less, (show mrkF g b4 w6.heap.size b7 n til q19 q20 34 _ _ from by rw [mrkF_34]; exact ⟨b, 0, x, rfl, h1, h3, h4, h6.1, h6.2⟩)⟩⟩
              · simp only [opW_def, mixT, e31, e33]
                go_simp
                exact ⟨⟨.pointer (some ⟨b, 1, none⟩), by first | rfl | simp [Act.put], Mv.refl _ _, hG.less, (show mrkF g b4 w6.heap.size b7 n til q19 q20 34 _ _ from by rw [mrkF_34]; exact ⟨b, 1, y, rfl, h1, h3, h5, h7.1, h7.2⟩)⟩⟩
            refine stepsT_op (by kernel_rfl) ?_ ?_
            · intro X w1 k1 hG hdep
              have e34 : mrkF g b4 w6.heap.size b7 n til q19 q20 34 (X 34) w1 := hdep 34 (by decide +kernel)
              rw [mrkF_34] at e34
              obtain ⟨b, j, x, e34, h1, h2, h3, h4, h5⟩ := e34
              simp only [opW_def, mixT, e34]
              go_simp
              exact ⟨⟨.int .i64 x, by first | rfl | simp [Act.put], Mv.refl _ _, hG.less, (show mrkF g b4 w6.heap.size b7 n til q19 q20 35 _ _ from by first | (rw [mrkF_35]; exact ⟨x, rfl⟩) | rw [mrkF_35])⟩⟩
            refine stepsT_op (by kernel_rfl) ?_ ?_
            · intro X w1 k1 hG hdep
              have lp := (X7.out.mv hG.2 n7g.out).lt
              simp only [opW_def, mixT]
              go_simp
              exact ⟨⟨.pointer (some ⟨b7, 3, none⟩), by first | rfl | simp [Act.put], Mv.refl _ _, hG.less, (show mrkF g b4 w6.heap.size b7 n til q19 q20 36 _ _ from by first | (rw [mrkF_36]; exact rfl) | rw [mrkF_36])⟩⟩
            exact trivial
          · intro h p _ hp
            cases hp
          · intro X w8 hG hR
            have e35 : mrkF g b4 w6.heap.size b7 n til q19 q20 35 (X 35) w8 := hR 7 (by omega)
            rw [mrkF_35] at e35
            obtain ⟨v8, e35⟩ := e35
            have e36 : mrkF g b4 w6.heap.size b7 n til q19 q20 36 (X 36) w8 := hR 8 (by omega)
            rw [mrkF_36] at e36
            obtain ⟨⟨N2, hN2, rd2⟩, mv2⟩ := hG
            replace X4 := Lib.hid (X4.out.mv mv2 nb4.out)
            replace X6 := Lib.hid (X6.out.mv mv2 nb6.out)
            replace X7 := Lib.hid (X7.out.mv mv2 n7g.out)
            replace RR := Lib.hid rd2
            replace MM := Lib.hid (MM.out.trans mv2)
            clear hR HG rd2 mv2 hlo7
            have c0 := X7.out.cell (j := 0) rfl
            have c1 := X7.out.cell (j := 1) rfl
            have c2 := X7.out.cell (j := 2) rfl
            have c3 := X7.out.cell (j := 3) rfl
            have f7 := fun j => X7.out.frozen j
            have l7 := X7.out.lt
            simp only [mixT, e35, e36]
            refine mix_go rfl (by rfl) (fun K hK => ?_)
            go_simp
            refine hK _ _ ?_
            clear hK K
            refine mix_nil ?_
            clear c0 c1 c2 c3 f7 l7 e35 e36

            replace X7 := Lib.hid (bk_setC _ _ 3 (.int .i64 v8) X7.out)
            replace X6 := Lib.hid (bk_far _ (o := 3) (.int .i64 v8) X6.out n67)
            replace X4 := Lib.hid (bk_far _ (o := 3) (.int .i64 v8) X4.out n47)
            replace RR := Lib.hid (RR.out.setCell (p := ⟨b7, 3, none⟩) h7g2 (.int .i64 v8))
            replace MM := Lib.hid (MM.out.setNew (p := ⟨b7, 3, none⟩) (show w.heap.size ≤ b7 by omega) (.int .i64 v8))

            generalize w8.setCell ⟨b7, 3, none⟩ (.int .i64 v8) = W8 at *
            have K6 := Lib.hid (putG_bk X6.out (q0) (q1) (q2) (v8))
            have RE := Lib.hid (putG_rd RR.out (show g < b6 by omega) (q0) (q1) (q2) (v8))
            have ME := Lib.hid (putG_mv (b := b6) MM.out (by omega) (q0) (q1) (q2) (v8))
            unfold putG at K6 RE ME
            have c0 := X7.out.cell (j := 0) rfl
            have c1 := X7.out.cell (j := 1) rfl
            have c2 := X7.out.cell (j := 2) rfl
            have c3 := X7.out.cell (j := 3) rfl
            have y0 := X6.out.cell (j := 0) rfl
            have y1 := X6.out.cell (j := 1) rfl
            have y2 := X6.out.cell (j := 2) rfl
            have y3 := X6.out.cell (j := 3) rfl
            have f6 := fun j => X6.out.frozen j
            have l7 := X7.out.lt
            have l6 := X6.out.lt
            go_wp2
            have k0 := K6.out.cell (j := 0) rfl
            have k1 := K6.out.cell (j := 1) rfl
            have k2 := K6.out.cell (j := 2) rfl
            have k3 := K6.out.cell (j := 3) rfl
            exact bodyPost_ret (v := .agg #[.int .i64 q0, .int .i64 q1, .int .i64 q2, .int .i64 v8]) (by simp [results, Try.results34, go_sem, k0, k1, k2, k3]) rfl ⟨⟨q0, q1, q2, v8⟩, rfl, RE.out.mono (by omega), ME.out⟩


end Go.Proofs.Ytojnphchkdjafaa

namespace Go.Proofs.Ytojnphchkdjafaa
set_option maxRecDepth 100000
open Go.RowKit
set_option linter.unusedVariables false

set_option maxHeartbeats 8000000 in
theorem tok_any (g N : Nat) (A : Option Addr) (n c : Nat) (B : Option Addr) (k d : Nat) (til : Int) (num : Int) (w : World) (hnum : I64 num) (hN : N ≤ 900000) (hn : n ≤ 1000) (ht : -1 ≤ til ∧ til ≤ 100) (hR : Rd w g N) :
    Calls Try.prog 35 #[.pointer (some ⟨g, 0, none⟩), .agg #[.slice A n c, .slice B k d, .int .i64 til], .int .i64 num] w (GkDrawn g (N + 60) w) := by
  have hgw : g < w.heap.size := hR.lt'
  have HN := Lib.hid hnum
  have MM := Lib.hid (((Mv.refl g w).alloc (.cells #[.slice A n c, .slice B k d, .int .i64 til] 26)).alloc (.cells #[.bool false, .int .i64 0, .int .i64 0, .int .i64 0, .int .i64 0] 32))
  have RR := Lib.hid ((hR.alloc (.cells #[.slice A n c, .slice B k d, .int .i64 til] 26)).alloc (.cells #[.bool false, .int .i64 0, .int .i64 0, .int .i64 0, .int .i64 0] 32))
  have X4 := Lib.hid ((Bk.new w #[.slice A n c, .slice B k d, .int .i64 til] 26).alloc (.cells #[.bool false, .int .i64 0, .int .i64 0, .int .i64 0, .int .i64 0] 32))
  have X6 := Lib.hid (Bk.new (w.alloc (.cells #[.slice A n c, .slice B k d, .int .i64 til] 26)) #[.bool false, .int .i64 0, .int .i64 0, .int .i64 0, .int .i64 0] 32)
  simp only [World.size_alloc] at X6
  have hs1 := Lib.hid (show w.heap.size + 1 + 1 = ((w.alloc (.cells #[.slice A n c, .slice B k d, .int .i64 til] 26)).alloc (.cells #[.bool false, .int .i64 0, .int .i64 0, .int .i64 0, .int .i64 0] 32)).heap.size by simp)
  obtain ⟨q25, h25⟩ : ∃ q, IntKind.i64.wrap (til + 2) = q := ⟨_, rfl⟩
  have v25 : q25 = til + 2 := h25.symm.trans (IntWalk.i64_in _ (by omega))
  obtain ⟨q26, h26⟩ : ∃ q, (if q25 > 1 then q25 else 1) = q := ⟨_, rfl⟩
  have hq26 : I64 q26 := by rw [← h26]; split <;> exact ⟨by omega, by omega⟩
  obtain ⟨q17, h17⟩ : ∃ q, (if (n : Int) > 1 then (n : Int) else 1) = q := ⟨_, rfl⟩
  have hq17 : I64 q17 := by rw [← h17]; split <;> exact ⟨by omega, by omega⟩
  have V25 := Lib.hid v25
  clear v25
  clear hR hnum
  go_enter Try.func35, Try.ntmps35
  go_wp2_with fail
  generalize (w.alloc (.cells #[.slice A n c, .slice B k d, .int .i64 til] 26)).alloc (.cells #[.bool false, .int .i64 0, .int .i64 0, .int .i64 0, .int .i64 0] 32) = W0 at *
  generalize hb6 : w.heap.size + 1 = b6 at *
  generalize hb4 : w.heap.size = b4 at *
  have nb4 := Lib.hid (show b4 ≠ g by omega)
  have nb6 := Lib.hid (show b6 ≠ g by omega)
  have HG := Lib.hid (show Left g (N + 22) W0 22 W0.drew from ⟨⟨N, Nat.le_refl _, RR.out.up (Up.refl _).drew⟩, (Up.refl _).drew.mv g⟩)
  refine region_relyT 22 [] [(22, false)] [8, 9, 10, 11, 12, 13, 14, 15, 16, 17, 18, 19, 20, 21, 22, 23, 24, 25, 26, 27, 28, 7] 22 (Left g (N + 22) W0) (Mv g) (fun i v w => tokR g b4 W0.heap.size n til (.slice A n c) q17 q25 q26 i v w) (by kernel_rfl) (by kernel_rfl) (by kernel_rfl) (by kernel_rfl) HG.out (fun slot_ _ _ _ h u => tokR_mv g b4 W0.heap.size n til (.slice A n c) q17 q25 q26 slot_ h u) ?_ ?_ ?_
  · simp only [List.take_succ_cons, List.take_zero]
    refine stepsT_op (by kernel_rfl) ?_ ?_
    · intro X w1 k1 hG hdep
      simp only [opW_def, mixT]
      go_simp
      exact ⟨⟨.pointer (some ⟨g, 0, none⟩), by first | rfl | simp [Act.put], Mv.refl _ _, hG.less, (show tokR g b4 W0.heap.size n til (.slice A n c) q17 q25 q26 8 _ _ from by first | (rw [tokR_8]; exact rfl) | rw [tokR_8])⟩⟩
    refine stepsT_op (by kernel_rfl) ?_ ?_
    · intro X w1 k1 hG hdep
      have e8 : tokR g b4 W0.heap.size n til (.slice A n c) q17 q25 q26 8 (X 8) w1 := hdep 8 (by decide +kernel)
      rw [tokR_8] at e8
      simp only [opW_def, mixT, e8]
      go_simp
      refine (Left.pickI hG (by omega) 5 ⟨by omega, by omega⟩).mono ?_
      rintro x w2 ⟨z, rfl, hz, m9, hl⟩
      exact ⟨⟨.int .i64 z, by first | rfl | simp [Act.put], m9, hl, (show tokR g b4 W0.heap.size n til (.slice A n c) q17 q25 q26 9 _ _ from by first | (rw [tokR_9]; exact ⟨z, rfl⟩) | rw [tokR_9])⟩⟩
    refine stepsT_op (by kernel_rfl) ?_ ?_
    · intro X w1 k1 hG hdep
      have e9 : tokR g b4 W0.heap.size n til (.slice A n c) q17 q25 q26 9 (X 9) w1 := hdep 9 (by decide +kernel)
      rw [tokR_9] at e9
      obtain ⟨z9, e9⟩ := e9
      simp only [opW_def, mixT, e9]
      go_simp
      exact ⟨⟨_, by first | rfl | simp [Act.put], Mv.refl _ _, hG.less, (show tokR g b4 W0.heap.size n til (.slice A n c) q17 q25 q26 10 _ _ from by first | (rw [tokR_10]; exact ⟨_, rfl⟩) | rw [tokR_10])⟩⟩
    refine stepsT_op (by kernel_rfl) ?_ ?_
    · intro X w1 k1 hG hdep
      simp only [opW_def, mixT]
      go_simp
      exact ⟨⟨.pointer (some ⟨g, 0, none⟩), by first | rfl | simp [Act.put], Mv.refl _ _, hG.less, (show tokR g b4 W0.heap.size n til (.slice A n c) q17 q25 q26 11 _ _ from by first | (rw [tokR_11]; exact rfl) | rw [tokR_11])⟩⟩
    refine stepsT_op (by kernel_rfl) ?_ ?_
    · intro X w1 k1 hG hdep
      have e11 : tokR g b4 W0.heap.size n til (.slice A n c) q17 q25 q26 11 (X 11) w1 := hdep 11 (by decide +kernel)
      rw [tokR_11] at e11
      simp only [opW_def, mixT, e11]
      go_simp
      refine (Left.pickI hG (by omega) 5 ⟨by omega, by omega⟩).mono ?_
      rintro x w2 ⟨z, rfl, hz, m9, hl⟩
      exact ⟨⟨.int .i64 z, by first | rfl | simp [Act.put], m9, hl, (show tokR g b4 W0.heap.size n til (.slice A n c) q17 q25 q26 12 _ _ from by first | (rw [tokR_12]; exact ⟨z, rfl⟩) | rw [tokR_12])⟩⟩
    refine stepsT_op (by kernel_rfl) ?_ ?_
    · intro X w1 k1 hG hdep
      simp only [opW_def, mixT]
      go_simp
      exact ⟨⟨.pointer (some ⟨g, 0, none⟩), by first | rfl | simp [Act.put], Mv.refl _ _, hG.less, (show tokR g b4 W0.heap.size n til (.slice A n c) q17 q25 q26 13 _ _ from by first | (rw [tokR_13]; exact rfl) | rw [tokR_13])⟩⟩
    refine stepsT_op (by kernel_rfl) ?_ ?_
    · intro X w1 k1 hG hdep
      have lp := (X4.out.mv hG.2 nb4.out).lt
      simp only [opW_def, mixT]
      go_simp
      exact ⟨⟨.pointer (some ⟨b4, 0, none⟩), by first | rfl | simp [Act.put], Mv.refl _ _, hG.less, (show tokR g b4 W0.heap.size n til (.slice A n c) q17 q25 q26 14 _ _ from by first | (rw [tokR_14]; exact rfl) | rw [tokR_14])⟩⟩
    refine stepsT_op (by kernel_rfl) ?_ ?_
    · intro X w1 k1 hG hdep
      have e14 : tokR g b4 W0.heap.size n til (.slice A n c) q17 q25 q26 14 (X 14) w1 := hdep 14 (by decide +kernel)
      rw [tokR_14] at e14
      have p0 := (X4.out.mv hG.2 nb4.out).cell (j := 0) rfl
      have lp := (X4.out.mv hG.2 nb4.out).lt
      simp only [opW_def, mixT, e14]
      go_simp
      exact ⟨⟨.slice A n c, by first | rfl | simp [Act.put], Mv.refl _ _, hG.less, (show tokR g b4 W0.heap.size n til (.slice A n c) q17 q25 q26 15 _ _ from by first | (rw [tokR_15]; exact rfl) | rw [tokR_15])⟩⟩
    refine stepsT_op (by kernel_rfl) ?_ ?_
    · intro X w1 k1 hG hdep
      have e15 : tokR g b4 W0.heap.size n til (.slice A n c) q17 q25 q26 15 (X 15) w1 := hdep 15 (by decide +kernel)
      rw [tokR_15] at e15
      simp only [opW_def, mixT, e15]
      go_simp
      exact ⟨⟨.int .i64 (n : Int), by first | rfl | simp [Act.put], Mv.refl _ _, hG.less, (show tokR g b4 W0.heap.size n til (.slice A n c) q17 q25 q26 16 _ _ from by first | (rw [tokR_16]; exact rfl) | rw [tokR_16])⟩⟩
    refine stepsT_op (by kernel_rfl) ?_ ?_
    · intro X w1 k1 hG hdep
      have e16 : tokR g b4 W0.heap.size n til (.slice A n c) q17 q25 q26 16 (X 16) w1 := hdep 16 (by decide +kernel)
      rw [tokR_16] at e16
      simp only [opW_def, mixT, e16]
      go_simp
      exact ⟨⟨.int .i64 q17, by first | rfl | simp [Act.put], Mv.refl _ _, hG.less, (show tokR g b4 W0.heap.size n til (.slice A n c) q17 q25 q26 17 _ _ from by first | (rw [tokR_17]; exact rfl) | rw [tokR_17])⟩⟩
    refine stepsT_op (by kernel_rfl) ?_ ?_
    · intro X w1 k1 hG hdep
      have e13 : tokR g b4 W0.heap.size n til (.slice A n c) q17 q25 q26 13 (X 13) w1 := hdep 13 (by decide +kernel)
      rw [tokR_13] at e13
      have e17 : tokR g b4 W0.heap.size n til (.slice A n c) q17 q25 q26 17 (X 17) w1 := hdep 17 (by decide +kernel)
      rw [tokR_17] at e17
      simp only [opW_def, mixT, e13, e17]
      go_simp
      refine (Left.pickI hG (by omega) q17 hq17).mono ?_
      rintro x w2 ⟨z, rfl, hz, m9, hl⟩
      exact ⟨⟨.int .i64 z, by first | rfl | simp [Act.put], m9, hl, (show tokR g b4 W0.heap.size n til (.slice A n c) q17 q25 q26 18 _ _ from by first | (rw [tokR_18]; exact ⟨z, rfl⟩) | rw [tokR_18])⟩⟩
    refine stepsT_op (by kernel_rfl) ?_ ?_
    · intro X w1 k1 hG hdep
      simp only [opW_def, mixT]
      go_simp
      exact ⟨⟨.pointer (some ⟨g, 0, none⟩), by first | rfl | simp [Act.put], Mv.refl _ _, hG.less, (show tokR g b4 W0.heap.size n til (.slice A n c) q17 q25 q26 19 _ _ from by first | (rw [tokR_19]; exact rfl) | rw [tokR_19])⟩⟩
    refine stepsT_op (by kernel_rfl) ?_ ?_
    · intro X w1 k1 hG hdep
      have e19 : tokR g b4 W0.heap.size n til (.slice A n c) q17 q25 q26 19 (X 19) w1 := hdep 19 (by decide +kernel)
      rw [tokR_19] at e19
      simp only [opW_def, mixT, e19]
      go_simp
      refine (Left.pickI hG (by omega) 5 ⟨by omega, by omega⟩).mono ?_
      rintro x w2 ⟨z, rfl, hz, m9, hl⟩
      exact ⟨⟨.int .i64 z, by first | rfl | simp [Act.put], m9, hl, (show tokR g b4 W0.heap.size n til (.slice A n c) q17 q25 q26 20 _ _ from by first | (rw [tokR_20]; exact ⟨z, rfl⟩) | rw [tokR_20])⟩⟩
    refine stepsT_op (by kernel_rfl) ?_ ?_
    · intro X w1 k1 hG hdep
      have e20 : tokR g b4 W0.heap.size n til (.slice A n c) q17 q25 q26 20 (X 20) w1 := hdep 20 (by decide +kernel)
      rw [tokR_20] at e20
      obtain ⟨z20, e20⟩ := e20
      simp only [opW_def, mixT, e20]
      go_simp
      exact ⟨⟨_, by first | rfl | simp [Act.put], Mv.refl _ _, hG.less, (show tokR g b4 W0.heap.size n til (.slice A n c) q17 q25 q26 21 _ _ from by first | (rw [tokR_21]; exact ⟨_, rfl⟩) | rw [tokR_21])⟩⟩
    refine stepsT_op (by kernel_rfl) ?_ ?_
    · intro X w1 k1 hG hdep
      simp only [opW_def, mixT]
      go_simp
      exact ⟨⟨.pointer (some ⟨g, 0, none⟩), by first | rfl | simp [Act.put], Mv.refl _ _, hG.less, (show tokR g b4 W0.heap.size n til (.slice A n c) q17 q25 q26 22 _ _ from by first | (rw [tokR_22]; exact rfl) | rw [tokR_22])⟩⟩
    refine stepsT_op (by kernel_rfl) ?_ ?_
    · intro X w1 k1 hG hdep
      have lp := (X4.out.mv hG.2 nb4.out).lt
      simp only [opW_def, mixT]
      go_simp
      exact ⟨⟨.pointer (some ⟨b4, 2, none⟩), by first | rfl | simp [Act.put], Mv.refl _ _, hG.less, (show tokR g b4 W0.heap.size n til (.slice A n c) q17 q25 q26 23 _ _ from by first | (rw [tokR_23]; exact rfl) | rw [tokR_23])⟩⟩
    refine stepsT_op (by kernel_rfl) ?_ ?_
    · intro X w1 k1 hG hdep
      have e23 : tokR g b4 W0.heap.size n til (.slice A n c) q17 q25 q26 23 (X 23) w1 := hdep 23 (by decide +kernel)
      rw [tokR_23] at e23
      have p2 := (X4.out.mv hG.2 nb4.out).cell (j := 2) rfl
      have lp := (X4.out.mv hG.2 nb4.out).lt
      simp only [opW_def, mixT, e23]
      go_simp
      exact ⟨⟨.int .i64 til, by first | rfl | simp [Act.put], Mv.refl _ _, hG.less, (show tokR g b4 W0.heap.size n til (.slice A n c) q17 q25 q26 24 _ _ from by first | (rw [tokR_24]; exact rfl) | rw [tokR_24])⟩⟩
    refine stepsT_op (by kernel_rfl) ?_ ?_
    · intro X w1 k1 hG hdep
      have e24 : tokR g b4 W0.heap.size n til (.slice A n c) q17 q25 q26 24 (X 24) w1 := hdep 24 (by decide +kernel)
      rw [tokR_24] at e24
      simp only [opW_def, mixT, e24]
      go_simp
      exact ⟨⟨.int .i64 q25, by first | rfl | simp [Act.put], Mv.refl _ _, hG.less, (show tokR g b4 W0.heap.size n til (.slice A n c) q17 q25 q26 25 _ _ from by first | (rw [tokR_25]; exact rfl) | rw [tokR_25])⟩⟩
    refine stepsT_op (by kernel_rfl) ?_ ?_
    · intro X w1 k1 hG hdep
      have e25 : tokR g b4 W0.heap.size n til (.slice A n c) q17 q25 q26 25 (X 25) w1 := hdep 25 (by decide +kernel)
      rw [tokR_25] at e25
      simp only [opW_def, mixT, e25]
      go_simp
      exact ⟨⟨.int .i64 q26, by first | rfl | simp [Act.put], Mv.refl _ _, hG.less, (show tokR g b4 W0.heap.size n til (.slice A n c) q17 q25 q26 26 _ _ from by first | (rw [tokR_26]; exact rfl) | rw [tokR_26])⟩⟩
    refine stepsT_op (by kernel_rfl) ?_ ?_
    · intro X w1 k1 hG hdep
      have e22 : tokR g b4 W0.heap.size n til (.slice A n c) q17 q25 q26 22 (X 22) w1 := hdep 22 (by decide +kernel)
      rw [tokR_22] at e22
      have e26 : tokR g b4 W0.heap.size n til (.slice A n c) q17 q25 q26 26 (X 26) w1 := hdep 26 (by decide +kernel)
      rw [tokR_26] at e26
      simp only [opW_def, mixT, e22, e26]
      go_simp
      refine (Left.pickI hG (by omega) q26 hq26).mono ?_
      rintro x w2 ⟨z, rfl, hz, m9, hl⟩
      exact ⟨⟨.int .i64 z, by first | rfl | simp [Act.put], m9, hl, (show tokR g b4 W0.heap.size n til (.slice A n c) q17 q25 q26 27 _ _ from by first | (rw [tokR_27]; exact ⟨z, rfl⟩) | rw [tokR_27])⟩⟩
    refine stepsT_op (by kernel_rfl) ?_ ?_
    · intro X w1 k1 hG hdep
      have e10 : tokR g b4 W0.heap.size n til (.slice A n c) q17 q25 q26 10 (X 10) w1 := hdep 10 (by decide +kernel)
      rw [tokR_10] at e10
      obtain ⟨z10, e10⟩ := e10
      have e12 : tokR g b4 W0.heap.size n til (.slice A n c) q17 q25 q26 12 (X 12) w1 := hdep 12 (by decide +kernel)
      rw [tokR_12] at e12
      obtain ⟨z12, e12⟩ := e12
      have e18 : tokR g b4 W0.heap.size n til (.slice A n c) q17 q25 q26 18 (X 18) w1 := hdep 18 (by decide +kernel)
      rw [tokR_18] at e18
      obtain ⟨z18, e18⟩ := e18
      have e21 : tokR g b4 W0.heap.size n til (.slice A n c) q17 q25 q26 21 (X 21) w1 := hdep 21 (by decide +kernel)
      rw [tokR_21] at e21
      obtain ⟨z21, e21⟩ := e21
      have e27 : tokR g b4 W0.heap.size n til (.slice A n c) q17 q25 q26 27 (X 27) w1 := hdep 27 (by decide +kernel)
      rw [tokR_27] at e27
      obtain ⟨z27, e27⟩ := e27
      simp only [opW_def, mixT, e10, e12, e18, e21, e27]
      go_simp
      exact ⟨⟨_, by first | rfl | simp [Act.put], Mv.refl _ _, hG.less, (show tokR g b4 W0.heap.size n til (.slice A n c) q17 q25 q26 28 _ _ from by first | (rw [tokR_28]; exact ⟨_, _, _, _, _, rfl⟩) | rw [tokR_28])⟩⟩
    refine stepsT_op (by kernel_rfl) ?_ ?_
    · intro X w1 k1 hG hdep
      have hg := hG.lt
      have hlo := hG.base
      simp only [opW_def, mixT]
      go_simp
      exact ⟨⟨_, by first | rfl | simp [Act.put], (Mv.refl _ _).alloc _, hG.mv ((Up.refl _).alloc _), (show tokR g b4 W0.heap.size n til (.slice A n c) q17 q25 q26 7 _ _ from by first | (rw [tokR_7]; exact IsNewN.new w1 _ _ rfl hg hlo) | rw [tokR_7])⟩⟩
    exact trivial
  · intro h p _ hp
    cases hp
  · intro X w1 hG hR
    have e28 : tokR g b4 W0.heap.size n til (.slice A n c) q17 q25 q26 28 (X 28) w1 := hR 20 (by omega)
    rw [tokR_28] at e28
    obtain ⟨q0, q1, q2, q3, q4, e28⟩ := e28
    have e7 : tokR g b4 W0.heap.size n til (.slice A n c) q17 q25 q26 7 (X 7) w1 := hR 21 (by omega)
    rw [tokR_7] at e7
    obtain ⟨b7, xs, e7, h7g, h7b, h7, h7s⟩ := e7
    obtain ⟨x0, x1, x2, x3, x4, rfl⟩ := arr_five h7s
    have B7 : Bk w1 b7 _ := ⟨_, h7⟩
    obtain ⟨⟨N1, hN1, rd1⟩, mv1⟩ := hG
    have n67 : b6 ≠ b7 := by have := hs1.out; omega
    have n47 : b4 ≠ b7 := by have := hs1.out; omega
    have h7w : b4 ≤ b7 := by have := hs1.out; omega
    have X7 := Lib.hid (putK_bk B7 q0 q1 q2 q3 q4)
    replace X6 := Lib.hid (putK_far (X6.out.mv mv1 nb6.out) n67 q0 q1 q2 q3 q4)
    replace X4 := Lib.hid (putK_far (X4.out.mv mv1 nb4.out) n47 q0 q1 q2 q3 q4)
    replace RR := Lib.hid (putK_rd (b := b7) rd1 (by have := hs1.out; omega) q0 q1 q2 q3 q4)
    replace MM := Lib.hid (putK_mv (b := b7) (MM.out.trans mv1) (by have := hs1.out; omega) q0 q1 q2 q3 q4)
    unfold putK at X7 X6 X4 RR MM
    have c0 := B7.cell (j := 0) rfl
    have c1 := B7.cell (j := 1) rfl
    have c2 := B7.cell (j := 2) rfl
    have c3 := B7.cell (j := 3) rfl
    have c4 := B7.cell (j := 4) rfl
    have f7 := fun j => B7.frozen j
    have l7 := B7.lt
    clear hR B7 h7 mv1 rd1 HG
    simp only [mixT, e28, e7]
    refine mix_go rfl (by rfl) (fun K hK => ?_)
    go_simp
    refine hK _ _ ?_
    clear hK K
    refine mix_nil ?_
    clear c0 c1 c2 c3 c4 f7 l7 e28 e7
    generalize ((((w1.setCell ⟨b7, 0, none⟩ (.bool q0)).setCell ⟨b7, 1, none⟩ (.int .i64 q1)).setCell ⟨b7, 2, none⟩ (.int .i64 q2)).setCell ⟨b7, 3, none⟩ (.int .i64 q3)).setCell ⟨b7, 4, none⟩ (.int .i64 q4) = W1 at *
    have n7g := Lib.hid h7g
    have h7g2 : g < b7 := by omega
    clear h7g
    go_wp2_with fail
    refine (odd_any g N1 num _ HN.out (by omega) RR.out).mono ?_
    rintro x w5 ⟨bb, rfl, r5, m5⟩
    replace X4 := Lib.hid (X4.out.mv m5 nb4.out)
    replace X6 := Lib.hid (X6.out.mv m5 nb6.out)
    replace X7 := Lib.hid (X7.out.mv m5 n7g.out)
    replace RR := Lib.hid r5
    replace MM := Lib.hid (MM.out.trans m5)
    clear r5 m5
    cases bb
    · have K6 := Lib.hid (putK_bk X6.out (q0) (q1) (q2) (q3) (q4))
      have RE := Lib.hid (putK_rd RR.out (show g < b6 by omega) (q0) (q1) (q2) (q3) (q4))
      have ME := Lib.hid (putK_mv (b := b6) MM.out (by omega) (q0) (q1) (q2) (q3) (q4))
      unfold putK at K6 RE ME
      have c0 := X7.out.cell (j := 0) rfl
      have c1 := X7.out.cell (j := 1) rfl
      have c2 := X7.out.cell (j := 2) rfl
      have c3 := X7.out.cell (j := 3) rfl
      have c4 := X7.out.cell (j := 4) rfl
      have y0 := X6.out.cell (j := 0) rfl
      have y1 := X6.out.cell (j := 1) rfl
      have y2 := X6.out.cell (j := 2) rfl
      have y3 := X6.out.cell (j := 3) rfl
      have y4 := X6.out.cell (j := 4) rfl
      have f6 := fun j => X6.out.frozen j
      have l7 := X7.out.lt
      have l6 := X6.out.lt
      go_wp2
      have k0 := K6.out.cell (j := 0) rfl
      have k1 := K6.out.cell (j := 1) rfl
      have k2 := K6.out.cell (j := 2) rfl
      have k3 := K6.out.cell (j := 3) rfl
      have k4 := K6.out.cell (j := 4) rfl
      exact bodyPost_ret (v := .agg #[.bool q0, .int .i64 q1, .int .i64 q2, .int .i64 q3, .int .i64 q4]) (by simp [results, Try.results35, go_sem, k0, k1, k2, k3, k4]) rfl ⟨⟨q0, q1, q2, q3, q4⟩, rfl, RE.out.mono (by omega), ME.out⟩

    · go_wp2_with fail
      refine (pick_any g (N1 + 1) 3 _ ⟨by omega, by omega⟩ (by omega) RR.out).mono ?_
      intro x w6 pk
      obtain ⟨v6, rfl, a6, b6', c6', r6, m6⟩ := pk.cases (by omega)
      replace X4 := Lib.hid (X4.out.mv m6 nb4.out)
      replace X6 := Lib.hid (X6.out.mv m6 nb6.out)
      replace X7 := Lib.hid (X7.out.mv m6 n7g.out)
      replace RR := Lib.hid r6
      replace MM := Lib.hid (MM.out.trans m6)
      clear pk r6 m6 c6'
      by_cases jv0 : v6 = 0
      · subst jv0
        go_wp2_with fail
        refine (pick_any g (N1 + 2) 2 _ ⟨by omega, by omega⟩ (by omega) (RR.out.alloc _)).mono ?_
        intro x w8 pk
        obtain ⟨v7, rfl, a7, b7', c7', r7, m7⟩ := pk.cases (by omega)
        obtain ⟨v8, hv8, hl8⟩ := two_num m7 (show g < w6.heap.size by have := X7.out.lt; omega) a7 (by omega)
        have l8 : v7 < 2 := by omega
        replace X4 := Lib.hid ((X4.out.alloc (.cells #[.int .i64 (-1), .int .i64 (1000)] 3)).mv m7 nb4.out)
        replace X6 := Lib.hid ((X6.out.alloc (.cells #[.int .i64 (-1), .int .i64 (1000)] 3)).mv m7 nb6.out)
        replace X7 := Lib.hid ((X7.out.alloc (.cells #[.int .i64 (-1), .int .i64 (1000)] 3)).mv m7 n7g.out)
        replace RR := Lib.hid r7
        replace MM := Lib.hid ((MM.out.alloc _).trans m7)
        have hw8 : w6.heap.size < w8.heap.size := by have := m7.size; simp at this; omega
        clear pk r7 m7 c7' hv8
        have c0 := X7.out.cell (j := 0) rfl
        have c1 := X7.out.cell (j := 1) rfl
        have c2 := X7.out.cell (j := 2) rfl
        have c3 := X7.out.cell (j := 3) rfl
        have c4 := X7.out.cell (j := 4) rfl
        have f7 := fun j => X7.out.frozen j
        have l7 := X7.out.lt

        have hs8 := hl8
        have X6s := bk_far _ (o := 1) (.int .i64 v8) X6.out n67
        have RRs := Lib.hid (RR.out.setCell (p := ⟨b7, 1, none⟩) h7g2 (.int .i64 v8))
        have MMs := Lib.hid (MM.out.setNew (p := ⟨b7, 1, none⟩) (show w.heap.size ≤ b7 by omega) (.int .i64 v8))
        have X6s := Lib.hid X6s

        have K6 := Lib.hid (putK_bk X6s.out (q0) (v8) (q2) (q3) (q4))
        have RE := Lib.hid (putK_rd RRs.out (show g < b6 by omega) (q0) (v8) (q2) (q3) (q4))
        have ME := Lib.hid (putK_mv (b := b6) MMs.out (by omega) (q0) (v8) (q2) (q3) (q4))
        unfold putK at K6 RE ME
        have y0 := X6.out.cell (j := 0) rfl
        have y1 := X6.out.cell (j := 1) rfl
        have y2 := X6.out.cell (j := 2) rfl
        have y3 := X6.out.cell (j := 3) rfl
        have y4 := X6.out.cell (j := 4) rfl
        have f6 := fun j => X6.out.frozen j
        have l6 := X6.out.lt
        go_wp2
        have k0 := K6.out.cell (j := 0) rfl
        have k1 := K6.out.cell (j := 1) rfl
        have k2 := K6.out.cell (j := 2) rfl
        have k3 := K6.out.cell (j := 3) rfl
        have k4 := K6.out.cell (j := 4) rfl
        exact bodyPost_ret (v := .agg #[.bool q0, .int .i64 v8, .int .i64 q2, .int .i64 q3, .int .i64 q4]) (by simp [results, Try.results35, go_sem, k0, k1, k2, k3, k4]) rfl ⟨⟨q0, v8, q2, q3, q4⟩, rfl, RE.out.mono (by omega), ME.out⟩

      · have jn0 : ((v6 : Int) == 0) = false := by simp; omega
        by_cases jv1 : v6 = 1
        · subst jv1
          go_wp2_with fail
          have HG := Lib.hid (show Left g (N1 + 2 + 9) w6 9 w6.drew from ⟨⟨N1 + 2, Nat.le_refl _, RR.out.up (Up.refl _).drew⟩, (Up.refl _).drew.mv g⟩)
          have hlo7 := X7.out.lt
          refine region_relyT 9 [] [(9, false)] [53, 54, 55, 56, 57, 58, 59, 60, 61] 9 (Left g (N1 + 2 + 9) w6) (Mv g) (fun i v w => tokE g b4 w6.heap.size b7 n til (.slice A n c) q17 q25 q26 i v w) (by kernel_rfl) (by kernel_rfl) (by kernel_rfl) (by kernel_rfl) HG.out (fun slot_ _ _ _ h u => tokE_mv g b4 w6.heap.size b7 n til (.slice A n c) q17 q25 q26 slot_ h u) ?_ ?_ ?_
          · simp only [List.take_succ_cons, List.take_zero]
            refine stepsT_op (by kernel_rfl) ?_ ?_
            · intro X w1 k1 hG hdep
              have lp := (X4.out.mv hG.2 nb4.out).lt
              simp only [opW_def, mixT]
              go_simp
              exact ⟨⟨.pointer (some ⟨b4, 0, none⟩), by first | rfl | simp [Act.put], Mv.refl _ _, hG.less, (show tokE g b4 w6.heap.size b7 n til (.slice A n c) q17 q25 q26 53 _ _ from by first | (rw [tokE_53]; exact rfl) | rw [tokE_53])⟩⟩
            refine stepsT_op (by kernel_rfl) ?_ ?_
            · intro X w1 k1 hG hdep
              have e53 : tokE g b4 w6.heap.size b7 n til (.slice A n c) q17 q25 q26 53 (X 53) w1 := hdep 53 (by decide +kernel)
              rw [tokE_53] at e53
              have p0 := (X4.out.mv hG.2 nb4.out).cell (j := 0) rfl
              have lp := (X4.out.mv hG.2 nb4.out).lt
              simp only [opW_def, mixT, e53]
              go_simp
              exact ⟨⟨.slice A n c, by first | rfl | simp [Act.put], Mv.refl _ _, hG.less, (show tokE g b4 w6.heap.size b7 n til (.slice A n c) q17 q25 q26 54 _ _ from by first | (rw [tokE_54]; exact rfl) | rw [tokE_54])⟩⟩
            refine stepsT_op (by kernel_rfl) ?_ ?_
            · intro X w1 k1 hG hdep
              have e54 : tokE g b4 w6.heap.size b7 n til (.slice A n c) q17 q25 q26 54 (X 54) w1 := hdep 54 (by decide +kernel)
              rw [tokE_54] at e54
              simp only [opW_def, mixT, e54]
              go_simp
              exact ⟨⟨.int .i64 (n : Int), by first | rfl | simp [Act.put], Mv.refl _ _, hG.less, (show tokE g b4 w6.heap.size b7 n til (.slice A n c) q17 q25 q26 55 _ _ from by first | (rw [tokE_55]; exact rfl) | rw [tokE_55])⟩⟩
            refine stepsT_op (by kernel_rfl) ?_ ?_
            · intro X w1 k1 hG hdep
              have e55 : tokE g b4 w6.heap.size b7 n til (.slice A n c) q17 q25 q26 55 (X 55) w1 := hdep 55 (by decide +kernel)
              rw [tokE_55] at e55
              have hg := hG.lt
              have hlo := hG.base
              simp only [opW_def, mixT, e55]
              go_simp
              exact ⟨⟨.slice (some ⟨w1.heap.size, 0, none⟩) 2 2, by first | rfl | simp [Act.put], (Mv.refl _ _).alloc _, hG.mv ((Up.refl _).alloc _), (show tokE g b4 w6.heap.size b7 n til (.slice A n c) q17 q25 q26 56 _ _ from by first | (rw [tokE_56]; exact IsTwo.new w1 (-1) ((n : Int)) _ hg hlo (by omega) (by omega)) | rw [tokE_56])⟩⟩
            refine stepsT_op (by kernel_rfl) ?_ ?_
            · intro X w1 k1 hG hdep
              simp only [opW_def, mixT]
              go_simp
              exact ⟨⟨.pointer (some ⟨g, 0, none⟩), by first | rfl | simp [Act.put], Mv.refl _ _, hG.less, (show tokE g b4 w6.heap.size b7 n til (.slice A n c) q17 q25 q26 57 _ _ from by first | (rw [tokE_57]; exact rfl) | rw [tokE_57])⟩⟩
            refine stepsT_op (by kernel_rfl) ?_ ?_
            · intro X w1 k1 hG hdep
              have e57 : tokE g b4 w6.heap.size b7 n til (.slice A n c) q17 q25 q26 57 (X 57) w1 := hdep 57 (by decide +kernel)
              rw [tokE_57] at e57
              simp only [opW_def, mixT, e57]
              go_simp
              refine (Left.pick hG (by omega) 2 (by omega) (by omega)).mono ?_
              rintro x w2 ⟨z, rfl, hz, m9, hl⟩
              exact ⟨⟨.int .i64 z, by first | rfl | simp [Act.put], m9, hl, (show tokE g b4 w6.heap.size b7 n til (.slice A n c) q17 q25 q26 58 _ _ from by first | (rw [tokE_58]; exact ⟨z, rfl, by omega, by omega⟩) | rw [tokE_58])⟩⟩
            refine stepsT_op (by kernel_rfl) ?_ ?_
            · intro X w1 k1 hG hdep
              have e56 : tokE g b4 w6.heap.size b7 n til (.slice A n c) q17 q25 q26 56 (X 56) w1 := hdep 56 (by decide +kernel)
              rw [tokE_56] at e56
              obtain ⟨b, x, y, e56, h1, h2, h3, h4, h5, h6, h7⟩ := e56
              have e58 : tokE g b4 w6.heap.size b7 n til (.slice A n c) q17 q25 q26 58 (X 58) w1 := hdep 58 (by decide +kernel)
              rw [tokE_58] at e58
              obtain ⟨z33, e58, h33⟩ := e58
              have h34 : z33 = 0 ∨ z33 = 1 := by omega
              rcases h34 with rfl | rfl
              · simp only [opW_def, mixT, e56, e58]
                go_simp
                exact ⟨⟨.pointer (some ⟨b, 0, none⟩), by first | rfl | simp [Act.put], Mv.refl _ _, hG.less, (show tokE g b4 w6.heap.size b7 n til (.slice A n c) q17 q25 q26 59 _ _ from by rw [tokE_59]; exact ⟨b, 0, x, rfl, h1, h3, h4, h6.1, h6.2⟩)⟩⟩
              · simp only [opW_def, mixT, e56, e58]
                go_simp
                exact ⟨⟨.pointer (some ⟨b, 1, none⟩), by first | rfl | simp [Act.put], Mv.refl _ _, hG.less, (show tokE g b4 w6.heap.size b7 n til (.slice A n c) q17 q25 q26 59 _ _ from by rw [tokE_59]; exact ⟨b, 1, y, rfl, h1, h3, h5, h7.1, h7.2⟩)⟩⟩
            refine stepsT_op (by kernel_rfl) ?_ ?_
            · intro X w1 k1 hG hdep
              have e59 : tokE g b4 w6.heap.size b7 n til (.slice A n c) q17 q25 q26 59 (X 59) w1 := hdep 59 (by decide +kernel)
              rw [tokE_59] at e59
              obtain ⟨b, j, x, e59, h1, h2, h3, h4, h5⟩ := e59
              simp only [opW_def, mixT, e59]
              go_simp
              exact ⟨⟨.int .i64 x, by first | rfl | simp [Act.put], Mv.refl _ _, hG.less, (show tokE g b4 w6.heap.size b7 n til (.slice A n c) q17 q25 q26 60 _ _ from by first | (rw [tokE_60]; exact ⟨x, rfl⟩) | rw [tokE_60])⟩⟩
            refine stepsT_op (by kernel_rfl) ?_ ?_
            · intro X w1 k1 hG hdep
              have lp := (X7.out.mv hG.2 n7g.out).lt
              simp only [opW_def, mixT]
              go_simp
              exact ⟨⟨.pointer (some ⟨b7, 2, none⟩), by first | rfl | simp [Act.put], Mv.refl _ _, hG.less, (show tokE g b4 w6.heap.size b7 n til (.slice A n c) q17 q25 q26 61 _ _ from by first | (rw [tokE_61]; exact rfl) | rw [tokE_61])⟩⟩
            exact trivial
          · intro h p _ hp
            cases hp
          · intro X w8 hG hR
            have e60 : tokE g b4 w6.heap.size b7 n til (.slice A n c) q17 q25 q26 60 (X 60) w8 := hR 7 (by omega)
            rw [tokE_60] at e60
            obtain ⟨v8, e60⟩ := e60
            have e61 : tokE g b4 w6.heap.size b7 n til (.slice A n c) q17 q25 q26 61 (X 61) w8 := hR 8 (by omega)
            rw [tokE_61] at e61
            obtain ⟨⟨N2, hN2, rd2⟩, mv2⟩ := hG
            replace X4 := Lib.hid (X4.out.mv mv2 nb4.out)
            replace X6 := Lib.hid (X6.out.mv mv2 nb6.out)
            replace X7 := Lib.hid (X7.out.mv mv2 n7g.out)
            replace RR := Lib.hid rd2
            replace MM := Lib.hid (MM.out.trans mv2)
            clear hR HG rd2 mv2 hlo7
            have c0 := X7.out.cell (j := 0) rfl
            have c1 := X7.out.cell (j := 1) rfl
            have c2 := X7.out.cell (j := 2) rfl
            have c3 := X7.out.cell (j := 3) rfl
            have c4 := X7.out.cell (j := 4) rfl
            have f7 := fun j => X7.out.frozen j
            have l7 := X7.out.lt
            simp only [mixT, e60, e61]
            refine mix_go rfl (by rfl) (fun K hK => ?_)
            go_simp
            refine hK _ _ ?_
            clear hK K
            refine mix_nil ?_
            clear c0 c1 c2 c3 c4 f7 l7 e60 e61

            replace X7 := Lib.hid (bk_setC _ _ 2 (.int .i64 v8) X7.out)
            replace X6 := Lib.hid (bk_far _ (o := 2) (.int .i64 v8) X6.out n67)
            replace X4 := Lib.hid (bk_far _ (o := 2) (.int .i64 v8) X4.out n47)
            replace RR := Lib.hid (RR.out.setCell (p := ⟨b7, 2, none⟩) h7g2 (.int .i64 v8))
            replace MM := Lib.hid (MM.out.setNew (p := ⟨b7, 2, none⟩) (show w.heap.size ≤ b7 by omega) (.int .i64 v8))

            generalize w8.setCell ⟨b7, 2, none⟩ (.int .i64 v8) = W8 at *
            have K6 := Lib.hid (putK_bk X6.out (q0) (q1) (v8) (q3) (q4))
            have RE := Lib.hid (putK_rd RR.out (show g < b6 by omega) (q0) (q1) (v8) (q3) (q4))
            have ME := Lib.hid (putK_mv (b := b6) MM.out (by omega) (q0) (q1) (v8) (q3) (q4))
            unfold putK at K6 RE ME
            have c0 := X7.out.cell (j := 0) rfl
            have c1 := X7.out.cell (j := 1) rfl
            have c2 := X7.out.cell (j := 2) rfl
            have c3 := X7.out.cell (j := 3) rfl
            have c4 := X7.out.cell (j := 4) rfl
            have y0 := X6.out.cell (j := 0) rfl
            have y1 := X6.out.cell (j := 1) rfl
            have y2 := X6.out.cell (j := 2) rfl
            have y3 := X6.out.cell (j := 3) rfl
            have y4 := X6.out.cell (j := 4) rfl
            have f6 := fun j => X6.out.frozen j
            have l7 := X7.out.lt
            have l6 := X6.out.lt
            go_wp2
            have k0 := K6.out.cell (j := 0) rfl
            have k1 := K6.out.cell (j := 1) rfl
            have k2 := K6.out.cell (j := 2) rfl
            have k3 := K6.out.cell (j := 3) rfl
            have k4 := K6.out.cell (j := 4) rfl
            exact bodyPost_ret (v := .agg #[.bool q0, .int .i64 q1, .int .i64 v8, .int .i64 q3, .int .i64 q4]) (by simp [results, Try.results35, go_sem, k0, k1, k2, k3, k4]) rfl ⟨⟨q0, q1, v8, q3, q4⟩, rfl, RE.out.mono (by omega), ME.out⟩

        · have jn1 : ((v6 : Int) == 1) = false := by simp; omega
          go_wp2_with fail
          have HG := Lib.hid (show Left g (N1 + 2 + 9) w6 9 w6.drew from ⟨⟨N1 + 2, Nat.le_refl _, RR.out.up (Up.refl _).drew⟩, (Up.refl _).drew.mv g⟩)
          have hlo7 := X7.out.lt
          refine region_relyT 9 [] [(9, false)] [34, 35, 36, 37, 38, 39, 40, 41, 42] 9 (Left g (N1 + 2 + 9) w6) (Mv g) (fun i v w => tokF g b4 w6.heap.size b7 n til (.slice A n c) q17 q25 q26 i v w) (by kernel_rfl) (by kernel_rfl) (by kernel_rfl) (by kernel_rfl) HG.out (fun slot_ _ _ _ h u => tokF_mv g b4 w6.heap.size b7 n til (.slice A n c) q17 q25 q26 slot_ h u) ?_ ?_ ?_
          · simp only [List.take_succ_cons, List.take_zero]
            refine stepsT_op (by kernel_rfl) ?_ ?_
            · intro X w1 k1 hG hdep
              have lp := (X4.out.mv hG.2 nb4.out).lt
              simp only [opW_def, mixT]
              go_simp
              exact ⟨⟨.pointer (some ⟨b4, 2, none⟩), by first | rfl | simp [Act.put], Mv.refl _ _, hG.less, (show tokF g b4 w6.heap.size b7 n til (.slice A n c) q17 q25 q26 34 _ _ from by first | (rw [tokF_34]; exact rfl) | rw [tokF_34])⟩⟩
            refine stepsT_op (by kernel_rfl) ?_ ?_
            · intro X w1 k1 hG hdep
              have e34 : tokF g b4 w6.heap.size b7 n til (.slice A n c) q17 q25 q26 34 (X 34) w1 := hdep 34 (by decide +kernel)
              rw [tokF_34] at e34
              have p2 := (X4.out.mv hG.2 nb4.out).cell (j := 2) rfl
              have lp := (X4.out.mv hG.2 nb4.out).lt
              simp only [opW_def, mixT, e34]
              go_simp
              exact ⟨⟨.int .i64 til, by first | rfl | simp [Act.put], Mv.refl _ _, hG.less, (show tokF g b4 w6.heap.size b7 n til (.slice A n c) q17 q25 q26 35 _ _ from by first | (rw [tokF_35]; exact rfl) | rw [tokF_35])⟩⟩
            refine stepsT_op (by kernel_rfl) ?_ ?_
            · intro X w1 k1 hG hdep
              have e35 : tokF g b4 w6.heap.size b7 n til (.slice A n c) q17 q25 q26 35 (X 35) w1 := hdep 35 (by decide +kernel)
              rw [tokF_35] at e35
              simp only [opW_def, mixT, e35]
              go_simp
              exact ⟨⟨.int .i64 q25, by first | rfl | simp [Act.put], Mv.refl _ _, hG.less, (show tokF g b4 w6.heap.size b7 n til (.slice A n c) q17 q25 q26 36 _ _ from by first | (rw [tokF_36]; exact rfl) | rw [tokF_36])⟩⟩
            refine stepsT_op (by kernel_rfl) ?_ ?_
            · intro X w1 k1 hG hdep
              have e36 : tokF g b4 w6.heap.size b7 n til (.slice A n c) q17 q25 q26 36 (X 36) w1 := hdep 36 (by decide +kernel)
              rw [tokF_36] at e36
              have hg := hG.lt
              have hlo := hG.base
              simp only [opW_def, mixT, e36]
              go_simp
              exact ⟨⟨.slice (some ⟨w1.heap.size, 0, none⟩) 2 2, by first | rfl | simp [Act.put], (Mv.refl _ _).alloc _, hG.mv ((Up.refl _).alloc _), (show tokF g b4 w6.heap.size b7 n til (.slice A n c) q17 q25 q26 37 _ _ from by first | (rw [tokF_37]; exact IsTwo.new w1 (-1) (q25) _ hg hlo (by omega) (by have := V25.out; omega)) | rw [tokF_37])⟩⟩
            refine stepsT_op (by kernel_rfl) ?_ ?_
            · intro X w1 k1 hG hdep
              simp only [opW_def, mixT]
              go_simp
              exact ⟨⟨.pointer (some ⟨g, 0, none⟩), by first | rfl | simp [Act.put], Mv.refl _ _, hG.less, (show tokF g b4 w6.heap.size b7 n til (.slice A n c) q17 q25 q26 38 _ _ from by first | (rw [tokF_38]; exact rfl) | rw [tokF_38])⟩⟩
            refine stepsT_op (by kernel_rfl) ?_ ?_
            · intro X w1 k1 hG hdep
              have e38 : tokF g b4 w6.heap.size b7 n til (.slice A n c) q17 q25 q26 38 (X 38) w1 := hdep 38 (by decide +kernel)
              rw [tokF_38] at e38
              simp only [opW_def, mixT, e38]
              go_simp
              refine (Left.pick hG (by omega) 2 (by omega) (by omega)).mono ?_
              rintro x w2 ⟨z, rfl, hz, m9, hl⟩
              exact ⟨⟨.int .i64 z, by first | rfl | simp [Act.put], m9, hl, (show tokF g b4 w6.heap.size b7 n til (.slice A n c) q17 q25 q26 39 _ _ from by first | (rw [tokF_39]; exact ⟨z, rfl, by omega, by omega⟩) | rw [tokF_39])⟩⟩
            refine stepsT_op (by kernel_rfl) ?_ ?_
            · intro X w1 k1 hG hdep
              have e37 : tokF g b4 w6.heap.size b7 n til (.slice A n c) q17 q25 q26 37 (X 37) w1 := hdep 37 (by decide +kernel)
              rw [tokF_37] at e37
              obtain ⟨b, x, y, e37, h1, h2, h3, h4, h5, h6, h7⟩ := e37
              have e39 : tokF g b4 w6.heap.size b7 n til (.slice A n c) q17 q25 q26 39 (X 39) w1 := hdep 39 (by decide +kernel)
              rw [tokF_39] at e39
              obtain ⟨z33, e39, h33⟩ := e39
              have h34 : z33 = 0 ∨ z33 = 1 := by omega
              rcases h34 with rfl | rfl
              · simp only [opW_def, mixT, e37, e39]
                go_simp
                exact ⟨⟨.pointer (some ⟨b, 0, none⟩), by first | rfl | simp [Act.put], Mv.refl _ _, hG.less, (show tokF g b4 w6.heap.size b7 n til (.slice A n c) q17 q25 q26 40 _ _ from by rw [tokF_40]; exact ⟨b, 0, x, rfl, h1, h3, h4, h6.1, h6.2⟩)⟩⟩
              · simp only [opW_def, mixT, e37, e39]
                go_simp
                exact ⟨⟨.pointer (some ⟨b, 1, none⟩), by first | rfl | simp [Act.put], Mv.refl _ _, hG.less, (show tokF g b4 w6.heap.size b7 n til (.slice A n c) q17 q25 q26 40 _ _ from by rw [tokF_40]; exact ⟨b, 1, y, rfl, h1, h3, h5, h7.1, h7.2⟩)⟩⟩
            refine stepsT_op (by kernel_rfl) ?_ ?_
            · intro X w1 k1 hG hdep
              have e40 : tokF g b4 w6.heap.size b7 n til (.slice A n c) q17 q25 q26 40 (X 40) w1 := hdep 40 (by decide +kernel)
              rw [tokF_40] at e40
              obtain ⟨b, j, x, e40, h1, h2, h3, h4, h5⟩ := e40
              simp only [opW_def, mixT, e40]
              go_simp
              exact ⟨⟨.int .i64 x, by first | rfl | simp [Act.put], Mv.refl _ _, hG.less, (show tokF g b4 w6.heap.size b7 n til (.slice A n c) q17 q25 q26 41 _ _ from by first | (rw [tokF_41]; exact ⟨x, rfl⟩) | rw [tokF_41])⟩⟩
            refine stepsT_op (by kernel_rfl) ?_ ?_
            · intro X w1 k1 hG hdep
              have lp := (X7.out.mv hG.2 n7g.out).lt
              simp only [opW_def, mixT]
              go_simp
              exact ⟨⟨.pointer (some ⟨b7, 4, none⟩), by first | rfl | simp [Act.put], Mv.refl _ _, hG.less, (show tokF g b4 w6.heap.size b7 n til (.slice A n c) q17 q25 q26 42 _ _ from by first | (rw [tokF_42]; exact rfl) | rw [tokF_42])⟩⟩
            exact trivial
          · intro h p _ hp
            cases hp
          · intro X w8 hG hR
            have e41 : tokF g b4 w6.heap.size b7 n til (.slice A n c) q17 q25 q26 41 (X 41) w8 := hR 7 (by omega)
            rw [tokF_41] at e41
            obtain ⟨v8, e41⟩ := e41
            have e42 : tokF g b4 w6.heap.size b7 n til (.slice A n c) q17 q25 q26 42 (X 42) w8 := hR 8 (by omega)
            rw [tokF_42] at e42
            obtain ⟨⟨N2, hN2, rd2⟩, mv2⟩ := hG
            replace X4 := Lib.hid (X4.out.mv mv2 nb4.out)
            replace X6 := Lib.hid (X6.out.mv mv2 nb6.out)
            replace X7 := Lib.hid (X7.out.mv mv2 n7g.out)
            replace RR := Lib.hid rd2
            replace MM := Lib.hid (MM.out.trans mv2)
            clear hR HG rd2 mv2 hlo7
            have c0 := X7.out.cell (j := 0) rfl
            have c1 := X7.out.cell (j := 1) rfl
            have c2 := X7.out.cell (j := 2) rfl
            have c3 := X7.out.cell (j := 3) rfl
            have c4 := X7.out.cell (j := 4) rfl
            have f7 := fun j => X7.out.frozen j
            have l7 := X7.out.lt
            simp only [mixT, e41, e42]
            refine mix_go rfl (by rfl) (fun K hK => ?_)
            go_simp
            refine hK _ _ ?_
            clear hK K
            refine mix_nil ?_
            clear c0 c1 c2 c3 c4 f7 l7 e41 e42

            replace X7 := Lib.hid (bk_setC _ _ 4 (.int .i64 v8) X7.out)
            replace X6 := Lib.hid (bk_far _ (o := 4) (.int .i64 v8) X6.out n67)
            replace X4 := Lib.hid (bk_far _ (o := 4) (.int .i64 v8) X4.out n47)
            replace RR := Lib.hid (RR.out.setCell (p := ⟨b7, 4, none⟩) h7g2 (.int .i64 v8))
            replace MM := Lib.hid (MM.out.setNew (p := ⟨b7, 4, none⟩) (show w.heap.size ≤ b7 by omega) (.int .i64 v8))

            generalize w8.setCell ⟨b7, 4, none⟩ (.int .i64 v8) = W8 at *
            have K6 := Lib.hid (putK_bk X6.out (q0) (q1) (q2) (q3) (v8))
            have RE := Lib.hid (putK_rd RR.out (show g < b6 by omega) (q0) (q1) (q2) (q3) (v8))
            have ME := Lib.hid (putK_mv (b := b6) MM.out (by omega) (q0) (q1) (q2) (q3) (v8))
            unfold putK at K6 RE ME
            have c0 := X7.out.cell (j := 0) rfl
            have c1 := X7.out.cell (j := 1) rfl
            have c2 := X7.out.cell (j := 2) rfl
            have c3 := X7.out.cell (j := 3) rfl
            have c4 := X7.out.cell (j := 4) rfl
            have y0 := X6.out.cell (j := 0) rfl
            have y1 := X6.out.cell (j := 1) rfl
            have y2 := X6.out.cell (j := 2) rfl
            have y3 := X6.out.cell (j := 3) rfl
            have y4 := X6.out.cell (j := 4) rfl
            have f6 := fun j => X6.out.frozen j
            have l7 := X7.out.lt
            have l6 := X6.out.lt
            go_wp2
            have k0 := K6.out.cell (j := 0) rfl
            have k1 := K6.out.cell (j := 1) rfl
            have k2 := K6.out.cell (j := 2) rfl
            have k3 := K6.out.cell (j := 3) rfl
            have k4 := K6.out.cell (j := 4) rfl
            exact bodyPost_ret (v := .agg #[.bool q0, .int .i64 q1, .int .i64 q2, .int .i64 q3, .int .i64 v8]) (by simp [results, Try.results35, go_sem, k0, k1, k2, k3, k4]) rfl ⟨⟨q0, q1, q2, q3, v8⟩, rfl, RE.out.mono (by omega), ME.out⟩


end Go.Proofs.Ytojnphchkdjafaa

namespace Go.Proofs.Ytojnphchkdjafaa
set_option maxRecDepth 100000
open Go.RowKit
set_option linter.unusedVariables false

theorem Sml.setNew {lo b o : Nat} {a w : World} {u : Value} (h : Sml lo a w) (hb : a.heap.size ≤ b) : Sml lo a (w.setCell ⟨b, o, none⟩ u) :=
  ⟨by simpa using h.size, fun k h1 h2 => (Below.heap_setCell w ⟨b, o, none⟩ u k (show k ≠ b by omega)).trans (h.block k h1 h2)⟩
/-- A model stored. -/
def putM (w : World) (b : Nat) (x y z : Value) : World := ((w.setCell ⟨b, 0, none⟩ x).setCell ⟨b, 1, none⟩ y).setCell ⟨b, 2, none⟩ z
theorem putM_bk {w : World} {b : Nat} {x0 x1 x2 : Value} (h : Bk w b #[x0, x1, x2]) (x y z : Value) : Bk (putM w b x y z) b #[x, y, z] := bk_setC _ _ _ _ (bk_setC _ _ _ _ (bk_setC _ _ _ _ h))
theorem putM_far {w : World} {b b' : Nat} {arr : Array Value} (h : Bk w b' arr) (hb : b' ≠ b) (x y z : Value) : Bk (putM w b x y z) b' arr := bk_far _ _ (bk_far _ _ (bk_far _ _ h hb) hb) hb
theorem putM_up {a w : World} {b : Nat} (h : Up a w) (hb : a.heap.size ≤ b) (x y z : Value) : Up a (putM w b x y z) := ((h.setCell hb _).setCell hb _).setCell hb _
theorem putM_sml {lo b : Nat} {a w : World} (h : Sml lo a w) (hb : b < lo) (x y z : Value) : Sml lo a (putM w b x y z) := ((h.set hb).set hb).set hb
theorem putG_up {a w : World} {b : Nat} (h : Up a w) (hb : a.heap.size ≤ b) (q0 q1 q2 q3 : Int) : Up a (putG w b q0 q1 q2 q3) := (((h.setCell hb _).setCell hb _).setCell hb _).setCell hb _
theorem putG_sml {lo b : Nat} {a w : World} (h : Sml lo a w) (hb : b < lo) (q0 q1 q2 q3 : Int) : Sml lo a (putG w b q0 q1 q2 q3) := (((h.set hb).set hb).set hb).set hb
theorem putK_up {a w : World} {b : Nat} (h : Up a w) (hb : a.heap.size ≤ b) (q0 : Bool) (q1 q2 q3 q4 : Int) : Up a (putK w b q0 q1 q2 q3 q4) := ((((h.setCell hb _).setCell hb _).setCell hb _).setCell hb _).setCell hb _
theorem putK_sml {lo b : Nat} {a w : World} (h : Sml lo a w) (hb : b < lo) (q0 : Bool) (q1 q2 q3 q4 : Int) : Sml lo a (putK w b q0 q1 q2 q3 q4) := ((((h.set hb).set hb).set hb).set hb).set hb

 
/-- What DrawMrkOk gives. -/
def DrawnMrk (w : World) (x : Ending) (w' : World) : Prop :=
  ∃ (A : Option Addr) (n c : Nat) (B : Option Addr) (k d : Nat) (m : Mdl) (t : Gm), x = .returned (.tuple #[.agg #[.slice A n c, .slice B k d, .int .i64 m.til], t.v]) ∧ MdlV w' A n B k m ∧ (n ≤ 32 ∧ n ≤ c ∧ c ≤ 9223372036854775807) ∧ (-1 ≤ m.til ∧ m.til ≤ 100) ∧ Up w w'

set_option maxHeartbeats 8000000 in
theorem drawMrk_any (A : Option Addr) (n cap : Nat) (w : World) (hc : n ≤ cap) (hmax : cap ≤ 9223372036854775807) (hB : Bys w A n w.heap.size) :
    Calls Try.prog 9 #[.slice A n cap] w (DrawnMrk w) := by
  have HB := Lib.hid hB
  clear hB
  go_enter Try.func9, Try.ntmps9
  go_wp2_with fail
  have U0 := Lib.hid (((Up.refl w).alloc (.cells #[.slice none 0 0, .slice none 0 0, .int .i64 0] 26)).alloc (.cells #[.int .i64 0, .int .i64 0, .int .i64 0, .int .i64 0] 28))
  have X2 := Lib.hid ((Bk.new w #[.slice none 0 0, .slice none 0 0, .int .i64 0] 26).alloc (.cells #[.int .i64 0, .int .i64 0, .int .i64 0, .int .i64 0] 28))
  have X3 := Lib.hid (Bk.new (w.alloc (.cells #[.slice none 0 0, .slice none 0 0, .int .i64 0] 26)) #[.int .i64 0, .int .i64 0, .int .i64 0, .int .i64 0] 28)
  simp only [World.size_alloc] at X3
  generalize hW0 : (w.alloc (.cells #[.slice none 0 0, .slice none 0 0, .int .i64 0] 26)).alloc (.cells #[.int .i64 0, .int .i64 0, .int .i64 0, .int .i64 0] 28) = W0 at *
  have hs0 : W0.heap.size = w.heap.size + 1 + 1 := by rw [← hW0]; simp
  have HB0 : Bys W0 A n W0.heap.size := fun h0 => by
    obtain ⟨b, off, hA, hb, hcc⟩ := HB.out.keep (fun b o hb => U0.out.cells b o hb) h0
    exact ⟨b, off, hA, by omega, hcc⟩
  clear hW0
  generalize hb3 : w.heap.size + 1 = b3 at *
  generalize hb2 : w.heap.size = b2 at *
  refine (open_any A n cap _ hc hmax HB0).mono ?_
  rintro x wO ⟨g, rfl, hg, r1, u1⟩
  have hgO := r1.lt
  have R1 := Lib.hid r1
  have U1 := Lib.hid (U0.out.trans u1)
  have hOs : W0.heap.size ≤ wO.heap.size := u1.size
  replace X2 := Lib.hid (X2.out.up u1)
  replace X3 := Lib.hid (X3.out.up u1)
  clear u1 r1 HB0 U0 HB
  go_wp2_with fail
  refine (model_any g 0 16 _ ⟨by omega, by omega⟩ (by omega) R1.out).mono ?_
  rintro x w2 ⟨A, n, c, B, k, d, m, rfl, MV, ⟨hn, hnc, hcm⟩, _, ⟨ht0, ht1⟩, _, r2, m2⟩
  have M2 := Lib.hid MV
  have U2 := Lib.hid (m2.up U1.out (by omega))
  have hg2 := r2.lt
  replace X2 := Lib.hid ((X2.out.mv m2 (by omega)).alloc (.cells #[.slice A n c, .slice B k d, .int .i64 m.til] 26))
  replace X3 := Lib.hid ((X3.out.mv m2 (by omega)).alloc (.cells #[.slice A n c, .slice B k d, .int .i64 m.til] 26))
  have X5 := Lib.hid (Bk.new w2 #[.slice A n c, .slice B k d, .int .i64 m.til] 26)
  have RR := Lib.hid (r2.alloc (.cells #[.slice A n c, .slice B k d, .int .i64 m.til] 26))
  have SM := Lib.hid (Sml.of_up (lo := wO.heap.size) ((Up.refl w2).alloc (.cells #[.slice A n c, .slice B k d, .int .i64 m.til] 26)))
  have UM := Lib.hid (U2.out.alloc (.cells #[.slice A n c, .slice B k d, .int .i64 m.til] 26))
  have hs2 : wO.heap.size ≤ w2.heap.size := m2.size
  clear MV m2 r2 R1 U1 U2
  go_wp2_with fail
  have CD := Lib.hid (fun W (r : Rd W g (0 + 2000)) => mark_any g (0 + 2000) A n c B k d m.til 2 W ⟨by omega, by omega⟩ (by omega) (by omega) ⟨ht0, ht1⟩ r)
  unfold GmDrawn at CD
  generalize w2.alloc (.cells #[.slice A n c, .slice B k d, .int .i64 m.til] 26) = W2 at *
  have hw2 := Lib.hid (show b3 < w2.heap.size by omega)
  generalize hb5 : w2.heap.size = b5 at *
  have n5g : b5 ≠ g := by omega
  have n52 : b5 ≠ b2 := by omega
  have n53 : b5 ≠ b3 := by omega
  have n23 : b2 ≠ b3 := by omega
  have n32 : b3 ≠ b2 := by omega
  have hSx : Bk W2.drew b5 #[.slice A n c, .slice B k d, .int .i64 m.til] := X5.out.up (Up.refl _).drew
  refine region_mixH (fun w1 => Bk w1 b5 #[.slice A n c, .slice B k d, .int .i64 m.til]) [(0, true), (1, true), (2, true), (3, false), (4, false), (5, false)] (by kernel_rfl) (by kernel_rfl) hSx ?_
  refine mixH_take rfl (by rfl) ?_
  apply Exists.intro
  refine ⟨fun w1 hS1 => ?_, ?_⟩
  · have z0 := hS1.cell (j := 0) rfl
    have z1 := hS1.cell (j := 1) rfl
    have z2 := hS1.cell (j := 2) rfl
    have lz := hS1.lt
    clear hS1
    go_simp
    try rfl
  go_simp
  refine mixH_take rfl (by rfl) ?_
  apply Exists.intro
  refine ⟨fun w1 hS1 => ?_, ?_⟩
  · clear hS1
    go_simp
    try rfl
  go_simp
  refine mixH_take rfl (by rfl) ?_
  apply Exists.intro
  refine ⟨fun w1 hS1 => ?_, ?_⟩
  · have z0 := hS1.cell (j := 0) rfl
    have z1 := hS1.cell (j := 1) rfl
    have z2 := hS1.cell (j := 2) rfl
    have lz := hS1.lt
    clear hS1
    go_simp
    try rfl
  go_simp
  refine mixH_go rfl (by rfl) (fun K hK => ?_)
  go_simp
  refine (CD.out _ (RR.out.up (Up.refl _).drew)).mono ?_
  rintro x wB ⟨⟨q0, q1, q2, q3⟩, rfl, rB, mB⟩
  refine hK _ _ (hSx.mv mB n5g) ?_
  clear hK K
  have mB := mB
  replace X2 := Lib.hid (X2.out.mv ((Up.refl W2).drew.mv g |>.trans mB) (by omega))
  replace X3 := Lib.hid (X3.out.mv ((Up.refl W2).drew.mv g |>.trans mB) (by omega))
  replace SM := Lib.hid (SM.out.trans (Sml.of_mv ((Up.refl W2).drew.mv g |>.trans mB) (show g < wO.heap.size by omega)))
  replace UM := Lib.hid ((((Up.refl W2).drew.mv g).trans mB).up UM.out (by omega))
  have SB := Lib.hid (X5.out.mv ((Up.refl W2).drew.mv g |>.trans mB) n5g)
  clear mB rB
  unfold Gm.v
  dsimp only
  go_simp
  have y0 := X2.out.cell (j := 0) rfl
  have y1 := X2.out.cell (j := 1) rfl
  have y2 := X2.out.cell (j := 2) rfl
  have fy := fun j => X2.out.frozen j
  have ly := X2.out.lt
  refine mixH_go rfl (by rfl) (fun K hK => ?_)
  go_simp
  refine hK _ _ (putM_far SB.out n52 _ _ _) ?_
  clear hK K
  replace X3 := Lib.hid (putM_far X3.out n32 (.slice A n c) (.slice B k d) (.int .i64 m.til))
  replace SM := Lib.hid (putM_sml (b := b2) SM.out (by omega) (.slice A n c) (.slice B k d) (.int .i64 m.til))
  replace UM := Lib.hid (putM_up (b := b2) UM.out (by omega) (.slice A n c) (.slice B k d) (.int .i64 m.til))
  replace SB := Lib.hid (putM_far SB.out n52 (.slice A n c) (.slice B k d) (.int .i64 m.til))
  replace X2 := Lib.hid (putM_bk X2.out (.slice A n c) (.slice B k d) (.int .i64 m.til))
  unfold putM at X2 X3 SM UM SB
  clear y0 y1 y2 fy ly
  generalize ((wB.setCell ⟨b2, 0, none⟩ (.slice A n c)).setCell ⟨b2, 1, none⟩ (.slice B k d)).setCell ⟨b2, 2, none⟩ (.int .i64 m.til) = wC at *
  go_simp
  have y0 := X3.out.cell (j := 0) rfl
  have y1 := X3.out.cell (j := 1) rfl
  have y2 := X3.out.cell (j := 2) rfl
  have y3 := X3.out.cell (j := 3) rfl
  have fy := fun j => X3.out.frozen j
  have ly := X3.out.lt
  refine mixH_go rfl (by rfl) (fun K hK => ?_)
  go_simp
  refine hK _ _ (putG_far SB.out n53 q0 q1 q2 q3) ?_
  clear hK K
  replace X2 := Lib.hid (putG_far X2.out n23 q0 q1 q2 q3)
  replace SM := Lib.hid (putG_sml (b := b3) SM.out (by omega) q0 q1 q2 q3)
  replace UM := Lib.hid (putG_up (b := b3) UM.out (by omega) q0 q1 q2 q3)
  replace X3 := Lib.hid (putG_bk X3.out q0 q1 q2 q3)
  unfold putG at X2 X3 SM UM
  clear y0 y1 y2 y3 fy ly
  generalize (((wC.setCell ⟨b3, 0, none⟩ (.int .i64 q0)).setCell ⟨b3, 1, none⟩ (.int .i64 q1)).setCell ⟨b3, 2, none⟩ (.int .i64 q2)).setCell ⟨b3, 3, none⟩ (.int .i64 q3) = wD at *
  go_simp
  refine mixH_nil ?_
  have k0 := X2.out.cell (j := 0) rfl
  have k1 := X2.out.cell (j := 1) rfl
  have k2 := X2.out.cell (j := 2) rfl
  have j0 := X3.out.cell (j := 0) rfl
  have j1 := X3.out.cell (j := 1) rfl
  have j2 := X3.out.cell (j := 2) rfl
  have j3 := X3.out.cell (j := 3) rfl
  go_wp2
  exact bodyPost_ret (v := .tuple #[.agg #[.slice A n c, .slice B k d, .int .i64 m.til], .agg #[.int .i64 q0, .int .i64 q1, .int .i64 q2, .int .i64 q3]]) (by simp [results, Try.results9, go_sem, k0, k1, k2, j0, j1, j2, j3]) rfl
    ⟨A, n, c, B, k, d, m, ⟨q0, q1, q2, q3⟩, rfl, M2.out _ SM.out, ⟨hn, hnc, hcm⟩, ⟨ht0, ht1⟩, UM.out⟩
 
/-- What DrawTokOk gives. -/
def DrawnTok (w : World) (x : Ending) (w' : World) : Prop :=
  ∃ (A : Option Addr) (n c : Nat) (B : Option Addr) (k d : Nat) (m : Mdl) (t : Gk), x = .returned (.tuple #[.agg #[.slice A n c, .slice B k d, .int .i64 m.til], t.v]) ∧ MdlV w' A n B k m ∧ (n ≤ 32 ∧ n ≤ c ∧ c ≤ 9223372036854775807) ∧ (-1 ≤ m.til ∧ m.til ≤ 100) ∧ Up w w'

set_option maxHeartbeats 8000000 in
theorem drawTok_any (A : Option Addr) (n cap : Nat) (w : World) (hc : n ≤ cap) (hmax : cap ≤ 9223372036854775807) (hB : Bys w A n w.heap.size) :
    Calls Try.prog 10 #[.slice A n cap] w (DrawnTok w) := by
  have HB := Lib.hid hB
  clear hB
  go_enter Try.func10, Try.ntmps10
  go_wp2_with fail
  have U0 := Lib.hid (((Up.refl w).alloc (.cells #[.slice none 0 0, .slice none 0 0, .int .i64 0] 26)).alloc (.cells #[.bool false, .int .i64 0, .int .i64 0, .int .i64 0, .int .i64 0] 32))
  have X2 := Lib.hid ((Bk.new w #[.slice none 0 0, .slice none 0 0, .int .i64 0] 26).alloc (.cells #[.bool false, .int .i64 0, .int .i64 0, .int .i64 0, .int .i64 0] 32))
  have X3 := Lib.hid (Bk.new (w.alloc (.cells #[.slice none 0 0, .slice none 0 0, .int .i64 0] 26)) #[.bool false, .int .i64 0, .int .i64 0, .int .i64 0, .int .i64 0] 32)
  simp only [World.size_alloc] at X3
  generalize hW0 : (w.alloc (.cells #[.slice none 0 0, .slice none 0 0, .int .i64 0] 26)).alloc (.cells #[.bool false, .int .i64 0, .int .i64 0, .int .i64 0, .int .i64 0] 32) = W0 at *
  have hs0 : W0.heap.size = w.heap.size + 1 + 1 := by rw [← hW0]; simp
  have HB0 : Bys W0 A n W0.heap.size := fun h0 => by
    obtain ⟨b, off, hA, hb, hcc⟩ := HB.out.keep (fun b o hb => U0.out.cells b o hb) h0
    exact ⟨b, off, hA, by omega, hcc⟩
  clear hW0
  generalize hb3 : w.heap.size + 1 = b3 at *
  generalize hb2 : w.heap.size = b2 at *
  refine (open_any A n cap _ hc hmax HB0).mono ?_
  rintro x wO ⟨g, rfl, hg, r1, u1⟩
  have hgO := r1.lt
  have R1 := Lib.hid r1
  have U1 := Lib.hid (U0.out.trans u1)
  have hOs : W0.heap.size ≤ wO.heap.size := u1.size
  replace X2 := Lib.hid (X2.out.up u1)
  replace X3 := Lib.hid (X3.out.up u1)
  clear u1 r1 HB0 U0 HB
  go_wp2_with fail
  refine (model_any g 0 16 _ ⟨by omega, by omega⟩ (by omega) R1.out).mono ?_
  rintro x w2 ⟨A, n, c, B, k, d, m, rfl, MV, ⟨hn, hnc, hcm⟩, _, ⟨ht0, ht1⟩, _, r2, m2⟩
  have M2 := Lib.hid MV
  have U2 := Lib.hid (m2.up U1.out (by omega))
  have hg2 := r2.lt
  replace X2 := Lib.hid ((X2.out.mv m2 (by omega)).alloc (.cells #[.slice A n c, .slice B k d, .int .i64 m.til] 26))
  replace X3 := Lib.hid ((X3.out.mv m2 (by omega)).alloc (.cells #[.slice A n c, .slice B k d, .int .i64 m.til] 26))
  have X5 := Lib.hid (Bk.new w2 #[.slice A n c, .slice B k d, .int .i64 m.til] 26)
  have RR := Lib.hid (r2.alloc (.cells #[.slice A n c, .slice B k d, .int .i64 m.til] 26))
  have SM := Lib.hid (Sml.of_up (lo := wO.heap.size) ((Up.refl w2).alloc (.cells #[.slice A n c, .slice B k d, .int .i64 m.til] 26)))
  have UM := Lib.hid (U2.out.alloc (.cells #[.slice A n c, .slice B k d, .int .i64 m.til] 26))
  have hs2 : wO.heap.size ≤ w2.heap.size := m2.size
  clear MV m2 r2 R1 U1 U2
  go_wp2_with fail
  have CD := Lib.hid (fun W (r : Rd W g (0 + 2000)) => tok_any g (0 + 2000) A n c B k d m.til 2 W ⟨by omega, by omega⟩ (by omega) (by omega) ⟨ht0, ht1⟩ r)
  unfold GkDrawn at CD
  generalize w2.alloc (.cells #[.slice A n c, .slice B k d, .int .i64 m.til] 26) = W2 at *
  have hw2 := Lib.hid (show b3 < w2.heap.size by omega)
  generalize hb5 : w2.heap.size = b5 at *
  have n5g : b5 ≠ g := by omega
  have n52 : b5 ≠ b2 := by omega
  have n53 : b5 ≠ b3 := by omega
  have n23 : b2 ≠ b3 := by omega
  have n32 : b3 ≠ b2 := by omega
  have hSx : Bk W2.drew b5 #[.slice A n c, .slice B k d, .int .i64 m.til] := X5.out.up (Up.refl _).drew
  refine region_mixH (fun w1 => Bk w1 b5 #[.slice A n c, .slice B k d, .int .i64 m.til]) [(0, true), (1, true), (2, true), (3, false), (4, false), (5, false)] (by kernel_rfl) (by kernel_rfl) hSx ?_
  refine mixH_take rfl (by rfl) ?_
  apply Exists.intro
  refine ⟨fun w1 hS1 => ?_, ?_⟩
  · have z0 := hS1.cell (j := 0) rfl
    have z1 := hS1.cell (j := 1) rfl
    have z2 := hS1.cell (j := 2) rfl
    have lz := hS1.lt
    clear hS1
    go_simp
    try rfl
  go_simp
  refine mixH_take rfl (by rfl) ?_
  apply Exists.intro
  refine ⟨fun w1 hS1 => ?_, ?_⟩
  · clear hS1
    go_simp
    try rfl
  go_simp
  refine mixH_take rfl (by rfl) ?_
  apply Exists.intro
  refine ⟨fun w1 hS1 => ?_, ?_⟩
  · have z0 := hS1.cell (j := 0) rfl
    have z1 := hS1.cell (j := 1) rfl
    have z2 := hS1.cell (j := 2) rfl
    have lz := hS1.lt
    clear hS1
    go_simp
    try rfl
  go_simp
  refine mixH_go rfl (by rfl) (fun K hK => ?_)
  go_simp
  refine (CD.out _ (RR.out.up (Up.refl _).drew)).mono ?_
  rintro x wB ⟨⟨q0, q1, q2, q3, q4⟩, rfl, rB, mB⟩
  refine hK _ _ (hSx.mv mB n5g) ?_
  clear hK K
  have mB := mB
  replace X2 := Lib.hid (X2.out.mv ((Up.refl W2).drew.mv g |>.trans mB) (by omega))
  replace X3 := Lib.hid (X3.out.mv ((Up.refl W2).drew.mv g |>.trans mB) (by omega))
  replace SM := Lib.hid (SM.out.trans (Sml.of_mv ((Up.refl W2).drew.mv g |>.trans mB) (show g < wO.heap.size by omega)))
  replace UM := Lib.hid ((((Up.refl W2).drew.mv g).trans mB).up UM.out (by omega))
  have SB := Lib.hid (X5.out.mv ((Up.refl W2).drew.mv g |>.trans mB) n5g)
  clear mB rB
  unfold Gk.v
  dsimp only
  go_simp
  have y0 := X2.out.cell (j := 0) rfl
  have y1 := X2.out.cell (j := 1) rfl
  have y2 := X2.out.cell (j := 2) rfl
  have fy := fun j => X2.out.frozen j
  have ly := X2.out.lt
  refine mixH_go rfl (by rfl) (fun K hK => ?_)
  go_simp
  refine hK _ _ (putM_far SB.out n52 _ _ _) ?_
  clear hK K
  replace X3 := Lib.hid (putM_far X3.out n32 (.slice A n c) (.slice B k d) (.int .i64 m.til))
  replace SM := Lib.hid (putM_sml (b := b2) SM.out (by omega) (.slice A n c) (.slice B k d) (.int .i64 m.til))
  replace UM := Lib.hid (putM_up (b := b2) UM.out (by omega) (.slice A n c) (.slice B k d) (.int .i64 m.til))
  replace SB := Lib.hid (putM_far SB.out n52 (.slice A n c) (.slice B k d) (.int .i64 m.til))
  replace X2 := Lib.hid (putM_bk X2.out (.slice A n c) (.slice B k d) (.int .i64 m.til))
  unfold putM at X2 X3 SM UM SB
  clear y0 y1 y2 fy ly
  generalize ((wB.setCell ⟨b2, 0, none⟩ (.slice A n c)).setCell ⟨b2, 1, none⟩ (.slice B k d)).setCell ⟨b2, 2, none⟩ (.int .i64 m.til) = wC at *
  go_simp
  have y0 := X3.out.cell (j := 0) rfl
  have y1 := X3.out.cell (j := 1) rfl
  have y2 := X3.out.cell (j := 2) rfl
  have y3 := X3.out.cell (j := 3) rfl
  have y4 := X3.out.cell (j := 4) rfl
  have fy := fun j => X3.out.frozen j
  have ly := X3.out.lt
  refine mixH_go rfl (by rfl) (fun K hK => ?_)
  go_simp
  refine hK _ _ (putK_far SB.out n53 q0 q1 q2 q3 q4) ?_
  clear hK K
  replace X2 := Lib.hid (putK_far X2.out n23 q0 q1 q2 q3 q4)
  replace SM := Lib.hid (putK_sml (b := b3) SM.out (by omega) q0 q1 q2 q3 q4)
  replace UM := Lib.hid (putK_up (b := b3) UM.out (by omega) q0 q1 q2 q3 q4)
  replace X3 := Lib.hid (putK_bk X3.out q0 q1 q2 q3 q4)
  unfold putK at X2 X3 SM UM
  clear y0 y1 y2 y3 y4 fy ly
  generalize ((((wC.setCell ⟨b3, 0, none⟩ (.bool q0)).setCell ⟨b3, 1, none⟩ (.int .i64 q1)).setCell ⟨b3, 2, none⟩ (.int .i64 q2)).setCell ⟨b3, 3, none⟩ (.int .i64 q3)).setCell ⟨b3, 4, none⟩ (.int .i64 q4) = wD at *
  go_simp
  refine mixH_nil ?_
  have k0 := X2.out.cell (j := 0) rfl
  have k1 := X2.out.cell (j := 1) rfl
  have k2 := X2.out.cell (j := 2) rfl
  have j0 := X3.out.cell (j := 0) rfl
  have j1 := X3.out.cell (j := 1) rfl
  have j2 := X3.out.cell (j := 2) rfl
  have j3 := X3.out.cell (j := 3) rfl
  have j4 := X3.out.cell (j := 4) rfl
  go_wp2
  exact bodyPost_ret (v := .tuple #[.agg #[.slice A n c, .slice B k d, .int .i64 m.til], .agg #[.bool q0, .int .i64 q1, .int .i64 q2, .int .i64 q3, .int .i64 q4]]) (by simp [results, Try.results10, go_sem, k0, k1, k2, j0, j1, j2, j3, j4]) rfl
    ⟨A, n, c, B, k, d, m, ⟨q0, q1, q2, q3, q4⟩, rfl, M2.out _ SM.out, ⟨hn, hnc, hcm⟩, ⟨ht0, ht1⟩, UM.out⟩

end Go.Proofs.Ytojnphchkdjafaa

namespace Go.Proofs.Ytojnphchkdjafaa
set_option maxRecDepth 100000
open Go.RowKit
set_option linter.unusedVariables false

def DrawnVis (w : World) (x : Ending) (w' : World) : Prop :=
  ∃ (A : Option Addr) (n c : Nat) (B : Option Addr) (k d : Nat) (m : Mdl) (t : Gk) (q : Gm) (z : Int), x = .returned (.tuple #[.agg #[.slice A n c, .slice B k d, .int .i64 m.til], t.v, q.v, .int .i64 z]) ∧ MdlV w' A n B k m ∧ (n ≤ 32 ∧ n ≤ c ∧ c ≤ 9223372036854775807) ∧ (-1 ≤ m.til ∧ m.til ≤ 100) ∧ Up w w'

set_option maxHeartbeats 20000000 in
theorem drawVis_any (A : Option Addr) (n cap : Nat) (w : World) (hc : n ≤ cap) (hmax : cap ≤ 9223372036854775807) (hB : Bys w A n w.heap.size) :
    Calls Try.prog 16 #[.slice A n cap] w (DrawnVis w) := by
  have HB := Lib.hid hB
  clear hB
  have X2 := Lib.hid (((Bk.new w #[.slice none 0 0, .slice none 0 0, .int .i64 0] 26).alloc (.cells #[.bool false, .int .i64 0, .int .i64 0, .int .i64 0, .int .i64 0] 32)).alloc (.cells #[.int .i64 0, .int .i64 0, .int .i64 0, .int .i64 0] 28))
  have X3 := Lib.hid ((Bk.new (w.alloc (.cells #[.slice none 0 0, .slice none 0 0, .int .i64 0] 26)) #[.bool false, .int .i64 0, .int .i64 0, .int .i64 0, .int .i64 0] 32).alloc (.cells #[.int .i64 0, .int .i64 0, .int .i64 0, .int .i64 0] 28))
  have X4 := Lib.hid (Bk.new ((w.alloc (.cells #[.slice none 0 0, .slice none 0 0, .int .i64 0] 26)).alloc (.cells #[.bool false, .int .i64 0, .int .i64 0, .int .i64 0, .int .i64 0] 32)) #[.int .i64 0, .int .i64 0, .int .i64 0, .int .i64 0] 28)
  simp only [World.size_alloc] at X3 X4
  have U0 := Lib.hid ((((Up.refl w).alloc (.cells #[.slice none 0 0, .slice none 0 0, .int .i64 0] 26)).alloc (.cells #[.bool false, .int .i64 0, .int .i64 0, .int .i64 0, .int .i64 0] 32)).alloc (.cells #[.int .i64 0, .int .i64 0, .int .i64 0, .int .i64 0] 28))
  go_enter Try.func16, Try.ntmps16
  go_wp2_with fail
  generalize hW0 : ((w.alloc (.cells #[.slice none 0 0, .slice none 0 0, .int .i64 0] 26)).alloc (.cells #[.bool false, .int .i64 0, .int .i64 0, .int .i64 0, .int .i64 0] 32)).alloc (.cells #[.int .i64 0, .int .i64 0, .int .i64 0, .int .i64 0] 28) = W0 at *
  have hs0 : W0.heap.size = w.heap.size + 1 + 1 + 1 := by rw [← hW0]; simp
  have HB0 : Bys W0 A n W0.heap.size := fun h0 => by
    obtain ⟨b, off, hA, hb, hcc⟩ := HB.out.keep (fun b o hb => U0.out.cells b o hb) h0
    exact ⟨b, off, hA, by omega, hcc⟩
  clear hW0
  generalize hb4 : w.heap.size + 1 + 1 = b4 at *
  generalize hb3 : w.heap.size + 1 = b3 at *
  generalize hb2 : w.heap.size = b2 at *
  refine (open_any A n cap _ hc hmax HB0).mono ?_
  rintro x wO ⟨g, rfl, hg, r1, u1⟩
  have hgO := r1.lt
  have R1 := Lib.hid r1
  have U1 := Lib.hid (U0.out.trans u1)
  have hOs : W0.heap.size ≤ wO.heap.size := u1.size
  replace X2 := Lib.hid (X2.out.up u1)
  replace X3 := Lib.hid (X3.out.up u1)
  replace X4 := Lib.hid (X4.out.up u1)
  have n2g : b2 ≠ g := by omega
  have n3g : b3 ≠ g := by omega
  have n4g : b4 ≠ g := by omega
  clear u1 r1 HB0 U0 HB
  go_wp2_with fail
  refine (model_any g 0 24 _ ⟨by omega, by omega⟩ (by omega) R1.out).mono ?_
  rintro x w2 ⟨A, n, c, B, k, d, m, rfl, MV, ⟨hn, hnc, hcm⟩, _, ⟨ht0, ht1⟩, _, r2, m2⟩
  have M2 := Lib.hid MV
  have UM := Lib.hid ((m2.up U1.out (by omega)).alloc (.cells #[.slice A n c, .slice B k d, .int .i64 m.til] 26))
  have hg2 := r2.lt
  replace X2 := Lib.hid ((X2.out.mv m2 n2g).alloc (.cells #[.slice A n c, .slice B k d, .int .i64 m.til] 26))
  replace X3 := Lib.hid ((X3.out.mv m2 n3g).alloc (.cells #[.slice A n c, .slice B k d, .int .i64 m.til] 26))
  replace X4 := Lib.hid ((X4.out.mv m2 n4g).alloc (.cells #[.slice A n c, .slice B k d, .int .i64 m.til] 26))
  have X7 := Lib.hid (Bk.new w2 #[.slice A n c, .slice B k d, .int .i64 m.til] 26)
  have RR := Lib.hid (r2.alloc (.cells #[.slice A n c, .slice B k d, .int .i64 m.til] 26))
  have SM := Lib.hid (Sml.of_up (lo := wO.heap.size) ((Up.refl w2).alloc (.cells #[.slice A n c, .slice B k d, .int .i64 m.til] 26)))
  have hs2 : wO.heap.size ≤ w2.heap.size := m2.size
  have hW2 : w2.heap.size + 1 = (w2.alloc (.cells #[.slice A n c, .slice B k d, .int .i64 m.til] 26)).heap.size := by simp
  have h7o := X7.out.cell (j := 0) rfl
  have h7p := X7.out.cell (j := 1) rfl
  have h7q := X7.out.cell (j := 2) rfl
  have h7l := X7.out.lt
  clear MV m2 r2 R1 U1
  go_wp2_with fail
  generalize w2.alloc (.cells #[.slice A n c, .slice B k d, .int .i64 m.til] 26) = W2 at *
  generalize hb7 : w2.heap.size = b7 at *
  have n7g : b7 ≠ g := by omega
  refine (tok_any g (0 + 2000) A n c B k d m.til 16 W2 ⟨by omega, by omega⟩ (by omega) (by omega) ⟨ht0, ht1⟩ RR.out).mono ?_
  rintro x w3 ⟨⟨p0, p1, p2, p3, p4⟩, rfl, r3, m3⟩
  unfold Gk.v
  dsimp only
  have hs3 : W2.heap.size ≤ w3.heap.size := m3.size
  clear h7o h7p h7q h7l
  replace X2 := Lib.hid (X2.out.mv m3 n2g)
  replace X3 := Lib.hid (X3.out.mv m3 n3g)
  replace X4 := Lib.hid (X4.out.mv m3 n4g)
  replace X7 := Lib.hid (X7.out.mv m3 n7g)
  replace SM := Lib.hid (SM.out.trans (Sml.of_mv m3 (show g < wO.heap.size by omega)))
  replace UM := Lib.hid (m3.up UM.out (by omega))
  have ua := (Up.refl w3).alloc (.cells #[.bool p0, .int .i64 p1, .int .i64 p2, .int .i64 p3, .int .i64 p4] 32)
  replace X2 := Lib.hid (X2.out.up ua)
  replace X3 := Lib.hid (X3.out.up ua)
  replace X4 := Lib.hid (X4.out.up ua)
  replace X7 := Lib.hid (X7.out.up ua)
  replace SM := Lib.hid (SM.out.trans (Sml.of_up ua))
  replace UM := Lib.hid (UM.out.trans ua)
  have X8 := Lib.hid (Bk.new w3 #[.bool p0, .int .i64 p1, .int .i64 p2, .int .i64 p3, .int .i64 p4] 32)
  replace RR := Lib.hid (r3.up ua)
  clear r3 m3 ua
  have hW3 : w3.heap.size + 1 = (w3.alloc (.cells #[.bool p0, .int .i64 p1, .int .i64 p2, .int .i64 p3, .int .i64 p4] 32)).heap.size := by simp
  have x7_0 := X7.out.cell (j := 0) rfl
  have x7_1 := X7.out.cell (j := 1) rfl
  have x7_2 := X7.out.cell (j := 2) rfl
  have lx7 := X7.out.lt
  go_wp2_with fail
  generalize w3.alloc (.cells #[.bool p0, .int .i64 p1, .int .i64 p2, .int .i64 p3, .int .i64 p4] 32) = W3 at *
  generalize hb8 : w3.heap.size = b8 at *
  have n8g : b8 ≠ g := by omega
  refine (mark_any g (0 + 2000 + 60) A n c B k d m.til 16 W3 ⟨by omega, by omega⟩ (by omega) (by omega) ⟨ht0, ht1⟩ RR.out).mono ?_
  rintro x w4 ⟨⟨q0, q1, q2, q3⟩, rfl, r4, m4⟩
  unfold Gm.v
  dsimp only
  have hs4 : W3.heap.size ≤ w4.heap.size := m4.size
  clear x7_0 x7_1 x7_2 lx7
  replace X2 := Lib.hid (X2.out.mv m4 n2g)
  replace X3 := Lib.hid (X3.out.mv m4 n3g)
  replace X4 := Lib.hid (X4.out.mv m4 n4g)
  replace X7 := Lib.hid (X7.out.mv m4 n7g)
  replace X8 := Lib.hid (X8.out.mv m4 n8g)
  replace SM := Lib.hid (SM.out.trans (Sml.of_mv m4 (show g < wO.heap.size by omega)))
  replace UM := Lib.hid (m4.up UM.out (by omega))
  have ua := (Up.refl w4).alloc (.cells #[.int .i64 q0, .int .i64 q1, .int .i64 q2, .int .i64 q3] 28)
  replace X2 := Lib.hid (X2.out.up ua)
  replace X3 := Lib.hid (X3.out.up ua)
  replace X4 := Lib.hid (X4.out.up ua)
  replace X7 := Lib.hid (X7.out.up ua)
  replace X8 := Lib.hid (X8.out.up ua)
  replace SM := Lib.hid (SM.out.trans (Sml.of_up ua))
  replace UM := Lib.hid (UM.out.trans ua)
  have X9 := Lib.hid (Bk.new w4 #[.int .i64 q0, .int .i64 q1, .int .i64 q2, .int .i64 q3] 28)
  replace RR := Lib.hid (r4.up ua)
  clear r4 m4 ua
  have hW4 : w4.heap.size + 1 = (w4.alloc (.cells #[.int .i64 q0, .int .i64 q1, .int .i64 q2, .int .i64 q3] 28)).heap.size := by simp
  go_wp2_with fail
  generalize w4.alloc (.cells #[.int .i64 q0, .int .i64 q1, .int .i64 q2, .int .i64 q3] 28) = W4 at *
  generalize hb9 : w4.heap.size = b9 at *
  have n9g : b9 ≠ g := by omega
  refine (pick_any g (0 + 2000 + 60 + 60) 6 _ ⟨by omega, by omega⟩ (by omega) RR.out).mono ?_
  rintro x w5 ⟨zs, rfl, _, _, r5, m5⟩
  replace X2 := Lib.hid (X2.out.mv m5 n2g)
  replace X3 := Lib.hid (X3.out.mv m5 n3g)
  replace X4 := Lib.hid (X4.out.mv m5 n4g)
  replace X7 := Lib.hid (X7.out.mv m5 n7g)
  replace X8 := Lib.hid (X8.out.mv m5 n8g)
  replace X9 := Lib.hid (X9.out.mv m5 n9g)
  replace SM := Lib.hid (SM.out.trans (Sml.of_mv m5 (show g < wO.heap.size by omega)))
  replace UM := Lib.hid (m5.up UM.out (by omega))
  replace RR := Lib.hid r5
  have hs5 : W4.heap.size ≤ w5.heap.size := m5.size
  clear r5 m5
  obtain ⟨q36, h36⟩ : ∃ q, IntKind.i64.wrap (m.til + 3) = q := ⟨_, rfl⟩
  have v36 : q36 = m.til + 3 := h36.symm.trans (IntWalk.i64_in _ (by omega))
  obtain ⟨q37, h37⟩ : ∃ q, (if q36 > 1 then q36 else 1) = q := ⟨_, rfl⟩
  have hq37 : I64 q37 := by rw [← h37]; split <;> exact ⟨by omega, by omega⟩
  clear v36
  by_cases hz : zs > 0
  · go_wp2_with fail
    have ud := (Up.refl w5).drew
    replace X2 := Lib.hid (X2.out.up ud)
    replace X3 := Lib.hid (X3.out.up ud)
    replace X4 := Lib.hid (X4.out.up ud)
    replace X7 := Lib.hid (X7.out.up ud)
    replace X8 := Lib.hid (X8.out.up ud)
    replace X9 := Lib.hid (X9.out.up ud)
    replace SM := Lib.hid (SM.out.trans (Sml.of_up ud))
    replace UM := Lib.hid (UM.out.trans ud)
    replace RR := Lib.hid (RR.out.up ud)
    clear ud
    have hSx : Bk w5.drew b8 #[.bool p0, .int .i64 p1, .int .i64 p2, .int .i64 p3, .int .i64 p4] := X8.out
    refine region_mixH (fun w1 => Bk w1 b8 #[.bool p0, .int .i64 p1, .int .i64 p2, .int .i64 p3, .int .i64 p4]) [(0, true), (1, true), (2, true), (3, false), (4, true), (5, true), (6, true), (7, false)] (by kernel_rfl) (by kernel_rfl) hSx ?_
    refine mixH_take rfl (by rfl) ?_
    apply Exists.intro
    refine ⟨fun w1 hS1 => ?_, ?_⟩
    · have y0 := hS1.cell (j := 0) rfl
      have y1 := hS1.cell (j := 1) rfl
      have y2 := hS1.cell (j := 2) rfl
      have y3 := hS1.cell (j := 3) rfl
      have y4 := hS1.cell (j := 4) rfl
      have ly := hS1.lt
      clear hS1
      go_simp
      try rfl
    go_simp
    refine mixH_take rfl (by rfl) ?_
    apply Exists.intro
    refine ⟨fun w1 hS1 => ?_, ?_⟩
    · have y0 := hS1.cell (j := 0) rfl
      have y1 := hS1.cell (j := 1) rfl
      have y2 := hS1.cell (j := 2) rfl
      have y3 := hS1.cell (j := 3) rfl
      have y4 := hS1.cell (j := 4) rfl
      have ly := hS1.lt
      clear hS1
      go_simp
      try rfl
    go_simp
    refine mixH_take rfl (by rfl) ?_
    apply Exists.intro
    refine ⟨fun w1 hS1 => ?_, ?_⟩
    · clear hS1
      go_simp
      try rfl
    go_simp
    refine mixH_go rfl (by rfl) (fun K hK => ?_)
    go_simp
    refine (pick_any g (0 + 2000 + 60 + 60 + 1) 2 _ ⟨by omega, by omega⟩ (by omega) RR.out).mono ?_
    rintro x wB ⟨z0, rfl, _, _, rB, mB⟩
    refine hK _ _ (hSx.mv mB n8g) ?_
    clear hK K
    replace X2 := Lib.hid (X2.out.mv mB n2g)
    replace X3 := Lib.hid (X3.out.mv mB n3g)
    replace X4 := Lib.hid (X4.out.mv mB n4g)
    replace X7 := Lib.hid (X7.out.mv mB n7g)
    replace X8 := Lib.hid (X8.out.mv mB n8g)
    replace X9 := Lib.hid (X9.out.mv mB n9g)
    replace SM := Lib.hid (SM.out.trans (Sml.of_mv mB (show g < wO.heap.size by omega)))
    replace UM := Lib.hid (mB.up UM.out (by omega))
    replace RR := Lib.hid rB
    clear rB mB hSx
    obtain ⟨e0, he0⟩ : ∃ y, IntKind.i64.wrap (p1 - z0) = y := ⟨_, rfl⟩
    obtain ⟨qm, hqm⟩ : ∃ q, (if e0 > 0 then e0 else 0) = q := ⟨_, rfl⟩
    go_simp
    refine mixH_take rfl (by rfl) ?_
    apply Exists.intro
    refine ⟨fun w1 hS1 => ?_, ?_⟩
    · clear hS1
      go_simp
      try rfl
    go_simp
    refine mixH_take rfl (by rfl) ?_
    apply Exists.intro
    refine ⟨fun w1 hS1 => ?_, ?_⟩
    · clear hS1
      go_simp
      try rfl
    go_simp
    refine mixH_take rfl (by rfl) ?_
    apply Exists.intro
    refine ⟨fun w1 hS1 => ?_, ?_⟩
    · clear hS1
      go_simp
      try rfl
    go_simp
    have x9_0 := X9.out.cell (j := 0) rfl
    have x9_1 := X9.out.cell (j := 1) rfl
    have x9_2 := X9.out.cell (j := 2) rfl
    have x9_3 := X9.out.cell (j := 3) rfl
    have lx9 := X9.out.lt
    have fx9 := fun j => X9.out.frozen j
    refine mixH_go rfl (by rfl) (fun K hK => ?_)
    go_simp
    refine hK _ _ (bk_far _ _ X8.out (show b8 ≠ b9 by omega)) ?_
    clear hK K
    replace X2 := Lib.hid (bk_far _ (o := 0) (.int .i64 qm) X2.out (show b2 ≠ b9 by omega))
    replace X3 := Lib.hid (bk_far _ (o := 0) (.int .i64 qm) X3.out (show b3 ≠ b9 by omega))
    replace X4 := Lib.hid (bk_far _ (o := 0) (.int .i64 qm) X4.out (show b4 ≠ b9 by omega))
    replace X7 := Lib.hid (bk_far _ (o := 0) (.int .i64 qm) X7.out (show b7 ≠ b9 by omega))
    replace X8 := Lib.hid (bk_far _ (o := 0) (.int .i64 qm) X8.out (show b8 ≠ b9 by omega))
    replace X9 : Hid (Bk _ b9 #[.int .i64 qm, .int .i64 q1, .int .i64 q2, .int .i64 q3]) := Lib.hid (bk_setC _ _ 0 (.int .i64 qm) X9.out)
    replace SM := Lib.hid (SM.out.setNew (b := b9) (o := 0) (u := .int .i64 qm) (by omega))
    replace UM := Lib.hid (UM.out.setCell (p := ⟨b9, 0, none⟩) (show w.heap.size ≤ b9 by omega) (.int .i64 qm))
    replace RR := Lib.hid (RR.out.setCell (p := ⟨b9, 0, none⟩) (show g < b9 by omega) (.int .i64 qm))
    clear x9_0 x9_1 x9_2 x9_3 lx9 fx9
    generalize wB.setCell ⟨b9, 0, none⟩ (.int .i64 qm) = wG at *
    go_simp
    refine mixH_nil ?_
    go_wp2_with fail
    have ud := (Up.refl wG).drew
    replace X2 := Lib.hid (X2.out.up ud)
    replace X3 := Lib.hid (X3.out.up ud)
    replace X4 := Lib.hid (X4.out.up ud)
    replace X7 := Lib.hid (X7.out.up ud)
    replace X8 := Lib.hid (X8.out.up ud)
    replace X9 := Lib.hid (X9.out.up ud)
    replace SM := Lib.hid (SM.out.trans (Sml.of_up ud))
    replace UM := Lib.hid (UM.out.trans ud)
    replace RR := Lib.hid (RR.out.up ud)
    clear ud
    have hSx : Bk wG.drew b7 #[.slice A n c, .slice B k d, .int .i64 m.til] ∧ Bk wG.drew b8 #[.bool p0, .int .i64 p1, .int .i64 p2, .int .i64 p3, .int .i64 p4] ∧ Bk wG.drew b9 #[.int .i64 qm, .int .i64 q1, .int .i64 q2, .int .i64 q3] := ⟨X7.out, X8.out, X9.out⟩
    refine region_mixH (fun w1 => Bk w1 b7 #[.slice A n c, .slice B k d, .int .i64 m.til] ∧ Bk w1 b8 #[.bool p0, .int .i64 p1, .int .i64 p2, .int .i64 p3, .int .i64 p4] ∧ Bk w1 b9 #[.int .i64 qm, .int .i64 q1, .int .i64 q2, .int .i64 q3]) [(0, true), (1, true), (2, true), (3, true), (4, true), (5, true), (6, true), (7, true), (9, true), (8, false), (10, false), (11, true), (12, true), (13, false), (14, false), (15, false), (16, true)] (by kernel_rfl) (by kernel_rfl) hSx ?_
    refine mixH_take rfl (by rfl) ?_
    apply Exists.intro
    refine ⟨fun w1 hS1 => ?_, ?_⟩
    · have z0 := hS1.1.cell (j := 0) rfl
      have z1 := hS1.1.cell (j := 1) rfl
      have z2 := hS1.1.cell (j := 2) rfl
      have lz := hS1.1.lt
      have y0 := hS1.2.1.cell (j := 0) rfl
      have y1 := hS1.2.1.cell (j := 1) rfl
      have y2 := hS1.2.1.cell (j := 2) rfl
      have y3 := hS1.2.1.cell (j := 3) rfl
      have y4 := hS1.2.1.cell (j := 4) rfl
      have ly := hS1.2.1.lt
      have v0 := hS1.2.2.cell (j := 0) rfl
      have v1 := hS1.2.2.cell (j := 1) rfl
      have v2 := hS1.2.2.cell (j := 2) rfl
      have v3 := hS1.2.2.cell (j := 3) rfl
      have lv := hS1.2.2.lt
      clear hS1
      go_simp
      try rfl
    go_simp
    refine mixH_take rfl (by rfl) ?_
    apply Exists.intro
    refine ⟨fun w1 hS1 => ?_, ?_⟩
    · have z0 := hS1.1.cell (j := 0) rfl
      have z1 := hS1.1.cell (j := 1) rfl
      have z2 := hS1.1.cell (j := 2) rfl
      have lz := hS1.1.lt
      have y0 := hS1.2.1.cell (j := 0) rfl
      have y1 := hS1.2.1.cell (j := 1) rfl
      have y2 := hS1.2.1.cell (j := 2) rfl
      have y3 := hS1.2.1.cell (j := 3) rfl
      have y4 := hS1.2.1.cell (j := 4) rfl
      have ly := hS1.2.1.lt
      have v0 := hS1.2.2.cell (j := 0) rfl
      have v1 := hS1.2.2.cell (j := 1) rfl
      have v2 := hS1.2.2.cell (j := 2) rfl
      have v3 := hS1.2.2.cell (j := 3) rfl
      have lv := hS1.2.2.lt
      clear hS1
      go_simp
      try rfl
    go_simp
    refine mixH_take rfl (by rfl) ?_
    apply Exists.intro
    refine ⟨fun w1 hS1 => ?_, ?_⟩
    · have z0 := hS1.1.cell (j := 0) rfl
      have z1 := hS1.1.cell (j := 1) rfl
      have z2 := hS1.1.cell (j := 2) rfl
      have lz := hS1.1.lt
      have y0 := hS1.2.1.cell (j := 0) rfl
      have y1 := hS1.2.1.cell (j := 1) rfl
      have y2 := hS1.2.1.cell (j := 2) rfl
      have y3 := hS1.2.1.cell (j := 3) rfl
      have y4 := hS1.2.1.cell (j := 4) rfl
      have ly := hS1.2.1.lt
      have v0 := hS1.2.2.cell (j := 0) rfl
      have v1 := hS1.2.2.cell (j := 1) rfl
      have v2 := hS1.2.2.cell (j := 2) rfl
      have v3 := hS1.2.2.cell (j := 3) rfl
      have lv := hS1.2.2.lt
      clear hS1
      go_simp
      try rfl
    go_simp
    refine mixH_take rfl (by rfl) ?_
    apply Exists.intro
    refine ⟨fun w1 hS1 => ?_, ?_⟩
    · clear hS1
      go_simp
      try rfl
    go_simp
    refine mixH_take rfl (by rfl) ?_
    apply Exists.intro
    refine ⟨fun w1 hS1 => ?_, ?_⟩
    · have z0 := hS1.1.cell (j := 0) rfl
      have z1 := hS1.1.cell (j := 1) rfl
      have z2 := hS1.1.cell (j := 2) rfl
      have lz := hS1.1.lt
      have y0 := hS1.2.1.cell (j := 0) rfl
      have y1 := hS1.2.1.cell (j := 1) rfl
      have y2 := hS1.2.1.cell (j := 2) rfl
      have y3 := hS1.2.1.cell (j := 3) rfl
      have y4 := hS1.2.1.cell (j := 4) rfl
      have ly := hS1.2.1.lt
      have v0 := hS1.2.2.cell (j := 0) rfl
      have v1 := hS1.2.2.cell (j := 1) rfl
      have v2 := hS1.2.2.cell (j := 2) rfl
      have v3 := hS1.2.2.cell (j := 3) rfl
      have lv := hS1.2.2.lt
      clear hS1
      go_simp
      try rfl
    go_simp
    refine mixH_take rfl (by rfl) ?_
    apply Exists.intro
    refine ⟨fun w1 hS1 => ?_, ?_⟩
    · have z0 := hS1.1.cell (j := 0) rfl
      have z1 := hS1.1.cell (j := 1) rfl
      have z2 := hS1.1.cell (j := 2) rfl
      have lz := hS1.1.lt
      have y0 := hS1.2.1.cell (j := 0) rfl
      have y1 := hS1.2.1.cell (j := 1) rfl
      have y2 := hS1.2.1.cell (j := 2) rfl
      have y3 := hS1.2.1.cell (j := 3) rfl
      have y4 := hS1.2.1.cell (j := 4) rfl
      have ly := hS1.2.1.lt
      have v0 := hS1.2.2.cell (j := 0) rfl
      have v1 := hS1.2.2.cell (j := 1) rfl
      have v2 := hS1.2.2.cell (j := 2) rfl
      have v3 := hS1.2.2.cell (j := 3) rfl
      have lv := hS1.2.2.lt
      clear hS1
      go_simp
      try rfl
    go_simp
    refine mixH_take rfl (by rfl) ?_
    apply Exists.intro
    refine ⟨fun w1 hS1 => ?_, ?_⟩
    · clear hS1
      go_simp
      try rfl
    go_simp
    refine mixH_take rfl (by rfl) ?_
    apply Exists.intro
    refine ⟨fun w1 hS1 => ?_, ?_⟩
    · clear hS1
      go_simp
      try rfl
    go_simp
    refine mixH_take rfl (by rfl) ?_
    apply Exists.intro
    refine ⟨fun w1 hS1 => ?_, ?_⟩
    · clear hS1
      go_simp
      try rfl
    go_simp
    refine mixH_go rfl (by rfl) (fun K hK => ?_)
    go_simp
    refine (pick_any g (0 + 2000 + 60 + 60 + 1 + 1) q37 _ hq37 (by omega) RR.out).mono ?_
    rintro x wB ⟨zz, rfl, _, _, rB, mB⟩
    refine hK _ _ (⟨hSx.1.mv mB n7g, hSx.2.1.mv mB n8g, hSx.2.2.mv mB n9g⟩) ?_
    clear hK K
    replace X2 := Lib.hid (X2.out.mv mB n2g)
    replace X3 := Lib.hid (X3.out.mv mB n3g)
    replace X4 := Lib.hid (X4.out.mv mB n4g)
    replace X7 := Lib.hid (X7.out.mv mB n7g)
    replace X8 := Lib.hid (X8.out.mv mB n8g)
    replace X9 := Lib.hid (X9.out.mv mB n9g)
    replace SM := Lib.hid (SM.out.trans (Sml.of_mv mB (show g < wO.heap.size by omega)))
    replace UM := Lib.hid (mB.up UM.out (by omega))
    replace RR := Lib.hid rB
    clear rB mB hSx
    go_simp
    refine mixH_go rfl (by rfl) (fun K hK => ?_)
    go_simp
    refine (pick_any g (0 + 2000 + 60 + 60 + 1 + 1 + 1) 12 _ ⟨by omega, by omega⟩ (by omega) RR.out).mono ?_
    rintro x wC ⟨zz2, rfl, _, _, rC, mC⟩
    refine hK _ _ (⟨X7.out.mv mC n7g, X8.out.mv mC n8g, X9.out.mv mC n9g⟩) ?_
    clear hK K
    replace X2 := Lib.hid (X2.out.mv mC n2g)
    replace X3 := Lib.hid (X3.out.mv mC n3g)
    replace X4 := Lib.hid (X4.out.mv mC n4g)
    replace X7 := Lib.hid (X7.out.mv mC n7g)
    replace X8 := Lib.hid (X8.out.mv mC n8g)
    replace X9 := Lib.hid (X9.out.mv mC n9g)
    replace SM := Lib.hid (SM.out.trans (Sml.of_mv mC (show g < wO.heap.size by omega)))
    replace UM := Lib.hid (mC.up UM.out (by omega))
    replace RR := Lib.hid rC
    obtain ⟨e1, he1⟩ : ∃ y, Int.tdiv zz2 11 = y := ⟨_, rfl⟩
    obtain ⟨e2, he2⟩ : ∃ y, IntKind.i64.wrap e1 = y := ⟨_, rfl⟩
    obtain ⟨e3, he3⟩ : ∃ y, IntKind.i64.wrap (zz - e2) = y := ⟨_, rfl⟩
    clear rC mC
    go_simp
    refine mixH_take rfl (by rfl) ?_
    apply Exists.intro
    refine ⟨fun w1 hS1 => ?_, ?_⟩
    · clear hS1
      go_simp
      try rfl
    go_simp
    refine mixH_take rfl (by rfl) ?_
    apply Exists.intro
    refine ⟨fun w1 hS1 => ?_, ?_⟩
    · clear hS1
      go_simp
      try rfl
    go_simp
    have x2_0 := X2.out.cell (j := 0) rfl
    have x2_1 := X2.out.cell (j := 1) rfl
    have x2_2 := X2.out.cell (j := 2) rfl
    have lx2 := X2.out.lt
    have fx2 := fun j => X2.out.frozen j
    refine mixH_go rfl (by rfl) (fun K hK => ?_)
    go_simp
    refine hK _ _ (⟨putM_far X7.out (by omega) (.slice A n c) (.slice B k d) (.int .i64 m.til), putM_far X8.out (by omega) (.slice A n c) (.slice B k d) (.int .i64 m.til), putM_far X9.out (by omega) (.slice A n c) (.slice B k d) (.int .i64 m.til)⟩) ?_
    clear hK K
    replace X3 := Lib.hid (putM_far X3.out (show b3 ≠ b2 by omega) (.slice A n c) (.slice B k d) (.int .i64 m.til))
    replace X4 := Lib.hid (putM_far X4.out (show b4 ≠ b2 by omega) (.slice A n c) (.slice B k d) (.int .i64 m.til))
    replace X7 := Lib.hid (putM_far X7.out (show b7 ≠ b2 by omega) (.slice A n c) (.slice B k d) (.int .i64 m.til))
    replace X8 := Lib.hid (putM_far X8.out (show b8 ≠ b2 by omega) (.slice A n c) (.slice B k d) (.int .i64 m.til))
    replace X9 := Lib.hid (putM_far X9.out (show b9 ≠ b2 by omega) (.slice A n c) (.slice B k d) (.int .i64 m.til))
    replace SM := Lib.hid (putM_sml (b := b2) SM.out (by omega) (.slice A n c) (.slice B k d) (.int .i64 m.til))
    replace UM := Lib.hid (putM_up (b := b2) UM.out (by omega) (.slice A n c) (.slice B k d) (.int .i64 m.til))
    replace X2 := Lib.hid (putM_bk X2.out (.slice A n c) (.slice B k d) (.int .i64 m.til))
    unfold putM at X2 X3 X4 X7 X8 X9 SM UM
    clear x2_0 x2_1 x2_2 lx2 fx2
    generalize ((wC.setCell ⟨b2, 0, none⟩ (.slice A n c)).setCell ⟨b2, 1, none⟩ (.slice B k d)).setCell ⟨b2, 2, none⟩ (.int .i64 m.til) = wD at *
    go_simp
    have x3_0 := X3.out.cell (j := 0) rfl
    have x3_1 := X3.out.cell (j := 1) rfl
    have x3_2 := X3.out.cell (j := 2) rfl
    have x3_3 := X3.out.cell (j := 3) rfl
    have x3_4 := X3.out.cell (j := 4) rfl
    have lx3 := X3.out.lt
    have fx3 := fun j => X3.out.frozen j
    refine mixH_go rfl (by rfl) (fun K hK => ?_)
    go_simp
    refine hK _ _ (⟨putK_far X7.out (by omega) p0 p1 p2 p3 p4, putK_far X8.out (by omega) p0 p1 p2 p3 p4, putK_far X9.out (by omega) p0 p1 p2 p3 p4⟩) ?_
    clear hK K
    replace X2 := Lib.hid (putK_far X2.out (show b2 ≠ b3 by omega) p0 p1 p2 p3 p4)
    replace X4 := Lib.hid (putK_far X4.out (show b4 ≠ b3 by omega) p0 p1 p2 p3 p4)
    replace X7 := Lib.hid (putK_far X7.out (show b7 ≠ b3 by omega) p0 p1 p2 p3 p4)
    replace X8 := Lib.hid (putK_far X8.out (show b8 ≠ b3 by omega) p0 p1 p2 p3 p4)
    replace X9 := Lib.hid (putK_far X9.out (show b9 ≠ b3 by omega) p0 p1 p2 p3 p4)
    replace SM := Lib.hid (putK_sml (b := b3) SM.out (by omega) p0 p1 p2 p3 p4)
    replace UM := Lib.hid (putK_up (b := b3) UM.out (by omega) p0 p1 p2 p3 p4)
    replace X3 := Lib.hid (putK_bk X3.out p0 p1 p2 p3 p4)
    unfold putK at X2 X3 X4 X7 X8 X9 SM UM
    clear x3_0 x3_1 x3_2 x3_3 x3_4 lx3 fx3
    generalize ((((wD.setCell ⟨b3, 0, none⟩ (.bool p0)).setCell ⟨b3, 1, none⟩ (.int .i64 p1)).setCell ⟨b3, 2, none⟩ (.int .i64 p2)).setCell ⟨b3, 3, none⟩ (.int .i64 p3)).setCell ⟨b3, 4, none⟩ (.int .i64 p4) = wE at *
    go_simp
    have x4_0 := X4.out.cell (j := 0) rfl
    have x4_1 := X4.out.cell (j := 1) rfl
    have x4_2 := X4.out.cell (j := 2) rfl
    have x4_3 := X4.out.cell (j := 3) rfl
    have lx4 := X4.out.lt
    have fx4 := fun j => X4.out.frozen j
    refine mixH_go rfl (by rfl) (fun K hK => ?_)
    go_simp
    refine hK _ _ (⟨putG_far X7.out (by omega) qm q1 q2 q3, putG_far X8.out (by omega) qm q1 q2 q3, putG_far X9.out (by omega) qm q1 q2 q3⟩) ?_
    clear hK K
    replace X2 := Lib.hid (putG_far X2.out (show b2 ≠ b4 by omega) qm q1 q2 q3)
    replace X3 := Lib.hid (putG_far X3.out (show b3 ≠ b4 by omega) qm q1 q2 q3)
    replace X7 := Lib.hid (putG_far X7.out (show b7 ≠ b4 by omega) qm q1 q2 q3)
    replace X8 := Lib.hid (putG_far X8.out (show b8 ≠ b4 by omega) qm q1 q2 q3)
    replace X9 := Lib.hid (putG_far X9.out (show b9 ≠ b4 by omega) qm q1 q2 q3)
    replace SM := Lib.hid (putG_sml (b := b4) SM.out (by omega) qm q1 q2 q3)
    replace UM := Lib.hid (putG_up (b := b4) UM.out (by omega) qm q1 q2 q3)
    replace X4 := Lib.hid (putG_bk X4.out qm q1 q2 q3)
    unfold putG at X2 X3 X4 X7 X8 X9 SM UM
    clear x4_0 x4_1 x4_2 x4_3 lx4 fx4
    generalize (((wE.setCell ⟨b4, 0, none⟩ (.int .i64 qm)).setCell ⟨b4, 1, none⟩ (.int .i64 q1)).setCell ⟨b4, 2, none⟩ (.int .i64 q2)).setCell ⟨b4, 3, none⟩ (.int .i64 q3) = wF at *
    go_simp
    refine mixH_take rfl (by rfl) ?_
    apply Exists.intro
    refine ⟨fun w1 hS1 => ?_, ?_⟩
    · clear hS1
      go_simp
      try rfl
    go_simp
    refine mixH_nil ?_
    have k0 := X2.out.cell (j := 0) rfl
    have k1 := X2.out.cell (j := 1) rfl
    have k2 := X2.out.cell (j := 2) rfl
    have g0 := X3.out.cell (j := 0) rfl
    have g1 := X3.out.cell (j := 1) rfl
    have g2 := X3.out.cell (j := 2) rfl
    have g3 := X3.out.cell (j := 3) rfl
    have g4 := X3.out.cell (j := 4) rfl
    have j0 := X4.out.cell (j := 0) rfl
    have j1 := X4.out.cell (j := 1) rfl
    have j2 := X4.out.cell (j := 2) rfl
    have j3 := X4.out.cell (j := 3) rfl
    go_wp2
    exact bodyPost_ret (v := .tuple #[.agg #[.slice A n c, .slice B k d, .int .i64 m.til], .agg #[.bool p0, .int .i64 p1, .int .i64 p2, .int .i64 p3, .int .i64 p4], .agg #[.int .i64 qm, .int .i64 q1, .int .i64 q2, .int .i64 q3], .int .i64 e3]) (by simp [results, Try.results16, go_sem, k0, k1, k2, g0, g1, g2, g3, g4, j0, j1, j2, j3]) rfl
      ⟨A, n, c, B, k, d, m, ⟨p0, p1, p2, p3, p4⟩, ⟨qm, q1, q2, q3⟩, e3, rfl, M2.out _ SM.out, ⟨hn, hnc, hcm⟩, ⟨ht0, ht1⟩, UM.out⟩
  · go_wp2_with fail
    have ud := (Up.refl w5).drew
    replace X2 := Lib.hid (X2.out.up ud)
    replace X3 := Lib.hid (X3.out.up ud)
    replace X4 := Lib.hid (X4.out.up ud)
    replace X7 := Lib.hid (X7.out.up ud)
    replace X8 := Lib.hid (X8.out.up ud)
    replace X9 := Lib.hid (X9.out.up ud)
    replace SM := Lib.hid (SM.out.trans (Sml.of_up ud))
    replace UM := Lib.hid (UM.out.trans ud)
    replace RR := Lib.hid (RR.out.up ud)
    clear ud
    have hSx : Bk w5.drew b7 #[.slice A n c, .slice B k d, .int .i64 m.til] ∧ Bk w5.drew b8 #[.bool p0, .int .i64 p1, .int .i64 p2, .int .i64 p3, .int .i64 p4] ∧ Bk w5.drew b9 #[.int .i64 q0, .int .i64 q1, .int .i64 q2, .int .i64 q3] := ⟨X7.out, X8.out, X9.out⟩
    refine region_mixH (fun w1 => Bk w1 b7 #[.slice A n c, .slice B k d, .int .i64 m.til] ∧ Bk w1 b8 #[.bool p0, .int .i64 p1, .int .i64 p2, .int .i64 p3, .int .i64 p4] ∧ Bk w1 b9 #[.int .i64 q0, .int .i64 q1, .int .i64 q2, .int .i64 q3]) [(0, true), (1, true), (2, true), (3, true), (4, true), (5, true), (6, true), (7, true), (9, true), (8, false), (10, false), (11, true), (12, true), (13, false), (14, false), (15, false), (16, true)] (by kernel_rfl) (by kernel_rfl) hSx ?_
    refine mixH_take rfl (by rfl) ?_
    apply Exists.intro
    refine ⟨fun w1 hS1 => ?_, ?_⟩
    · have z0 := hS1.1.cell (j := 0) rfl
      have z1 := hS1.1.cell (j := 1) rfl
      have z2 := hS1.1.cell (j := 2) rfl
      have lz := hS1.1.lt
      have y0 := hS1.2.1.cell (j := 0) rfl
      have y1 := hS1.2.1.cell (j := 1) rfl
      have y2 := hS1.2.1.cell (j := 2) rfl
      have y3 := hS1.2.1.cell (j := 3) rfl
      have y4 := hS1.2.1.cell (j := 4) rfl
      have ly := hS1.2.1.lt
      have v0 := hS1.2.2.cell (j := 0) rfl
      have v1 := hS1.2.2.cell (j := 1) rfl
      have v2 := hS1.2.2.cell (j := 2) rfl
      have v3 := hS1.2.2.cell (j := 3) rfl
      have lv := hS1.2.2.lt
      clear hS1
      go_simp
      try rfl
    go_simp
    refine mixH_take rfl (by rfl) ?_
    apply Exists.intro
    refine ⟨fun w1 hS1 => ?_, ?_⟩
    · have z0 := hS1.1.cell (j := 0) rfl
      have z1 := hS1.1.cell (j := 1) rfl
      have z2 := hS1.1.cell (j := 2) rfl
      have lz := hS1.1.lt
      have y0 := hS1.2.1.cell (j := 0) rfl
      have y1 := hS1.2.1.cell (j := 1) rfl
      have y2 := hS1.2.1.cell (j := 2) rfl
      have y3 := hS1.2.1.cell (j := 3) rfl
      have y4 := hS1.2.1.cell (j := 4) rfl
      have ly := hS1.2.1.lt
      have v0 := hS1.2.2.cell (j := 0) rfl
      have v1 := hS1.2.2.cell (j := 1) rfl
      have v2 := hS1.2.2.cell (j := 2) rfl
      have v3 := hS1.2.2.cell (j := 3) rfl
      have lv := hS1.2.2.lt
      clear hS1
      go_simp
      try rfl
    go_simp
    refine mixH_take rfl (by rfl) ?_
    apply Exists.intro
    refine ⟨fun w1 hS1 => ?_, ?_⟩
    · have z0 := hS1.1.cell (j := 0) rfl
      have z1 := hS1.1.cell (j := 1) rfl
      have z2 := hS1.1.cell (j := 2) rfl
      have lz := hS1.1.lt
      have y0 := hS1.2.1.cell (j := 0) rfl
      have y1 := hS1.2.1.cell (j := 1) rfl
      have y2 := hS1.2.1.cell (j := 2) rfl
      have y3 := hS1.2.1.cell (j := 3) rfl
      have y4 := hS1.2.1.cell (j := 4) rfl
      have ly := hS1.2.1.lt
      have v0 := hS1.2.2.cell (j := 0) rfl
      have v1 := hS1.2.2.cell (j := 1) rfl
      have v2 := hS1.2.2.cell (j := 2) rfl
      have v3 := hS1.2.2.cell (j := 3) rfl
      have lv := hS1.2.2.lt
      clear hS1
      go_simp
      try rfl
    go_simp
    refine mixH_take rfl (by rfl) ?_
    apply Exists.intro
    refine ⟨fun w1 hS1 => ?_, ?_⟩
    · clear hS1
      go_simp
      try rfl
    go_simp
    refine mixH_take rfl (by rfl) ?_
    apply Exists.intro
    refine ⟨fun w1 hS1 => ?_, ?_⟩
    · have z0 := hS1.1.cell (j := 0) rfl
      have z1 := hS1.1.cell (j := 1) rfl
      have z2 := hS1.1.cell (j := 2) rfl
      have lz := hS1.1.lt
      have y0 := hS1.2.1.cell (j := 0) rfl
      have y1 := hS1.2.1.cell (j := 1) rfl
      have y2 := hS1.2.1.cell (j := 2) rfl
      have y3 := hS1.2.1.cell (j := 3) rfl
      have y4 := hS1.2.1.cell (j := 4) rfl
      have ly := hS1.2.1.lt
      have v0 := hS1.2.2.cell (j := 0) rfl
      have v1 := hS1.2.2.cell (j := 1) rfl
      have v2 := hS1.2.2.cell (j := 2) rfl
      have v3 := hS1.2.2.cell (j := 3) rfl
      have lv := hS1.2.2.lt
      clear hS1
      go_simp
      try rfl
    go_simp
    refine mixH_take rfl (by rfl) ?_
    apply Exists.intro
    refine ⟨fun w1 hS1 => ?_, ?_⟩
    · have z0 := hS1.1.cell (j := 0) rfl
      have z1 := hS1.1.cell (j := 1) rfl
      have z2 := hS1.1.cell (j := 2) rfl
      have lz := hS1.1.lt
      have y0 := hS1.2.1.cell (j := 0) rfl
      have y1 := hS1.2.1.cell (j := 1) rfl
      have y2 := hS1.2.1.cell (j := 2) rfl
      have y3 := hS1.2.1.cell (j := 3) rfl
      have y4 := hS1.2.1.cell (j := 4) rfl
      have ly := hS1.2.1.lt
      have v0 := hS1.2.2.cell (j := 0) rfl
      have v1 := hS1.2.2.cell (j := 1) rfl
      have v2 := hS1.2.2.cell (j := 2) rfl
      have v3 := hS1.2.2.cell (j := 3) rfl
      have lv := hS1.2.2.lt
      clear hS1
      go_simp
      try rfl
    go_simp
    refine mixH_take rfl (by rfl) ?_
    apply Exists.intro
    refine ⟨fun w1 hS1 => ?_, ?_⟩
    · clear hS1
      go_simp
      try rfl
    go_simp
    refine mixH_take rfl (by rfl) ?_
    apply Exists.intro
    refine ⟨fun w1 hS1 => ?_, ?_⟩
    · clear hS1
      go_simp
      try rfl
    go_simp
    refine mixH_take rfl (by rfl) ?_
    apply Exists.intro
    refine ⟨fun w1 hS1 => ?_, ?_⟩
    · clear hS1
      go_simp
      try rfl
    go_simp
    refine mixH_go rfl (by rfl) (fun K hK => ?_)
    go_simp
    refine (pick_any g (0 + 2000 + 60 + 60 + 1) q37 _ hq37 (by omega) RR.out).mono ?_
    rintro x wB ⟨zz, rfl, _, _, rB, mB⟩
    refine hK _ _ (⟨hSx.1.mv mB n7g, hSx.2.1.mv mB n8g, hSx.2.2.mv mB n9g⟩) ?_
    clear hK K
    replace X2 := Lib.hid (X2.out.mv mB n2g)
    replace X3 := Lib.hid (X3.out.mv mB n3g)
    replace X4 := Lib.hid (X4.out.mv mB n4g)
    replace X7 := Lib.hid (X7.out.mv mB n7g)
    replace X8 := Lib.hid (X8.out.mv mB n8g)
    replace X9 := Lib.hid (X9.out.mv mB n9g)
    replace SM := Lib.hid (SM.out.trans (Sml.of_mv mB (show g < wO.heap.size by omega)))
    replace UM := Lib.hid (mB.up UM.out (by omega))
    replace RR := Lib.hid rB
    clear rB mB hSx
    go_simp
    refine mixH_go rfl (by rfl) (fun K hK => ?_)
    go_simp
    refine (pick_any g (0 + 2000 + 60 + 60 + 1 + 1) 12 _ ⟨by omega, by omega⟩ (by omega) RR.out).mono ?_
    rintro x wC ⟨zz2, rfl, _, _, rC, mC⟩
    refine hK _ _ (⟨X7.out.mv mC n7g, X8.out.mv mC n8g, X9.out.mv mC n9g⟩) ?_
    clear hK K
    replace X2 := Lib.hid (X2.out.mv mC n2g)
    replace X3 := Lib.hid (X3.out.mv mC n3g)
    replace X4 := Lib.hid (X4.out.mv mC n4g)
    replace X7 := Lib.hid (X7.out.mv mC n7g)
    replace X8 := Lib.hid (X8.out.mv mC n8g)
    replace X9 := Lib.hid (X9.out.mv mC n9g)
    replace SM := Lib.hid (SM.out.trans (Sml.of_mv mC (show g < wO.heap.size by omega)))
    replace UM := Lib.hid (mC.up UM.out (by omega))
    replace RR := Lib.hid rC
    obtain ⟨e1, he1⟩ : ∃ y, Int.tdiv zz2 11 = y := ⟨_, rfl⟩
    obtain ⟨e2, he2⟩ : ∃ y, IntKind.i64.wrap e1 = y := ⟨_, rfl⟩
    obtain ⟨e3, he3⟩ : ∃ y, IntKind.i64.wrap (zz - e2) = y := ⟨_, rfl⟩
    clear rC mC
    go_simp
    refine mixH_take rfl (by rfl) ?_
    apply Exists.intro
    refine ⟨fun w1 hS1 => ?_, ?_⟩
    · clear hS1
      go_simp
      try rfl
    go_simp
    refine mixH_take rfl (by rfl) ?_
    apply Exists.intro
    refine ⟨fun w1 hS1 => ?_, ?_⟩
    · clear hS1
      go_simp
      try rfl
    go_simp
    have x2_0 := X2.out.cell (j := 0) rfl
    have x2_1 := X2.out.cell (j := 1) rfl
    have x2_2 := X2.out.cell (j := 2) rfl
    have lx2 := X2.out.lt
    have fx2 := fun j => X2.out.frozen j
    refine mixH_go rfl (by rfl) (fun K hK => ?_)
    go_simp
    refine hK _ _ (⟨putM_far X7.out (by omega) (.slice A n c) (.slice B k d) (.int .i64 m.til), putM_far X8.out (by omega) (.slice A n c) (.slice B k d) (.int .i64 m.til), putM_far X9.out (by omega) (.slice A n c) (.slice B k d) (.int .i64 m.til)⟩) ?_
    clear hK K
    replace X3 := Lib.hid (putM_far X3.out (show b3 ≠ b2 by omega) (.slice A n c) (.slice B k d) (.int .i64 m.til))
    replace X4 := Lib.hid (putM_far X4.out (show b4 ≠ b2 by omega) (.slice A n c) (.slice B k d) (.int .i64 m.til))
    replace X7 := Lib.hid (putM_far X7.out (show b7 ≠ b2 by omega) (.slice A n c) (.slice B k d) (.int .i64 m.til))
    replace X8 := Lib.hid (putM_far X8.out (show b8 ≠ b2 by omega) (.slice A n c) (.slice B k d) (.int .i64 m.til))
    replace X9 := Lib.hid (putM_far X9.out (show b9 ≠ b2 by omega) (.slice A n c) (.slice B k d) (.int .i64 m.til))
    replace SM := Lib.hid (putM_sml (b := b2) SM.out (by omega) (.slice A n c) (.slice B k d) (.int .i64 m.til))
    replace UM := Lib.hid (putM_up (b := b2) UM.out (by omega) (.slice A n c) (.slice B k d) (.int .i64 m.til))
    replace X2 := Lib.hid (putM_bk X2.out (.slice A n c) (.slice B k d) (.int .i64 m.til))
    unfold putM at X2 X3 X4 X7 X8 X9 SM UM
    clear x2_0 x2_1 x2_2 lx2 fx2
    generalize ((wC.setCell ⟨b2, 0, none⟩ (.slice A n c)).setCell ⟨b2, 1, none⟩ (.slice B k d)).setCell ⟨b2, 2, none⟩ (.int .i64 m.til) = wD at *
    go_simp
    have x3_0 := X3.out.cell (j := 0) rfl
    have x3_1 := X3.out.cell (j := 1) rfl
    have x3_2 := X3.out.cell (j := 2) rfl
    have x3_3 := X3.out.cell (j := 3) rfl
    have x3_4 := X3.out.cell (j := 4) rfl
    have lx3 := X3.out.lt
    have fx3 := fun j => X3.out.frozen j
    refine mixH_go rfl (by rfl) (fun K hK => ?_)
    go_simp
    refine hK _ _ (⟨putK_far X7.out (by omega) p0 p1 p2 p3 p4, putK_far X8.out (by omega) p0 p1 p2 p3 p4, putK_far X9.out (by omega) p0 p1 p2 p3 p4⟩) ?_
    clear hK K
    replace X2 := Lib.hid (putK_far X2.out (show b2 ≠ b3 by omega) p0 p1 p2 p3 p4)
    replace X4 := Lib.hid (putK_far X4.out (show b4 ≠ b3 by omega) p0 p1 p2 p3 p4)
    replace X7 := Lib.hid (putK_far X7.out (show b7 ≠ b3 by omega) p0 p1 p2 p3 p4)
    replace X8 := Lib.hid (putK_far X8.out (show b8 ≠ b3 by omega) p0 p1 p2 p3 p4)
    replace X9 := Lib.hid (putK_far X9.out (show b9 ≠ b3 by omega) p0 p1 p2 p3 p4)
    replace SM := Lib.hid (putK_sml (b := b3) SM.out (by omega) p0 p1 p2 p3 p4)
    replace UM := Lib.hid (putK_up (b := b3) UM.out (by omega) p0 p1 p2 p3 p4)
    replace X3 := Lib.hid (putK_bk X3.out p0 p1 p2 p3 p4)
    unfold putK at X2 X3 X4 X7 X8 X9 SM UM
    clear x3_0 x3_1 x3_2 x3_3 x3_4 lx3 fx3
    generalize ((((wD.setCell ⟨b3, 0, none⟩ (.bool p0)).setCell ⟨b3, 1, none⟩ (.int .i64 p1)).setCell ⟨b3, 2, none⟩ (.int .i64 p2)).setCell ⟨b3, 3, none⟩ (.int .i64 p3)).setCell ⟨b3, 4, none⟩ (.int .i64 p4) = wE at *
    go_simp
    have x4_0 := X4.out.cell (j := 0) rfl
    have x4_1 := X4.out.cell (j := 1) rfl
    have x4_2 := X4.out.cell (j := 2) rfl
    have x4_3 := X4.out.cell (j := 3) rfl
    have lx4 := X4.out.lt
    have fx4 := fun j => X4.out.frozen j
    refine mixH_go rfl (by rfl) (fun K hK => ?_)
    go_simp
    refine hK _ _ (⟨putG_far X7.out (by omega) q0 q1 q2 q3, putG_far X8.out (by omega) q0 q1 q2 q3, putG_far X9.out (by omega) q0 q1 q2 q3⟩) ?_
    clear hK K
    replace X2 := Lib.hid (putG_far X2.out (show b2 ≠ b4 by omega) q0 q1 q2 q3)
    replace X3 := Lib.hid (putG_far X3.out (show b3 ≠ b4 by omega) q0 q1 q2 q3)
    replace X7 := Lib.hid (putG_far X7.out (show b7 ≠ b4 by omega) q0 q1 q2 q3)
    replace X8 := Lib.hid (putG_far X8.out (show b8 ≠ b4 by omega) q0 q1 q2 q3)
    replace X9 := Lib.hid (putG_far X9.out (show b9 ≠ b4 by omega) q0 q1 q2 q3)
    replace SM := Lib.hid (putG_sml (b := b4) SM.out (by omega) q0 q1 q2 q3)
    replace UM := Lib.hid (putG_up (b := b4) UM.out (by omega) q0 q1 q2 q3)
    replace X4 := Lib.hid (putG_bk X4.out q0 q1 q2 q3)
    unfold putG at X2 X3 X4 X7 X8 X9 SM UM
    clear x4_0 x4_1 x4_2 x4_3 lx4 fx4
    generalize (((wE.setCell ⟨b4, 0, none⟩ (.int .i64 q0)).setCell ⟨b4, 1, none⟩ (.int .i64 q1)).setCell ⟨b4, 2, none⟩ (.int .i64 q2)).setCell ⟨b4, 3, none⟩ (.int .i64 q3) = wF at *
    go_simp
    refine mixH_take rfl (by rfl) ?_
    apply Exists.intro
    refine ⟨fun w1 hS1 => ?_, ?_⟩
    · clear hS1
      go_simp
      try rfl
    go_simp
    refine mixH_nil ?_
    have k0 := X2.out.cell (j := 0) rfl
    have k1 := X2.out.cell (j := 1) rfl
    have k2 := X2.out.cell (j := 2) rfl
    have g0 := X3.out.cell (j := 0) rfl
    have g1 := X3.out.cell (j := 1) rfl
    have g2 := X3.out.cell (j := 2) rfl
    have g3 := X3.out.cell (j := 3) rfl
    have g4 := X3.out.cell (j := 4) rfl
    have j0 := X4.out.cell (j := 0) rfl
    have j1 := X4.out.cell (j := 1) rfl
    have j2 := X4.out.cell (j := 2) rfl
    have j3 := X4.out.cell (j := 3) rfl
    go_wp2
    exact bodyPost_ret (v := .tuple #[.agg #[.slice A n c, .slice B k d, .int .i64 m.til], .agg #[.bool p0, .int .i64 p1, .int .i64 p2, .int .i64 p3, .int .i64 p4], .agg #[.int .i64 q0, .int .i64 q1, .int .i64 q2, .int .i64 q3], .int .i64 e3]) (by simp [results, Try.results16, go_sem, k0, k1, k2, g0, g1, g2, g3, g4, j0, j1, j2, j3]) rfl
      ⟨A, n, c, B, k, d, m, ⟨p0, p1, p2, p3, p4⟩, ⟨q0, q1, q2, q3⟩, e3, rfl, M2.out _ SM.out, ⟨hn, hnc, hcm⟩, ⟨ht0, ht1⟩, UM.out⟩

end Go.Proofs.Ytojnphchkdjafaa

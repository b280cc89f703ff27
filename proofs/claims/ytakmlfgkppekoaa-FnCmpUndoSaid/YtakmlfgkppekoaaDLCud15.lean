/-
  What stands in the slots of DrawCmpDo's region, in one sentence: the model, a component, small numbers, an event; no condition is made.
  What DrawCmpDo gives, in one sentence: a model, a component and an event, with new blocks alone; for every code that lies in memory.
  What both CmpOk and toCmpState return, in one sentence: the bool that the bounds give, the same three numbers; for every component state.
  The first rule of a kind and where it stands, in one sentence: defined over lists; no condition is made.
  What spec.l2Rule returns, in one sentence: the first rule of the kind and true, or the zero rule and false; for every list of rules that lies in memory.
-/
import Derived.Test.YtakmlfgkppekoaaDLCud08
import Derived.Test.YtakmlfgkppekoaaDLCud13
import Derived.Test.YtakmlfgkppekoaaDLCud14
namespace Go.Proofs.Ytakmlfgkppekoaa
set_option maxRecDepth 100000
open Go.RowKit
def cD (g b6 n : Nat) (VM VR : Value) (i : Nat) (v : Value) (_ : World) : Prop :=
  if i = 0 then v = VM else if i = 1 then v = .pointer (some ⟨g, 0, none⟩) else if i = 2 then (∃ c : Cst, v = c.v ∧ c.ct ≤ 1000000) else if i = 3 then v = .pointer (some ⟨g, 0, none⟩) else if i = 4 then v = .pointer (some ⟨b6, 0, none⟩) else if i = 5 then v = VR else if i = 6 then v = .int .i64 (n : Int) else
  if i = 7 then (∃ z : Int, v = .int .i64 z ∧ 0 ≤ z ∧ z ≤ 4) else if i = 8 then (∃ z : Int, v = .int .i64 z ∧ 1 ≤ z ∧ z ≤ 4) else if i = 9 then (∃ e : Evt, v = e.v ∧ e.ok) else True
theorem cD_0 {g b6 n : Nat} {VM VR v : Value} {w : World} : cD g b6 n VM VR 0 v w = (v = VM) := by simp [cD]
theorem cD_1 {g b6 n : Nat} {VM VR v : Value} {w : World} : cD g b6 n VM VR 1 v w = (v = .pointer (some ⟨g, 0, none⟩)) := by simp [cD]
theorem cD_2 {g b6 n : Nat} {VM VR v : Value} {w : World} : cD g b6 n VM VR 2 v w = (∃ c : Cst, v = c.v ∧ c.ct ≤ 1000000) := by simp [cD]
theorem cD_3 {g b6 n : Nat} {VM VR v : Value} {w : World} : cD g b6 n VM VR 3 v w = (v = .pointer (some ⟨g, 0, none⟩)) := by simp [cD]
theorem cD_4 {g b6 n : Nat} {VM VR v : Value} {w : World} : cD g b6 n VM VR 4 v w = (v = .pointer (some ⟨b6, 0, none⟩)) := by simp [cD]
theorem cD_5 {g b6 n : Nat} {VM VR v : Value} {w : World} : cD g b6 n VM VR 5 v w = (v = VR) := by simp [cD]
theorem cD_6 {g b6 n : Nat} {VM VR v : Value} {w : World} : cD g b6 n VM VR 6 v w = (v = .int .i64 (n : Int)) := by simp [cD]
theorem cD_7 {g b6 n : Nat} {VM VR v : Value} {w : World} : cD g b6 n VM VR 7 v w = (∃ z : Int, v = .int .i64 z ∧ 0 ≤ z ∧ z ≤ 4) := by simp [cD]
theorem cD_8 {g b6 n : Nat} {VM VR v : Value} {w : World} : cD g b6 n VM VR 8 v w = (∃ z : Int, v = .int .i64 z ∧ 1 ≤ z ∧ z ≤ 4) := by simp [cD]
theorem cD_9 {g b6 n : Nat} {VM VR v : Value} {w : World} : cD g b6 n VM VR 9 v w = (∃ e : Evt, v = e.v ∧ e.ok) := by simp [cD]
/-- The reader within its bound, old blocks as they were. -/
structure GCD (g B : Nat) (w0 : World) (k : Nat) (w : World) : Prop where
  rd : ∃ c, c + 31 * k ≤ B ∧ Rd w g c
  mv : Mv g w0 w
/-- What DrawCmpDo gives. -/
def DrawnCD (w : World) (x : Ending) (w' : World) : Prop :=
  ∃ (A : Option Addr) (n c : Nat) (B : Option Addr) (k d : Nat) (m : Mdl) (s : Cst) (e : Evt), x = .returned (.tuple #[.agg #[.slice A n c, .slice B k d, .int .i64 m.til], s.v, e.v]) ∧ MdlV w' A n B k m ∧ (n ≤ 32 ∧ n ≤ c ∧ c ≤ 9223372036854775807) ∧ (s.ct ≤ 1000000 ∧ e.ok) ∧ Up w w'
end Go.Proofs.Ytakmlfgkppekoaa

namespace Go.Proofs.Ytakmlfgkppekoaa
set_option maxRecDepth 100000
open Go.RowKit
/-- What DrawCmpDo gives; the model lies in blocks of the call's own. -/
def DrawnCS (w : World) (x : Ending) (w' : World) : Prop :=
  ∃ (A : Option Addr) (n c : Nat) (B : Option Addr) (k d : Nat) (m : Mdl) (s : Cst) (e : Evt), x = .returned (.tuple #[.agg #[.slice A n c, .slice B k d, .int .i64 m.til], s.v, e.v]) ∧ (∀ w2, Sml w.heap.size w' w2 → MdlV w2 A n B k m) ∧ (n ≤ 32 ∧ n ≤ c ∧ c ≤ 9223372036854775807) ∧ (s.ct ≤ 1000000 ∧ e.ok) ∧ Up w w'
set_option maxHeartbeats 8000000 in
theorem drawCD_sm (A : Option Addr) (n cap : Nat) (w : World) (hc : n ≤ cap) (hmax : cap ≤ 9223372036854775807) (hB : Bys w A n w.heap.size) :
    Calls Try.prog 38 #[.slice A n cap] w (DrawnCS w) := by
  have HB := Lib.hid hB
  clear hB
  go_enter Try.func38, Try.ntmps38
  go_wp2_with fail
  have U0 := Lib.hid ((((Up.refl w).alloc (.cells #[.slice none 0 0, .slice none 0 0, .int .i64 0] 33)).alloc (.cells #[.int .i64 0, .int .i64 0, .int .i64 0] 41)).alloc (.cells #[.int .i64 0, .int .i64 0, .int .i64 0, .int .i64 0, .int .i64 0, .int .i64 0] 45))
  have R2 := Lib.hid (((Blk.new w #[.slice none 0 0, .slice none 0 0, .int .i64 0] 33).alloc (.cells #[.int .i64 0, .int .i64 0, .int .i64 0] 41)).alloc (.cells #[.int .i64 0, .int .i64 0, .int .i64 0, .int .i64 0, .int .i64 0, .int .i64 0] 45))
  have R3 := Lib.hid (show Blk (((w.alloc (.cells #[.slice none 0 0, .slice none 0 0, .int .i64 0] 33)).alloc (.cells #[.int .i64 0, .int .i64 0, .int .i64 0] 41)).alloc (.cells #[.int .i64 0, .int .i64 0, .int .i64 0, .int .i64 0, .int .i64 0, .int .i64 0] 45)) (w.heap.size + 1) 41 #[.int .i64 0, .int .i64 0, .int .i64 0] by
    have := (Blk.new (w.alloc (.cells #[.slice none 0 0, .slice none 0 0, .int .i64 0] 33)) #[.int .i64 0, .int .i64 0, .int .i64 0] 41).alloc (.cells #[.int .i64 0, .int .i64 0, .int .i64 0, .int .i64 0, .int .i64 0, .int .i64 0] 45)
    simpa using this)
  have R4 := Lib.hid (show Blk (((w.alloc (.cells #[.slice none 0 0, .slice none 0 0, .int .i64 0] 33)).alloc (.cells #[.int .i64 0, .int .i64 0, .int .i64 0] 41)).alloc (.cells #[.int .i64 0, .int .i64 0, .int .i64 0, .int .i64 0, .int .i64 0, .int .i64 0] 45)) (w.heap.size + 2) 45 #[.int .i64 0, .int .i64 0, .int .i64 0, .int .i64 0, .int .i64 0, .int .i64 0] by
    have := Blk.new ((w.alloc (.cells #[.slice none 0 0, .slice none 0 0, .int .i64 0] 33)).alloc (.cells #[.int .i64 0, .int .i64 0, .int .i64 0] 41)) #[.int .i64 0, .int .i64 0, .int .i64 0, .int .i64 0, .int .i64 0, .int .i64 0] 45
    simpa using this)
  generalize hW0 : ((w.alloc (.cells #[.slice none 0 0, .slice none 0 0, .int .i64 0] 33)).alloc (.cells #[.int .i64 0, .int .i64 0, .int .i64 0] 41)).alloc (.cells #[.int .i64 0, .int .i64 0, .int .i64 0, .int .i64 0, .int .i64 0, .int .i64 0] 45) = W0 at *
  have hs0 : W0.heap.size = w.heap.size + 3 := by rw [← hW0]; simp
  have HS0 := Lib.hid hs0
  have hlt0 : w.heap.size + 2 < W0.heap.size := by omega
  have HB0 : Bys W0 A n W0.heap.size := fun h0 => by
    obtain ⟨b, off, hA, hb, hcc⟩ := HB.out.keep (fun b o hb => U0.out.cells b o hb) h0
    exact ⟨b, off, hA, by omega, hcc⟩
  clear hW0 hs0; refine (open_any A n cap _ hc hmax HB0).mono ?_; rintro x wO ⟨g, rfl, hg, r1, u1⟩
  have hgO := r1.lt
  have R1 := Lib.hid r1
  have U1 := Lib.hid (U0.out.trans u1)
  have R2 := Lib.hid (R2.out.up u1)
  have R3 := Lib.hid (R3.out.up u1)
  have R4 := Lib.hid (R4.out.up u1)
  have hOs : W0.heap.size ≤ wO.heap.size := u1.size
  clear u1 r1 HB0 U0 HB
  go_wp2_with fail
  refine (model_any g 0 16 _ ⟨by omega, by omega⟩ (by omega) R1.out).mono ?_; rintro x w2 ⟨A, n, c, B, k, d, m, rfl, MV, ⟨hn, hnc, hcm⟩, _, _, _, r2, m2⟩
  have M2 := Lib.hid MV
  have MM2 := Lib.hid m2
  have hg2 := r2.lt
  have R2 := Lib.hid ((R2.out.mv m2 (by omega)).alloc (.cells #[.slice A n c, .slice B k d, .int .i64 m.til] 33))
  have R3 := Lib.hid ((R3.out.mv m2 (by omega)).alloc (.cells #[.slice A n c, .slice B k d, .int .i64 m.til] 33))
  have R4 := Lib.hid ((R4.out.mv m2 (by omega)).alloc (.cells #[.slice A n c, .slice B k d, .int .i64 m.til] 33))
  have M6 := Lib.hid (Blk.new w2 #[.slice A n c, .slice B k d, .int .i64 m.til] 33)
  have RR := Lib.hid (r2.alloc (.cells #[.slice A n c, .slice B k d, .int .i64 m.til] 33))
  have MG := Lib.hid ((Mv.refl g w2).alloc (.cells #[.slice A n c, .slice B k d, .int .i64 m.til] 33))
  have n6 : w2.heap.size ≠ g := by omega
  have hs2 : wO.heap.size ≤ w2.heap.size := m2.size
  clear MV m2 r2 R1
  go_wp2_with fail
  refine region_relyX 10 [(10, false), (11, false), (12, false)] [11, 12, 13, 14, 15, 16, 17, 18, 19, 20] (fun _ => 0) (GCD g 2310 (w2.alloc (.cells #[.slice A n c, .slice B k d, .int .i64 m.til] 33))) (Mv g) (cD g w2.heap.size n (.agg #[.slice A n c, .slice B k d, .int .i64 m.til]) (.slice A n c)) (by kernel_rfl) (by kernel_rfl) (by kernel_rfl) ⟨⟨2000, by omega, RR.out.mono (by omega)⟩, (Mv.refl _ _).drew⟩ (fun i v wa wb h _ => h) ?_ ?_
  · simp only [List.take_succ_cons, List.take_zero, StepsC]
    refine ⟨?_, ?_, ?_, ?_, ?_, ?_, ?_, ?_, ?_, ?_, trivial⟩
    · intro X w1 k1 hG hdep
      obtain ⟨m0, m1, m2⟩ := And.intro ((M6.out.mv hG.mv n6).cell (j := 0) rfl) (And.intro ((M6.out.mv hG.mv n6).cell (j := 1) rfl) ((M6.out.mv hG.mv n6).cell (j := 2) rfl)); simp only [opW_def, mixT]; go_simp
      exact ⟨⟨_, by first | rfl | simp [Act.put], Mv.refl _ _, ⟨by obtain ⟨cc, h1, h2⟩ := hG.rd; exact ⟨cc, by omega, h2⟩, hG.mv⟩, (show cD g w2.heap.size n (.agg #[.slice A n c, .slice B k d, .int .i64 m.til]) (.slice A n c) 0 _ _ from by first | (rw [cD_0]; exact rfl) | rw [cD_0])⟩⟩
    · intro X w1 k1 hG hdep
      simp only [opW_def, mixT]; go_simp
      exact ⟨⟨.pointer (some ⟨g, 0, none⟩), by first | rfl | simp [Act.put], Mv.refl _ _, ⟨by obtain ⟨cc, h1, h2⟩ := hG.rd; exact ⟨cc, by omega, h2⟩, hG.mv⟩, (show cD g w2.heap.size n (.agg #[.slice A n c, .slice B k d, .int .i64 m.til]) (.slice A n c) 1 _ _ from by first | (rw [cD_1]; exact rfl) | rw [cD_1])⟩⟩
    · intro X w1 k1 hG hdep
      have e12 : cD g w2.heap.size n (.agg #[.slice A n c, .slice B k d, .int .i64 m.til]) (.slice A n c) 1 (X 12) w1 := hdep 1 (by decide +kernel)
      rw [cD_1] at e12; obtain ⟨cc, hcc, rd1⟩ := hG.rd; simp only [opW_def, mixT, e12]; go_simp; refine (l20Cmp_any g cc 16 w1 ⟨by omega, by omega⟩ (by omega) rd1).mono ?_; rintro x w3 ⟨s, rfl, hs, r3, m3⟩
      exact ⟨⟨_, by first | rfl | simp [Act.put], m3, ⟨⟨cc + 30, by omega, r3⟩, hG.mv.trans m3⟩, (show cD g w2.heap.size n (.agg #[.slice A n c, .slice B k d, .int .i64 m.til]) (.slice A n c) 2 _ _ from by first | (rw [cD_2]; exact ⟨s, rfl, hs.2.2.2⟩) | rw [cD_2])⟩⟩
    · intro X w1 k1 hG hdep
      simp only [opW_def, mixT]; go_simp
      exact ⟨⟨.pointer (some ⟨g, 0, none⟩), by first | rfl | simp [Act.put], Mv.refl _ _, ⟨by obtain ⟨cc, h1, h2⟩ := hG.rd; exact ⟨cc, by omega, h2⟩, hG.mv⟩, (show cD g w2.heap.size n (.agg #[.slice A n c, .slice B k d, .int .i64 m.til]) (.slice A n c) 3 _ _ from by first | (rw [cD_3]; exact rfl) | rw [cD_3])⟩⟩
    · intro X w1 k1 hG hdep
      simp only [opW_def, mixT]; go_simp
      exact ⟨⟨(.pointer (some ⟨w2.heap.size, 0, none⟩)), by first | rfl | simp [Act.put], Mv.refl _ _, ⟨by obtain ⟨cc, h1, h2⟩ := hG.rd; exact ⟨cc, by omega, h2⟩, hG.mv⟩, (show cD g w2.heap.size n (.agg #[.slice A n c, .slice B k d, .int .i64 m.til]) (.slice A n c) 4 _ _ from by first | (rw [cD_4]; exact rfl) | rw [cD_4])⟩⟩
    · intro X w1 k1 hG hdep
      have e15 : cD g w2.heap.size n (.agg #[.slice A n c, .slice B k d, .int .i64 m.til]) (.slice A n c) 4 (X 15) w1 := hdep 4 (by decide +kernel)
      rw [cD_4] at e15
      have m0 := (M6.out.mv hG.mv n6).cell (j := 0) rfl
      simp only [opW_def, mixT, e15]; go_simp
      exact ⟨⟨_, by first | rfl | simp [Act.put], Mv.refl _ _, ⟨by obtain ⟨cc, h1, h2⟩ := hG.rd; exact ⟨cc, by omega, h2⟩, hG.mv⟩, (show cD g w2.heap.size n (.agg #[.slice A n c, .slice B k d, .int .i64 m.til]) (.slice A n c) 5 _ _ from by first | (rw [cD_5]; exact rfl) | rw [cD_5])⟩⟩
    · intro X w1 k1 hG hdep
      have e16 : cD g w2.heap.size n (.agg #[.slice A n c, .slice B k d, .int .i64 m.til]) (.slice A n c) 5 (X 16) w1 := hdep 5 (by decide +kernel)
      rw [cD_5] at e16; simp only [opW_def, mixT, e16]; go_simp
      exact ⟨⟨_, by first | rfl | simp [Act.put], Mv.refl _ _, ⟨by obtain ⟨cc, h1, h2⟩ := hG.rd; exact ⟨cc, by omega, h2⟩, hG.mv⟩, (show cD g w2.heap.size n (.agg #[.slice A n c, .slice B k d, .int .i64 m.til]) (.slice A n c) 6 _ _ from by first | (rw [cD_6]; exact rfl) | rw [cD_6])⟩⟩
    · intro X w1 k1 hG hdep
      have e17 : cD g w2.heap.size n (.agg #[.slice A n c, .slice B k d, .int .i64 m.til]) (.slice A n c) 6 (X 17) w1 := hdep 6 (by decide +kernel)
      rw [cD_6] at e17
      by_cases h4 : (4 : Int) ≤ n
      · simp only [opW_def, mixT, e17]
        go_simp
        exact ⟨⟨_, by first | rfl | simp [Act.put], Mv.refl _ _, ⟨by obtain ⟨cc, h1, h2⟩ := hG.rd; exact ⟨cc, by omega, h2⟩, hG.mv⟩, (show cD g w2.heap.size n (.agg #[.slice A n c, .slice B k d, .int .i64 m.til]) (.slice A n c) 7 _ _ from by first | (rw [cD_7]; exact ⟨_, rfl, by omega, by omega⟩) | rw [cD_7])⟩⟩
      · simp only [opW_def, mixT, e17]
        go_simp
        exact ⟨⟨_, by first | rfl | simp [Act.put], Mv.refl _ _, ⟨by obtain ⟨cc, h1, h2⟩ := hG.rd; exact ⟨cc, by omega, h2⟩, hG.mv⟩, (show cD g w2.heap.size n (.agg #[.slice A n c, .slice B k d, .int .i64 m.til]) (.slice A n c) 7 _ _ from by first | (rw [cD_7]; exact ⟨_, rfl, by omega, by omega⟩) | rw [cD_7])⟩⟩
    · intro X w1 k1 hG hdep
      have e18 : cD g w2.heap.size n (.agg #[.slice A n c, .slice B k d, .int .i64 m.til]) (.slice A n c) 7 (X 18) w1 := hdep 7 (by decide +kernel)
      rw [cD_7] at e18; obtain ⟨z, e18, z0, z4⟩ := e18
      by_cases h1 : z ≤ 1
      · simp only [opW_def, mixT, e18]
        go_simp
        exact ⟨⟨_, by first | rfl | simp [Act.put], Mv.refl _ _, ⟨by obtain ⟨cc, h1, h2⟩ := hG.rd; exact ⟨cc, by omega, h2⟩, hG.mv⟩, (show cD g w2.heap.size n (.agg #[.slice A n c, .slice B k d, .int .i64 m.til]) (.slice A n c) 8 _ _ from by first | (rw [cD_8]; exact ⟨_, rfl, by omega, by omega⟩) | rw [cD_8])⟩⟩
      · simp only [opW_def, mixT, e18]
        go_simp
        exact ⟨⟨_, by first | rfl | simp [Act.put], Mv.refl _ _, ⟨by obtain ⟨cc, h1, h2⟩ := hG.rd; exact ⟨cc, by omega, h2⟩, hG.mv⟩, (show cD g w2.heap.size n (.agg #[.slice A n c, .slice B k d, .int .i64 m.til]) (.slice A n c) 8 _ _ from by first | (rw [cD_8]; exact ⟨_, rfl, by omega, by omega⟩) | rw [cD_8])⟩⟩
    · intro X w1 k1 hG hdep
      have e14 : cD g w2.heap.size n (.agg #[.slice A n c, .slice B k d, .int .i64 m.til]) (.slice A n c) 3 (X 14) w1 := hdep 3 (by decide +kernel)
      rw [cD_3] at e14
      have e19 : cD g w2.heap.size n (.agg #[.slice A n c, .slice B k d, .int .i64 m.til]) (.slice A n c) 8 (X 19) w1 := hdep 8 (by decide +kernel)
      rw [cD_8] at e19; obtain ⟨z, e19, z1, z4⟩ := e19; obtain ⟨cc, hcc, rd1⟩ := hG.rd; simp only [opW_def, mixT, e14, e19]; go_simp; refine (evt_any g cc z 16 w1 (by omega) (by omega) ⟨by omega, by omega⟩ (by omega) rd1).mono ?_; intro x w3 dk; obtain ⟨et, eto, efr, esq, ekd, edt, rfl, ok, _, r3, m3⟩ := dk.cases
      exact ⟨⟨_, by first | rfl | simp [Act.put], m3, ⟨⟨cc + 20, by omega, r3⟩, hG.mv.trans m3⟩, (show cD g w2.heap.size n (.agg #[.slice A n c, .slice B k d, .int .i64 m.til]) (.slice A n c) 9 _ _ from by first | (rw [cD_9]; exact ⟨⟨et, eto, efr, esq, ekd, edt⟩, rfl, ok⟩) | rw [cD_9])⟩⟩
  · intro X w1 hG hX
    have e11 : cD g w2.heap.size n (.agg #[.slice A n c, .slice B k d, .int .i64 m.til]) (.slice A n c) 0 (X 11) w1 := hX 0 (by omega)
    rw [cD_0] at e11
    have e13 : cD g w2.heap.size n (.agg #[.slice A n c, .slice B k d, .int .i64 m.til]) (.slice A n c) 2 (X 13) w1 := hX 2 (by omega)
    rw [cD_2] at e13; obtain ⟨⟨ss, sq, sc⟩, e13, hsc⟩ := e13
    have e20 : cD g w2.heap.size n (.agg #[.slice A n c, .slice B k d, .int .i64 m.til]) (.slice A n c) 9 (X 20) w1 := hX 9 (by omega)
    rw [cD_9] at e20; obtain ⟨⟨et, eto, efr, esq, ekd, edt⟩, e20, ok⟩ := e20; unfold Cst.v at e13; unfold Evt.v at e20; dsimp only at e13 e20 hsc
    have q2 := R2.out.mv hG.mv (by omega)
    have q3 := R3.out.mv hG.mv (by omega)
    have q4 := R4.out.mv hG.mv (by omega)
    obtain ⟨p20, p21, p22⟩ := And.intro (q2.cell (j := 0) rfl) (And.intro (q2.cell (j := 1) rfl) (q2.cell (j := 2) rfl)); obtain ⟨p30, p31, p32⟩ := And.intro (q3.cell (j := 0) rfl) (And.intro (q3.cell (j := 1) rfl) (q3.cell (j := 2) rfl)); obtain ⟨p40, p41, p42⟩ := And.intro (q4.cell (j := 0) rfl) (And.intro (q4.cell (j := 1) rfl) (q4.cell (j := 2) rfl)); obtain ⟨p43, p44, p45⟩ := And.intro (q4.cell (j := 3) rfl) (And.intro (q4.cell (j := 4) rfl) (q4.cell (j := 5) rfl))
    have f2 := q2.frozen
    have f3 := q3.frozen
    have f4 := q4.frozen
    have hl1 : w.heap.size ≤ w.heap.size + 1 := by omega
    have hl2 : w.heap.size ≤ w.heap.size + 2 := by omega
    have Q2 := Lib.hid (((q2.set 0 (.slice A n c)).set 1 (.slice B k d)).set 2 (.int .i64 m.til))
    have SM := Lib.hid ((Sml.of_mv MG.out (show g < wO.heap.size by omega)).trans (Sml.of_mv hG.mv (show g < wO.heap.size by omega)))
    have UM := Lib.hid (((MM2.out.trans MG.out).trans hG.mv).up U1.out (by omega))
    have Q3 := Lib.hid q3
    have Q4 := Lib.hid q4
    clear hX hG q2 q3 q4; simp only [mixT, e11, e13, e20]; refine mix_go rfl (by rfl) (fun K hK => ?_); go_simp; refine hK _ _ ?_; clear hK K
    have Q3 := Lib.hid (((Q3.out.far 0 (.slice A n c) (by omega : w.heap.size + 1 ≠ w.heap.size)).far (b' := w.heap.size) 1 (.slice B k d) (by omega)).far (b' := w.heap.size) 2 (.int .i64 m.til) (by omega))
    have Q4 := Lib.hid (((Q4.out.far 0 (.slice A n c) (by omega : w.heap.size + 2 ≠ w.heap.size)).far (b' := w.heap.size) 1 (.slice B k d) (by omega)).far (b' := w.heap.size) 2 (.int .i64 m.til) (by omega))
    have SM := Lib.hid (((SM.out.set (b := w.heap.size) (o := 0) (u := .slice A n c) (by omega)).set (b := w.heap.size) (o := 1) (u := .slice B k d) (by omega)).set (b := w.heap.size) (o := 2) (u := .int .i64 m.til) (by omega))
    have UM := Lib.hid (((UM.out.setCell (p := ⟨w.heap.size, 0, none⟩) (Nat.le_refl _) (.slice A n c)).setCell (p := ⟨w.heap.size, 1, none⟩) (Nat.le_refl _) (.slice B k d)).setCell (p := ⟨w.heap.size, 2, none⟩) (Nat.le_refl _) (.int .i64 m.til))
    clear p20 p21 p22 p30 p31 p32 p40 p41 p42 p43 p44 p45 f2 f3 f4
    generalize ((w1.setCell ⟨w.heap.size, 0, none⟩ (.slice A n c)).setCell ⟨w.heap.size, 1, none⟩ (.slice B k d)).setCell ⟨w.heap.size, 2, none⟩ (.int .i64 m.til) = wA at *
    obtain ⟨p30, p31, p32⟩ := And.intro (Q3.out.cell (j := 0) rfl) (And.intro (Q3.out.cell (j := 1) rfl) (Q3.out.cell (j := 2) rfl))
    have f3 := Q3.out.frozen
    refine mix_go rfl (by rfl) (fun K hK => ?_); go_simp; refine hK _ _ ?_; clear hK K
    have Q2 := Lib.hid (((Q2.out.far 0 (.int .i64 ss) (by omega : w.heap.size ≠ w.heap.size + 1)).far (b' := w.heap.size + 1) 1 (.int .i64 sq) (by omega)).far (b' := w.heap.size + 1) 2 (.int .i64 sc) (by omega))
    have Q4 := Lib.hid (((Q4.out.far 0 (.int .i64 ss) (by omega : w.heap.size + 2 ≠ w.heap.size + 1)).far (b' := w.heap.size + 1) 1 (.int .i64 sq) (by omega)).far (b' := w.heap.size + 1) 2 (.int .i64 sc) (by omega))
    have Q3 := Lib.hid (((Q3.out.set 0 (.int .i64 ss)).set 1 (.int .i64 sq)).set 2 (.int .i64 sc))
    have SM := Lib.hid (((SM.out.set (b := w.heap.size + 1) (o := 0) (u := .int .i64 ss) (by omega)).set (b := w.heap.size + 1) (o := 1) (u := .int .i64 sq) (by omega)).set (b := w.heap.size + 1) (o := 2) (u := .int .i64 sc) (by omega))
    have UM := Lib.hid (((UM.out.setCell (p := ⟨w.heap.size + 1, 0, none⟩) hl1 (.int .i64 ss)).setCell (p := ⟨w.heap.size + 1, 1, none⟩) hl1 (.int .i64 sq)).setCell (p := ⟨w.heap.size + 1, 2, none⟩) hl1 (.int .i64 sc))
    clear p30 p31 p32 f3
    generalize ((wA.setCell ⟨w.heap.size + 1, 0, none⟩ (.int .i64 ss)).setCell ⟨w.heap.size + 1, 1, none⟩ (.int .i64 sq)).setCell ⟨w.heap.size + 1, 2, none⟩ (.int .i64 sc) = wB at *
    obtain ⟨p40, p41, p42⟩ := And.intro (Q4.out.cell (j := 0) rfl) (And.intro (Q4.out.cell (j := 1) rfl) (Q4.out.cell (j := 2) rfl)); obtain ⟨p43, p44, p45⟩ := And.intro (Q4.out.cell (j := 3) rfl) (And.intro (Q4.out.cell (j := 4) rfl) (Q4.out.cell (j := 5) rfl))
    have f4 := Q4.out.frozen
    refine mix_go rfl (by rfl) (fun K hK => ?_); go_simp; refine hK _ _ ?_; clear hK K
    have Q2 := Lib.hid ((((((Q2.out.far 0 (.int .i64 et) (by omega : w.heap.size ≠ w.heap.size + 2)).far (b' := w.heap.size + 2) 1 (.int .i64 eto) (by omega)).far (b' := w.heap.size + 2) 2 (.int .i64 efr) (by omega)).far (b' := w.heap.size + 2) 3 (.int .i64 esq) (by omega)).far (b' := w.heap.size + 2) 4 (.int .i64 ekd) (by omega)).far (b' := w.heap.size + 2) 5 (.int .i64 edt) (by omega))
    have Q3 := Lib.hid ((((((Q3.out.far 0 (.int .i64 et) (by omega : w.heap.size + 1 ≠ w.heap.size + 2)).far (b' := w.heap.size + 2) 1 (.int .i64 eto) (by omega)).far (b' := w.heap.size + 2) 2 (.int .i64 efr) (by omega)).far (b' := w.heap.size + 2) 3 (.int .i64 esq) (by omega)).far (b' := w.heap.size + 2) 4 (.int .i64 ekd) (by omega)).far (b' := w.heap.size + 2) 5 (.int .i64 edt) (by omega))
    have Q4 := Lib.hid ((((((Q4.out.set 0 (.int .i64 et)).set 1 (.int .i64 eto)).set 2 (.int .i64 efr)).set 3 (.int .i64 esq)).set 4 (.int .i64 ekd)).set 5 (.int .i64 edt))
    have SM := Lib.hid ((((((SM.out.set (b := w.heap.size + 2) (o := 0) (u := .int .i64 et) (by omega)).set (b := w.heap.size + 2) (o := 1) (u := .int .i64 eto) (by omega)).set (b := w.heap.size + 2) (o := 2) (u := .int .i64 efr) (by omega)).set (b := w.heap.size + 2) (o := 3) (u := .int .i64 esq) (by omega)).set (b := w.heap.size + 2) (o := 4) (u := .int .i64 ekd) (by omega)).set (b := w.heap.size + 2) (o := 5) (u := .int .i64 edt) (by omega))
    have UM := Lib.hid ((((((UM.out.setCell (p := ⟨w.heap.size + 2, 0, none⟩) hl2 (.int .i64 et)).setCell (p := ⟨w.heap.size + 2, 1, none⟩) hl2 (.int .i64 eto)).setCell (p := ⟨w.heap.size + 2, 2, none⟩) hl2 (.int .i64 efr)).setCell (p := ⟨w.heap.size + 2, 3, none⟩) hl2 (.int .i64 esq)).setCell (p := ⟨w.heap.size + 2, 4, none⟩) hl2 (.int .i64 ekd)).setCell (p := ⟨w.heap.size + 2, 5, none⟩) hl2 (.int .i64 edt))
    clear p40 p41 p42 p43 p44 p45 f4 hl1 hl2
    generalize (((((wB.setCell ⟨w.heap.size + 2, 0, none⟩ (.int .i64 et)).setCell ⟨w.heap.size + 2, 1, none⟩ (.int .i64 eto)).setCell ⟨w.heap.size + 2, 2, none⟩ (.int .i64 efr)).setCell ⟨w.heap.size + 2, 3, none⟩ (.int .i64 esq)).setCell ⟨w.heap.size + 2, 4, none⟩ (.int .i64 ekd)).setCell ⟨w.heap.size + 2, 5, none⟩ (.int .i64 edt) = wC at *
    refine mix_nil ?_; obtain ⟨k0, k1, k2⟩ := And.intro (Q2.out.cell (j := 0) rfl) (And.intro (Q2.out.cell (j := 1) rfl) (Q2.out.cell (j := 2) rfl)); obtain ⟨k3, k4, k5⟩ := And.intro (Q3.out.cell (j := 0) rfl) (And.intro (Q3.out.cell (j := 1) rfl) (Q3.out.cell (j := 2) rfl)); obtain ⟨k6, k7, k8⟩ := And.intro (Q4.out.cell (j := 0) rfl) (And.intro (Q4.out.cell (j := 1) rfl) (Q4.out.cell (j := 2) rfl)); obtain ⟨k9, k10, k11⟩ := And.intro (Q4.out.cell (j := 3) rfl) (And.intro (Q4.out.cell (j := 4) rfl) (Q4.out.cell (j := 5) rfl)); go_wp2
    exact bodyPost_ret (v := .tuple #[.agg #[.slice A n c, .slice B k d, .int .i64 m.til], .agg #[.int .i64 ss, .int .i64 sq, .int .i64 sc], .agg #[.int .i64 et, .int .i64 eto, .int .i64 efr, .int .i64 esq, .int .i64 ekd, .int .i64 edt]]) (by simp [results, Try.results38, go_sem, k0, k1, k2, k3, k4, k5, k6, k7, k8, k9, k10, k11]) rfl
      ⟨A, n, c, B, k, d, m, ⟨ss, sq, sc⟩, ⟨et, eto, efr, esq, ekd, edt⟩, rfl, fun w2 hk => M2.out _ (SM.out.trans ⟨hk.size, fun j h1 h2 => hk.block j (by omega) h2⟩), ⟨hn, hnc, hcm⟩, ⟨hsc, ok⟩, UM.out⟩
theorem drawCD_any (A : Option Addr) (n cap : Nat) (w : World) (hc : n ≤ cap) (hmax : cap ≤ 9223372036854775807) (hB : Bys w A n w.heap.size) :
    Calls Try.prog 38 #[.slice A n cap] w (DrawnCD w) :=
  (drawCD_sm A n cap w hc hmax hB).mono (by
    rintro x w' ⟨A, n, c, B, k, d, m, s, e, h0, h1, h2, h3, h4⟩
    exact ⟨A, n, c, B, k, d, m, s, e, h0, h1 _ (Sml.of_up (Up.refl _)), h2, h3, h4⟩)
end Go.Proofs.Ytakmlfgkppekoaa

namespace Go.Proofs.Ytakmlfgkppekoaa
set_option maxRecDepth 100000
open Go.RowKit
theorem implCst_any (c : Cst) (w : World) :
    Calls Try.prog 75 #[c.v] w fun x w' => x = .returned (.bool (cstB c)) ∧ Up w w' := by
  unfold cstB; obtain ⟨s, q, n⟩ := c; unfold Cst.v; dsimp only
  go_enter Try.func75, Try.ntmps75
  go_wp2_with (go_at_call 65; refine (within_any _ _ _ _).mono ?_; rintro e w' ⟨rfl, rfl⟩)
  all_goals go_ret
  all_goals exact ⟨ret_bool (by simp [*]), (Up.refl _).alloc _⟩
theorem specCst_any (c : Cst) (w : World) :
    Calls Try.prog 39 #[c.v] w fun x w' => x = .returned (.bool (cstB c)) ∧ Up w w' := by
  unfold cstB; obtain ⟨s, q, n⟩ := c; unfold Cst.v; dsimp only
  go_enter Try.func39, Try.ntmps39
  go_wp2_with (go_at_call 64; refine (l1In_any _ _ _ _).mono ?_; rintro e w' ⟨rfl, rfl⟩)
  all_goals go_ret
  all_goals exact ⟨ret_bool (by simp [*]), (Up.refl _).alloc _⟩
end Go.Proofs.Ytakmlfgkppekoaa

namespace Go.Proofs.Ytakmlfgkppekoaa
set_option maxRecDepth 100000
open Go.RowKit
/-- The first rule of a kind. -/
def ruleOf (kd : Int) : List Rule → Option Rule
  | [] => none
  | r :: rs => if r.kd = kd then some r else ruleOf kd rs
theorem ruleOf_drop (kd : Int) (rs : List Rule) (k : Nat) (h : k < rs.length) : ruleOf kd (rs.drop k) = if (rs.getD k default).kd = kd then some (rs.getD k default) else ruleOf kd (rs.drop (k + 1)) := by
  rw [List.drop_eq_getElem_cons h, ruleOf]; simp [h]
/-- Where it stands. -/
def ixOf (kd : Int) : List Rule → Nat
  | [] => 0
  | r :: rs => if r.kd = kd then 0 else ixOf kd rs + 1
theorem ixOf_drop (kd : Int) (rs : List Rule) (k : Nat) (h : k < rs.length) : ixOf kd (rs.drop k) = if (rs.getD k default).kd = kd then 0 else ixOf kd (rs.drop (k + 1)) + 1 := by
  rw [List.drop_eq_getElem_cons h, ixOf]; simp [h]
theorem ixOf_at (kd : Int) : ∀ (rs : List Rule) (r : Rule), ruleOf kd rs = some r → ixOf kd rs < rs.length ∧ rs.getD (ixOf kd rs) default = r
  | [], _, h => by cases h
  | x :: rs, r, h => by
    rw [ruleOf] at h; rw [ixOf]
    by_cases hk : x.kd = kd
    · rw [if_pos hk] at h ⊢
      injection h with h
      exact ⟨by simp, by simpa using h⟩
    · rw [if_neg hk] at h ⊢
      obtain ⟨h1, h2⟩ := ixOf_at kd rs r h
      exact ⟨by simpa using h1, by simpa using h2⟩
/-- What the search gives. -/
def Found (A0 : Option Addr) (kd : Int) (rs : List Rule) (w : World) (x : Ending) (w' : World) : Prop :=
  Up w w' ∧ ((∃ r A n c, ruleOf kd rs = some r ∧ x = .returned (.tuple #[r.v (.slice A n c), .bool true]) ∧ n ≤ 9223372036854775807 ∧ Evs w' A n r.sends ∧ ∀ b off, A0 = some ⟨b, off, none⟩ → w.cell? ⟨b, off + ixOf kd rs * 5 + 4, none⟩ = some (.slice A n c)) ∨ (ruleOf kd rs = none ∧ x = .returned (.tuple #[.agg #[.int .i64 0, .int .i64 0, .int .i64 0, .int .i64 0, .slice none 0 0], .bool false])))
end Go.Proofs.Ytakmlfgkppekoaa

namespace Go.Proofs.Ytakmlfgkppekoaa
set_option maxRecDepth 100000
open Go.RowKit
set_option maxHeartbeats 20000000 in
theorem l2Rule_any (A : Option Addr) (n c : Nat) (kd : Int) (rs : List Rule) (w : World) (hR : Rules w A n rs) :
    Calls Try.prog 72 #[.slice A n c, .int .i64 kd] w (Found A kd rs w) := by
  have hbig := hR.2.1
  have HR := Lib.hid hR
  have LR := Lib.hid hR.1
  have RD := Lib.hid (ruleOf_drop kd rs)
  have ID := Lib.hid (ixOf_drop kd rs)
  have H0 := Lib.hid (show ruleOf kd (rs.drop 0) = ruleOf kd rs from rfl)
  have H1 := Lib.hid (show ixOf kd (rs.drop 0) + 0 = ixOf kd rs from rfl)
  clear hR
  go_enter Try.func72, Try.ntmps72
  go_wp2
  go_loopw [6] (fun i wr => (∃ q : Nat, q ≤ n ∧ i = .int .i64 q ∧ Hid (ruleOf kd (rs.drop q) = ruleOf kd rs) ∧ Hid (ixOf kd (rs.drop q) + q = ixOf kd rs)) ∧ wr = w.alloc (.cells #[.int .i64 0, .int .i64 0, .int .i64 0, .int .i64 0, .slice none 0 0] 63)) (fun i _ => n - (intOf i).toNat)
  case atStart => exact ⟨⟨0, by omega, rfl, H0, H1⟩, rfl⟩
  case round =>
    obtain ⟨⟨q, hq, rfl, HA, HI⟩, rfl⟩ := hrel
    have UA := Lib.hid ((Up.refl w).alloc (.cells #[.int .i64 0, .int .i64 0, .int .i64 0, .int .i64 0, .slice none 0 0] 63))
    by_cases hlt : q < n
    · obtain ⟨b, off, hA, hb, hc⟩ := HR.out.2.2 (by omega)
      subst hA
      have at2 := hc q hlt
      have T := RD.out q (by rw [LR.out]; exact hlt)
      rw [HA.out] at T
      have I := ID.out q (by rw [LR.out]; exact hlt)
      clear hc
      generalize rs.getD q default = r at at2 T I
      obtain ⟨A3, n3, c3, ⟨r0, r1, r2, r3, r4⟩, hn3, he3⟩ := at2; obtain ⟨k, ra, rb, rc, es⟩ := r; dsimp only at r0 r1 r2 r3 r4 T I he3
      have I := Lib.hid I
      have E3 := Lib.hid he3
      have T := Lib.hid T
      clear he3
      have i4 : (q : Int) < n := by omega
      have i5 : IntKind.i64.wrap ((q : Int) + 1) = (q : Int) + 1 := IntWalk.i64_in _ (by omega)
      by_cases hk : k = kd
      · subst hk
        have TT := Lib.hid (show ruleOf k rs = some ⟨k, ra, rb, rc, es⟩ by rw [T.out, if_pos rfl])
        have II := Lib.hid (show ixOf k rs = q by rw [← HI.out, I.out, if_pos rfl, Nat.zero_add])
        have C4 := Lib.hid r4
        have U2 := Lib.hid ((Up.refl w).alloc (.cells #[.int .i64 k, .int .i64 ra, .int .i64 rb, .int .i64 rc, .slice A3 n3 c3] 63))
        have E4 := Lib.hid (E3.out.up U2.out)
        go_wp2
        exact bodyPost_ret (v := .tuple #[.agg #[.int .i64 k, .int .i64 ra, .int .i64 rb, .int .i64 rc, .slice A3 n3 c3], .bool true]) (by simp [results, Try.results72, go_sem]) rfl ⟨U2.out, .inl ⟨⟨k, ra, rb, rc, es⟩, A3, n3, c3, TT.out, rfl, hn3, E4.out, fun b' off' hA' => by
          injection hA' with hA'
          injection hA' with h1 h2 _
          rw [← h1, ← h2, II.out]
          exact C4.out⟩⟩
      · have TT := Lib.hid (show ruleOf kd (rs.drop (q + 1)) = ruleOf kd rs by rw [T.out]; exact (if_neg hk).symm)
        have II := Lib.hid (show ixOf kd (rs.drop (q + 1)) + (q + 1) = ixOf kd rs by rw [← HI.out, I.out, if_neg hk]; omega)
        go_wp2
        go_roundw
        case rel => first | exact ⟨⟨q + 1, by omega, by first | rfl | go_num, TT, II⟩, rfl⟩ | exact ⟨q + 1, by omega, by first | rfl | go_num, TT, II⟩ | (refine ⟨⟨q + 1, by omega, by first | rfl | go_num, TT, II⟩, ?_⟩; trivial)
        case measure => (simp [intOf]; try omega)
    · have TN := Lib.hid (show ruleOf kd rs = none by rw [← HA.out, List.drop_eq_nil_of_le (by rw [LR.out]; omega)]; rfl)
      have i4 : ¬ (q : Int) < n := by omega
      go_wp2
      exact bodyPost_ret (v := .tuple #[.agg #[.int .i64 0, .int .i64 0, .int .i64 0, .int .i64 0, .slice none 0 0], .bool false]) (by simp [results, Try.results72, go_sem]) rfl ⟨UA.out, .inr ⟨TN.out, rfl⟩⟩
end Go.Proofs.Ytakmlfgkppekoaa

/-
  What FnCmpOk returns, in one sentence: true, with new blocks alone; for every code.
-/
import Derived.Test.YtdpfaehkldjdpaaDrawCmp2
namespace Go.Proofs.Ytdpfaehkldjdpaa
set_option maxRecDepth 100000
open Go.RowKit

/-- What DrawCmpOk gives. -/
def DrawnC (w : World) (x : Ending) (w' : World) : Prop :=
  ∃ c : Cst, x = .returned c.v ∧ ((-1000000 ≤ c.s ∧ c.s ≤ 1000000) ∧ (-1000000 ≤ c.sq ∧ c.sq ≤ 1000000) ∧ (-1000000 ≤ c.ct ∧ c.ct ≤ 1000000)) ∧ Up w w'

set_option maxHeartbeats 4000000 in
theorem drawCmpOk_any (A : Option Addr) (n cap : Nat) (w : World) (hc : n ≤ cap) (hmax : cap ≤ 9223372036854775807) (hB : Bys w A n w.heap.size) :
    Calls Try.prog 37 #[.slice A n cap] w (DrawnC w) := by
  have HB := Lib.hid hB
  clear hB
  have U0 := Lib.hid ((Up.refl w).alloc (.cells #[.int .i64 0, .int .i64 0, .int .i64 0] 52))
  have D0 := Lib.hid (Cell3.new w 0 0 0 52)
  have HB0 : Bys (w.alloc (.cells #[.int .i64 0, .int .i64 0, .int .i64 0] 52)) A n (w.alloc (.cells #[.int .i64 0, .int .i64 0, .int .i64 0] 52)).heap.size := fun h0 => by
    obtain ⟨b, off, hA, hb, hcc⟩ := HB.out.keep (fun b o hb => U0.out.cells b o hb) h0
    exact ⟨b, off, hA, by simp; omega, hcc⟩
  go_enter Try.func37, Try.ntmps37
  go_wp2_with fail
  refine (open_any A n cap _ hc hmax HB0).mono ?_
  rintro x w1 ⟨g, rfl, hg, r1, u1⟩
  have hg' : w.heap.size + 1 ≤ g := by simpa using hg
  have R1 := Lib.hid r1
  have U1 := Lib.hid (U0.out.trans u1)
  have D1 := Lib.hid (D0.out.mv (u1.mv g) (by omega))
  clear r1 u1 HB0 hg D0 U0
  go_wp2_with fail
  refine (l20Cmp_any g 0 2 _ ⟨by omega, by omega⟩ (by omega) R1.out).mono ?_
  rintro x w2 ⟨⟨s, q, t⟩, rfl, ⟨hs, hq, ht⟩, r2, m2⟩
  unfold Cst.v
  dsimp only at hs hq ht ⊢
  have U2 := Lib.hid (m2.up U1.out (by omega))
  have D2 := Lib.hid (D1.out.mv m2 (by omega))
  clear r2 m2 D1 U1
  obtain ⟨p0, p1, p2⟩ := And.intro D2.out.c0 (And.intro D2.out.c1 D2.out.c2)
  have pf := D2.out.f
  have E := D2.out.laid' s q t
  obtain ⟨k0, k1, k2⟩ := And.intro E.c0 (And.intro E.c1 E.c2)
  have UE := Lib.hid (((U2.out.setCell (p := ⟨w.heap.size, 0, none⟩) (Nat.le_refl _) (.int .i64 s)).setCell (p := ⟨w.heap.size, 1, none⟩) (Nat.le_refl _) (.int .i64 q)).setCell (p := ⟨w.heap.size, 2, none⟩) (Nat.le_refl _) (.int .i64 t))
  clear E
  go_wp2
  exact bodyPost_ret (v := .agg #[.int .i64 s, .int .i64 q, .int .i64 t]) (by simp [results, Try.results37, go_sem, k0, k1, k2]) rfl ⟨⟨s, q, t⟩, rfl, ⟨hs, hq, ht⟩, UE.out⟩

theorem cstB_s (q t : Int) : cstB ⟨97, q, t⟩ = false := by
  have h : inB 97 0 96 = false := by decide
  simp [cstB, h]
theorem cstB_q (s t : Int) : cstB ⟨s, 13, t⟩ = false := by
  have h : inB 13 0 12 = false := by decide
  simp [cstB, h]
theorem cstB_t (s q t : Int) (h : cstB ⟨s, q, t⟩ = true) : cstB ⟨s, q, t + 1⟩ = true := by
  simp only [cstB, Bool.and_eq_true, decide_eq_true_eq] at h ⊢
  exact ⟨h.1, by omega⟩

set_option maxHeartbeats 8000000 in
theorem walkCok {w : World} (A : Option Addr) (n cap : Nat) (hc : n ≤ cap) (hmax : cap ≤ 9223372036854775807) (hB : Bys w A n w.heap.size) :
    Calls Try.prog 8 #[.slice A n cap] w fun x w' => x = .returned (.bool true) ∧ Up w w' := by
  have HB := Lib.hid hB
  clear hB
  by_cases h : 1048576 < n
  · have h' : (1048576 : Int) < n := by omega
    go_enter Try.func8, Try.ntmps8
    go_wp2
    go_ret
    exact ⟨rfl, Up.refl _⟩
  · have h' : ¬ (1048576 : Int) < n := by omega
    go_enter Try.func8, Try.ntmps8
    go_wp2_with fail
    refine (drawCmpOk_any A n cap _ hc hmax HB.out).mono ?_
    rintro x w1 ⟨⟨s, q, t⟩, rfl, ⟨hs, hq, ht⟩, u1⟩
    unfold Cst.v
    dsimp only at hs hq ht ⊢
    have U1 := Lib.hid (u1.alloc (.cells #[.int .i64 s, .int .i64 q, .int .i64 t] 52))
    have B1 := Lib.hid (Box3.new w1 (.int .i64 s) (.int .i64 q) (.int .i64 t) 52)
    have CI := Lib.hid (fun W => implCst_any ⟨s, q, t⟩ W)
    have CS := Lib.hid (fun W => specCst_any ⟨s, q, t⟩ W)
    have C0 := Lib.hid (fun W => (show cstB ⟨0, 0, 0⟩ = true by decide) ▸ implCst_any ⟨0, 0, 0⟩ W)
    have CX := Lib.hid (fun W => cstB_s q t ▸ implCst_any ⟨97, q, t⟩ W)
    have CY := Lib.hid (fun W => cstB_q s t ▸ implCst_any ⟨s, 13, t⟩ W)
    have CZ := Lib.hid (fun (h : cstB ⟨s, q, t⟩ = true) W => cstB_t s q t h ▸ implCst_any ⟨s, q, t + 1⟩ W)
    generalize cstB ⟨s, q, t⟩ = b at CI CS CZ
    unfold Cst.v at CI CS C0 CX CY CZ
    dsimp only at CI CS C0 CX CY CZ
    have bne0 : (b != b) = false := by cases b <;> rfl
    have i1 : IntKind.i64.wrap (t + 1) = t + 1 := IntWalk.i64_in _ (by omega)
    clear u1
    go_wp2_with fail
    generalize hb1 : w1.heap.size = b1 at B1 ⊢
    generalize w1.alloc (.cells #[.int .i64 s, .int .i64 q, .int .i64 t] 52) = W at U1 B1 ⊢
    clear hb1
    refine (CI.out _).mono ?_
    rintro x w2 ⟨rfl, u2⟩
    have U2 := Lib.hid (U1.out.trans u2)
    have B2 := Lib.hid (B1.out.up u2)
    obtain ⟨p0, p1, p2⟩ := And.intro B2.out.c0 (And.intro B2.out.c1 B2.out.c2)
    clear u2 B1
    go_wp2_with fail
    refine (CS.out _).mono ?_
    rintro x w3 ⟨rfl, u3⟩
    have U3 := Lib.hid (U2.out.trans u3)
    have B3 := Lib.hid (B2.out.up u3)
    clear u3 B2 p0 p1 p2
    go_wp2_with fail
    refine (C0.out _).mono ?_
    rintro x w4 ⟨rfl, u4⟩
    have U4 := Lib.hid (U3.out.trans u4)
    have B4 := Lib.hid (B3.out.up u4)
    clear u4 B3
    cases b
    · go_wp2
      go_ret
      exact ⟨rfl, U4.out⟩
    · obtain ⟨p0, p1, p2⟩ := And.intro B4.out.c0 (And.intro B4.out.c1 B4.out.c2)
      go_wp2_with fail
      refine (CX.out _).mono ?_
      rintro x w5 ⟨rfl, u5⟩
      have U5 := Lib.hid (U4.out.trans u5)
      have B5 := Lib.hid (B4.out.up u5)
      clear u5 B4 p0 p1 p2
      obtain ⟨p0, p1, p2⟩ := And.intro B5.out.c0 (And.intro B5.out.c1 B5.out.c2)
      go_wp2_with fail
      refine (CY.out _).mono ?_
      rintro x w6 ⟨rfl, u6⟩
      have U6 := Lib.hid (U5.out.trans u6)
      have B6 := Lib.hid (B5.out.up u6)
      clear u6 B5 p0 p1 p2
      obtain ⟨p0, p1, p2⟩ := And.intro B6.out.c0 (And.intro B6.out.c1 B6.out.c2)
      go_wp2_with fail
      refine (CZ.out (by first | trivial | rfl) _).mono ?_
      rintro x w7 ⟨rfl, u7⟩
      have U7 := Lib.hid (U6.out.trans u7)
      clear u7
      go_wp2
      go_ret
      exact ⟨rfl, U7.out⟩

end Go.Proofs.Ytdpfaehkldjdpaa

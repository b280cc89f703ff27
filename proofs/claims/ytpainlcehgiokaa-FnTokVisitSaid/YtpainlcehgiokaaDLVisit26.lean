/-
  Two tokens, or two marks, compared by the language's own sign, in one sentence: are they different; for every two.
  What a visit gives, in one sentence: the token at the next host, the count taken over, a bound only at the last host where none is left; for every valid token and mark.
  What FnTokVisit returns, in one sentence: true, with new blocks alone; for every code.
  For every code the law FnTokVisit returns true and leaves its argument as it was; no condition.
-/
import Derived.Test.YtpainlcehgiokaaDLVisit01
import Derived.Test.YtpainlcehgiokaaDLVisit02
import Derived.Test.YtpainlcehgiokaaDLVisit05
import Derived.Test.YtpainlcehgiokaaDLVisit06
import Derived.Test.YtpainlcehgiokaaDLVisit11
import Derived.Test.YtpainlcehgiokaaDLVisit13
import Derived.Test.YtpainlcehgiokaaDLVisit25
import Derived.Test.YtpainlcehgiokaaRows
namespace Go.Proofs.Ytpainlcehgiokaa
set_option maxRecDepth 100000
open Go.RowKit
def eqK (a b : Gk) : Bool := (a.on == b.on) && decide (a.r = b.r) && decide (a.a = b.a) && decide (a.n = b.n) && decide (a.l = b.l)
def eqG (a b : Gm) : Bool := decide (a.r = b.r) && decide (a.e = b.e) && decide (a.o = b.o) && decide (a.l = b.l)
theorem eqK_refl (a : Gk) : eqK a a = true := by simp [eqK]
theorem eqG_refl (a : Gm) : eqG a a = true := by simp [eqG]
theorem equalIn_gk (a b : Gk) (w : World) : (Op.equalIn 10000 28 a.v b.v).run Try.prog w = .ok (eqK a b) w := by
  obtain ⟨z0, z1, z2, z3, z4⟩ := a; obtain ⟨y0, y1, y2, y3, y4⟩ := b
  have u3 := Try.underlying3
  have a3 := Try.isAgg3
  have s3 := Try.sizeOf3
  have u4 := Try.underlying4
  have a4 := Try.isAgg4
  have s4 := Try.sizeOf4
  have hS : Try.prog.underlying 28 = some (.struct (Try.prog.fieldsOf 28)) := by kernel_rfl
  have hp : Try.prog.stoodInHeld 28 = false := by kernel_rfl
  unfold Gk.v eqK; dsimp only; rw [show (10000 : Nat) = 9999 + 1 from rfl, run_equalIn_agg w 9999 28 _ _ hS hp]; simp only [Program.fieldsOf, Try.underlying28]; go_simp
  cases z0 <;> cases y0 <;> by_cases h1 : z1 = y1 <;> by_cases h2 : z2 = y2 <;> by_cases h3 : z3 = y3 <;> by_cases h4 : z4 = y4 <;> simp [h1, h2, h3, h4]
theorem equalIn_gm (a b : Gm) (w : World) : (Op.equalIn 10000 30 a.v b.v).run Try.prog w = .ok (eqG a b) w := by
  obtain ⟨z0, z1, z2, z3⟩ := a; obtain ⟨y0, y1, y2, y3⟩ := b
  have u3 := Try.underlying3
  have a3 := Try.isAgg3
  have s3 := Try.sizeOf3
  have hS : Try.prog.underlying 30 = some (.struct (Try.prog.fieldsOf 30)) := by kernel_rfl
  have hp : Try.prog.stoodInHeld 30 = false := by kernel_rfl
  unfold Gm.v eqG; dsimp only; rw [show (10000 : Nat) = 9999 + 1 from rfl, run_equalIn_agg w 9999 30 _ _ hS hp]; simp only [Program.fieldsOf, Try.underlying30]; go_simp
  by_cases h0 : z0 = y0 <;> by_cases h1 : z1 = y1 <;> by_cases h2 : z2 = y2 <;> by_cases h3 : z3 = y3 <;> simp [h0, h1, h2, h3]
theorem neq_gk (a b : Gk) (w : World) : (binOp .neq 28 a.v b.v).run Try.prog w = .ok (.bool (!eqK a b)) w := by
  have h := equalIn_gk a b w
  unfold Gk.v at h ⊢; rw [run_neq_struct, h]
  rfl
theorem eql_gk (a b : Gk) (w : World) : (binOp .eql 28 a.v b.v).run Try.prog w = .ok (.bool (eqK a b)) w := by
  have h := equalIn_gk a b w
  unfold Gk.v at h ⊢; rw [run_eql_struct, h]
  rfl
theorem neq_gm (a b : Gm) (w : World) : (binOp .neq 30 a.v b.v).run Try.prog w = .ok (.bool (!eqG a b)) w := by
  have h := equalIn_gm a b w
  unfold Gm.v at h ⊢; rw [run_neq_struct, h]
  rfl
theorem guard_gk (op : BinOp) (x y : Operand) (xs ys : Array Value) (w : World) : (eqGuard op 28 x y (.agg xs) (.agg ys)).run Try.prog w = .ok () w :=
  run_eqGuard_agg w op 28 x y xs ys (by kernel_rfl)
theorem guard_gm (op : BinOp) (x y : Operand) (xs ys : Array Value) (w : World) : (eqGuard op 30 x y (.agg xs) (.agg ys)).run Try.prog w = .ok () w :=
  run_eqGuard_agg w op 30 x y xs ys (by kernel_rfl)
end Go.Proofs.Ytpainlcehgiokaa

namespace Go.Proofs.Ytpainlcehgiokaa
set_option maxRecDepth 100000
open Go.RowKit
theorem vis_form {m : Mdl} {t : Gk} {g : Gm} {least : Int} {n : Nat} (h : tokB m t g least = true) (hn : m.rules.length = n) :
    t.on = true ∧ (0 ≤ t.r ∧ t.r ≤ 999) ∧ (0 ≤ t.a ∧ t.a ≤ (n : Int) - 1) ∧ (-39996 ≤ t.n ∧ t.n ≤ 39996) ∧ (-9999 ≤ g.e ∧ g.e ≤ 9999) ∧ (-9999 ≤ g.o ∧ g.o ≤ 9999) ∧ n ≤ 4 ∧
    ∃ ml nn y1 y2 : Int, ((t.r % 2 = 1 ∧ nn = t.n + g.e ∧ y1 = 0 ∧ y2 = g.o) ∨ (t.r % 2 = 0 ∧ nn = t.n + g.o ∧ y1 = g.e ∧ y2 = 0)) ∧
      ((t.a + 1 < (n : Int) ∧ ∃ l, tokP m t g least = (⟨true, t.r, t.a + 1, nn, l⟩, ⟨t.r, y1, y2, ml⟩, -1)) ∨
       (t.a = (n : Int) - 1 ∧ nn = 0 ∧ ∃ q l, (0 ≤ q ∧ q ≤ least ∧ q ≤ t.l) ∧ 1 ≤ l ∧ tokP m t g least = (⟨false, t.r, 0, 0, l⟩, ⟨t.r, y1, y2, ml⟩, q)) ∨
       (t.a = (n : Int) - 1 ∧ nn ≠ 0 ∧ ∃ l, tokP m t g least = (⟨true, t.r, 0, nn, l⟩, ⟨t.r, y1, y2, ml⟩, -1))) := by
  have hp := tokP_yes h
  rw [hn] at hp; simp only [tokB, gkB, gmB, mayV, mdlB, Bool.and_eq_true, inB_iff] at h; rw [hn] at h; obtain ⟨gr, ge, gq, gl⟩ := g; obtain ⟨ton, tr, ta, tn, tl⟩ := t; dsimp only at h hp ⊢; obtain ⟨⟨⟨⟨⟨⟨h1, h2⟩, _⟩, _⟩, ⟨⟨⟨k1, k2⟩, k3⟩, k4⟩⟩, ⟨⟨⟨g1, g2⟩, g3⟩, g4⟩⟩, ⟨⟨v1, v2⟩, v3⟩⟩ := h; subst v1; refine ⟨rfl, k1, k2, k3, g2, g3, by omega, ?_⟩
  have hv : visM m.til ⟨true, tr, ta, tn, tl⟩ ⟨gr, ge, gq, gl⟩ = ⟨tr, ge, gq, if gr < tr then m.til + 1 else gl⟩ := by
    unfold visM; dsimp only
    by_cases hlt : gr < tr
    · rw [if_pos hlt, if_pos hlt]
    · rw [if_neg hlt, if_neg hlt]
      have : gr = tr := by omega
      rw [this]
  obtain ⟨ml, hml⟩ : ∃ ml, ml = if gr < tr then m.til + 1 else gl := ⟨_, rfl⟩
  have hml0 : 0 ≤ ml := by rw [hml]; split <;> omega
  rw [← hml] at hv; unfold visK at hp; rw [hv] at hp; dsimp only at hp; obtain ⟨q, hq⟩ : ∃ q, q = min tl (min least ml) := ⟨_, rfl⟩; rw [← hq] at hp
  have hq3 : 0 ≤ q ∧ q ≤ least ∧ q ≤ tl := by omega
  by_cases j2 : tr % 2 = 1
  · refine ⟨ml, tn + ge, 0, gq, .inl ⟨j2, rfl, rfl, rfl⟩, ?_⟩
    simp only [visG, visN, j2, if_true] at hp; unfold visE at hp; dsimp only at hp
    by_cases j3 : ta + 1 < (n : Int)
    · rw [if_pos j3] at hp
      exact .inl ⟨j3, q, hp⟩
    · rw [if_neg j3] at hp
      by_cases j6 : tn + ge = 0
      · rw [if_pos j6] at hp
        exact .inr (.inl ⟨by omega, j6, q, m.til + 1, hq3, by omega, by rw [hp, j6]⟩)
      · rw [if_neg j6] at hp
        exact .inr (.inr ⟨by omega, j6, m.til + 1, hp⟩)
  · have j2z : tr % 2 = 0 := by omega
    refine ⟨ml, tn + gq, ge, 0, .inr ⟨j2z, rfl, rfl, rfl⟩, ?_⟩; simp only [visG, visN, j2, if_false] at hp; unfold visE at hp; dsimp only at hp
    by_cases j3 : ta + 1 < (n : Int)
    · rw [if_pos j3] at hp
      exact .inl ⟨j3, q, hp⟩
    · rw [if_neg j3] at hp
      by_cases j6 : tn + gq = 0
      · rw [if_pos j6] at hp
        exact .inr (.inl ⟨by omega, j6, q, m.til + 1, hq3, by omega, by rw [hp, j6]⟩)
      · rw [if_neg j6] at hp
        exact .inr (.inr ⟨by omega, j6, m.til + 1, hp⟩)
end Go.Proofs.Ytpainlcehgiokaa

namespace Go.Proofs.Ytpainlcehgiokaa
set_option maxRecDepth 100000
open Go.RowKit
set_option linter.unusedVariables false
set_option maxHeartbeats 40000000 in
theorem walkVisit {w : World} (A0 : Option Addr) (n0 cap0 : Nat) (hc0 : n0 ≤ cap0) (hmax0 : cap0 ≤ 9223372036854775807) (hB0 : Bys w A0 n0 w.heap.size) :
    Calls Try.prog 3 #[.slice A0 n0 cap0] w fun x w' => x = .returned (.bool true) ∧ Up w w' := by
  have HB0 := Lib.hid hB0
  clear hB0
  by_cases h : 1048576 < n0
  · have h' : (1048576 : Int) < n0 := by omega
    go_enter Try.func3, Try.ntmps3
    go_wp2; go_ret
    exact ⟨rfl, Up.refl _⟩
  have h' : ¬ (1048576 : Int) < n0 := by omega
  go_enter Try.func3, Try.ntmps3
  go_wp2_with fail
  refine (drawVis_any A0 n0 cap0 _ hc0 hmax0 HB0.out).mono ?_; rintro x w1 ⟨A, n, c, B, k, d, m, t, g, least, rfl, mv1, ⟨hn, _, _⟩, _, u1⟩
  have CI := Lib.hid (fun W (hM : MdlV W A n B k m) => implVisit_any A n c B k d m t g least W hM)
  have CS := Lib.hid (fun W (hM : MdlV W A n B k m) => specVisit_any A n c B k d m t g least W hM)
  have LR := Lib.hid (show m.rules.length = n from mv1.rules.1)
  obtain ⟨r, hr⟩ : ∃ r, tokP m t g least = r := ⟨_, rfl⟩; rw [hr] at CI CS
  have HR := Lib.hid hr
  have HF := Lib.hid (fun h : tokB m t g least = true => vis_form h LR.out)
  have HZ := Lib.hid (fun h : tokB m t g least = false => tokP_no h)
  rw [hr] at HF HZ; clear hr HR LR
  generalize tokB m t g least = tb at HF HZ
  obtain ⟨⟨r0, r1, r2, r3, r4⟩, ⟨s0, s1, s2, s3⟩, rb⟩ := r; obtain ⟨gr, ge, gq, gl⟩ := g; obtain ⟨ton, tr, ta, tn, tl⟩ := t; unfold tokV at CI CS; unfold Gk.v Gm.v at CI CS ⊢; dsimp only at CI CS HF HZ ⊢
  have X3 := Lib.hid (((Bk.new w1 #[.slice A n c, .slice B k d, .int .i64 m.til] 26).alloc (.cells #[.bool ton, .int .i64 tr, .int .i64 ta, .int .i64 tn, .int .i64 tl] 28)).alloc (.cells #[.int .i64 gr, .int .i64 ge, .int .i64 gq, .int .i64 gl] 30))
  have X4 := Lib.hid ((Bk.new (w1.alloc (.cells #[.slice A n c, .slice B k d, .int .i64 m.til] 26)) #[.bool ton, .int .i64 tr, .int .i64 ta, .int .i64 tn, .int .i64 tl] 28).alloc (.cells #[.int .i64 gr, .int .i64 ge, .int .i64 gq, .int .i64 gl] 30))
  have X5 := Lib.hid (Bk.new ((w1.alloc (.cells #[.slice A n c, .slice B k d, .int .i64 m.til] 26)).alloc (.cells #[.bool ton, .int .i64 tr, .int .i64 ta, .int .i64 tn, .int .i64 tl] 28)) #[.int .i64 gr, .int .i64 ge, .int .i64 gq, .int .i64 gl] 30)
  simp only [World.size_alloc] at X4 X5
  have ua := ((((Up.refl w1).alloc (.cells #[.slice A n c, .slice B k d, .int .i64 m.til] 26)).alloc (.cells #[.bool ton, .int .i64 tr, .int .i64 ta, .int .i64 tn, .int .i64 tl] 28)).alloc (.cells #[.int .i64 gr, .int .i64 ge, .int .i64 gq, .int .i64 gl] 30))
  have MV := Lib.hid (mv1.up ua)
  have UM := Lib.hid (u1.trans ua)
  clear mv1 u1 ua HB0 h
  go_wp2_with fail
  generalize (((w1.alloc (.cells #[.slice A n c, .slice B k d, .int .i64 m.til] 26)).alloc (.cells #[.bool ton, .int .i64 tr, .int .i64 ta, .int .i64 tn, .int .i64 tl] 28)).alloc (.cells #[.int .i64 gr, .int .i64 ge, .int .i64 gq, .int .i64 gl] 30)) = W1 at *
  generalize w1.heap.size + 1 + 1 = b5 at *
  generalize w1.heap.size + 1 = b4 at *
  generalize w1.heap.size = b3 at *
  refine (CI.out _ MV.out).mono ?_; rintro x w2 ⟨rfl, u9⟩
  replace UM := Lib.hid (UM.out.trans u9)
  replace MV := Lib.hid (MV.out.up u9)
  replace X3 := Lib.hid (X3.out.up u9)
  replace X4 := Lib.hid (X4.out.up u9)
  replace X5 := Lib.hid (X5.out.up u9)
  clear u9
  have X7 := Lib.hid ((Bk.new w2 #[.bool r0, .int .i64 r1, .int .i64 r2, .int .i64 r3, .int .i64 r4] 28).alloc (.cells #[.int .i64 s0, .int .i64 s1, .int .i64 s2, .int .i64 s3] 30))
  have X8 := Lib.hid (Bk.new (w2.alloc (.cells #[.bool r0, .int .i64 r1, .int .i64 r2, .int .i64 r3, .int .i64 r4] 28)) #[.int .i64 s0, .int .i64 s1, .int .i64 s2, .int .i64 s3] 30)
  simp only [World.size_alloc] at X8
  have ua := (((Up.refl w2).alloc (.cells #[.bool r0, .int .i64 r1, .int .i64 r2, .int .i64 r3, .int .i64 r4] 28)).alloc (.cells #[.int .i64 s0, .int .i64 s1, .int .i64 s2, .int .i64 s3] 30))
  replace UM := Lib.hid (UM.out.trans ua)
  replace MV := Lib.hid (MV.out.up ua)
  replace X3 := Lib.hid (X3.out.up ua)
  replace X4 := Lib.hid (X4.out.up ua)
  replace X5 := Lib.hid (X5.out.up ua)
  clear ua
  have x3_0 := X3.out.cell (j := 0) rfl
  have x3_1 := X3.out.cell (j := 1) rfl
  have x3_2 := X3.out.cell (j := 2) rfl
  have x4_0 := X4.out.cell (j := 0) rfl
  have x4_1 := X4.out.cell (j := 1) rfl
  have x4_2 := X4.out.cell (j := 2) rfl
  have x4_3 := X4.out.cell (j := 3) rfl
  have x4_4 := X4.out.cell (j := 4) rfl
  have x5_0 := X5.out.cell (j := 0) rfl
  have x5_1 := X5.out.cell (j := 1) rfl
  have x5_2 := X5.out.cell (j := 2) rfl
  have x5_3 := X5.out.cell (j := 3) rfl
  have lx3 := X3.out.lt
  have lx4 := X4.out.lt
  have lx5 := X5.out.lt
  go_wp2_with fail
  generalize ((w2.alloc (.cells #[.bool r0, .int .i64 r1, .int .i64 r2, .int .i64 r3, .int .i64 r4] 28)).alloc (.cells #[.int .i64 s0, .int .i64 s1, .int .i64 s2, .int .i64 s3] 30)) = W2 at *
  generalize w2.heap.size + 1 = b8 at *
  generalize w2.heap.size = b7 at *
  refine (CS.out _ MV.out).mono ?_; rintro x w3 ⟨rfl, u9⟩; clear x3_0 x3_1 x3_2 x4_0 x4_1 x4_2 x4_3 x4_4 x5_0 x5_1 x5_2 x5_3 lx3 lx4 lx5
  replace UM := Lib.hid (UM.out.trans u9)
  replace MV := Lib.hid (MV.out.up u9)
  replace X3 := Lib.hid (X3.out.up u9)
  replace X4 := Lib.hid (X4.out.up u9)
  replace X5 := Lib.hid (X5.out.up u9)
  replace X7 := Lib.hid (X7.out.up u9)
  replace X8 := Lib.hid (X8.out.up u9)
  clear u9 CI CS
  have X10 := Lib.hid ((Bk.new w3 #[.bool r0, .int .i64 r1, .int .i64 r2, .int .i64 r3, .int .i64 r4] 28).alloc (.cells #[.int .i64 s0, .int .i64 s1, .int .i64 s2, .int .i64 s3] 30))
  have X11 := Lib.hid (Bk.new (w3.alloc (.cells #[.bool r0, .int .i64 r1, .int .i64 r2, .int .i64 r3, .int .i64 r4] 28)) #[.int .i64 s0, .int .i64 s1, .int .i64 s2, .int .i64 s3] 30)
  simp only [World.size_alloc] at X11
  have ua := (((Up.refl w3).alloc (.cells #[.bool r0, .int .i64 r1, .int .i64 r2, .int .i64 r3, .int .i64 r4] 28)).alloc (.cells #[.int .i64 s0, .int .i64 s1, .int .i64 s2, .int .i64 s3] 30))
  replace UM := Lib.hid (UM.out.trans ua)
  replace MV := Lib.hid (MV.out.up ua)
  replace X3 := Lib.hid (X3.out.up ua)
  replace X4 := Lib.hid (X4.out.up ua)
  replace X5 := Lib.hid (X5.out.up ua)
  replace X7 := Lib.hid (X7.out.up ua)
  replace X8 := Lib.hid (X8.out.up ua)
  clear ua
  have j9 : (rb != rb) = false := by simp
  have GK := guard_gk
  have GM := guard_gm
  have NK := fun W => eqK_refl ⟨r0, r1, r2, r3, r4⟩ ▸ neq_gk ⟨r0, r1, r2, r3, r4⟩ ⟨r0, r1, r2, r3, r4⟩ W
  have NM := fun W => eqG_refl ⟨s0, s1, s2, s3⟩ ▸ neq_gm ⟨s0, s1, s2, s3⟩ ⟨s0, s1, s2, s3⟩ W
  unfold Gk.v at NK; unfold Gm.v at NM; dsimp only [Bool.not_true] at NK NM
  cases tb
  · have hz := HZ.out rfl
    injection hz with z1 z2
    injection z2 with z2 z3
    injection z1 with a0 a1 a2 a3 a4
    injection z2 with b0 b1 b2 b3
    subst a0 a1 a2 a3 a4 b0 b1 b2 b3 z3; clear HF HZ
    have EZ := fun W => eqK_refl ⟨false, 0, 0, 0, 0⟩ ▸ eql_gk ⟨false, 0, 0, 0, 0⟩ ⟨false, 0, 0, 0, 0⟩ W
    unfold Gk.v at EZ; dsimp only at EZ
    have x7_0 := X7.out.cell (j := 0) rfl
    have x7_1 := X7.out.cell (j := 1) rfl
    have x7_2 := X7.out.cell (j := 2) rfl
    have x7_3 := X7.out.cell (j := 3) rfl
    have x7_4 := X7.out.cell (j := 4) rfl
    have x8_0 := X8.out.cell (j := 0) rfl
    have x8_1 := X8.out.cell (j := 1) rfl
    have x8_2 := X8.out.cell (j := 2) rfl
    have x8_3 := X8.out.cell (j := 3) rfl
    have x10_0 := X10.out.cell (j := 0) rfl
    have x10_1 := X10.out.cell (j := 1) rfl
    have x10_2 := X10.out.cell (j := 2) rfl
    have x10_3 := X10.out.cell (j := 3) rfl
    have x10_4 := X10.out.cell (j := 4) rfl
    have x11_0 := X11.out.cell (j := 0) rfl
    have x11_1 := X11.out.cell (j := 1) rfl
    have x11_2 := X11.out.cell (j := 2) rfl
    have x11_3 := X11.out.cell (j := 3) rfl
    have lx7 := X7.out.lt
    have lx8 := X8.out.lt
    have lx10 := X10.out.lt
    have lx11 := X11.out.lt
    go_wp2_with fail
    refine (tbOk_any _).mono ?_; rintro x w9 ⟨rfl, u9⟩; go_wp2; go_ret
    exact ⟨rfl, UM.out.trans u9⟩
  · obtain ⟨hon, hr9, ha9, hn9, he9, hq9, h4, ml, nn, y1, y2, hpar, hform⟩ := HF.out rfl
    try dsimp only at hon
    subst hon; clear HF HZ
    have i3 : IntKind.i64.wrap (tn + ge) = tn + ge := IntWalk.i64_in _ (by omega)
    have i4 : IntKind.i64.wrap (tn + gq) = tn + gq := IntWalk.i64_in _ (by omega)
    have i5 : Int.tmod tr 2 = tr % 2 := Int.tmod_eq_emod_of_nonneg (by omega)
    have i7 : IntKind.i64.wrap ((n : Int) - 1) = (n : Int) - 1 := IntWalk.i64_in _ (by omega)
    rcases hpar with ⟨j2, e1, e2, e3⟩ | ⟨j2, e1, e2, e3⟩
    · try dsimp only at e1 e2 e3
      subst e1 e2 e3
      rcases hform with ⟨j3, l, hp⟩ | ⟨hlast, hnn, q, l, hqq, hl1, hp⟩ | ⟨hlast, hnn, l, hp⟩
      · injection hp with z1 z2
        injection z2 with z2 z3
        injection z1 with a0 a1 a2 a3 a4
        injection z2 with b0 b1 b2 b3
        replace a0 := a0.symm
        replace a1 := a1.symm
        replace a2 := a2.symm
        replace a3 := a3.symm
        replace a4 := a4.symm
        replace b0 := b0.symm
        replace b1 := b1.symm
        replace b2 := b2.symm
        replace b3 := b3.symm
        replace z3 := z3.symm
        subst a0 a1 a2 a3 a4 b0 b1 b2 b3 z3
        have k1 : (ta == (n : Int) - 1) = false := by simp; omega
        have k2 : (ta + 1 == 0) = false := by simp; omega
        have EZ := fun W => (show eqK ⟨true, tr, ta + 1, (tn + ge), l⟩ ⟨false, 0, 0, 0, 0⟩ = false from by simp [eqK]) ▸ eql_gk ⟨true, tr, ta + 1, (tn + ge), l⟩ ⟨false, 0, 0, 0, 0⟩ W
        unfold Gk.v at EZ; dsimp only at EZ
        have x3_0 := X3.out.cell (j := 0) rfl
        have x3_1 := X3.out.cell (j := 1) rfl
        have x3_2 := X3.out.cell (j := 2) rfl
        have x4_0 := X4.out.cell (j := 0) rfl
        have x4_1 := X4.out.cell (j := 1) rfl
        have x4_2 := X4.out.cell (j := 2) rfl
        have x4_3 := X4.out.cell (j := 3) rfl
        have x4_4 := X4.out.cell (j := 4) rfl
        have x5_0 := X5.out.cell (j := 0) rfl
        have x5_1 := X5.out.cell (j := 1) rfl
        have x5_2 := X5.out.cell (j := 2) rfl
        have x5_3 := X5.out.cell (j := 3) rfl
        have x7_0 := X7.out.cell (j := 0) rfl
        have x7_1 := X7.out.cell (j := 1) rfl
        have x7_2 := X7.out.cell (j := 2) rfl
        have x7_3 := X7.out.cell (j := 3) rfl
        have x7_4 := X7.out.cell (j := 4) rfl
        have x8_0 := X8.out.cell (j := 0) rfl
        have x8_1 := X8.out.cell (j := 1) rfl
        have x8_2 := X8.out.cell (j := 2) rfl
        have x8_3 := X8.out.cell (j := 3) rfl
        have x10_0 := X10.out.cell (j := 0) rfl
        have x10_1 := X10.out.cell (j := 1) rfl
        have x10_2 := X10.out.cell (j := 2) rfl
        have x10_3 := X10.out.cell (j := 3) rfl
        have x10_4 := X10.out.cell (j := 4) rfl
        have x11_0 := X11.out.cell (j := 0) rfl
        have x11_1 := X11.out.cell (j := 1) rfl
        have x11_2 := X11.out.cell (j := 2) rfl
        have x11_3 := X11.out.cell (j := 3) rfl
        have lx3 := X3.out.lt
        have lx4 := X4.out.lt
        have lx5 := X5.out.lt
        have lx7 := X7.out.lt
        have lx8 := X8.out.lt
        have lx10 := X10.out.lt
        have lx11 := X11.out.lt
        go_wp2; go_ret
        exact ⟨by first | rfl | exact ret_bool (by simp [*]), UM.out⟩
      · injection hp with z1 z2
        injection z2 with z2 z3
        injection z1 with a0 a1 a2 a3 a4
        injection z2 with b0 b1 b2 b3
        replace a0 := a0.symm
        replace a1 := a1.symm
        replace a2 := a2.symm
        replace a3 := a3.symm
        replace a4 := a4.symm
        replace b0 := b0.symm
        replace b1 := b1.symm
        replace b2 := b2.symm
        replace b3 := b3.symm
        replace z3 := z3.symm
        subst a0 a1 a2 a3 a4 b0 b1 b2 b3 z3; subst hlast; obtain ⟨kq0, kq1, kq2⟩ := hqq
        have k3 : ¬ least < q := by omega
        have k4 : ¬ tl < q := by omega
        have k5 : ¬ q < 0 := by omega
        have k6 : ¬ l = 0 := by omega
        have k7 : q ≥ 0 := by omega
        have EZ := fun W => (show eqK ⟨false, tr, 0, 0, l⟩ ⟨false, 0, 0, 0, 0⟩ = false from by simp [eqK, k6]) ▸ eql_gk ⟨false, tr, 0, 0, l⟩ ⟨false, 0, 0, 0, 0⟩ W
        unfold Gk.v at EZ; dsimp only at EZ
        have x3_0 := X3.out.cell (j := 0) rfl
        have x3_1 := X3.out.cell (j := 1) rfl
        have x3_2 := X3.out.cell (j := 2) rfl
        have x4_0 := X4.out.cell (j := 0) rfl
        have x4_1 := X4.out.cell (j := 1) rfl
        have x4_2 := X4.out.cell (j := 2) rfl
        have x4_3 := X4.out.cell (j := 3) rfl
        have x4_4 := X4.out.cell (j := 4) rfl
        have x5_0 := X5.out.cell (j := 0) rfl
        have x5_1 := X5.out.cell (j := 1) rfl
        have x5_2 := X5.out.cell (j := 2) rfl
        have x5_3 := X5.out.cell (j := 3) rfl
        have x7_0 := X7.out.cell (j := 0) rfl
        have x7_1 := X7.out.cell (j := 1) rfl
        have x7_2 := X7.out.cell (j := 2) rfl
        have x7_3 := X7.out.cell (j := 3) rfl
        have x7_4 := X7.out.cell (j := 4) rfl
        have x8_0 := X8.out.cell (j := 0) rfl
        have x8_1 := X8.out.cell (j := 1) rfl
        have x8_2 := X8.out.cell (j := 2) rfl
        have x8_3 := X8.out.cell (j := 3) rfl
        have x10_0 := X10.out.cell (j := 0) rfl
        have x10_1 := X10.out.cell (j := 1) rfl
        have x10_2 := X10.out.cell (j := 2) rfl
        have x10_3 := X10.out.cell (j := 3) rfl
        have x10_4 := X10.out.cell (j := 4) rfl
        have x11_0 := X11.out.cell (j := 0) rfl
        have x11_1 := X11.out.cell (j := 1) rfl
        have x11_2 := X11.out.cell (j := 2) rfl
        have x11_3 := X11.out.cell (j := 3) rfl
        have lx3 := X3.out.lt
        have lx4 := X4.out.lt
        have lx5 := X5.out.lt
        have lx7 := X7.out.lt
        have lx8 := X8.out.lt
        have lx10 := X10.out.lt
        have lx11 := X11.out.lt
        go_wp2; go_ret
        exact ⟨by first | rfl | exact ret_bool (by simp [*]), UM.out⟩
      · injection hp with z1 z2
        injection z2 with z2 z3
        injection z1 with a0 a1 a2 a3 a4
        injection z2 with b0 b1 b2 b3
        replace a0 := a0.symm
        replace a1 := a1.symm
        replace a2 := a2.symm
        replace a3 := a3.symm
        replace a4 := a4.symm
        replace b0 := b0.symm
        replace b1 := b1.symm
        replace b2 := b2.symm
        replace b3 := b3.symm
        replace z3 := z3.symm
        subst a0 a1 a2 a3 a4 b0 b1 b2 b3 z3; subst hlast
        have EZ := fun W => (show eqK ⟨true, tr, 0, (tn + ge), l⟩ ⟨false, 0, 0, 0, 0⟩ = false from by simp [eqK]) ▸ eql_gk ⟨true, tr, 0, (tn + ge), l⟩ ⟨false, 0, 0, 0, 0⟩ W
        unfold Gk.v at EZ; dsimp only at EZ
        have x3_0 := X3.out.cell (j := 0) rfl
        have x3_1 := X3.out.cell (j := 1) rfl
        have x3_2 := X3.out.cell (j := 2) rfl
        have x4_0 := X4.out.cell (j := 0) rfl
        have x4_1 := X4.out.cell (j := 1) rfl
        have x4_2 := X4.out.cell (j := 2) rfl
        have x4_3 := X4.out.cell (j := 3) rfl
        have x4_4 := X4.out.cell (j := 4) rfl
        have x5_0 := X5.out.cell (j := 0) rfl
        have x5_1 := X5.out.cell (j := 1) rfl
        have x5_2 := X5.out.cell (j := 2) rfl
        have x5_3 := X5.out.cell (j := 3) rfl
        have x7_0 := X7.out.cell (j := 0) rfl
        have x7_1 := X7.out.cell (j := 1) rfl
        have x7_2 := X7.out.cell (j := 2) rfl
        have x7_3 := X7.out.cell (j := 3) rfl
        have x7_4 := X7.out.cell (j := 4) rfl
        have x8_0 := X8.out.cell (j := 0) rfl
        have x8_1 := X8.out.cell (j := 1) rfl
        have x8_2 := X8.out.cell (j := 2) rfl
        have x8_3 := X8.out.cell (j := 3) rfl
        have x10_0 := X10.out.cell (j := 0) rfl
        have x10_1 := X10.out.cell (j := 1) rfl
        have x10_2 := X10.out.cell (j := 2) rfl
        have x10_3 := X10.out.cell (j := 3) rfl
        have x10_4 := X10.out.cell (j := 4) rfl
        have x11_0 := X11.out.cell (j := 0) rfl
        have x11_1 := X11.out.cell (j := 1) rfl
        have x11_2 := X11.out.cell (j := 2) rfl
        have x11_3 := X11.out.cell (j := 3) rfl
        have lx3 := X3.out.lt
        have lx4 := X4.out.lt
        have lx5 := X5.out.lt
        have lx7 := X7.out.lt
        have lx8 := X8.out.lt
        have lx10 := X10.out.lt
        have lx11 := X11.out.lt
        go_wp2; go_ret
        exact ⟨by first | rfl | exact ret_bool (by simp [*]), UM.out⟩
    · try dsimp only at e1 e2 e3
      subst e1 e2 e3
      rcases hform with ⟨j3, l, hp⟩ | ⟨hlast, hnn, q, l, hqq, hl1, hp⟩ | ⟨hlast, hnn, l, hp⟩
      · injection hp with z1 z2
        injection z2 with z2 z3
        injection z1 with a0 a1 a2 a3 a4
        injection z2 with b0 b1 b2 b3
        replace a0 := a0.symm
        replace a1 := a1.symm
        replace a2 := a2.symm
        replace a3 := a3.symm
        replace a4 := a4.symm
        replace b0 := b0.symm
        replace b1 := b1.symm
        replace b2 := b2.symm
        replace b3 := b3.symm
        replace z3 := z3.symm
        subst a0 a1 a2 a3 a4 b0 b1 b2 b3 z3
        have k1 : (ta == (n : Int) - 1) = false := by simp; omega
        have k2 : (ta + 1 == 0) = false := by simp; omega
        have EZ := fun W => (show eqK ⟨true, tr, ta + 1, (tn + gq), l⟩ ⟨false, 0, 0, 0, 0⟩ = false from by simp [eqK]) ▸ eql_gk ⟨true, tr, ta + 1, (tn + gq), l⟩ ⟨false, 0, 0, 0, 0⟩ W
        unfold Gk.v at EZ; dsimp only at EZ
        have x3_0 := X3.out.cell (j := 0) rfl
        have x3_1 := X3.out.cell (j := 1) rfl
        have x3_2 := X3.out.cell (j := 2) rfl
        have x4_0 := X4.out.cell (j := 0) rfl
        have x4_1 := X4.out.cell (j := 1) rfl
        have x4_2 := X4.out.cell (j := 2) rfl
        have x4_3 := X4.out.cell (j := 3) rfl
        have x4_4 := X4.out.cell (j := 4) rfl
        have x5_0 := X5.out.cell (j := 0) rfl
        have x5_1 := X5.out.cell (j := 1) rfl
        have x5_2 := X5.out.cell (j := 2) rfl
        have x5_3 := X5.out.cell (j := 3) rfl
        have x7_0 := X7.out.cell (j := 0) rfl
        have x7_1 := X7.out.cell (j := 1) rfl
        have x7_2 := X7.out.cell (j := 2) rfl
        have x7_3 := X7.out.cell (j := 3) rfl
        have x7_4 := X7.out.cell (j := 4) rfl
        have x8_0 := X8.out.cell (j := 0) rfl
        have x8_1 := X8.out.cell (j := 1) rfl
        have x8_2 := X8.out.cell (j := 2) rfl
        have x8_3 := X8.out.cell (j := 3) rfl
        have x10_0 := X10.out.cell (j := 0) rfl
        have x10_1 := X10.out.cell (j := 1) rfl
        have x10_2 := X10.out.cell (j := 2) rfl
        have x10_3 := X10.out.cell (j := 3) rfl
        have x10_4 := X10.out.cell (j := 4) rfl
        have x11_0 := X11.out.cell (j := 0) rfl
        have x11_1 := X11.out.cell (j := 1) rfl
        have x11_2 := X11.out.cell (j := 2) rfl
        have x11_3 := X11.out.cell (j := 3) rfl
        have lx3 := X3.out.lt
        have lx4 := X4.out.lt
        have lx5 := X5.out.lt
        have lx7 := X7.out.lt
        have lx8 := X8.out.lt
        have lx10 := X10.out.lt
        have lx11 := X11.out.lt
        go_wp2; go_ret
        exact ⟨by first | rfl | exact ret_bool (by simp [*]), UM.out⟩
      · injection hp with z1 z2
        injection z2 with z2 z3
        injection z1 with a0 a1 a2 a3 a4
        injection z2 with b0 b1 b2 b3
        replace a0 := a0.symm
        replace a1 := a1.symm
        replace a2 := a2.symm
        replace a3 := a3.symm
        replace a4 := a4.symm
        replace b0 := b0.symm
        replace b1 := b1.symm
        replace b2 := b2.symm
        replace b3 := b3.symm
        replace z3 := z3.symm
        subst a0 a1 a2 a3 a4 b0 b1 b2 b3 z3; subst hlast; obtain ⟨kq0, kq1, kq2⟩ := hqq
        have k3 : ¬ least < q := by omega
        have k4 : ¬ tl < q := by omega
        have k5 : ¬ q < 0 := by omega
        have k6 : ¬ l = 0 := by omega
        have k7 : q ≥ 0 := by omega
        have EZ := fun W => (show eqK ⟨false, tr, 0, 0, l⟩ ⟨false, 0, 0, 0, 0⟩ = false from by simp [eqK, k6]) ▸ eql_gk ⟨false, tr, 0, 0, l⟩ ⟨false, 0, 0, 0, 0⟩ W
        unfold Gk.v at EZ; dsimp only at EZ
        have x3_0 := X3.out.cell (j := 0) rfl
        have x3_1 := X3.out.cell (j := 1) rfl
        have x3_2 := X3.out.cell (j := 2) rfl
        have x4_0 := X4.out.cell (j := 0) rfl
        have x4_1 := X4.out.cell (j := 1) rfl
        have x4_2 := X4.out.cell (j := 2) rfl
        have x4_3 := X4.out.cell (j := 3) rfl
        have x4_4 := X4.out.cell (j := 4) rfl
        have x5_0 := X5.out.cell (j := 0) rfl
        have x5_1 := X5.out.cell (j := 1) rfl
        have x5_2 := X5.out.cell (j := 2) rfl
        have x5_3 := X5.out.cell (j := 3) rfl
        have x7_0 := X7.out.cell (j := 0) rfl
        have x7_1 := X7.out.cell (j := 1) rfl
        have x7_2 := X7.out.cell (j := 2) rfl
        have x7_3 := X7.out.cell (j := 3) rfl
        have x7_4 := X7.out.cell (j := 4) rfl
        have x8_0 := X8.out.cell (j := 0) rfl
        have x8_1 := X8.out.cell (j := 1) rfl
        have x8_2 := X8.out.cell (j := 2) rfl
        have x8_3 := X8.out.cell (j := 3) rfl
        have x10_0 := X10.out.cell (j := 0) rfl
        have x10_1 := X10.out.cell (j := 1) rfl
        have x10_2 := X10.out.cell (j := 2) rfl
        have x10_3 := X10.out.cell (j := 3) rfl
        have x10_4 := X10.out.cell (j := 4) rfl
        have x11_0 := X11.out.cell (j := 0) rfl
        have x11_1 := X11.out.cell (j := 1) rfl
        have x11_2 := X11.out.cell (j := 2) rfl
        have x11_3 := X11.out.cell (j := 3) rfl
        have lx3 := X3.out.lt
        have lx4 := X4.out.lt
        have lx5 := X5.out.lt
        have lx7 := X7.out.lt
        have lx8 := X8.out.lt
        have lx10 := X10.out.lt
        have lx11 := X11.out.lt
        go_wp2; go_ret
        exact ⟨by first | rfl | exact ret_bool (by simp [*]), UM.out⟩
      · injection hp with z1 z2
        injection z2 with z2 z3
        injection z1 with a0 a1 a2 a3 a4
        injection z2 with b0 b1 b2 b3
        replace a0 := a0.symm
        replace a1 := a1.symm
        replace a2 := a2.symm
        replace a3 := a3.symm
        replace a4 := a4.symm
        replace b0 := b0.symm
        replace b1 := b1.symm
        replace b2 := b2.symm
        replace b3 := b3.symm
        replace z3 := z3.symm
        subst a0 a1 a2 a3 a4 b0 b1 b2 b3 z3; subst hlast
        have EZ := fun W => (show eqK ⟨true, tr, 0, (tn + gq), l⟩ ⟨false, 0, 0, 0, 0⟩ = false from by simp [eqK]) ▸ eql_gk ⟨true, tr, 0, (tn + gq), l⟩ ⟨false, 0, 0, 0, 0⟩ W
        unfold Gk.v at EZ; dsimp only at EZ
        have x3_0 := X3.out.cell (j := 0) rfl
        have x3_1 := X3.out.cell (j := 1) rfl
        have x3_2 := X3.out.cell (j := 2) rfl
        have x4_0 := X4.out.cell (j := 0) rfl
        have x4_1 := X4.out.cell (j := 1) rfl
        have x4_2 := X4.out.cell (j := 2) rfl
        have x4_3 := X4.out.cell (j := 3) rfl
        have x4_4 := X4.out.cell (j := 4) rfl
        have x5_0 := X5.out.cell (j := 0) rfl
        have x5_1 := X5.out.cell (j := 1) rfl
        have x5_2 := X5.out.cell (j := 2) rfl
        have x5_3 := X5.out.cell (j := 3) rfl
        have x7_0 := X7.out.cell (j := 0) rfl
        have x7_1 := X7.out.cell (j := 1) rfl
        have x7_2 := X7.out.cell (j := 2) rfl
        have x7_3 := X7.out.cell (j := 3) rfl
        have x7_4 := X7.out.cell (j := 4) rfl
        have x8_0 := X8.out.cell (j := 0) rfl
        have x8_1 := X8.out.cell (j := 1) rfl
        have x8_2 := X8.out.cell (j := 2) rfl
        have x8_3 := X8.out.cell (j := 3) rfl
        have x10_0 := X10.out.cell (j := 0) rfl
        have x10_1 := X10.out.cell (j := 1) rfl
        have x10_2 := X10.out.cell (j := 2) rfl
        have x10_3 := X10.out.cell (j := 3) rfl
        have x10_4 := X10.out.cell (j := 4) rfl
        have x11_0 := X11.out.cell (j := 0) rfl
        have x11_1 := X11.out.cell (j := 1) rfl
        have x11_2 := X11.out.cell (j := 2) rfl
        have x11_3 := X11.out.cell (j := 3) rfl
        have lx3 := X3.out.lt
        have lx4 := X4.out.lt
        have lx5 := X5.out.lt
        have lx7 := X7.out.lt
        have lx8 := X8.out.lt
        have lx10 := X10.out.lt
        have lx11 := X11.out.lt
        go_wp2; go_ret
        exact ⟨by first | rfl | exact ret_bool (by simp [*]), UM.out⟩
end Go.Proofs.Ytpainlcehgiokaa

namespace Go.Proofs.Ytpainlcehgiokaa.fnTokVisit
set_option maxRecDepth 100000
open Go.ChangeShapes Go.WideShapes Go.ChangeAt Go.RowKit Go.Joins Go.Deep
set_option linter.unusedVariables false
set_option maxRecDepth 100000 in
theorem lifted (os : Os) (started : os.Started) (H : Type) (enc : TypeId × Value → H) :
    ReturnsInHanded {} Try.checked os 3 .any (Rows.fnTokVisitSpec.pre6 enc Try.prog Try.f3 Rows.fnTokVisitRow.domain false) (Rows.fnTokVisitSpec.post enc Try.prog Try.f3 false true false false) := by
  refine returnsInHanded_of_change (C := Try.checked) own started (by kernel_rfl) Try.func3
    (ChangeSpec.witness6 (enc := enc) (C := Try.checked) false ⟨#[], #[.slice none 0 0], []⟩ 8 (by kernel_rfl) (by kernel_rfl) (by kernel_rfl) (by kernel_rfl)) ?_
  intro W base args ds gs before hval0 hW hcnd _
  have hval : ∀ (j : Nat) t v, Try.f3.params[j]? = some t → args[j]? = some v → Value.okWide Try.prog W .any base t v := hval0
  have hW' := hW
  obtain ⟨p, q, hA0, hV, rfl, hfz, hnd⟩ := hW
  have hA : DataW.TrodAll enc Try.prog W 0 (fun _ => true) true Try.f3.params.toList args.toList ds p := hA0
  rw [Try.params3] at hA hval; obtain ⟨v0, vs0, d0, ds0, p0, q0, hargs, rfl, rfl, h0, r0⟩ := trodAll_cons hA; obtain ⟨rfl, rfl, rfl⟩ := trodAll_nil r0
  obtain rfl : args = #[v0] := by cases args; simp_all
  obtain ⟨rfl, rfl⟩ := trodVars_none hV
  have k0 := h0
  have lt0 : ∀ x ∈ p0, x.block < W.heap.size := by obtain ⟨m, hm⟩ := k0; exact DataW.trod_lt m _ _ _ hm
  obtain ⟨A0, len0, cap0, rfl⟩ := okWide_slice Try.underlying22 (hval 0 22 v0 rfl rfl)
  have w0 := open_bytes h0
  clear hA0 hval0
  refine (walkVisit A0 len0 cap0 w0.2.1 w0.2.2 w0.1).mono fun e W' ⟨he, bel⟩ => ?_
  subst he
  exact ⟨_, rfl, _, _, _, [], _, [], hW', trodAll_mk1 (shut_bool Try.underlying4 _), (trodAll_cons_mk (Below.trod laidOut (by kernel_rfl) (of_decide_eq_true (by kernel_rfl)) k0 bel lt0) trodAll_mk0), rfl, bel.frame _, fun h => by cases h⟩
theorem over : Rows.fnTokVisitRow.holds Try.pinned (OpenSpec.ofChange Rows.fnTokVisitSpec) :=
  OpenClaim.holds_of_wide 3 Try.f3 rfl rfl rfl rfl rfl rfl rfl ⟨rfl, rfl, rfl, rfl, rfl⟩ rfl rfl rfl rfl rfl (by kernel_rfl) Try.func3 (by kernel_rfl)
    (of_decide_eq_true (by kernel_rfl)) (by unfold Func.isWrapper; first | (rw [if_pos (by decide +kernel)]; kernel_rfl) | (rw [if_neg (by decide +kernel)]; exact ⟨rfl, rfl⟩))
    (fun os started H enc _ => lifted os started H enc)
theorem proved : Rows.FnTokVisitSaid := over
end Go.Proofs.Ytpainlcehgiokaa.fnTokVisit

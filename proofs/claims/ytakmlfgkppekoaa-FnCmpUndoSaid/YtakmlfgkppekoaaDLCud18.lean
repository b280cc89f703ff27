/-
  What spec.l2Do returns, in one sentence: the new state and what is sent; for every model, state and event that are ok.
-/
import Derived.Test.YtakmlfgkppekoaaDLCud04
import Derived.Test.YtakmlfgkppekoaaDLCud10
import Derived.Test.YtakmlfgkppekoaaDLCud15
import Derived.Test.YtakmlfgkppekoaaDLCud17
namespace Go.Proofs.Ytakmlfgkppekoaa
set_option maxRecDepth 100000
open Go.RowKit
/-- The rule of an event, or the zero rule, and whether there is one: what the search hands back, whatever new world it is asked in. -/
theorem found_at {w : World} {A' : Option Addr} {n' c' : Nat} {rs : List Rule} (kd : Int) (hR : Rules w A' n' rs) :
    ∃ (RU : Rule) (As : Option Addr) (ns cs : Nat) (ok : Bool), (∀ W, Up w W → Calls Try.prog 72 #[.slice A' n' c', .int .i64 kd] W fun x W' => x = .returned (.tuple #[RU.v (.slice As ns cs), .bool ok]) ∧ Up W W') ∧
      ((ruleOf kd rs = some RU ∧ ok = true ∧ ns ≤ 9223372036854775807 ∧ Evs w As ns RU.sends) ∨ (ruleOf kd rs = none ∧ ok = false)) := by
  cases hro : ruleOf kd rs with
  | none =>
    refine ⟨⟨0, 0, 0, 0, []⟩, none, 0, 0, false, fun W u => ?_, .inr ⟨rfl, rfl⟩⟩; refine (l2Rule_any A' n' c' kd rs W (hR.up u)).mono ?_; intro x W' h; obtain ⟨rfl, u'⟩ := h.none_ hro
    exact ⟨rfl, u'⟩
  | some r =>
    obtain ⟨hlt, hat⟩ := ixOf_at kd rs r hro
    have hn : ixOf kd rs < n' := by rw [← hR.1]; exact hlt
    obtain ⟨b, off, hA, hb, hc⟩ := hR.2.2 (by omega); subst hA; obtain ⟨A3, n3, c3, ⟨_, _, _, _, k4⟩, hn3, he⟩ := hc _ hn; rw [hat] at he; refine ⟨r, A3, n3, c3, true, fun W u => ?_, .inl ⟨rfl, rfl, hn3, he⟩⟩; refine (l2Rule_any _ n' c' kd rs W (hR.up u)).mono ?_; intro x W' h; obtain ⟨A4, n4, c4, rfl, _, _, u', h4⟩ := h.some_ hro
    have e := (h4 b off rfl).symm.trans ((u.cells _ _ hb).trans k4)
    injection e with e
    injection e with e1 e2 e3
    subst e1 e2 e3
    exact ⟨rfl, u'⟩
set_option maxHeartbeats 20000000 in
theorem l2Do_any (A : Option Addr) (n c : Nat) (B : Option Addr) (k d : Nat) (m : Mdl) (s : Cst) (e : Evt) (w : World) (hM : MdlV w A n B k m) (hok : mayB m s e = true) :
    Calls Try.prog 106 #[.agg #[.slice A n c, .slice B k d, .int .i64 m.til], s.v, e.v] w
      (fun x w' => ∃ A' c', x = .returned (.tuple #[(doE m s e).1.v, .slice A' (doE m s e).2.length c']) ∧ (doE m s e).2.length ≤ c' ∧ c' ≤ 9223372036854775807 ∧ Evs w' A' (doE m s e).2.length (doE m s e).2 ∧ (∀ b off, A' = some ⟨b, off, none⟩ → w.heap.size ≤ b) ∧ Up w w') := by
  obtain ⟨i0, hi0, hz0, hz1, hz2⟩ := info_parts info45
  have INF := Lib.hid (And.intro hi0 (And.intro hz0 (And.intro hz1 hz2)))
  have SIX := Lib.hid (show 0 < 6 by omega)
  clear hi0 hz0 hz1 hz2
  have hnr := hM.rules.1
  obtain ⟨rss, es, til⟩ := m; obtain ⟨ss, sq, st⟩ := s; obtain ⟨et, eto, efr, esq, ekd, edt⟩ := e; simp only [mayB, cstB, okB, Bool.and_eq_true, inB_iff, decide_eq_true_eq] at hok; obtain ⟨⟨⟨hmd, hcs⟩, hev⟩, htl⟩ := hok
  have hR := hM.rules
  dsimp only at hnr hcs hev htl hR ⊢
  have hto : eto.toNat < n := by omega
  obtain ⟨bA, off, hA, hbA, hcell⟩ := hR.2.2 (by omega); obtain ⟨A', n', c', hc0, hrs⟩ := hcell _ hto
  have HRS := Lib.hid hrs
  subst hA; clear hcell; unfold Cst.v Evt.v; dsimp only
  go_enter Try.func106, Try.ntmps106
  go_wp2_with fail
  have hct0 : IntKind.i64.wrap (st + 1) = wrap64 (st + 1) := IntWalk.i64_left _
  generalize wrap64 (st + 1) = ct at hct0 ⊢
  have HCT := Lib.hid hct0
  clear hct0
  have X3 := Lib.hid (((((Box3.new w (.slice (some ⟨bA, off, none⟩) n c) (.slice B k d) (.int .i64 til) 33).up ((Up.refl _).alloc (.cells #[.int .i64 ss, .int .i64 sq, .int .i64 ct] 41))).up ((Up.refl _).alloc (.cells #[.int .i64 et, .int .i64 eto, .int .i64 efr, .int .i64 esq, .int .i64 ekd, .int .i64 edt] 45))).up ((Up.refl _).alloc (.cells #[.int .i64 0, .int .i64 0, .int .i64 0] 41))).up ((Up.refl _).alloc (.cells #[] 45)))
  have X4 := Lib.hid (((((Cell3.new (w.alloc (.cells #[.slice (some ⟨bA, off, none⟩) n c, .slice B k d, .int .i64 til] 33)) ss sq ct 41).mv ((Up.refl _).alloc (.cells #[.int .i64 et, .int .i64 eto, .int .i64 efr, .int .i64 esq, .int .i64 ekd, .int .i64 edt] 45) |>.mv 0) (by simp)).mv ((Up.refl _).alloc (.cells #[.int .i64 0, .int .i64 0, .int .i64 0] 41) |>.mv 0) (by simp)).mv ((Up.refl _).alloc (.cells #[] 45) |>.mv 0) (by simp)))
  have X5 := Lib.hid (((Box.new ((w.alloc (.cells #[.slice (some ⟨bA, off, none⟩) n c, .slice B k d, .int .i64 til] 33)).alloc (.cells #[.int .i64 ss, .int .i64 sq, .int .i64 ct] 41)) ⟨et, eto, efr, esq, ekd, edt⟩ 45).up ((Up.refl _).alloc (.cells #[.int .i64 0, .int .i64 0, .int .i64 0] 41))).up ((Up.refl _).alloc (.cells #[] 45)))
  have X6 := Lib.hid ((Cell3.new (((w.alloc (.cells #[.slice (some ⟨bA, off, none⟩) n c, .slice B k d, .int .i64 til] 33)).alloc (.cells #[.int .i64 ss, .int .i64 sq, .int .i64 ct] 41)).alloc (.cells #[.int .i64 et, .int .i64 eto, .int .i64 efr, .int .i64 esq, .int .i64 ekd, .int .i64 edt] 45)) 0 0 0 41).mv ((Up.refl _).alloc (.cells #[] 45) |>.mv 0) (by simp))
  have UW := Lib.hid ((((((Up.refl w).alloc (.cells #[.slice (some ⟨bA, off, none⟩) n c, .slice B k d, .int .i64 til] 33)).alloc (.cells #[.int .i64 ss, .int .i64 sq, .int .i64 ct] 41)).alloc (.cells #[.int .i64 et, .int .i64 eto, .int .i64 efr, .int .i64 esq, .int .i64 ekd, .int .i64 edt] 45)).alloc (.cells #[.int .i64 0, .int .i64 0, .int .i64 0] 41)).alloc (.cells #[] 45))
  have O7 := Lib.hid (show (((((w.alloc (.cells #[.slice (some ⟨bA, off, none⟩) n c, .slice B k d, .int .i64 til] 33)).alloc (.cells #[.int .i64 ss, .int .i64 sq, .int .i64 ct] 41)).alloc (.cells #[.int .i64 et, .int .i64 eto, .int .i64 efr, .int .i64 esq, .int .i64 ekd, .int .i64 edt] 45)).alloc (.cells #[.int .i64 0, .int .i64 0, .int .i64 0] 41)).alloc (.cells #[] 45)).ownsRow ((((w.alloc (.cells #[.slice (some ⟨bA, off, none⟩) n c, .slice B k d, .int .i64 til] 33)).alloc (.cells #[.int .i64 ss, .int .i64 sq, .int .i64 ct] 41)).alloc (.cells #[.int .i64 et, .int .i64 eto, .int .i64 efr, .int .i64 esq, .int .i64 ekd, .int .i64 edt] 45)).alloc (.cells #[.int .i64 0, .int .i64 0, .int .i64 0] 41)).heap.size 45 6 (.slice (some ⟨((((w.alloc (.cells #[.slice (some ⟨bA, off, none⟩) n c, .slice B k d, .int .i64 til] 33)).alloc (.cells #[.int .i64 ss, .int .i64 sq, .int .i64 ct] 41)).alloc (.cells #[.int .i64 et, .int .i64 eto, .int .i64 efr, .int .i64 esq, .int .i64 ekd, .int .i64 edt] 45)).alloc (.cells #[.int .i64 0, .int .i64 0, .int .i64 0] 41)).heap.size, 0, none⟩) 0 0) 0 (flat []) from ⟨rfl, .inr ⟨_, 0, #[], rfl, Nat.le_refl _, heap_alloc_new _ _, Nat.le_refl _, by simp [maxLen], rfl, rfl⟩⟩)
  simp only [World.size_alloc] at X4 X5 X6 O7
  have HC := Lib.hid hc0
  clear hc0
  generalize (((((w.alloc (.cells #[.slice (some ⟨bA, off, none⟩) n c, .slice B k d, .int .i64 til] 33)).alloc (.cells #[.int .i64 ss, .int .i64 sq, .int .i64 ct] 41)).alloc (.cells #[.int .i64 et, .int .i64 eto, .int .i64 efr, .int .i64 esq, .int .i64 ekd, .int .i64 edt] 45)).alloc (.cells #[.int .i64 0, .int .i64 0, .int .i64 0] 41)).alloc (.cells #[] 45)) = W0 at *
  generalize hb3 : w.heap.size = b3 at *
  generalize hb4 : b3 + 1 = b4 at *
  generalize hb5 : b4 + 1 = b5 at *
  generalize hb6 : b5 + 1 = b6 at *
  generalize hb7 : b6 + 1 = b7 at *
  have B7 := Lib.hid (show b7 < W0.heap.size from (O7.out.lt b7 rfl).2)
  generalize hrsd : rss.getD eto.toNat [] = rs at *
  have HRSD := Lib.hid hrsd
  clear hrsd
  have ltA : bA < W0.heap.size := by have := UW.out.size; omega
  have HC := Lib.hid ((UW.out.cells _ _ (show bA < w.heap.size by omega)).trans HC.out)
  obtain ⟨RU, As, ns, cs, ok, hcall, hfnd⟩ := found_at (c' := c') ekd HRS.out
  have CALL := Lib.hid hcall
  have FND := Lib.hid hfnd
  clear hcall hfnd; refine region_relyC 14 [(14, true)] [19, 20, 21, 22, 23, 24, 25, 26, 27, 18, 28, 29, 9] (fun _ => 12) (fun _ w1 => Up W0 w1) (Lays (.int .i64 RU.kd) (.int .i64 RU.a) (.int .i64 RU.b) (.int .i64 RU.c) (.slice As ns cs)) (dR b3 b5 (some ⟨bA, off, none⟩) n c bA off ⟨et, eto, efr, esq, ekd, edt⟩ A' n' c' RU (.slice As ns cs) ok W0.heap.size) (by kernel_rfl) (by kernel_rfl) (by kernel_rfl) ((Up.refl _).drew) (fun d v w w' h u => dR_lays d h u) ?_ ?_
  · simp only [List.take_succ_cons, List.take_zero, StepsC]
    refine ⟨?_, ?_, ?_, ?_, ?_, ?_, ?_, ?_, ?_, ?_, ?_, ?_, ?_, ?_, trivial⟩
    · intro X w1 k1 hG hdep
      simp only [opW_def, mixT]; go_simp
      exact ⟨⟨.pointer (some ⟨b3, 0, none⟩), by first | rfl | simp [Act.put], (Up.refl _).lays _ _ _ _ _, hG, (show dR b3 b5 (some ⟨bA, off, none⟩) n c bA off ⟨et, eto, efr, esq, ekd, edt⟩ A' n' c' RU (.slice As ns cs) ok W0.heap.size 0 _ _ from by rw [dR_0])⟩⟩
    · intro X w1 k1 hG hdep
      have e19 : dR b3 b5 (some ⟨bA, off, none⟩) n c bA off ⟨et, eto, efr, esq, ekd, edt⟩ A' n' c' RU (.slice As ns cs) ok W0.heap.size 0 (X 19) w1 := hdep 0 (by decide +kernel)
      rw [dR_0] at e19
      try dsimp only at e19
      obtain ⟨b0c, b1c, b2c⟩ := And.intro (X3.out.up hG).c0 (And.intro (X3.out.up hG).c1 (X3.out.up hG).c2); simp only [opW_def, mixT, e19]; go_simp
      exact ⟨⟨.slice (some ⟨bA, off, none⟩) n c, by first | rfl | simp [Act.put], (Up.refl _).lays _ _ _ _ _, hG, (show dR b3 b5 (some ⟨bA, off, none⟩) n c bA off ⟨et, eto, efr, esq, ekd, edt⟩ A' n' c' RU (.slice As ns cs) ok W0.heap.size 1 _ _ from by rw [dR_1])⟩⟩
    · intro X w1 k1 hG hdep
      simp only [opW_def, mixT]; go_simp
      exact ⟨⟨.pointer (some ⟨b5, 1, none⟩), by first | rfl | simp [Act.put], (Up.refl _).lays _ _ _ _ _, hG, (show dR b3 b5 (some ⟨bA, off, none⟩) n c bA off ⟨et, eto, efr, esq, ekd, edt⟩ A' n' c' RU (.slice As ns cs) ok W0.heap.size 2 _ _ from by rw [dR_2])⟩⟩
    · intro X w1 k1 hG hdep
      have e21 : dR b3 b5 (some ⟨bA, off, none⟩) n c bA off ⟨et, eto, efr, esq, ekd, edt⟩ A' n' c' RU (.slice As ns cs) ok W0.heap.size 2 (X 21) w1 := hdep 2 (by decide +kernel)
      rw [dR_2] at e21
      try dsimp only at e21
      obtain ⟨y0, y1, y2, y3, y4, y5⟩ := ((X5.out.up hG).mk6).1; simp only [opW_def, mixT, e21]; go_simp
      exact ⟨⟨.int .i64 eto, by first | rfl | simp [Act.put], (Up.refl _).lays _ _ _ _ _, hG, (show dR b3 b5 (some ⟨bA, off, none⟩) n c bA off ⟨et, eto, efr, esq, ekd, edt⟩ A' n' c' RU (.slice As ns cs) ok W0.heap.size 3 _ _ from by rw [dR_3])⟩⟩
    · intro X w1 k1 hG hdep
      have e20 : dR b3 b5 (some ⟨bA, off, none⟩) n c bA off ⟨et, eto, efr, esq, ekd, edt⟩ A' n' c' RU (.slice As ns cs) ok W0.heap.size 1 (X 20) w1 := hdep 1 (by decide +kernel)
      rw [dR_1] at e20
      try dsimp only at e20
      have e22 : dR b3 b5 (some ⟨bA, off, none⟩) n c bA off ⟨et, eto, efr, esq, ekd, edt⟩ A' n' c' RU (.slice As ns cs) ok W0.heap.size 3 (X 22) w1 := hdep 3 (by decide +kernel)
      rw [dR_3] at e22
      try dsimp only at e22
      have i0 : 0 ≤ eto := by omega
      have i1 : eto < n := by omega
      simp only [opW_def, mixT, e20, e22]; go_simp
      exact ⟨⟨.pointer (some ⟨bA, off + eto.toNat, none⟩), by first | rfl | simp [Act.put], (Up.refl _).lays _ _ _ _ _, hG, (show dR b3 b5 (some ⟨bA, off, none⟩) n c bA off ⟨et, eto, efr, esq, ekd, edt⟩ A' n' c' RU (.slice As ns cs) ok W0.heap.size 4 _ _ from by rw [dR_4])⟩⟩
    · intro X w1 k1 hG hdep
      have e23 : dR b3 b5 (some ⟨bA, off, none⟩) n c bA off ⟨et, eto, efr, esq, ekd, edt⟩ A' n' c' RU (.slice As ns cs) ok W0.heap.size 4 (X 23) w1 := hdep 4 (by decide +kernel)
      rw [dR_4] at e23
      try dsimp only at e23
      have hc := (hG.cells _ _ ltA).trans HC.out
      simp only [opW_def, mixT, e23]; go_simp
      exact ⟨⟨.slice A' n' c', by first | rfl | simp [Act.put], (Up.refl _).lays _ _ _ _ _, hG, (show dR b3 b5 (some ⟨bA, off, none⟩) n c bA off ⟨et, eto, efr, esq, ekd, edt⟩ A' n' c' RU (.slice As ns cs) ok W0.heap.size 5 _ _ from by rw [dR_5])⟩⟩
    · intro X w1 k1 hG hdep
      simp only [opW_def, mixT]; go_simp
      exact ⟨⟨.pointer (some ⟨b5, 4, none⟩), by first | rfl | simp [Act.put], (Up.refl _).lays _ _ _ _ _, hG, (show dR b3 b5 (some ⟨bA, off, none⟩) n c bA off ⟨et, eto, efr, esq, ekd, edt⟩ A' n' c' RU (.slice As ns cs) ok W0.heap.size 6 _ _ from by rw [dR_6])⟩⟩
    · intro X w1 k1 hG hdep
      have e25 : dR b3 b5 (some ⟨bA, off, none⟩) n c bA off ⟨et, eto, efr, esq, ekd, edt⟩ A' n' c' RU (.slice As ns cs) ok W0.heap.size 6 (X 25) w1 := hdep 6 (by decide +kernel)
      rw [dR_6] at e25
      try dsimp only at e25
      obtain ⟨y0, y1, y2, y3, y4, y5⟩ := ((X5.out.up hG).mk6).1; simp only [opW_def, mixT, e25]; go_simp
      exact ⟨⟨.int .i64 ekd, by first | rfl | simp [Act.put], (Up.refl _).lays _ _ _ _ _, hG, (show dR b3 b5 (some ⟨bA, off, none⟩) n c bA off ⟨et, eto, efr, esq, ekd, edt⟩ A' n' c' RU (.slice As ns cs) ok W0.heap.size 7 _ _ from by rw [dR_7])⟩⟩
    · intro X w1 k1 hG hdep
      have e24 : dR b3 b5 (some ⟨bA, off, none⟩) n c bA off ⟨et, eto, efr, esq, ekd, edt⟩ A' n' c' RU (.slice As ns cs) ok W0.heap.size 5 (X 24) w1 := hdep 5 (by decide +kernel)
      rw [dR_5] at e24
      try dsimp only at e24
      have e26 : dR b3 b5 (some ⟨bA, off, none⟩) n c bA off ⟨et, eto, efr, esq, ekd, edt⟩ A' n' c' RU (.slice As ns cs) ok W0.heap.size 7 (X 26) w1 := hdep 7 (by decide +kernel)
      rw [dR_7] at e26
      try dsimp only at e26
      simp only [opW_def, mixT, e24, e26]; go_simp; refine (CALL.out w1 (UW.out.trans hG)).mono ?_; rintro x w2 ⟨rfl, u⟩
      exact ⟨⟨.tuple #[RU.v (.slice As ns cs), .bool ok], by first | rfl | simp [Act.put], u.lays _ _ _ _ _, hG.trans u, (show dR b3 b5 (some ⟨bA, off, none⟩) n c bA off ⟨et, eto, efr, esq, ekd, edt⟩ A' n' c' RU (.slice As ns cs) ok W0.heap.size 8 _ _ from by rw [dR_8])⟩⟩
    · intro X w1 k1 hG hdep
      have e27 : dR b3 b5 (some ⟨bA, off, none⟩) n c bA off ⟨et, eto, efr, esq, ekd, edt⟩ A' n' c' RU (.slice As ns cs) ok W0.heap.size 8 (X 27) w1 := hdep 8 (by decide +kernel)
      rw [dR_8] at e27
      try dsimp only at e27
      simp only [opW_def, mixT, e27]; go_simp
      exact ⟨⟨.tuple #[RU.v (.slice As ns cs), .bool ok], by first | rfl | simp [Act.put], (Up.refl _).lays _ _ _ _ _, hG, (show dR b3 b5 (some ⟨bA, off, none⟩) n c bA off ⟨et, eto, efr, esq, ekd, edt⟩ A' n' c' RU (.slice As ns cs) ok W0.heap.size 9 _ _ from by rw [dR_9])⟩⟩
    · intro X w1 k1 hG hdep
      have e18 : dR b3 b5 (some ⟨bA, off, none⟩) n c bA off ⟨et, eto, efr, esq, ekd, edt⟩ A' n' c' RU (.slice As ns cs) ok W0.heap.size 9 (X 18) w1 := hdep 9 (by decide +kernel)
      rw [dR_9] at e18
      try dsimp only at e18
      simp only [opW_def, mixT, e18]; go_simp
      exact ⟨⟨RU.v (.slice As ns cs), by first | rfl | simp [Act.put], (Up.refl _).lays _ _ _ _ _, hG, (show dR b3 b5 (some ⟨bA, off, none⟩) n c bA off ⟨et, eto, efr, esq, ekd, edt⟩ A' n' c' RU (.slice As ns cs) ok W0.heap.size 10 _ _ from by rw [dR_10])⟩⟩
    · intro X w1 k1 hG hdep
      have e18 : dR b3 b5 (some ⟨bA, off, none⟩) n c bA off ⟨et, eto, efr, esq, ekd, edt⟩ A' n' c' RU (.slice As ns cs) ok W0.heap.size 9 (X 18) w1 := hdep 9 (by decide +kernel)
      rw [dR_9] at e18
      try dsimp only at e18
      simp only [opW_def, mixT, e18]; go_simp
      exact ⟨⟨.bool ok, by first | rfl | simp [Act.put], (Up.refl _).lays _ _ _ _ _, hG, (show dR b3 b5 (some ⟨bA, off, none⟩) n c bA off ⟨et, eto, efr, esq, ekd, edt⟩ A' n' c' RU (.slice As ns cs) ok W0.heap.size 11 _ _ from by rw [dR_11])⟩⟩
    · intro X w1 k1 hG hdep
      simp only [opW_def, mixT]; go_simp
      exact ⟨⟨.pointer (some ⟨w1.heap.size, 0, none⟩), by first | rfl | simp [Act.put], ((Up.refl _).alloc _).lays _ _ _ _ _, hG.alloc _, (show dR b3 b5 (some ⟨bA, off, none⟩) n c bA off ⟨et, eto, efr, esq, ekd, edt⟩ A' n' c' RU (.slice As ns cs) ok W0.heap.size 12 _ _ from by rw [dR_12]; exact IsNew5.new _ _ _ _ _ _ _ hG.size)⟩⟩
    · intro X w1 k1 hG hdep
      have e9 : dR b3 b5 (some ⟨bA, off, none⟩) n c bA off ⟨et, eto, efr, esq, ekd, edt⟩ A' n' c' RU (.slice As ns cs) ok W0.heap.size 12 (X 9) w1 := hdep 12 (by decide +kernel)
      rw [dR_12] at e9
      try dsimp only at e9
      have e28 : dR b3 b5 (some ⟨bA, off, none⟩) n c bA off ⟨et, eto, efr, esq, ekd, edt⟩ A' n' c' RU (.slice As ns cs) ok W0.heap.size 10 (X 28) w1 := hdep 10 (by decide +kernel)
      rw [dR_10] at e28
      try dsimp only at e28
      obtain ⟨b9, e9', l9, h9, s9, f9⟩ := e9; obtain ⟨x0, c0⟩ := s9 0 (by omega); obtain ⟨x1, c1⟩ := s9 1 (by omega); obtain ⟨x2, c2⟩ := s9 2 (by omega); obtain ⟨x3, c3⟩ := s9 3 (by omega); obtain ⟨x4, c4⟩ := s9 4 (by omega)
      have L := lays_put RU (.slice As ns cs) h9 s9
      have GU := hG.putR (b := b9) (o := 0) (r := RU) (s := .slice As ns cs) l9
      unfold putR at L GU; simp only [Nat.zero_add] at L GU; unfold Rule.v at e28; simp only [opW_def, mixT, e9', e28]; go_simp
      exact ⟨⟨.pointer (some ⟨b9, 0, none⟩), by first | rfl | simp [Act.put], L.1, GU, (show dR b3 b5 (some ⟨bA, off, none⟩) n c bA off ⟨et, eto, efr, esq, ekd, edt⟩ A' n' c' RU (.slice As ns cs) ok W0.heap.size 13 _ _ from by rw [dR_13]; exact ⟨b9, by first | exact e9' | simp [e9'], L.2⟩)⟩⟩
  · intro X w1 hG hR
    have e9 : dR b3 b5 (some ⟨bA, off, none⟩) n c bA off ⟨et, eto, efr, esq, ekd, edt⟩ A' n' c' RU (.slice As ns cs) ok W0.heap.size 13 (X 9) w1 := hR 13 (by omega)
    have e9n : dR b3 b5 (some ⟨bA, off, none⟩) n c bA off ⟨et, eto, efr, esq, ekd, edt⟩ A' n' c' RU (.slice As ns cs) ok W0.heap.size 12 (X 9) w1 := hR 12 (by omega)
    have e29 : dR b3 b5 (some ⟨bA, off, none⟩) n c bA off ⟨et, eto, efr, esq, ekd, edt⟩ A' n' c' RU (.slice As ns cs) ok W0.heap.size 11 (X 29) w1 := hR 11 (by omega)
    rw [dR_13] at e9; rw [dR_12] at e9n; rw [dR_11] at e29; obtain ⟨b9, eq9, L9⟩ := e9; obtain ⟨b9', eq9', l9, h9, s9, f9⟩ := e9n
    obtain rfl : b9' = b9 := by
      rw [eq9] at eq9'
      injection eq9' with h
      injection h with h
      injection h with h _ _
      exact h.symm
    have L := Lib.hid L9
    have LO9 := Lib.hid (show W0.heap.size ≤ b9' from l9)
    have G1 := Lib.hid hG
    have Y3 := Lib.hid (X3.out.up hG)
    have Y4 := Lib.hid (X4.out.mv (hG.mv W0.heap.size) (by have := X4.out.lt; omega))
    have Y5 := Lib.hid (X5.out.up hG)
    have Y6 := Lib.hid (X6.out.mv (hG.mv W0.heap.size) (by have := X6.out.lt; omega))
    clear L9 l9 h9 s9 f9 hR eq9'; simp only [mixT, eq9, e29]; refine mix_take rfl (by rfl) ?_; apply Exists.intro; refine ⟨fun w2 => ?_, ?_⟩
    · go_simp
      try rfl
    go_simp; refine mix_nil ?_; clear eq9 e29 hG
    cases ok
    · have hno : ruleOf ekd rs = none := by
        rcases FND.out with ⟨_, h, _⟩ | ⟨h, _⟩
        · cases h
        · exact h
      obtain ⟨p0, p1, p2⟩ := And.intro Y4.out.c0 (And.intro Y4.out.c1 Y4.out.c2); obtain ⟨q0, q1, q2⟩ := And.intro Y6.out.c0 (And.intro Y6.out.c1 Y6.out.c2)
      have qf := Y6.out.f
      obtain ⟨k0, k1, k2⟩ := And.intro (Y6.out.laid' ss sq ct).c0 (And.intro (Y6.out.laid' ss sq ct).c1 (Y6.out.laid' ss sq ct).c2)
      have hb6w : w.heap.size ≤ b6 := by omega
      have U9 := Lib.hid ((((UW.out.trans G1.out).setCell (p := ⟨b6, 0, none⟩) hb6w (.int .i64 ss)).setCell (p := ⟨b6, 1, none⟩) hb6w (.int .i64 sq)).setCell (p := ⟨b6, 2, none⟩) hb6w (.int .i64 ct))
      have DE := Lib.hid (show doE ⟨rss, es, til⟩ ⟨ss, sq, st⟩ ⟨et, eto, efr, esq, ekd, edt⟩ = (⟨ss, sq, ct⟩, []) by
        unfold doE; dsimp only; rw [HRSD.out, hno]; dsimp only
        rw [HCT.out])
      clear hno; go_wp2
      exact bodyPost_ret (v := .tuple #[.agg #[.int .i64 ss, .int .i64 sq, .int .i64 ct], .slice (some ⟨b7, 0, none⟩) 0 0]) (by simp [results, Try.results106, go_sem, k0, k1, k2]) rfl (by
        rw [DE.out]
        exact ⟨some ⟨b7, 0, none⟩, 0, rfl, Nat.le_refl _, by omega, ⟨rfl, fun h => absurd h (by simp)⟩, fun b off h => by injection h with h; injection h with h _ _; omega, U9.out⟩)
    · obtain ⟨hyes, hns, hev3⟩ : ruleOf ekd rs = some RU ∧ ns ≤ 9223372036854775807 ∧ Evs w As ns RU.sends := by
        rcases FND.out with ⟨h, _, h2, h3⟩ | ⟨_, h⟩
        · exact ⟨h, h2, h3⟩
        · cases h
      have hrb := mdlB_rule (m := ⟨rss, es, til⟩) (i := eto.toNat) (kd := ekd) hmd (by dsimp only; omega) (by dsimp only; rw [HRSD.out]; exact hyes)
      obtain ⟨hsn, hlen, hra, hrb', hrc⟩ := ruleB_parts hrb
      have htl2 := mdlB_til hmd
      dsimp only at htl2 hsn
      have SN := Lib.hid (fun i hi => sndB_parts (hsn i hi))
      have E3 := Lib.hid hev3
      have hns2 : ns ≤ 2 := by have := hev3.1; omega
      have m1 : 0 ≤ RU.a * ss ∧ RU.a * ss ≤ 9216 := ⟨Int.mul_nonneg hra.1 hcs.1.1.1, by have := Int.mul_le_mul hra.2 hcs.1.1.2 hcs.1.1.1 (by omega : (0:Int) ≤ 96); omega⟩
      have m2 : 0 ≤ RU.b * edt ∧ RU.b * edt ≤ 9216 := ⟨Int.mul_nonneg hrb'.1 hev.2.1, by have := Int.mul_le_mul hrb'.2 hev.2.2 hev.2.1 (by omega : (0:Int) ≤ 96); omega⟩
      have w1' : IntKind.i64.wrap (RU.a * ss) = RU.a * ss := IntWalk.i64_in _ (by omega)
      have w2' : IntKind.i64.wrap (RU.b * edt) = RU.b * edt := IntWalk.i64_in _ (by omega)
      have w3' : IntKind.i64.wrap (RU.a * ss + RU.b * edt) = RU.a * ss + RU.b * edt := IntWalk.i64_in _ (by omega)
      have w4' : IntKind.i64.wrap (RU.a * ss + RU.b * edt + RU.c) = RU.a * ss + RU.b * edt + RU.c := IntWalk.i64_in _ (by omega)
      have w5' : (RU.a * ss + RU.b * edt + RU.c).tmod 97 = (RU.a * ss + RU.b * edt + RU.c) % 97 := Int.tmod_eq_emod_of_nonneg (by omega)
      have w6' : IntKind.i64.wrap ((RU.a * ss + RU.b * edt + RU.c) % 97) = (RU.a * ss + RU.b * edt + RU.c) % 97 := IntWalk.i64_in _ (by omega)
      obtain ⟨p0, p1, p2⟩ := And.intro Y4.out.c0 (And.intro Y4.out.c1 Y4.out.c2)
      have pf := Y4.out.f
      obtain ⟨⟨y0, y1, y2, y3, y4, y5⟩, -⟩ := Y5.out.mk6; obtain ⟨lL, z0, z1, z2, z3, z4⟩ := L.out
      have HYES := Lib.hid hyes
      clear hyes hev3 hrb hsn
      go_wp2_with fail
      have hS1 : 0 ≤ (RU.a * ss + RU.b * edt + RU.c) % 97 ∧ (RU.a * ss + RU.b * edt + RU.c) % 97 ≤ 96 := by omega
      have TG0 := Lib.hid (show doE ⟨rss, es, til⟩ ⟨ss, sq, st⟩ ⟨et, eto, efr, esq, ekd, edt⟩ = (⟨(RU.a * ss + RU.b * edt + RU.c) % 97, ([] ++ (sendsE til ((RU.a * ss + RU.b * edt + RU.c) % 97) ⟨et, eto, efr, esq, ekd, edt⟩ (RU.sends.drop 0) sq).1, (sendsE til ((RU.a * ss + RU.b * edt + RU.c) % 97) ⟨et, eto, efr, esq, ekd, edt⟩ (RU.sends.drop 0) sq).2).2, ct⟩, ([] ++ (sendsE til ((RU.a * ss + RU.b * edt + RU.c) % 97) ⟨et, eto, efr, esq, ekd, edt⟩ (RU.sends.drop 0) sq).1, (sendsE til ((RU.a * ss + RU.b * edt + RU.c) % 97) ⟨et, eto, efr, esq, ekd, edt⟩ (RU.sends.drop 0) sq).2).1) by
        unfold doE; dsimp only; rw [HRSD.out, HYES.out]; dsimp only; rw [HCT.out]
        rfl)
      have c4 := Y4.out.set0 ((RU.a * ss + RU.b * edt + RU.c) % 97)
      have KP := Lib.hid ((Kept.mk Y3.out Y4.out Y5.out Y6.out L.out).set4 (by omega) (by omega) (by omega) (by have := LO9.out; have := X4.out.lt; omega) c4)
      have UP1 := Lib.hid ((UW.out.trans G1.out).setCell (p := ⟨b4, 0, none⟩) (by dsimp only; omega) (.int .i64 ((RU.a * ss + RU.b * edt + RU.c) % 97)))
      have OW1 := Lib.hid (ownsRow_setCell_below (own_up O7.out G1.out) (a := ⟨b4, 0, none⟩) (by dsimp only; omega) (.int .i64 ((RU.a * ss + RU.b * edt + RU.c) % 97)))
      generalize hs1 : (RU.a * ss + RU.b * edt + RU.c) % 97 = S1 at hS1 TG0 KP UP1 OW1 c4 ⊢
      clear hs1 c4 m1 m2 w1' w2' w3' w4' w5' w6' p0 p1 p2 pf y0 y1 y2 y3 y4 y5 z0 z1 z2 z3 z4 lL Y3 Y4 Y5 Y6 hra hrb' hrc
      have n79 : b7 ≠ b9' := by have := LO9.out; have := B7.out; omega
      have N49 := Lib.hid (show b4 ≠ b9' by have := LO9.out; have := B7.out; omega)
      have l39 : W0.heap.size ≤ b9' := LO9.out
      generalize w1.setCell ⟨b4, 0, none⟩ (.int .i64 S1) = W1 at KP UP1 OW1 ⊢
      go_loopw [8, 11] (fun v i wr => (∃ (q : Nat) (acc : List Evt) (q' : Int), q ≤ ns ∧ i = .int .i64 q ∧ 0 ≤ q' ∧ q' ≤ 12 ∧ acc.length ≤ q ∧ v.ownBlock ≠ some b9' ∧
        Hid (doE ⟨rss, es, til⟩ ⟨ss, sq, st⟩ ⟨et, eto, efr, esq, ekd, edt⟩ = (⟨S1, (sendsE til S1 ⟨et, eto, efr, esq, ekd, edt⟩ (RU.sends.drop q) q').2, ct⟩, acc ++ (sendsE til S1 ⟨et, eto, efr, esq, ekd, edt⟩ (RU.sends.drop q) q').1)) ∧
        Hid (wr.ownsRow b7 45 6 v acc.length (flat acc)) ∧ Hid (Kept wr b3 b4 b5 b6 b9' (.slice (some ⟨bA, off, none⟩) n c) (.slice B k d) (.int .i64 til) S1 q' ct ⟨et, eto, efr, esq, ekd, edt⟩ (.int .i64 RU.kd) (.int .i64 RU.a) (.int .i64 RU.b) (.int .i64 RU.c) (.slice As ns cs))) ∧ Up w wr) (fun _ i _ => ns - (intOf i).toNat)
      case atStart => exact ⟨⟨0, [], sq, by omega, rfl, by omega, by omega, by simp, by simp [Value.ownBlock]; omega, TG0, OW1, KP⟩, UP1.out⟩
      case round =>
        obtain ⟨⟨q, acc, q', hq, rfl, hq0, hq12, hacc, hob, TG, HOW, KP⟩, ur⟩ := hrel
        have UR := Lib.hid ur
        obtain ⟨lL, z0, z1, z2, z3, z4⟩ := KP.out.k9; obtain ⟨p0, p1, p2⟩ := And.intro KP.out.k4.c0 (And.intro KP.out.k4.c1 KP.out.k4.c2)
        have pl := KP.out.k4.lt
        have pf := KP.out.k4.f
        obtain ⟨⟨y0, y1, y2, y3, y4, y5⟩, -⟩ := KP.out.k5.mk6
        have yl := KP.out.k5.lt
        obtain ⟨t0, t1, t2⟩ := And.intro KP.out.k3.c0 (And.intro KP.out.k3.c1 KP.out.k3.c2)
        have tl := KP.out.k3.lt
        clear ur
        by_cases hlt : q < ns
        · obtain ⟨bS, oS, hAS, hbS, hcS⟩ := (E3.out.up UR.out).2 (by omega)
          subst hAS
          have a0 := hcS q hlt
          have SD := sendsE_drop til S1 ⟨et, eto, efr, esq, ekd, edt⟩ RU.sends q q' (by rw [E3.out.1]; exact hlt)
          have SQ := SN.out q (by rw [E3.out.1]; exact hlt)
          clear hcS
          generalize RU.sends.getD q default = x at a0 SD SQ
          obtain ⟨xt, xto, xfr, xsq, xkd, xdt⟩ := x; unfold EvAt at a0; dsimp only at a0 SD SQ; obtain ⟨v0, v1, v2', v3, v4, v5⟩ := a0; obtain ⟨hx1, hx2, hx3⟩ := SQ
          have SD := Lib.hid SD
          have i4 : (q : Int) < ns := by omega
          have i5 : IntKind.i64.wrap ((q : Int) + 1) = (q : Int) + 1 := IntWalk.i64_in _ (by omega)
          have r1 : S1.tmod xkd = S1 % xkd := Int.tmod_eq_emod_of_nonneg hS1.1
          have r0 : ¬ xkd = 0 := by omega
          have rb : 0 ≤ S1 % xkd ∧ S1 % xkd ≤ 96 := ⟨Int.emod_nonneg _ r0, by have := Int.emod_lt_of_pos S1 (show 0 < xkd by omega); omega⟩
          have r2 : IntKind.i64.wrap (S1 % xkd) = S1 % xkd := IntWalk.i64_in _ (by omega)
          have R1 := Lib.hid (And.intro r1 r2)
          have nx4 : wr.heap.size ≠ b4 := by omega
          by_cases h1 : S1 % xkd = xdt
          · by_cases h2 : q' = 12
            · have TN := Lib.hid (TG.out.trans (by rw [SD.out, if_pos (Or.inr h2)]) : doE ⟨rss, es, til⟩ ⟨ss, sq, st⟩ ⟨et, eto, efr, esq, ekd, edt⟩ = (⟨S1, (sendsE til S1 ⟨et, eto, efr, esq, ekd, edt⟩ (RU.sends.drop (q + 1)) q').2, ct⟩, acc ++ (sendsE til S1 ⟨et, eto, efr, esq, ekd, edt⟩ (RU.sends.drop (q + 1)) q').1))
              go_wp2_with fail
              refine region_qw (by kernel_rfl) (by kernel_rfl) ?_; refine qWalk_step ?_; intro K hK; go_simp; apply Exists.intro; refine And.intro ?_ ?_
              · intro w1 hw1
                try go_simp
                try rfl
              try go_simp
              refine hK _ ?_; clear hK K; refine qWalk_step ?_; intro K hK; go_simp; apply Exists.intro; refine And.intro ?_ ?_
              · intro w1 hw1
                obtain ⟨hc, hf, hz⟩ := hw1.facts
                try simp at hz
                try go_simp
                try rfl
              try go_simp
              refine hK _ ?_; clear hK K; refine qWalk_step ?_; intro K hK; go_simp; apply Exists.intro; refine And.intro ?_ ?_
              · intro w1 hw1
                try go_simp
                try rfl
              try go_simp
              refine hK _ ?_; clear hK K; refine qWalk_step ?_; intro K hK; go_simp; apply Exists.intro; refine And.intro ?_ ?_
              · intro w1 hw1
                obtain ⟨hc, hf, hz⟩ := hw1.facts
                try simp at hz
                try go_simp
                try rfl
              try go_simp
              iterate 2
                refine hK _ ?_; clear hK K; refine qWalk_step ?_; intro K hK; go_simp; apply Exists.intro; refine And.intro ?_ ?_
                · intro w1 hw1
                  try go_simp
                  try rfl
                try go_simp
              refine hK _ ?_; clear hK K; refine qWalk_step ?_; intro K hK; go_simp; apply Exists.intro; refine And.intro ?_ ?_
              · intro w1 hw1
                obtain ⟨hc, hf, hz⟩ := hw1.facts
                try simp at hz
                try go_simp
                try rfl
              try go_simp
              iterate 3
                refine hK _ ?_; clear hK K; refine qWalk_step ?_; intro K hK; go_simp; apply Exists.intro; refine And.intro ?_ ?_
                · intro w1 hw1
                  try go_simp
                  try rfl
                try go_simp
              refine hK _ ?_; clear hK K; refine qWalk_step ?_; intro K hK; go_simp; apply Exists.intro; refine And.intro ?_ ?_
              · intro w1 hw1
                obtain ⟨hc, hf, hz⟩ := hw1.facts
                try simp at hz
                try go_simp
                try rfl
              try go_simp
              iterate 2
                refine hK _ ?_; clear hK K; refine qWalk_step ?_; intro K hK; go_simp; apply Exists.intro; refine And.intro ?_ ?_
                · intro w1 hw1
                  try go_simp
                  try rfl
                try go_simp
              refine hK _ ?_; clear hK K; refine qWalk_nil ?_; intro wA uA
              have UA := Lib.hid ((UR.out.alloc _).trans uA)
              have KA := Lib.hid ((KP.out.up ((Up.refl _).alloc _)).up uA)
              have OA := Lib.hid (own_up (own_up HOW.out ((Up.refl _).alloc _)) uA)
              clear uA; go_wp2
              go_roundw
              case rel => exact ⟨⟨q + 1, acc, q', by omega, by first | rfl | go_num, by omega, by omega, by omega, hob, TN, OA, KA⟩, UA.out⟩
              case measure => (simp [intOf]; try omega)
            · have q1 : IntKind.i64.wrap (q' + 1) = q' + 1 := IntWalk.i64_in _ (by omega)
              have i6 : IntKind.i64.wrap (et + xto) = et + xto := IntWalk.i64_in _ (by omega)
              by_cases h3 : et + xto ≤ til
              · have TN := Lib.hid (TG.out.trans (by rw [SD.out, if_neg (by simp [h1, h2]), if_pos h3]; simp) : doE ⟨rss, es, til⟩ ⟨ss, sq, st⟩ ⟨et, eto, efr, esq, ekd, edt⟩ = (⟨S1, (sendsE til S1 ⟨et, eto, efr, esq, ekd, edt⟩ (RU.sends.drop (q + 1)) (q' + 1)).2, ct⟩, (acc ++ [⟨et + xto, xt, eto, q', xfr, (S1 + xsq) % 97⟩]) ++ (sendsE til S1 ⟨et, eto, efr, esq, ekd, edt⟩ (RU.sends.drop (q + 1)) (q' + 1)).1))
                have i7 : IntKind.i64.wrap (S1 + xsq) = S1 + xsq := IntWalk.i64_in _ (by omega)
                have i8 : (S1 + xsq).tmod 97 = (S1 + xsq) % 97 := Int.tmod_eq_emod_of_nonneg (by omega)
                have i9 : IntKind.i64.wrap ((S1 + xsq) % 97) = (S1 + xsq) % 97 := IntWalk.i64_in _ (by omega)
                go_wp2_with fail
                refine region_qw (by kernel_rfl) (by kernel_rfl) ?_; refine qWalk_step ?_; intro K hK; go_simp; apply Exists.intro; refine And.intro ?_ ?_
                · intro w1 hw1
                  try go_simp
                  try rfl
                try go_simp
                refine hK _ ?_; clear hK K; refine qWalk_step ?_; intro K hK; go_simp; apply Exists.intro; refine And.intro ?_ ?_
                · intro w1 hw1
                  obtain ⟨hc, hf, hz⟩ := hw1.facts
                  try simp at hz
                  try go_simp
                  try rfl
                try go_simp
                refine hK _ ?_; clear hK K; refine qWalk_step ?_; intro K hK; go_simp; apply Exists.intro; refine And.intro ?_ ?_
                · intro w1 hw1
                  try go_simp
                  try rfl
                try go_simp
                refine hK _ ?_; clear hK K; refine qWalk_step ?_; intro K hK; go_simp; apply Exists.intro; refine And.intro ?_ ?_
                · intro w1 hw1
                  obtain ⟨hc, hf, hz⟩ := hw1.facts
                  try simp at hz
                  try go_simp
                  try rfl
                try go_simp
                iterate 2
                  refine hK _ ?_; clear hK K; refine qWalk_step ?_; intro K hK; go_simp; apply Exists.intro; refine And.intro ?_ ?_
                  · intro w1 hw1
                    try go_simp
                    try rfl
                  try go_simp
                refine hK _ ?_; clear hK K; refine qWalk_step ?_; intro K hK; go_simp; apply Exists.intro; refine And.intro ?_ ?_
                · intro w1 hw1
                  obtain ⟨hc, hf, hz⟩ := hw1.facts
                  try simp at hz
                  try go_simp
                  try rfl
                try go_simp
                iterate 3
                  refine hK _ ?_; clear hK K; refine qWalk_step ?_; intro K hK; go_simp; apply Exists.intro; refine And.intro ?_ ?_
                  · intro w1 hw1
                    try go_simp
                    try rfl
                  try go_simp
                refine hK _ ?_; clear hK K; refine qWalk_step ?_; intro K hK; go_simp; apply Exists.intro; refine And.intro ?_ ?_
                · intro w1 hw1
                  obtain ⟨hc, hf, hz⟩ := hw1.facts
                  try simp at hz
                  try go_simp
                  try rfl
                try go_simp
                iterate 2
                  refine hK _ ?_; clear hK K; refine qWalk_step ?_; intro K hK; go_simp; apply Exists.intro; refine And.intro ?_ ?_
                  · intro w1 hw1
                    try go_simp
                    try rfl
                  try go_simp
                refine hK _ ?_; clear hK K; refine qWalk_nil ?_; intro wA uA
                have UA := Lib.hid ((UR.out.alloc _).trans uA)
                have KA := Lib.hid ((KP.out.up ((Up.refl _).alloc _)).up uA)
                have OA := Lib.hid (own_up (own_up HOW.out ((Up.refl _).alloc _)) uA)
                have XA := Lib.hid ((Box.new wr ⟨xt, xto, xfr, xsq, xkd, xdt⟩ 140).up uA)
                clear uA z0 z1 z2 z3 z4 lL p0 p1 p2 pf y0 y1 y2 y3 y4 y5 t0 t1 t2 v0 v1 v2' v3 v4 v5 pl yl tl; obtain ⟨p0, p1, p2⟩ := And.intro KA.out.k4.c0 (And.intro KA.out.k4.c1 KA.out.k4.c2)
                have pf := KA.out.k4.f
                have pl := KA.out.k4.lt
                obtain ⟨⟨y0, y1, y2, y3, y4, y5⟩, -⟩ := KA.out.k5.mk6
                have yl := KA.out.k5.lt
                obtain ⟨t0, t1, t2⟩ := And.intro KA.out.k3.c0 (And.intro KA.out.k3.c1 KA.out.k3.c2)
                have tl := KA.out.k3.lt
                obtain ⟨⟨j0, j1, j2, j3, j4, j5⟩, -⟩ := XA.out.mk6
                have jl := XA.out.lt
                have uB := (Up.refl wA).alloc (.cells #[.int .i64 (et + xto), .int .i64 xt, .int .i64 eto, .int .i64 q', .int .i64 xfr, .int .i64 ((S1 + xsq) % 97)] 45)
                have HRD := Lib.hid (Evs.new wA ⟨et + xto, xt, eto, q', xfr, (S1 + xsq) % 97⟩ 45).reads
                have HOA := Lib.hid (own_up OA.out uB)
                have KB := Lib.hid (KA.out.up uB)
                have UB := Lib.hid (UA.out.trans uB)
                have HMX := Lib.hid (show acc.length + 1 ≤ maxLen by simp only [maxLen]; omega)
                have HBY := Lib.hid (show (acc.length + 1) * 48 ≤ 140737488355328 by omega)
                have HBS := Lib.hid (show b7 ≤ (wA.alloc (.cells #[.int .i64 (et + xto), .int .i64 xt, .int .i64 eto, .int .i64 q', .int .i64 xfr, .int .i64 ((S1 + xsq) % 97)] 45)).heap.size by simp; omega)
                have B9 := Lib.hid (show b9' < (wA.alloc (.cells #[.int .i64 (et + xto), .int .i64 xt, .int .i64 eto, .int .i64 q', .int .i64 xfr, .int .i64 ((S1 + xsq) % 97)] 45)).heap.size from KB.out.k9.1)
                clear uB
                go_wp2_with (at_builtin; refine wpList_append_any _ rfl (.tmp 83) (.tmp 104) 31 rfl b7 45 i0 _ 6 48 Try.underlying31 INF.out.1 INF.out.2.1 INF.out.2.2.1 INF.out.2.2.2 rfl SIX.out _ _ (flat acc) rfl HOA.out _ _ 1 1 (flat [⟨et + xto, xt, eto, q', xfr, (S1 + xsq) % 97⟩]) rfl HRD.out (flat_one _) HMX.out HBY.out HBS.out ?_; intro v2 w2 ho2 hg2 hv2; have HO2 := Lib.hid ho2; have HG2 := Lib.hid hg2; have HV2 := Lib.hid hv2; clear ho2 hg2 hv2; have KC := Lib.hid (KB.out.grown HG2.out (own_ne HOA.out (by omega)) (own_ne HOA.out (by omega)) (own_ne HOA.out (by omega)) (own_ne HOA.out (by omega)) (fun h => hob h.symm)); obtain ⟨s0, s1, s2⟩ := And.intro KC.out.k4.c0 (And.intro KC.out.k4.c1 KC.out.k4.c2); have sf := KC.out.k4.f; have sl := KC.out.k4.lt)
                have UC := Lib.hid (UB.out.grown HG2.out (fun k hk => by have := (HOA.out.lt k hk).1; omega))
                have OC := Lib.hid (own_snoc HO2.out rfl)
                have K4 := Lib.hid (KC.out.set4 (by omega) (by omega) (by omega) N49.out (KC.out.k4.set1 (q' + 1)))
                have O4 := Lib.hid (ownsRow_setCell_below OC.out (a := ⟨b4, 1, none⟩) (by dsimp only; omega) (.int .i64 (q' + 1)))
                have U4 := Lib.hid (UC.out.setCell (p := ⟨b4, 1, none⟩) (by dsimp only; omega) (.int .i64 (q' + 1)))
                have hob2 : v2.ownBlock ≠ some b9' := by
                  rcases HV2.out with h | h
                  · rw [h]; exact hob
                  · rw [h]
                    intro e
                    injection e with e
                    have := B9.out
                    omega
                go_roundw
                case rel => exact ⟨⟨q + 1, acc ++ [⟨et + xto, xt, eto, q', xfr, (S1 + xsq) % 97⟩], q' + 1, by omega, by first | rfl | go_num, by omega, by omega, by simp; omega, hob2, TN, O4, K4⟩, U4.out⟩
                case measure => (simp [intOf]; try omega)
              · have TN := Lib.hid (TG.out.trans (by rw [SD.out, if_neg (by simp [h1, h2]), if_neg h3]) : doE ⟨rss, es, til⟩ ⟨ss, sq, st⟩ ⟨et, eto, efr, esq, ekd, edt⟩ = (⟨S1, (sendsE til S1 ⟨et, eto, efr, esq, ekd, edt⟩ (RU.sends.drop (q + 1)) (q' + 1)).2, ct⟩, acc ++ (sendsE til S1 ⟨et, eto, efr, esq, ekd, edt⟩ (RU.sends.drop (q + 1)) (q' + 1)).1))
                have h3' : til < et + xto := by omega
                go_wp2_with fail
                refine region_qw (by kernel_rfl) (by kernel_rfl) ?_; refine qWalk_step ?_; intro K hK; go_simp; apply Exists.intro; refine And.intro ?_ ?_
                · intro w1 hw1
                  try go_simp
                  try rfl
                try go_simp
                refine hK _ ?_; clear hK K; refine qWalk_step ?_; intro K hK; go_simp; apply Exists.intro; refine And.intro ?_ ?_
                · intro w1 hw1
                  obtain ⟨hc, hf, hz⟩ := hw1.facts
                  try simp at hz
                  try go_simp
                  try rfl
                try go_simp
                refine hK _ ?_; clear hK K; refine qWalk_step ?_; intro K hK; go_simp; apply Exists.intro; refine And.intro ?_ ?_
                · intro w1 hw1
                  try go_simp
                  try rfl
                try go_simp
                refine hK _ ?_; clear hK K; refine qWalk_step ?_; intro K hK; go_simp; apply Exists.intro; refine And.intro ?_ ?_
                · intro w1 hw1
                  obtain ⟨hc, hf, hz⟩ := hw1.facts
                  try simp at hz
                  try go_simp
                  try rfl
                try go_simp
                iterate 2
                  refine hK _ ?_; clear hK K; refine qWalk_step ?_; intro K hK; go_simp; apply Exists.intro; refine And.intro ?_ ?_
                  · intro w1 hw1
                    try go_simp
                    try rfl
                  try go_simp
                refine hK _ ?_; clear hK K; refine qWalk_step ?_; intro K hK; go_simp; apply Exists.intro; refine And.intro ?_ ?_
                · intro w1 hw1
                  obtain ⟨hc, hf, hz⟩ := hw1.facts
                  try simp at hz
                  try go_simp
                  try rfl
                try go_simp
                iterate 3
                  refine hK _ ?_; clear hK K; refine qWalk_step ?_; intro K hK; go_simp; apply Exists.intro; refine And.intro ?_ ?_
                  · intro w1 hw1
                    try go_simp
                    try rfl
                  try go_simp
                refine hK _ ?_; clear hK K; refine qWalk_step ?_; intro K hK; go_simp; apply Exists.intro; refine And.intro ?_ ?_
                · intro w1 hw1
                  obtain ⟨hc, hf, hz⟩ := hw1.facts
                  try simp at hz
                  try go_simp
                  try rfl
                try go_simp
                iterate 2
                  refine hK _ ?_; clear hK K; refine qWalk_step ?_; intro K hK; go_simp; apply Exists.intro; refine And.intro ?_ ?_
                  · intro w1 hw1
                    try go_simp
                    try rfl
                  try go_simp
                refine hK _ ?_; clear hK K; refine qWalk_nil ?_; intro wA uA
                have UA := Lib.hid ((UR.out.alloc _).trans uA)
                have KA := Lib.hid ((KP.out.up ((Up.refl _).alloc _)).up uA)
                have OA := Lib.hid (own_up (own_up HOW.out ((Up.refl _).alloc _)) uA)
                have XA := Lib.hid ((Box.new wr ⟨xt, xto, xfr, xsq, xkd, xdt⟩ 140).up uA)
                clear uA z0 z1 z2 z3 z4 lL p0 p1 p2 pf y0 y1 y2 y3 y4 y5 t0 t1 t2 v0 v1 v2' v3 v4 v5 pl yl tl; obtain ⟨p0, p1, p2⟩ := And.intro KA.out.k4.c0 (And.intro KA.out.k4.c1 KA.out.k4.c2)
                have pf := KA.out.k4.f
                have pl := KA.out.k4.lt
                obtain ⟨⟨y0, y1, y2, y3, y4, y5⟩, -⟩ := KA.out.k5.mk6
                have yl := KA.out.k5.lt
                obtain ⟨t0, t1, t2⟩ := And.intro KA.out.k3.c0 (And.intro KA.out.k3.c1 KA.out.k3.c2)
                have tl := KA.out.k3.lt
                obtain ⟨⟨j0, j1, j2, j3, j4, j5⟩, -⟩ := XA.out.mk6
                have jl := XA.out.lt
                have K4 := Lib.hid (KA.out.set4 (by omega) (by omega) (by omega) N49.out (KA.out.k4.set1 (q' + 1)))
                have O4 := Lib.hid (ownsRow_setCell_below OA.out (a := ⟨b4, 1, none⟩) (by dsimp only; omega) (.int .i64 (q' + 1)))
                have U4 := Lib.hid (UA.out.setCell (p := ⟨b4, 1, none⟩) (by dsimp only; omega) (.int .i64 (q' + 1)))
                go_wp2
                go_roundw
                case rel => exact ⟨⟨q + 1, acc, q' + 1, by omega, by first | rfl | go_num, by omega, by omega, by omega, hob, TN, O4, K4⟩, U4.out⟩
                case measure => (simp [intOf]; try omega)
          · have TN := Lib.hid (TG.out.trans (by rw [SD.out, if_pos (Or.inl h1)]) : doE ⟨rss, es, til⟩ ⟨ss, sq, st⟩ ⟨et, eto, efr, esq, ekd, edt⟩ = (⟨S1, (sendsE til S1 ⟨et, eto, efr, esq, ekd, edt⟩ (RU.sends.drop (q + 1)) q').2, ct⟩, acc ++ (sendsE til S1 ⟨et, eto, efr, esq, ekd, edt⟩ (RU.sends.drop (q + 1)) q').1))
            go_wp2_with fail
            refine region_qw (by kernel_rfl) (by kernel_rfl) ?_; refine qWalk_step ?_; intro K hK; go_simp; apply Exists.intro; refine And.intro ?_ ?_
            · intro w1 hw1
              try go_simp
              try rfl
            try go_simp
            refine hK _ ?_; clear hK K; refine qWalk_step ?_; intro K hK; go_simp; apply Exists.intro; refine And.intro ?_ ?_
            · intro w1 hw1
              obtain ⟨hc, hf, hz⟩ := hw1.facts
              try simp at hz
              try go_simp
              try rfl
            try go_simp
            refine hK _ ?_; clear hK K; refine qWalk_step ?_; intro K hK; go_simp; apply Exists.intro; refine And.intro ?_ ?_
            · intro w1 hw1
              try go_simp
              try rfl
            try go_simp
            refine hK _ ?_; clear hK K; refine qWalk_step ?_; intro K hK; go_simp; apply Exists.intro; refine And.intro ?_ ?_
            · intro w1 hw1
              obtain ⟨hc, hf, hz⟩ := hw1.facts
              try simp at hz
              try go_simp
              try rfl
            try go_simp
            iterate 2
              refine hK _ ?_; clear hK K; refine qWalk_step ?_; intro K hK; go_simp; apply Exists.intro; refine And.intro ?_ ?_
              · intro w1 hw1
                try go_simp
                try rfl
              try go_simp
            refine hK _ ?_; clear hK K; refine qWalk_step ?_; intro K hK; go_simp; apply Exists.intro; refine And.intro ?_ ?_
            · intro w1 hw1
              obtain ⟨hc, hf, hz⟩ := hw1.facts
              try simp at hz
              try go_simp
              try rfl
            try go_simp
            iterate 2
              refine hK _ ?_; clear hK K; refine qWalk_step ?_; intro K hK; go_simp; apply Exists.intro; refine And.intro ?_ ?_
              · intro w1 hw1
                try go_simp
                try rfl
              try go_simp
            iterate 4
              refine hK _ ?_; clear hK K; refine qWalk_step ?_; intro K hK; go_simp
            apply Exists.intro; refine And.intro ?_ ?_
            · intro w1 hw1
              try go_simp
              try rfl
            try go_simp
            refine hK _ ?_; clear hK K; refine qWalk_nil ?_; intro wA uA
            have UA := Lib.hid ((UR.out.alloc _).trans uA)
            have KA := Lib.hid ((KP.out.up ((Up.refl _).alloc _)).up uA)
            have OA := Lib.hid (own_up (own_up HOW.out ((Up.refl _).alloc _)) uA)
            clear uA; go_wp2
            go_roundw
            case rel => exact ⟨⟨q + 1, acc, q', by omega, by first | rfl | go_num, by omega, by omega, by omega, hob, TN, OA, KA⟩, UA.out⟩
            case measure => (simp [intOf]; try omega)
        · have i4 : ¬ (q : Int) < ns := by omega
          have TE := Lib.hid (TG.out.trans (by rw [List.drop_eq_nil_of_le (by rw [E3.out.1]; omega)]; simp [sendsE]) : doE ⟨rss, es, til⟩ ⟨ss, sq, st⟩ ⟨et, eto, efr, esq, ekd, edt⟩ = (⟨S1, q', ct⟩, acc))
          obtain ⟨-, Av, cv, rfl, hvc, hvm⟩ := own_slice HOW.out; obtain ⟨g0, g1, g2⟩ := And.intro KP.out.k6.c0 (And.intro KP.out.k6.c1 KP.out.k6.c2)
          have gf := KP.out.k6.f
          have gl := KP.out.k6.lt
          have E6 := KP.out.k6.laid' S1 q' ct
          obtain ⟨k0, k1, k2⟩ := And.intro E6.c0 (And.intro E6.c1 E6.c2)
          have b67 : ∀ j, (⟨b6, j, none⟩ : Addr).block < b7 := fun j => by dsimp only; omega
          have OZ := Lib.hid (own_evs (ownsRow_setCell_below (ownsRow_setCell_below (ownsRow_setCell_below HOW.out (b67 0) (.int .i64 S1)) (b67 1) (.int .i64 q')) (b67 2) (.int .i64 ct)))
          have b6w : ∀ j, w.heap.size ≤ (⟨b6, j, none⟩ : Addr).block := fun j => by dsimp only; omega
          have UZ := Lib.hid (((UR.out.setCell (b6w 0) (.int .i64 S1)).setCell (b6w 1) (.int .i64 q')).setCell (b6w 2) (.int .i64 ct))
          clear E6 b67 b6w; go_wp2
          exact bodyPost_ret (v := .tuple #[.agg #[.int .i64 S1, .int .i64 q', .int .i64 ct], .slice Av acc.length cv]) (by simp [results, Try.results106, go_sem, k0, k1, k2]) rfl (by
            rw [TE.out]
            exact ⟨Av, cv, rfl, hvc, hvm, OZ.out, fun b off h => by have := own_addr HOW.out h; omega, UZ.out⟩)
end Go.Proofs.Ytakmlfgkppekoaa

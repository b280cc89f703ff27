/-
  What spec.CmpUndo returns, in one sentence: the component ahead of an event and true, or the zero state and false; for every model, component and event in memory.
-/
import Derived.Deep.Cut
import Derived.Test.YtakmlfgkppekoaaDLCud26
namespace Go.Proofs.Ytakmlfgkppekoaa
set_option maxRecDepth 100000
open Go.RowKit
set_option maxHeartbeats 20000000 in
theorem specUndo_any (A : Option Addr) (n c : Nat) (B : Option Addr) (k d : Nat) (m : Mdl) (s : Cst) (hI : s.ct ≤ 9223372036854775807) (e : Evt) (w : World) (hM : MdlV w A n B k m) :
    Calls Try.prog 23 #[.agg #[.slice A n c, .slice B k d, .int .i64 m.til], s.v, e.v] w fun x w' => x = .returned (undoR (undoM m s e)) ∧ Up w w' := by
  have CM := Lib.hid (fun W (u : Up w W) => specMdl_any A n c B k d m W (hM.up u))
  have CC := Lib.hid (fun W => specCst_any s W)
  have CE := Lib.hid (fun W => specOk_any e n W)
  have FEW := Lib.hid (fun h => mdlB_few (m := m) h)
  have TIL := Lib.hid (fun h => mdlB_til (m := m) h)
  have CST := Lib.hid (fun h => cst_parts (c := s) h)
  have OKP := Lib.hid (fun (h : okB e n = true) => (show (0 ≤ e.to ∧ e.to < n) ∧ (0 ≤ e.kd ∧ e.kd ≤ 2) ∧ (0 ≤ e.dt ∧ e.dt ≤ 96) from by simp only [okB, Bool.and_eq_true, inB_iff] at h; omega))
  have UD := Lib.hid (show undoM m s e = if (mdlB m && cstB s) = true then (if (okB e n && decide (e.t ≤ m.til)) = true ∧ s.ct ≠ 0 ∧ s.sq ≠ 12 then
      match ruleOf e.kd (m.rules.getD e.to.toNat []) with
      | none => some ⟨s.s, s.sq, s.ct - 1⟩
      | some r => if r.a = 0 ∨ s.sq < nHold s.s r.sends then none else some ⟨prevR r s.s e.dt, s.sq - nHold s.s r.sends, s.ct - 1⟩
    else none) else none by
      unfold undoM undoE; rw [hM.rules.1]
      rfl)
  have RPT := Lib.hid (fun r (hm : mdlB m = true) (h : e.to.toNat < n) (hr : ruleOf e.kd (m.rules.getD e.to.toNat []) = some r) => ruleB_parts (mdlB_rule hm (by rw [hM.rules.1]; exact h) hr))
  have HR := Lib.hid hM.rules
  have NL := Lib.hid hM.rules.1
  rw [NL.out] at FEW
  generalize undoM m s e = res at UD ⊢
  generalize mdlB m = gm at CM FEW TIL UD RPT
  generalize cstB s = gc at CC CST UD
  generalize okB e n = ge at CE OKP UD
  obtain ⟨ss, sq, st⟩ := s; obtain ⟨et, eto, efr, esq, ekd, edt⟩ := e; obtain ⟨rss, sts, til⟩ := m; unfold Cst.v at CC; unfold Evt.v at CE; unfold Cst.v Evt.v; dsimp only at CM CC CE FEW TIL CST OKP UD RPT HR NL hI ⊢; clear hM
  have U1 := Lib.hid (((((Up.refl w).alloc (.cells #[.slice A n c, .slice B k d, .int .i64 til] 33)).alloc (.cells #[.int .i64 ss, .int .i64 sq, .int .i64 st] 41)).alloc (.cells #[.int .i64 et, .int .i64 eto, .int .i64 efr, .int .i64 esq, .int .i64 ekd, .int .i64 edt] 45)).alloc (.cells #[.int .i64 0, .int .i64 0, .int .i64 0] 41))
  have X3 := Lib.hid ((Box3.new w (.slice A n c) (.slice B k d) (.int .i64 til) 33).up ((((Up.refl _).alloc (.cells #[.int .i64 ss, .int .i64 sq, .int .i64 st] 41)).alloc (.cells #[.int .i64 et, .int .i64 eto, .int .i64 efr, .int .i64 esq, .int .i64 ekd, .int .i64 edt] 45)).alloc (.cells #[.int .i64 0, .int .i64 0, .int .i64 0] 41)))
  have X4 := Lib.hid ((Cell3.new (w.alloc (.cells #[.slice A n c, .slice B k d, .int .i64 til] 33)) ss sq st 41).up (((Up.refl _).alloc (.cells #[.int .i64 et, .int .i64 eto, .int .i64 efr, .int .i64 esq, .int .i64 ekd, .int .i64 edt] 45)).alloc (.cells #[.int .i64 0, .int .i64 0, .int .i64 0] 41)))
  have X5 := Lib.hid ((Box.new ((w.alloc (.cells #[.slice A n c, .slice B k d, .int .i64 til] 33)).alloc (.cells #[.int .i64 ss, .int .i64 sq, .int .i64 st] 41)) ⟨et, eto, efr, esq, ekd, edt⟩ 45).up ((Up.refl _).alloc (.cells #[.int .i64 0, .int .i64 0, .int .i64 0] 41)))
  have X6 := Lib.hid (Cell3.new (((w.alloc (.cells #[.slice A n c, .slice B k d, .int .i64 til] 33)).alloc (.cells #[.int .i64 ss, .int .i64 sq, .int .i64 st] 41)).alloc (.cells #[.int .i64 et, .int .i64 eto, .int .i64 efr, .int .i64 esq, .int .i64 ekd, .int .i64 edt] 45)) 0 0 0 41)
  simp only [World.size_alloc] at X4 X5 X6
  go_enter Try.func23, Try.ntmps23
  go_wp2_with fail
  generalize hb3 : w.heap.size = b3 at *
  generalize hb4 : b3 + 1 = b4 at *
  generalize hb5 : b4 + 1 = b5 at *
  generalize hb6 : b5 + 1 = b6 at *
  have B4 := Lib.hid (show w.heap.size ≤ b4 by omega)
  have B6 := Lib.hid (show w.heap.size ≤ b6 by omega)
  refine (CM.out _ U1.out).mono ?_; rintro x w1 ⟨rfl, u⟩
  replace U1 := Lib.hid (U1.out.trans u)
  replace X3 := Lib.hid (X3.out.up u)
  replace X4 := Lib.hid (X4.out.up u)
  replace X5 := Lib.hid (X5.out.up u)
  replace X6 := Lib.hid (X6.out.up u)
  clear u; clear CM
  cases gm
  · have EQ := Lib.hid (show res = none from UD.out)
    clear UD; obtain ⟨d0, d1, d2⟩ := And.intro X6.out.c0 (And.intro X6.out.c1 X6.out.c2)
    have df := X6.out.f
    have dl := X6.out.lt
    obtain ⟨k0, k1, k2⟩ := And.intro (X6.out.laid' 0 0 0).c0 (And.intro (X6.out.laid' 0 0 0).c1 (X6.out.laid' 0 0 0).c2)
    have UE := Lib.hid (((U1.out.setCell (p := ⟨b6, 0, none⟩) B6.out (.int .i64 0)).setCell (p := ⟨b6, 1, none⟩) B6.out (.int .i64 0)).setCell (p := ⟨b6, 2, none⟩) B6.out (.int .i64 0))
    go_wp2
    exact bodyPost_ret (v := .tuple #[.agg #[.int .i64 0, .int .i64 0, .int .i64 0], .bool false]) (by simp [results, Try.results23, go_sem, k0, k1, k2]) rfl ⟨by rw [EQ.out]; rfl, UE.out⟩
  · have few := FEW.out rfl
    have tl := TIL.out rfl
    obtain ⟨a0, a1, a2⟩ := And.intro X3.out.c0 (And.intro X3.out.c1 X3.out.c2)
    have al := X3.out.lt
    obtain ⟨g0, g1, g2⟩ := And.intro X4.out.c0 (And.intro X4.out.c1 X4.out.c2)
    have gl := X4.out.lt
    obtain ⟨⟨y0, y1, y2, y3, y4, y5⟩, -⟩ := X5.out.mk6
    have yl := X5.out.lt
    go_wp2_with fail
    refine (CC.out _).mono ?_; rintro x w2 ⟨rfl, u⟩
    replace U1 := Lib.hid (U1.out.trans u)
    replace X3 := Lib.hid (X3.out.up u)
    replace X4 := Lib.hid (X4.out.up u)
    replace X5 := Lib.hid (X5.out.up u)
    replace X6 := Lib.hid (X6.out.up u)
    clear u; clear a0 a1 a2 al g0 g1 g2 gl y0 y1 y2 y3 y4 y5 yl; clear CC
    cases gc
    · have EQ := Lib.hid (show res = none from UD.out)
      clear UD; obtain ⟨d0, d1, d2⟩ := And.intro X6.out.c0 (And.intro X6.out.c1 X6.out.c2)
      have df := X6.out.f
      have dl := X6.out.lt
      obtain ⟨k0, k1, k2⟩ := And.intro (X6.out.laid' 0 0 0).c0 (And.intro (X6.out.laid' 0 0 0).c1 (X6.out.laid' 0 0 0).c2)
      have UE := Lib.hid (((U1.out.setCell (p := ⟨b6, 0, none⟩) B6.out (.int .i64 0)).setCell (p := ⟨b6, 1, none⟩) B6.out (.int .i64 0)).setCell (p := ⟨b6, 2, none⟩) B6.out (.int .i64 0))
      go_wp2
      exact bodyPost_ret (v := .tuple #[.agg #[.int .i64 0, .int .i64 0, .int .i64 0], .bool false]) (by simp [results, Try.results23, go_sem, k0, k1, k2]) rfl ⟨by rw [EQ.out]; rfl, UE.out⟩
    · obtain ⟨⟨s0, s1⟩, ⟨q0, q1⟩, t0⟩ := CST.out rfl
      obtain ⟨a0, a1, a2⟩ := And.intro X3.out.c0 (And.intro X3.out.c1 X3.out.c2)
      have al := X3.out.lt
      obtain ⟨g0, g1, g2⟩ := And.intro X4.out.c0 (And.intro X4.out.c1 X4.out.c2)
      have gl := X4.out.lt
      obtain ⟨⟨y0, y1, y2, y3, y4, y5⟩, -⟩ := X5.out.mk6
      have yl := X5.out.lt
      go_wp2_with fail
      refine (CE.out _).mono ?_; rintro x w3 ⟨rfl, u⟩
      replace U1 := Lib.hid (U1.out.trans u)
      replace X3 := Lib.hid (X3.out.up u)
      replace X4 := Lib.hid (X4.out.up u)
      replace X5 := Lib.hid (X5.out.up u)
      replace X6 := Lib.hid (X6.out.up u)
      clear u; clear a0 a1 a2 al g0 g1 g2 gl y0 y1 y2 y3 y4 y5 yl; clear CE
      cases ge
      · have EQ := Lib.hid (show res = none from UD.out.trans (by simp))
        clear UD; obtain ⟨d0, d1, d2⟩ := And.intro X6.out.c0 (And.intro X6.out.c1 X6.out.c2)
        have df := X6.out.f
        have dl := X6.out.lt
        obtain ⟨k0, k1, k2⟩ := And.intro (X6.out.laid' 0 0 0).c0 (And.intro (X6.out.laid' 0 0 0).c1 (X6.out.laid' 0 0 0).c2)
        have UE := Lib.hid (((U1.out.setCell (p := ⟨b6, 0, none⟩) B6.out (.int .i64 0)).setCell (p := ⟨b6, 1, none⟩) B6.out (.int .i64 0)).setCell (p := ⟨b6, 2, none⟩) B6.out (.int .i64 0))
        go_wp2
        exact bodyPost_ret (v := .tuple #[.agg #[.int .i64 0, .int .i64 0, .int .i64 0], .bool false]) (by simp [results, Try.results23, go_sem, k0, k1, k2]) rfl ⟨by rw [EQ.out]; rfl, UE.out⟩
      · have okp := OKP.out rfl
        obtain ⟨a0, a1, a2⟩ := And.intro X3.out.c0 (And.intro X3.out.c1 X3.out.c2)
        have al := X3.out.lt
        obtain ⟨g0, g1, g2⟩ := And.intro X4.out.c0 (And.intro X4.out.c1 X4.out.c2)
        have gl := X4.out.lt
        obtain ⟨⟨y0, y1, y2, y3, y4, y5⟩, -⟩ := X5.out.mk6
        have yl := X5.out.lt
        by_cases ht : et ≤ til
        · have ht' : ¬ til < et := by omega
          by_cases h0 : st = 0
          · have EQ := Lib.hid (show res = none from UD.out.trans (by simp [h0]))
            subst h0; clear UD; obtain ⟨d0, d1, d2⟩ := And.intro X6.out.c0 (And.intro X6.out.c1 X6.out.c2)
            have df := X6.out.f
            have dl := X6.out.lt
            obtain ⟨k0, k1, k2⟩ := And.intro (X6.out.laid' 0 0 0).c0 (And.intro (X6.out.laid' 0 0 0).c1 (X6.out.laid' 0 0 0).c2)
            have UE := Lib.hid (((U1.out.setCell (p := ⟨b6, 0, none⟩) B6.out (.int .i64 0)).setCell (p := ⟨b6, 1, none⟩) B6.out (.int .i64 0)).setCell (p := ⟨b6, 2, none⟩) B6.out (.int .i64 0))
            go_wp2
            exact bodyPost_ret (v := .tuple #[.agg #[.int .i64 0, .int .i64 0, .int .i64 0], .bool false]) (by simp [results, Try.results23, go_sem, k0, k1, k2]) rfl ⟨by rw [EQ.out]; rfl, UE.out⟩
          · have h0' : (st == 0) = false := by simp [h0]
            by_cases h12 : sq = 12
            · have EQ := Lib.hid (show res = none from UD.out.trans (by simp [h12]))
              subst h12; clear UD; obtain ⟨d0, d1, d2⟩ := And.intro X6.out.c0 (And.intro X6.out.c1 X6.out.c2)
              have df := X6.out.f
              have dl := X6.out.lt
              obtain ⟨k0, k1, k2⟩ := And.intro (X6.out.laid' 0 0 0).c0 (And.intro (X6.out.laid' 0 0 0).c1 (X6.out.laid' 0 0 0).c2)
              have UE := Lib.hid (((U1.out.setCell (p := ⟨b6, 0, none⟩) B6.out (.int .i64 0)).setCell (p := ⟨b6, 1, none⟩) B6.out (.int .i64 0)).setCell (p := ⟨b6, 2, none⟩) B6.out (.int .i64 0))
              go_wp2
              exact bodyPost_ret (v := .tuple #[.agg #[.int .i64 0, .int .i64 0, .int .i64 0], .bool false]) (by simp [results, Try.results23, go_sem, k0, k1, k2]) rfl ⟨by rw [EQ.out]; rfl, UE.out⟩
            · have h12' : (sq == 12) = false := by simp [h12]
              replace UD := Lib.hid (UD.out.trans ((if_pos rfl).trans (if_pos ⟨by simp [ht], h0, h12⟩)))
              have i1t : IntKind.i64.wrap (st - 1) = st - 1 := IntWalk.i64_in _ (by omega)
              have I1T := Lib.hid i1t
              clear i1t
              go_wp2_with fail
              generalize w3 = W0 at *
              obtain ⟨bA, off, hA, hbA, hcell⟩ := HR.out.2.2 (by omega)
              have hto : eto.toNat < n := by omega
              obtain ⟨A', n', c', hc0, hrs⟩ := hcell _ hto
              have HRS := Lib.hid hrs
              subst hA; clear hcell
              have UW := U1
              have RP := Lib.hid (fun r hr => RPT.out r (by first | rfl | trivial) hto hr)
              generalize hrsd : rss.getD eto.toNat [] = rs at *
              clear hrsd
              have ltA : bA < W0.heap.size := by have := UW.out.size; omega
              have HC := Lib.hid ((UW.out.cells _ _ (show bA < w.heap.size by omega)).trans hc0)
              obtain ⟨RU, As, ns, cs, ok, hcall, hfnd⟩ := found_at (c' := c') ekd HRS.out
              have CALL := Lib.hid hcall
              have FND := Lib.hid hfnd
              clear hcall hfnd hc0 hrs RPT a0 a1 a2 al g0 g1 g2 gl y0 y1 y2 y3 y4 y5 yl HR; refine region_relyC 14 [(14, true)] [48, 49, 50, 51, 52, 53, 54, 55, 56, 47, 57, 58, 8] (fun _ => 12) (fun _ w1 => Up W0 w1) (Lays (.int .i64 RU.kd) (.int .i64 RU.a) (.int .i64 RU.b) (.int .i64 RU.c) (.slice As ns cs)) (dR b3 b5 (some ⟨bA, off, none⟩) n c bA off ⟨et, eto, efr, esq, ekd, edt⟩ A' n' c' RU (.slice As ns cs) ok W0.heap.size) (by kernel_rfl) (by kernel_rfl) (by kernel_rfl) ((Up.refl _).drew) (fun d v w w' h u => dR_lays d h u) ?_ ?_
              · simp only [List.take_succ_cons, List.take_zero, StepsC]
                refine ⟨?_, ?_, ?_, ?_, ?_, ?_, ?_, ?_, ?_, ?_, ?_, ?_, ?_, ?_, trivial⟩
                · intro X w1 k1 hG hdep
                  simp only [opW_def, mixT]; go_simp
                  exact ⟨⟨.pointer (some ⟨b3, 0, none⟩), by first | rfl | simp [Act.put], (Up.refl _).lays _ _ _ _ _, hG, (show dR b3 b5 (some ⟨bA, off, none⟩) n c bA off ⟨et, eto, efr, esq, ekd, edt⟩ A' n' c' RU (.slice As ns cs) ok W0.heap.size 0 _ _ from by rw [dR_0])⟩⟩
                · intro X w1 k1 hG hdep
                  have e19 : dR b3 b5 (some ⟨bA, off, none⟩) n c bA off ⟨et, eto, efr, esq, ekd, edt⟩ A' n' c' RU (.slice As ns cs) ok W0.heap.size 0 (X 48) w1 := hdep 0 (by decide +kernel)
                  rw [dR_0] at e19
                  try dsimp only at e19
                  obtain ⟨b0c, b1c, b2c⟩ := And.intro (X3.out.up hG).c0 (And.intro (X3.out.up hG).c1 (X3.out.up hG).c2); simp only [opW_def, mixT, e19]; go_simp
                  exact ⟨⟨.slice (some ⟨bA, off, none⟩) n c, by first | rfl | simp [Act.put], (Up.refl _).lays _ _ _ _ _, hG, (show dR b3 b5 (some ⟨bA, off, none⟩) n c bA off ⟨et, eto, efr, esq, ekd, edt⟩ A' n' c' RU (.slice As ns cs) ok W0.heap.size 1 _ _ from by rw [dR_1])⟩⟩
                · intro X w1 k1 hG hdep
                  simp only [opW_def, mixT]; go_simp
                  exact ⟨⟨.pointer (some ⟨b5, 1, none⟩), by first | rfl | simp [Act.put], (Up.refl _).lays _ _ _ _ _, hG, (show dR b3 b5 (some ⟨bA, off, none⟩) n c bA off ⟨et, eto, efr, esq, ekd, edt⟩ A' n' c' RU (.slice As ns cs) ok W0.heap.size 2 _ _ from by rw [dR_2])⟩⟩
                · intro X w1 k1 hG hdep
                  have e21 : dR b3 b5 (some ⟨bA, off, none⟩) n c bA off ⟨et, eto, efr, esq, ekd, edt⟩ A' n' c' RU (.slice As ns cs) ok W0.heap.size 2 (X 50) w1 := hdep 2 (by decide +kernel)
                  rw [dR_2] at e21
                  try dsimp only at e21
                  obtain ⟨y0, y1, y2, y3, y4, y5⟩ := ((X5.out.up hG).mk6).1; simp only [opW_def, mixT, e21]; go_simp
                  exact ⟨⟨.int .i64 eto, by first | rfl | simp [Act.put], (Up.refl _).lays _ _ _ _ _, hG, (show dR b3 b5 (some ⟨bA, off, none⟩) n c bA off ⟨et, eto, efr, esq, ekd, edt⟩ A' n' c' RU (.slice As ns cs) ok W0.heap.size 3 _ _ from by rw [dR_3])⟩⟩
                · intro X w1 k1 hG hdep
                  have e20 : dR b3 b5 (some ⟨bA, off, none⟩) n c bA off ⟨et, eto, efr, esq, ekd, edt⟩ A' n' c' RU (.slice As ns cs) ok W0.heap.size 1 (X 49) w1 := hdep 1 (by decide +kernel)
                  rw [dR_1] at e20
                  try dsimp only at e20
                  have e22 : dR b3 b5 (some ⟨bA, off, none⟩) n c bA off ⟨et, eto, efr, esq, ekd, edt⟩ A' n' c' RU (.slice As ns cs) ok W0.heap.size 3 (X 51) w1 := hdep 3 (by decide +kernel)
                  rw [dR_3] at e22
                  try dsimp only at e22
                  have i0 : 0 ≤ eto := by omega
                  have i1 : eto < n := by omega
                  simp only [opW_def, mixT, e20, e22]; go_simp
                  exact ⟨⟨.pointer (some ⟨bA, off + eto.toNat, none⟩), by first | rfl | simp [Act.put], (Up.refl _).lays _ _ _ _ _, hG, (show dR b3 b5 (some ⟨bA, off, none⟩) n c bA off ⟨et, eto, efr, esq, ekd, edt⟩ A' n' c' RU (.slice As ns cs) ok W0.heap.size 4 _ _ from by rw [dR_4])⟩⟩
                · intro X w1 k1 hG hdep
                  have e23 : dR b3 b5 (some ⟨bA, off, none⟩) n c bA off ⟨et, eto, efr, esq, ekd, edt⟩ A' n' c' RU (.slice As ns cs) ok W0.heap.size 4 (X 52) w1 := hdep 4 (by decide +kernel)
                  rw [dR_4] at e23
                  try dsimp only at e23
                  have hc := (hG.cells _ _ ltA).trans HC.out
                  simp only [opW_def, mixT, e23]; go_simp
                  exact ⟨⟨.slice A' n' c', by first | rfl | simp [Act.put], (Up.refl _).lays _ _ _ _ _, hG, (show dR b3 b5 (some ⟨bA, off, none⟩) n c bA off ⟨et, eto, efr, esq, ekd, edt⟩ A' n' c' RU (.slice As ns cs) ok W0.heap.size 5 _ _ from by rw [dR_5])⟩⟩
                · intro X w1 k1 hG hdep
                  simp only [opW_def, mixT]; go_simp
                  exact ⟨⟨.pointer (some ⟨b5, 4, none⟩), by first | rfl | simp [Act.put], (Up.refl _).lays _ _ _ _ _, hG, (show dR b3 b5 (some ⟨bA, off, none⟩) n c bA off ⟨et, eto, efr, esq, ekd, edt⟩ A' n' c' RU (.slice As ns cs) ok W0.heap.size 6 _ _ from by rw [dR_6])⟩⟩
                · intro X w1 k1 hG hdep
                  have e25 : dR b3 b5 (some ⟨bA, off, none⟩) n c bA off ⟨et, eto, efr, esq, ekd, edt⟩ A' n' c' RU (.slice As ns cs) ok W0.heap.size 6 (X 54) w1 := hdep 6 (by decide +kernel)
                  rw [dR_6] at e25
                  try dsimp only at e25
                  obtain ⟨y0, y1, y2, y3, y4, y5⟩ := ((X5.out.up hG).mk6).1; simp only [opW_def, mixT, e25]; go_simp
                  exact ⟨⟨.int .i64 ekd, by first | rfl | simp [Act.put], (Up.refl _).lays _ _ _ _ _, hG, (show dR b3 b5 (some ⟨bA, off, none⟩) n c bA off ⟨et, eto, efr, esq, ekd, edt⟩ A' n' c' RU (.slice As ns cs) ok W0.heap.size 7 _ _ from by rw [dR_7])⟩⟩
                · intro X w1 k1 hG hdep
                  have e24 : dR b3 b5 (some ⟨bA, off, none⟩) n c bA off ⟨et, eto, efr, esq, ekd, edt⟩ A' n' c' RU (.slice As ns cs) ok W0.heap.size 5 (X 53) w1 := hdep 5 (by decide +kernel)
                  rw [dR_5] at e24
                  try dsimp only at e24
                  have e26 : dR b3 b5 (some ⟨bA, off, none⟩) n c bA off ⟨et, eto, efr, esq, ekd, edt⟩ A' n' c' RU (.slice As ns cs) ok W0.heap.size 7 (X 55) w1 := hdep 7 (by decide +kernel)
                  rw [dR_7] at e26
                  try dsimp only at e26
                  simp only [opW_def, mixT, e24, e26]; go_simp; refine (CALL.out w1 (UW.out.trans hG)).mono ?_; rintro x w2 ⟨rfl, u⟩
                  exact ⟨⟨.tuple #[RU.v (.slice As ns cs), .bool ok], by first | rfl | simp [Act.put], u.lays _ _ _ _ _, hG.trans u, (show dR b3 b5 (some ⟨bA, off, none⟩) n c bA off ⟨et, eto, efr, esq, ekd, edt⟩ A' n' c' RU (.slice As ns cs) ok W0.heap.size 8 _ _ from by rw [dR_8])⟩⟩
                · intro X w1 k1 hG hdep
                  have e27 : dR b3 b5 (some ⟨bA, off, none⟩) n c bA off ⟨et, eto, efr, esq, ekd, edt⟩ A' n' c' RU (.slice As ns cs) ok W0.heap.size 8 (X 56) w1 := hdep 8 (by decide +kernel)
                  rw [dR_8] at e27
                  try dsimp only at e27
                  simp only [opW_def, mixT, e27]; go_simp
                  exact ⟨⟨.tuple #[RU.v (.slice As ns cs), .bool ok], by first | rfl | simp [Act.put], (Up.refl _).lays _ _ _ _ _, hG, (show dR b3 b5 (some ⟨bA, off, none⟩) n c bA off ⟨et, eto, efr, esq, ekd, edt⟩ A' n' c' RU (.slice As ns cs) ok W0.heap.size 9 _ _ from by rw [dR_9])⟩⟩
                · intro X w1 k1 hG hdep
                  have e18 : dR b3 b5 (some ⟨bA, off, none⟩) n c bA off ⟨et, eto, efr, esq, ekd, edt⟩ A' n' c' RU (.slice As ns cs) ok W0.heap.size 9 (X 47) w1 := hdep 9 (by decide +kernel)
                  rw [dR_9] at e18
                  try dsimp only at e18
                  simp only [opW_def, mixT, e18]; go_simp
                  exact ⟨⟨RU.v (.slice As ns cs), by first | rfl | simp [Act.put], (Up.refl _).lays _ _ _ _ _, hG, (show dR b3 b5 (some ⟨bA, off, none⟩) n c bA off ⟨et, eto, efr, esq, ekd, edt⟩ A' n' c' RU (.slice As ns cs) ok W0.heap.size 10 _ _ from by rw [dR_10])⟩⟩
                · intro X w1 k1 hG hdep
                  have e18 : dR b3 b5 (some ⟨bA, off, none⟩) n c bA off ⟨et, eto, efr, esq, ekd, edt⟩ A' n' c' RU (.slice As ns cs) ok W0.heap.size 9 (X 47) w1 := hdep 9 (by decide +kernel)
                  rw [dR_9] at e18
                  try dsimp only at e18
                  simp only [opW_def, mixT, e18]; go_simp
                  exact ⟨⟨.bool ok, by first | rfl | simp [Act.put], (Up.refl _).lays _ _ _ _ _, hG, (show dR b3 b5 (some ⟨bA, off, none⟩) n c bA off ⟨et, eto, efr, esq, ekd, edt⟩ A' n' c' RU (.slice As ns cs) ok W0.heap.size 11 _ _ from by rw [dR_11])⟩⟩
                · intro X w1 k1 hG hdep
                  simp only [opW_def, mixT]; go_simp
                  exact ⟨⟨.pointer (some ⟨w1.heap.size, 0, none⟩), by first | rfl | simp [Act.put], ((Up.refl _).alloc _).lays _ _ _ _ _, hG.alloc _, (show dR b3 b5 (some ⟨bA, off, none⟩) n c bA off ⟨et, eto, efr, esq, ekd, edt⟩ A' n' c' RU (.slice As ns cs) ok W0.heap.size 12 _ _ from by rw [dR_12]; exact IsNew5.new _ _ _ _ _ _ _ hG.size)⟩⟩
                · intro X w1 k1 hG hdep
                  have e9 : dR b3 b5 (some ⟨bA, off, none⟩) n c bA off ⟨et, eto, efr, esq, ekd, edt⟩ A' n' c' RU (.slice As ns cs) ok W0.heap.size 12 (X 8) w1 := hdep 12 (by decide +kernel)
                  rw [dR_12] at e9
                  try dsimp only at e9
                  have e28 : dR b3 b5 (some ⟨bA, off, none⟩) n c bA off ⟨et, eto, efr, esq, ekd, edt⟩ A' n' c' RU (.slice As ns cs) ok W0.heap.size 10 (X 57) w1 := hdep 10 (by decide +kernel)
                  rw [dR_10] at e28
                  try dsimp only at e28
                  obtain ⟨b9, e9', l9, h9, s9, f9⟩ := e9; obtain ⟨x0, c0⟩ := s9 0 (by omega); obtain ⟨x1, c1⟩ := s9 1 (by omega); obtain ⟨x2, c2⟩ := s9 2 (by omega); obtain ⟨x3, c3⟩ := s9 3 (by omega); obtain ⟨x4, c4⟩ := s9 4 (by omega)
                  have L := lays_put RU (.slice As ns cs) h9 s9
                  have GU := hG.putR (b := b9) (o := 0) (r := RU) (s := .slice As ns cs) l9
                  unfold putR at L GU; simp only [Nat.zero_add] at L GU; unfold Rule.v at e28; simp only [opW_def, mixT, e9', e28]; go_simp
                  exact ⟨⟨.pointer (some ⟨b9, 0, none⟩), by first | rfl | simp [Act.put], L.1, GU, (show dR b3 b5 (some ⟨bA, off, none⟩) n c bA off ⟨et, eto, efr, esq, ekd, edt⟩ A' n' c' RU (.slice As ns cs) ok W0.heap.size 13 _ _ from by rw [dR_13]; exact ⟨b9, by first | exact e9' | simp [e9'], L.2⟩)⟩⟩
              · intro X w1 hG hR
                have e9 : dR b3 b5 (some ⟨bA, off, none⟩) n c bA off ⟨et, eto, efr, esq, ekd, edt⟩ A' n' c' RU (.slice As ns cs) ok W0.heap.size 13 (X 8) w1 := hR 13 (by omega)
                have e9n : dR b3 b5 (some ⟨bA, off, none⟩) n c bA off ⟨et, eto, efr, esq, ekd, edt⟩ A' n' c' RU (.slice As ns cs) ok W0.heap.size 12 (X 8) w1 := hR 12 (by omega)
                have e29 : dR b3 b5 (some ⟨bA, off, none⟩) n c bA off ⟨et, eto, efr, esq, ekd, edt⟩ A' n' c' RU (.slice As ns cs) ok W0.heap.size 11 (X 58) w1 := hR 11 (by omega)
                rw [dR_13] at e9; rw [dR_12] at e9n; rw [dR_11] at e29; obtain ⟨b9, eq9, L9⟩ := e9; obtain ⟨b9', eq9', l9, h9, s9, f9⟩ := e9n
                obtain rfl : b9' = b9 := by
                  rw [eq9] at eq9'
                  injection eq9' with h
                  injection h with h
                  injection h with h _ _
                  exact h.symm
                have L := Lib.hid L9
                have LO9 := Lib.hid (show W0.heap.size ≤ b9' from l9)
                have G1 := Lib.hid hG
                have Y3 := Lib.hid (X3.out.up hG)
                have Y4 := Lib.hid (X4.out.mv (hG.mv W0.heap.size) (by have := X4.out.lt; omega))
                have Y5 := Lib.hid (X5.out.up hG)
                have Y6 := Lib.hid (X6.out.mv (hG.mv W0.heap.size) (by have := X6.out.lt; omega))
                clear L9 l9 h9 s9 f9 hR eq9'; simp only [mixT, eq9, e29]; refine mix_take rfl (by rfl) ?_; apply Exists.intro; refine ⟨fun w2 => ?_, ?_⟩
                · go_simp
                  try rfl
                go_simp; refine mix_nil ?_; clear eq9 e29 hG

                have X6L := Lib.hid X6.out.lt
                clear CALL HRS HC ltA X4 X5 X6 X3
                generalize w1 = W5 at *
                have U5 := Lib.hid (UW.out.trans G1.out)
                have i1t := I1T.out
                obtain ⟨a0, a1, a2⟩ := And.intro Y3.out.c0 (And.intro Y3.out.c1 Y3.out.c2)
                have al := Y3.out.lt
                obtain ⟨g0, g1, g2⟩ := And.intro Y4.out.c0 (And.intro Y4.out.c1 Y4.out.c2)
                have gl := Y4.out.lt
                obtain ⟨⟨y0, y1, y2, y3, y4, y5⟩, -⟩ := Y5.out.mk6
                have yl := Y5.out.lt
                cases ok
                · have hno : ruleOf ekd rs = none := by
                    rcases FND.out with ⟨_, h, _⟩ | ⟨h, _⟩
                    · cases h
                    · exact h
                  have EQ := Lib.hid (show res = some ⟨ss, sq, st - 1⟩ by
                    rw [UD.out, hno])
                  clear UD hno FND
                  have U6 := Lib.hid (U5.out.alloc (.cells #[.int .i64 ss, .int .i64 sq, .int .i64 (st - 1)] 41))
                  have X6 := Lib.hid (Y6.out.up ((Up.refl _).alloc (.cells #[.int .i64 ss, .int .i64 sq, .int .i64 (st - 1)] 41)))
                  obtain ⟨d0, d1, d2⟩ := And.intro X6.out.c0 (And.intro X6.out.c1 X6.out.c2)
                  have df := X6.out.f
                  have dl := X6.out.lt
                  obtain ⟨k0, k1, k2⟩ := And.intro (X6.out.laid' ss sq (st - 1)).c0 (And.intro (X6.out.laid' ss sq (st - 1)).c1 (X6.out.laid' ss sq (st - 1)).c2)
                  have UE := Lib.hid (((U6.out.setCell (p := ⟨b6, 0, none⟩) B6.out (.int .i64 ss)).setCell (p := ⟨b6, 1, none⟩) B6.out (.int .i64 sq)).setCell (p := ⟨b6, 2, none⟩) B6.out (.int .i64 (st - 1)))
                  go_wp2
                  exact bodyPost_ret (v := .tuple #[.agg #[.int .i64 ss, .int .i64 sq, .int .i64 (st - 1)], .bool true]) (by simp [results, Try.results23, go_sem, k0, k1, k2]) rfl ⟨by rw [EQ.out]; rfl, UE.out⟩
                · obtain ⟨hyes, hns9, hev3⟩ : ruleOf ekd rs = some RU ∧ ns ≤ 9223372036854775807 ∧ Evs w As ns RU.sends := by
                    rcases FND.out with ⟨h1, _, h2, h3⟩ | ⟨_, h⟩
                    · exact ⟨h1, h2, h3⟩
                    · cases h
                  obtain ⟨hsn, hlen, hra, hrb, hrc⟩ := RP.out RU hyes
                  have SN := Lib.hid (fun i hi => (sndB_parts (hsn i hi)).2.2)
                  have UD2 := Lib.hid (show res = if RU.a = 0 ∨ sq < nHold ss RU.sends then none else some ⟨prevR RU ss edt, sq - nHold ss RU.sends, st - 1⟩ by rw [UD.out, hyes])
                  clear UD FND RP hyes
                  have hns2 : ns ≤ 2 := by have := hev3.1; omega
                  have CH := Lib.hid (fun W hE => sends_any RU W ns cs As hE (fun i hi => by have := SN.out i hi; omega) hns2 ss ⟨s0, by omega⟩)
                  have NH := Lib.hid (nHold_le ss RU.sends)
                  have PS := Lib.hid (prev_spec RU ss edt)
                  have uR := (Up.refl W5).alloc (.cells #[.int .i64 ss, .int .i64 sq, .int .i64 (st - 1)] 41)
                  have E3 := Lib.hid (hev3.up (U5.out.trans uR))
                  clear hsn hev3
                  generalize nHold ss RU.sends = nh at *
                  generalize prevR RU ss edt = pr at *
                  obtain ⟨kd, ra, rb, rc, rse⟩ := RU; unfold Rule.v at CH; dsimp only at CH hra hrb hrc UD2 PS E3 hlen L
                  have U6 := Lib.hid (U5.out.trans uR)
                  have Y10 := Lib.hid (Cell3.new W5 ss sq (st - 1) 41)
                  have L6 := Lib.hid (L.out.keep uR.size (fun o => uR.cells _ _ L.out.1))
                  replace Y4 := Lib.hid (Y4.out.up uR)
                  replace Y5 := Lib.hid (Y5.out.up uR)
                  replace Y6 := Lib.hid (Y6.out.up uR)
                  have LL := Lib.hid (show b9' < W5.heap.size from L.out.1)
                  have Y6L := Lib.hid (show b6 < W0.heap.size from X6L.out)
                  obtain ⟨lL, r0, r1, r2, r3, r4⟩ := L.out; clear uR
                  go_wp2_with fail
                  generalize W5.alloc (.cells #[.int .i64 ss, .int .i64 sq, .int .i64 (st - 1)] 41) = W6 at *
                  generalize hb10 : W5.heap.size = b10 at *
                  have B10 := Lib.hid (show b9' ≠ b10 ∧ b6 ≠ b10 ∧ w.heap.size ≤ b10 from by
                    have h1 := LL.out
                    have h2 := Y6L.out
                    have h3 := G1.out.size
                    have h4 := UW.out.size
                    omega)
                  clear hb10 a0 a1 a2 al g0 g1 g2 gl y0 y1 y2 y3 y4 y5 yl lL r0 r1 r2 r3 r4; refine (CH.out _ E3.out).mono ?_; rintro x w7 ⟨rfl, u⟩
                  replace U6 := Lib.hid (U6.out.trans u)
                  replace Y4 := Lib.hid (Y4.out.up u)
                  replace Y5 := Lib.hid (Y5.out.up u)
                  replace Y10 := Lib.hid (Y10.out.up u)
                  have X6 := Lib.hid (Y6.out.up u)
                  replace L6 := Lib.hid (L6.out.keep u.size (fun o => u.cells _ _ L6.out.1))
                  clear u CH E3 Y6; obtain ⟨lL, r0, r1, r2, r3, r4⟩ := L6.out
                  by_cases hra0 : ra = 0
                  · have EQ := Lib.hid (show res = none from UD2.out.trans (if_pos (.inl hra0)))
                    subst hra0; clear UD2 PS; obtain ⟨d0, d1, d2⟩ := And.intro X6.out.c0 (And.intro X6.out.c1 X6.out.c2)
                    have df := X6.out.f
                    have dl := X6.out.lt
                    obtain ⟨k0, k1, k2⟩ := And.intro (X6.out.laid' 0 0 0).c0 (And.intro (X6.out.laid' 0 0 0).c1 (X6.out.laid' 0 0 0).c2)
                    have UE := Lib.hid (((U6.out.setCell (p := ⟨b6, 0, none⟩) B6.out (.int .i64 0)).setCell (p := ⟨b6, 1, none⟩) B6.out (.int .i64 0)).setCell (p := ⟨b6, 2, none⟩) B6.out (.int .i64 0))
                    go_wp2
                    exact bodyPost_ret (v := .tuple #[.agg #[.int .i64 0, .int .i64 0, .int .i64 0], .bool false]) (by simp [results, Try.results23, go_sem, k0, k1, k2]) rfl ⟨by rw [EQ.out]; rfl, UE.out⟩
                  · have hra1 : (ra == 0) = false := by simp [hra0]
                    obtain ⟨g0, g1, g2⟩ := And.intro Y4.out.c0 (And.intro Y4.out.c1 Y4.out.c2)
                    have gl := Y4.out.lt
                    by_cases hlt : sq < nh
                    · have EQ := Lib.hid (show res = none from UD2.out.trans (if_pos (.inr hlt)))
                      clear UD2 PS; obtain ⟨d0, d1, d2⟩ := And.intro X6.out.c0 (And.intro X6.out.c1 X6.out.c2)
                      have df := X6.out.f
                      have dl := X6.out.lt
                      obtain ⟨k0, k1, k2⟩ := And.intro (X6.out.laid' 0 0 0).c0 (And.intro (X6.out.laid' 0 0 0).c1 (X6.out.laid' 0 0 0).c2)
                      have UE := Lib.hid (((U6.out.setCell (p := ⟨b6, 0, none⟩) B6.out (.int .i64 0)).setCell (p := ⟨b6, 1, none⟩) B6.out (.int .i64 0)).setCell (p := ⟨b6, 2, none⟩) B6.out (.int .i64 0))
                      go_wp2
                      exact bodyPost_ret (v := .tuple #[.agg #[.int .i64 0, .int .i64 0, .int .i64 0], .bool false]) (by simp [results, Try.results23, go_sem, k0, k1, k2]) rfl ⟨by rw [EQ.out]; rfl, UE.out⟩
                    · replace UD2 := Lib.hid (UD2.out.trans (if_neg (by omega)))
                      have CV := Lib.hid (fun W => specRvi_any ra W)
                      have iv := invV_le ra
                      have p0 : 0 ≤ rb * edt := Int.mul_nonneg (by omega) (by omega)
                      have p1 : rb * edt ≤ 96 * 96 := Int.mul_le_mul (by omega) (by omega) (by omega) (by omega)
                      have i0 : IntKind.i64.wrap (rb * edt) = rb * edt := IntWalk.i64_in _ (by omega)
                      have ps := PS.out
                      generalize invV ra = v at *
                      have i1 : IntKind.i64.wrap (ss + 18818) = ss + 18818 := IntWalk.i64_in _ (by omega)
                      have i2 : IntKind.i64.wrap (ss + 18818 - rb * edt) = ss + 18818 - rb * edt := IntWalk.i64_in _ (by omega)
                      have i3 : IntKind.i64.wrap (ss + 18818 - rb * edt - rc) = ss + 18818 - rb * edt - rc := IntWalk.i64_in _ (by omega)
                      have rb2 : 0 ≤ (ss + 18818 - rb * edt - rc) % 97 ∧ (ss + 18818 - rb * edt - rc) % 97 ≤ 96 := by omega
                      have i4 : (ss + 18818 - rb * edt - rc).tmod 97 = (ss + 18818 - rb * edt - rc) % 97 := Int.tmod_eq_emod_of_nonneg (by omega)
                      generalize (ss + 18818 - rb * edt - rc) % 97 = q at i4 rb2 ps
                      have i5 : IntKind.i64.wrap q = q := IntWalk.i64_in _ (by omega)
                      have m0 : 0 ≤ v * q := Int.mul_nonneg (by omega) (by omega)
                      have m1 : v * q ≤ 96 * 96 := Int.mul_le_mul (by omega) (by omega) (by omega) (by omega)
                      have i6 : IntKind.i64.wrap (v * q) = v * q := IntWalk.i64_in _ (by omega)
                      have i7 : (v * q).tmod 97 = pr := (Int.tmod_eq_emod_of_nonneg m0).trans ps
                      have i8 : IntKind.i64.wrap pr = pr := IntWalk.i64_in _ (by omega)
                      have nhb := NH.out
                      have i9 : IntKind.i64.wrap (sq - nh) = sq - nh := IntWalk.i64_in _ (by omega)
                      obtain ⟨⟨y0, y1, y2, y3, y4, y5⟩, -⟩ := Y5.out.mk6
                      have yl := Y5.out.lt
                      have bb := B10.out
                      obtain ⟨t0', t1', t2'⟩ := And.intro Y10.out.c0 (And.intro Y10.out.c1 Y10.out.c2)
                      have tl' := Y10.out.lt
                      have tf' := Y10.out.f
                      have K10 := Lib.hid ((Y10.out.set0 pr).set1 (sq - nh))
                      replace X6 := Lib.hid ((X6.out.far (p := ⟨b10, 0, none⟩) (by dsimp only; omega) (.int .i64 pr)).far (p := ⟨b10, 1, none⟩) (by dsimp only; omega) (.int .i64 (sq - nh)))
                      replace U6 := Lib.hid ((U6.out.setCell (p := ⟨b10, 0, none⟩) bb.2.2 (.int .i64 pr)).setCell (p := ⟨b10, 1, none⟩) bb.2.2 (.int .i64 (sq - nh)))
                      obtain ⟨j0, j1, j2⟩ := And.intro K10.out.c0 (And.intro K10.out.c1 K10.out.c2); clear ps m0 m1 p0 p1 bb rb2 iv
                      go_wp2_with fail
                      refine (CV.out _).mono ?_; rintro x w8 ⟨rfl, rfl⟩; clear j0 j1 j2
                      have EQ := UD2
                      go_upto_region 13 with fail
                      clear t0' t1' t2' tl' tf'
                      generalize (w7.setCell ⟨b10, 0, none⟩ (.int .i64 pr)).setCell ⟨b10, 1, none⟩ (.int .i64 (sq - nh)) = W8 at *
                      obtain ⟨j0, j1, j2⟩ := And.intro K10.out.c0 (And.intro K10.out.c1 K10.out.c2)
                      have jl := K10.out.lt
                      obtain ⟨d0, d1, d2⟩ := And.intro X6.out.c0 (And.intro X6.out.c1 X6.out.c2)
                      have df := X6.out.f
                      have dl := X6.out.lt
                      obtain ⟨k0, k1, k2⟩ := And.intro (X6.out.laid' pr (sq - nh) (st - 1)).c0 (And.intro (X6.out.laid' pr (sq - nh) (st - 1)).c1 (X6.out.laid' pr (sq - nh) (st - 1)).c2)
                      have UE := Lib.hid (((U6.out.setCell (p := ⟨b6, 0, none⟩) B6.out (.int .i64 pr)).setCell (p := ⟨b6, 1, none⟩) B6.out (.int .i64 (sq - nh))).setCell (p := ⟨b6, 2, none⟩) B6.out (.int .i64 (st - 1)))
                      go_wp2
                      exact bodyPost_ret (v := .tuple #[.agg #[.int .i64 pr, .int .i64 (sq - nh), .int .i64 (st - 1)], .bool true]) (by simp [results, Try.results23, go_sem, k0, k1, k2]) rfl ⟨by rw [EQ.out]; rfl, UE.out⟩
        · have ht' : til < et := by omega
          have EQ := Lib.hid (show res = none from UD.out.trans (by simp [ht]))
          clear UD; obtain ⟨d0, d1, d2⟩ := And.intro X6.out.c0 (And.intro X6.out.c1 X6.out.c2)
          have df := X6.out.f
          have dl := X6.out.lt
          obtain ⟨k0, k1, k2⟩ := And.intro (X6.out.laid' 0 0 0).c0 (And.intro (X6.out.laid' 0 0 0).c1 (X6.out.laid' 0 0 0).c2)
          have UE := Lib.hid (((U1.out.setCell (p := ⟨b6, 0, none⟩) B6.out (.int .i64 0)).setCell (p := ⟨b6, 1, none⟩) B6.out (.int .i64 0)).setCell (p := ⟨b6, 2, none⟩) B6.out (.int .i64 0))
          go_wp2
          exact bodyPost_ret (v := .tuple #[.agg #[.int .i64 0, .int .i64 0, .int .i64 0], .bool false]) (by simp [results, Try.results23, go_sem, k0, k1, k2]) rfl ⟨by rw [EQ.out]; rfl, UE.out⟩
end Go.Proofs.Ytakmlfgkppekoaa

/-
  What resume returns, in one sentence: a pointer to a new block with copies of the simulator's lists in rows of the call's own; for every simulator of short lists that lies in memory.
  What impl.SeqStep returns, in one sentence: nothing unless the simulator fits the model, else the simulator a step further, in rows of the call's own; for every model and every simulator of short lists that lie in memory.
-/
import Derived.Test.YtlikekmhccnilaaGreatDLEsst26
import Derived.Test.YtlikekmhccnilaaGreatDLEsst38
import Derived.Test.YtlikekmhccnilaaGreatDLEsst40
namespace Go.Proofs.YtlikekmhccnilaaGreat
set_option maxRecDepth 100000
open Go.RowKit
set_option maxHeartbeats 8000000 in
theorem resume_any (mb : Nat) (many til : Int) (Ac : Option Addr) (nc cc : Nat) (Aw : Option Addr) (nw cw : Nat) (Al : Option Addr) (nl cl : Nat) (s : Sq) (w : World) (hS : nc ≤ 1100000 ∧ nw ≤ 1100000 ∧ nl ≤ 1100000) (hC : Csts w Ac nc s.comps) (hW : Evs w Aw nw s.wait) (hL : Recs w Al nl s.log) :
    Calls Tryz.prog 62 #[.agg #[.map (some mb), .int .i64 many, .int .i64 til], .agg #[.slice Ac nc cc, .slice Aw nw cw, .slice Al nl cl]] w fun x w' => ∃ p, x = .returned (.pointer (some ⟨p, 0, none⟩)) ∧ Alone w.heap.size mb many til nc nw nl s p w' ∧ Up w w' := by
  have X0 := Lib.hid ((Box3.new w (.map (some mb)) (.int .i64 many) (.int .i64 til) 113).up ((Up.refl _).alloc (.cells #[.slice Ac nc cc, .slice Aw nw cw, .slice Al nl cl] 36)))
  have X1 := Lib.hid (Box3.new (w.alloc (.cells #[.map (some mb), .int .i64 many, .int .i64 til] 113)) (.slice Ac nc cc) (.slice Aw nw cw) (.slice Al nl cl) 36)
  simp only [World.size_alloc] at X1
  have UW := Lib.hid (((Up.refl w).alloc (.cells #[.map (some mb), .int .i64 many, .int .i64 til] 113)).alloc (.cells #[.slice Ac nc cc, .slice Aw nw cw, .slice Al nl cl] 36))
  have CC := Lib.hid (fun (b : Nat) W (hb : b < W.heap.size) (h : W.cell? ⟨b, 0, none⟩ = some (.slice Ac nc cc)) (u : Up w W) => (show Calls Tryz.prog 163 #[.slice (some ⟨b, 0, none⟩) 1 1] W (fun x w' => ∃ A9 c9, x = .returned (.slice A9 nc c9) ∧ nc ≤ c9 ∧ c9 ≤ 9223372036854775807 ∧ True ∧ w'.ownsRow W.heap.size 64 3 (.slice A9 nc c9) nc (flat3 s.comps) ∧ Up W w') from
    (concatC_any b 1 [s.comps] W (by simp) hb (fun j hj => by have : j = 0 := (by simpa using hj); subst this; exact ⟨Ac, cc, by simpa [hC.1] using h, by simpa [hC.1] using hC.up u⟩) (by simp [hC.1]; omega)).mono fun x w' h => by
      obtain ⟨A9, c9, rfl, h1, h2, h3, h4, h5⟩ := h; simp only [List.flatten_cons, List.flatten_nil, List.append_nil, hC.1] at h1 h2 h4 ⊢
      exact ⟨A9, c9, rfl, h1, h2, trivial, h4, h5⟩))
  have CW := Lib.hid (fun (b : Nat) W (hb : b < W.heap.size) (h : W.cell? ⟨b, 0, none⟩ = some (.slice Aw nw cw)) (u : Up w W) => (show Calls Tryz.prog 155 #[.slice (some ⟨b, 0, none⟩) 1 1] W (fun x w' => ∃ A9 c9, x = .returned (.slice A9 nw c9) ∧ nw ≤ c9 ∧ c9 ≤ 9223372036854775807 ∧ True ∧ w'.ownsRow W.heap.size 130 6 (.slice A9 nw c9) nw (flat s.wait) ∧ Up W w') from
    (concat_any b 1 [s.wait] W (by simp) hb (fun j hj => by have : j = 0 := (by simpa using hj); subst this; exact ⟨Aw, cw, by simpa [hW.1] using h, by simpa [hW.1] using hW.up u⟩) (by simp [hW.1]; omega)).mono fun x w' h => by
      obtain ⟨A9, c9, rfl, h1, h2, h3, h4, h5⟩ := h; simp only [List.flatten_cons, List.flatten_nil, List.append_nil, hW.1] at h1 h2 h4 ⊢
      exact ⟨A9, c9, rfl, h1, h2, trivial, h4, h5⟩))
  have CL := Lib.hid (fun (b : Nat) W (hb : b < W.heap.size) (h : W.cell? ⟨b, 0, none⟩ = some (.slice Al nl cl)) (u : Up w W) => (show Calls Tryz.prog 164 #[.slice (some ⟨b, 0, none⟩) 1 1] W (fun x w' => ∃ A9 c9, x = .returned (.slice A9 nl c9) ∧ nl ≤ c9 ∧ c9 ≤ 9223372036854775807 ∧ True ∧ w'.ownsRow W.heap.size 132 7 (.slice A9 nl c9) nl (flat7 s.log) ∧ Up W w') from
    (concatR_any b 1 [s.log] W (by simp) hb (fun j hj => by have : j = 0 := (by simpa using hj); subst this; exact ⟨Al, cl, by simpa [hL.1] using h, by simpa [hL.1] using hL.up u⟩) (by simp [hL.1]; omega)).mono fun x w' h => by
      obtain ⟨A9, c9, rfl, h1, h2, h3, h4, h5⟩ := h; simp only [List.flatten_cons, List.flatten_nil, List.append_nil, hL.1] at h1 h2 h4 ⊢
      exact ⟨A9, c9, rfl, h1, h2, trivial, h4, h5⟩))
  clear hC hW hL hS
  go_enter Tryz.func62, Tryz.ntmps62
  go_wp2_with fail
  generalize (w.alloc (.cells #[.map (some mb), .int .i64 many, .int .i64 til] 113)).alloc (.cells #[.slice Ac nc cc, .slice Aw nw cw, .slice Al nl cl] 36) = W0 at *
  have hs0 := UW.out.size
  generalize hb3 : w.heap.size + 1 = b3 at *
  refine region_relyT 15 [] [(15, false)] [5, 6, 7, 8, 9, 10, 11, 12, 13, 14, 15, 16, 17, 18, 19] 15 (fun _ w1 => Up W0 w1) Up (fun i v w => resA W0.heap.size mb many til Ac nc cc Aw nw cw Al nl cl b3 s i v w) (by kernel_rfl) (by kernel_rfl) (by kernel_rfl) (by kernel_rfl) ((Up.refl _).drew) (fun slot_ _ _ _ h u => resA_up W0.heap.size mb many til Ac nc cc Aw nw cw Al nl cl b3 s slot_ h u) ?_ ?_ ?_
  · simp only [List.take_succ_cons, List.take_zero]
    refine stepsT_op (by kernel_rfl) ?_ ?_
    · intro X w1 k1 hG hdep
      obtain ⟨p0, p1, p2⟩ := And.intro ((X0.out.up hG).c0) (And.intro ((X0.out.up hG).c1) ((X0.out.up hG).c2))
      have lp := (X0.out.up hG).lt
      simp only [opW_def, mixT]; go_simp
      exact ⟨⟨.agg #[.map (some mb), .int .i64 many, .int .i64 til], by first | rfl | simp [Act.put], Up.refl _, hG, (show resA W0.heap.size mb many til Ac nc cc Aw nw cw Al nl cl b3 s 5 _ _ from by first | (rw [resA_5]; exact rfl) | rw [resA_5])⟩⟩
    refine stepsT_op (by kernel_rfl) ?_ ?_
    · intro X w1 k1 hG hdep
      obtain ⟨p0, p1, p2⟩ := And.intro ((X1.out.up hG).c0) (And.intro ((X1.out.up hG).c1) ((X1.out.up hG).c2))
      have lp := (X1.out.up hG).lt
      simp only [opW_def, mixT]; go_simp
      exact ⟨⟨.pointer (some ⟨b3, 0, none⟩), by first | rfl | simp [Act.put], Up.refl _, hG, (show resA W0.heap.size mb many til Ac nc cc Aw nw cw Al nl cl b3 s 6 _ _ from by first | (rw [resA_6]; exact rfl) | rw [resA_6])⟩⟩
    refine stepsT_op (by kernel_rfl) ?_ ?_
    · intro X w1 k1 hG hdep
      have e6 : resA W0.heap.size mb many til Ac nc cc Aw nw cw Al nl cl b3 s 6 (X 6) w1 := hdep 6 (by decide +kernel)
      rw [resA_6] at e6; obtain ⟨p0, p1, p2⟩ := And.intro ((X1.out.up hG).c0) (And.intro ((X1.out.up hG).c1) ((X1.out.up hG).c2))
      have lp := (X1.out.up hG).lt
      simp only [opW_def, mixT, e6]; go_simp
      exact ⟨⟨.slice Ac nc cc, by first | rfl | simp [Act.put], Up.refl _, hG, (show resA W0.heap.size mb many til Ac nc cc Aw nw cw Al nl cl b3 s 7 _ _ from by first | (rw [resA_7]; exact rfl) | rw [resA_7])⟩⟩
    refine stepsT_op (by kernel_rfl) ?_ ?_
    · intro X w1 k1 hG hdep
      have e7 : resA W0.heap.size mb many til Ac nc cc Aw nw cw Al nl cl b3 s 7 (X 7) w1 := hdep 7 (by decide +kernel)
      rw [resA_7] at e7
      have hlo := hG.size
      simp only [opW_def, mixT, e7]; go_simp
      exact ⟨⟨_, by first | rfl | simp [Act.put], (Up.refl _).alloc _, hG.alloc _, (show resA W0.heap.size mb many til Ac nc cc Aw nw cw Al nl cl b3 s 8 _ _ from by first | (rw [resA_8]; exact IsRow1.new w1 _ _ hlo) | rw [resA_8])⟩⟩
    refine stepsT_op (by kernel_rfl) ?_ ?_
    · intro X w1 k1 hG hdep
      have e8 : resA W0.heap.size mb many til Ac nc cc Aw nw cw Al nl cl b3 s 8 (X 8) w1 := hdep 8 (by decide +kernel)
      rw [resA_8] at e8; obtain ⟨gb, e8, lb, lt, cb⟩ := e8
      have hlo := hG.size
      simp only [opW_def, mixT, e8]; go_simp; refine (CC.out gb w1 lt cb (UW.out.trans hG)).mono ?_; rintro x w2 ⟨A9, c9, rfl, _, _, _, ho, u⟩
      exact ⟨⟨_, by first | rfl | simp [Act.put], u, hG.trans u, (show resA W0.heap.size mb many til Ac nc cc Aw nw cw Al nl cl b3 s 9 _ _ from by first | (rw [resA_9]; exact own_mono ho hlo) | rw [resA_9])⟩⟩
    refine stepsT_op (by kernel_rfl) ?_ ?_
    · intro X w1 k1 hG hdep
      obtain ⟨p0, p1, p2⟩ := And.intro ((X1.out.up hG).c0) (And.intro ((X1.out.up hG).c1) ((X1.out.up hG).c2))
      have lp := (X1.out.up hG).lt
      simp only [opW_def, mixT]; go_simp
      exact ⟨⟨.pointer (some ⟨b3, 1, none⟩), by first | rfl | simp [Act.put], Up.refl _, hG, (show resA W0.heap.size mb many til Ac nc cc Aw nw cw Al nl cl b3 s 10 _ _ from by first | (rw [resA_10]; exact rfl) | rw [resA_10])⟩⟩
    refine stepsT_op (by kernel_rfl) ?_ ?_
    · intro X w1 k1 hG hdep
      have e10 : resA W0.heap.size mb many til Ac nc cc Aw nw cw Al nl cl b3 s 10 (X 10) w1 := hdep 10 (by decide +kernel)
      rw [resA_10] at e10; obtain ⟨p0, p1, p2⟩ := And.intro ((X1.out.up hG).c0) (And.intro ((X1.out.up hG).c1) ((X1.out.up hG).c2))
      have lp := (X1.out.up hG).lt
      simp only [opW_def, mixT, e10]; go_simp
      exact ⟨⟨.slice Aw nw cw, by first | rfl | simp [Act.put], Up.refl _, hG, (show resA W0.heap.size mb many til Ac nc cc Aw nw cw Al nl cl b3 s 11 _ _ from by first | (rw [resA_11]; exact rfl) | rw [resA_11])⟩⟩
    refine stepsT_op (by kernel_rfl) ?_ ?_
    · intro X w1 k1 hG hdep
      have e11 : resA W0.heap.size mb many til Ac nc cc Aw nw cw Al nl cl b3 s 11 (X 11) w1 := hdep 11 (by decide +kernel)
      rw [resA_11] at e11
      have hlo := hG.size
      simp only [opW_def, mixT, e11]; go_simp
      exact ⟨⟨_, by first | rfl | simp [Act.put], (Up.refl _).alloc _, hG.alloc _, (show resA W0.heap.size mb many til Ac nc cc Aw nw cw Al nl cl b3 s 12 _ _ from by first | (rw [resA_12]; exact IsRow1.new w1 _ _ hlo) | rw [resA_12])⟩⟩
    refine stepsT_op (by kernel_rfl) ?_ ?_
    · intro X w1 k1 hG hdep
      have e12 : resA W0.heap.size mb many til Ac nc cc Aw nw cw Al nl cl b3 s 12 (X 12) w1 := hdep 12 (by decide +kernel)
      rw [resA_12] at e12; obtain ⟨gb, e12, lb, lt, cb⟩ := e12
      have hlo := hG.size
      simp only [opW_def, mixT, e12]; go_simp; refine (CW.out gb w1 lt cb (UW.out.trans hG)).mono ?_; rintro x w2 ⟨A9, c9, rfl, _, _, _, ho, u⟩
      exact ⟨⟨_, by first | rfl | simp [Act.put], u, hG.trans u, (show resA W0.heap.size mb many til Ac nc cc Aw nw cw Al nl cl b3 s 13 _ _ from by first | (rw [resA_13]; exact own_mono ho hlo) | rw [resA_13])⟩⟩
    refine stepsT_op (by kernel_rfl) ?_ ?_
    · intro X w1 k1 hG hdep
      obtain ⟨p0, p1, p2⟩ := And.intro ((X1.out.up hG).c0) (And.intro ((X1.out.up hG).c1) ((X1.out.up hG).c2))
      have lp := (X1.out.up hG).lt
      simp only [opW_def, mixT]; go_simp
      exact ⟨⟨.pointer (some ⟨b3, 2, none⟩), by first | rfl | simp [Act.put], Up.refl _, hG, (show resA W0.heap.size mb many til Ac nc cc Aw nw cw Al nl cl b3 s 14 _ _ from by first | (rw [resA_14]; exact rfl) | rw [resA_14])⟩⟩
    refine stepsT_op (by kernel_rfl) ?_ ?_
    · intro X w1 k1 hG hdep
      have e14 : resA W0.heap.size mb many til Ac nc cc Aw nw cw Al nl cl b3 s 14 (X 14) w1 := hdep 14 (by decide +kernel)
      rw [resA_14] at e14; obtain ⟨p0, p1, p2⟩ := And.intro ((X1.out.up hG).c0) (And.intro ((X1.out.up hG).c1) ((X1.out.up hG).c2))
      have lp := (X1.out.up hG).lt
      simp only [opW_def, mixT, e14]; go_simp
      exact ⟨⟨.slice Al nl cl, by first | rfl | simp [Act.put], Up.refl _, hG, (show resA W0.heap.size mb many til Ac nc cc Aw nw cw Al nl cl b3 s 15 _ _ from by first | (rw [resA_15]; exact rfl) | rw [resA_15])⟩⟩
    refine stepsT_op (by kernel_rfl) ?_ ?_
    · intro X w1 k1 hG hdep
      have e15 : resA W0.heap.size mb many til Ac nc cc Aw nw cw Al nl cl b3 s 15 (X 15) w1 := hdep 15 (by decide +kernel)
      rw [resA_15] at e15
      have hlo := hG.size
      simp only [opW_def, mixT, e15]; go_simp
      exact ⟨⟨_, by first | rfl | simp [Act.put], (Up.refl _).alloc _, hG.alloc _, (show resA W0.heap.size mb many til Ac nc cc Aw nw cw Al nl cl b3 s 16 _ _ from by first | (rw [resA_16]; exact IsRow1.new w1 _ _ hlo) | rw [resA_16])⟩⟩
    refine stepsT_op (by kernel_rfl) ?_ ?_
    · intro X w1 k1 hG hdep
      have e16 : resA W0.heap.size mb many til Ac nc cc Aw nw cw Al nl cl b3 s 16 (X 16) w1 := hdep 16 (by decide +kernel)
      rw [resA_16] at e16; obtain ⟨gb, e16, lb, lt, cb⟩ := e16
      have hlo := hG.size
      simp only [opW_def, mixT, e16]; go_simp; refine (CL.out gb w1 lt cb (UW.out.trans hG)).mono ?_; rintro x w2 ⟨A9, c9, rfl, _, _, _, ho, u⟩
      exact ⟨⟨_, by first | rfl | simp [Act.put], u, hG.trans u, (show resA W0.heap.size mb many til Ac nc cc Aw nw cw Al nl cl b3 s 17 _ _ from by first | (rw [resA_17]; exact own_mono ho hlo) | rw [resA_17])⟩⟩
    refine stepsT_op (by kernel_rfl) ?_ ?_
    · intro X w1 k1 hG hdep
      have e5 : resA W0.heap.size mb many til Ac nc cc Aw nw cw Al nl cl b3 s 5 (X 5) w1 := hdep 5 (by decide +kernel)
      rw [resA_5] at e5
      have e9 : resA W0.heap.size mb many til Ac nc cc Aw nw cw Al nl cl b3 s 9 (X 9) w1 := hdep 9 (by decide +kernel)
      rw [resA_9] at e9
      have e13 : resA W0.heap.size mb many til Ac nc cc Aw nw cw Al nl cl b3 s 13 (X 13) w1 := hdep 13 (by decide +kernel)
      rw [resA_13] at e13
      have e17 : resA W0.heap.size mb many til Ac nc cc Aw nw cw Al nl cl b3 s 17 (X 17) w1 := hdep 17 (by decide +kernel)
      rw [resA_17] at e17; obtain ⟨A9, c9, hX9, _, _⟩ := (own3_slice e9).2; rw [hX9] at e9; obtain ⟨A13, c13, hX13, _, _⟩ := (own_slice e13).2; rw [hX13] at e13; obtain ⟨A17, c17, hX17, _, _⟩ := (own7_slice e17).2; rw [hX17] at e17; simp only [opW_def, mixT, e5, hX9, hX13, hX17]; go_simp
      exact ⟨⟨_, by first | rfl | simp [Act.put], Up.refl _, hG, (show resA W0.heap.size mb many til Ac nc cc Aw nw cw Al nl cl b3 s 18 _ _ from by first | (rw [resA_18]; exact ⟨_, _, _, rfl, ⟨e9, e13, e17⟩⟩) | rw [resA_18])⟩⟩
    refine stepsT_op (by kernel_rfl) ?_ ?_
    · intro X w1 k1 hG hdep
      have e18 : resA W0.heap.size mb many til Ac nc cc Aw nw cw Al nl cl b3 s 18 (X 18) w1 := hdep 18 (by decide +kernel)
      rw [resA_18] at e18; obtain ⟨vc, vw, vl, e18, ha⟩ := e18
      have hlo := hG.size
      simp only [opW_def, mixT, e18]; go_simp
      exact ⟨⟨_, by first | rfl | simp [Act.put], (Up.refl _).alloc _, hG.alloc _, (show resA W0.heap.size mb many til Ac nc cc Aw nw cw Al nl cl b3 s 19 _ _ from by first | (rw [resA_19]; exact ⟨w1.heap.size, rfl, hlo, vc, vw, vl, heap_alloc_new w1 _, ha.up ((Up.refl _).alloc _)⟩) | rw [resA_19])⟩⟩
    exact trivial
  · intro h p _ hp
    cases hp
  · intro X w1 hG hR
    have e19 : resA W0.heap.size mb many til Ac nc cc Aw nw cw Al nl cl b3 s 19 (X 19) w1 := hR 14 (by omega)
    rw [resA_19] at e19; obtain ⟨p, e19, ha⟩ := e19; clear hR; simp only [mixT, e19]; refine mix_go rfl (by rfl) (fun K hK => ?_); go_simp; refine hK _ _ ?_; clear hK K; refine mix_nil ?_; obtain ⟨hlo, vc, vw, vl, h2, h3⟩ := ha
    have RES := Lib.hid (show Alone w.heap.size mb many til nc nw nl s p w1 from ⟨by omega, vc, vw, vl, h2, ⟨own_mono h3.c hs0, own_mono h3.q hs0, own_mono h3.l hs0⟩⟩)
    go_wp2; go_ret
    exact ⟨p, rfl, RES.out, UW.out.trans hG⟩
end Go.Proofs.YtlikekmhccnilaaGreat

namespace Go.Proofs.YtlikekmhccnilaaGreat
set_option maxRecDepth 100000
open Go.RowKit
theorem step_none (p : Nat) (Aw : Option Addr) (cw : Nat) (w : World) (_hlt : p < w.heap.size) (e4 : w.cell? ⟨p, 4, none⟩ = some (.slice Aw 0 cw)) :
    Calls Tryz.prog 63 #[.pointer (some ⟨p, 0, none⟩)] w fun x w' => x = .returned (.bool false) ∧ w' = w := by
  go_enter Tryz.func63, Tryz.ntmps63
  go_wp2; go_ret
  exact ⟨rfl, rfl⟩
theorem StO.mono {lo lo' nw c : Nat} {es fs : List Evt} {A : Option Addr} {w : World} (h : StO lo nw es fs A c w) (hl : lo' ≤ lo) : StO lo' nw fs fs A c w :=
  ⟨h.1, h.2.1, List.Perm.refl _, h.2.2.2.1, h.2.2.2.2.1, fun h0 => by
    obtain ⟨g, e, l, o⟩ := h.2.2.2.2.2 h0
    exact ⟨g, e, Nat.le_trans hl l, o⟩⟩
/-- A step further. -/
def StepV (m : Mdl) (s s' : Sq) (b : Bool) : Prop :=
  (s.wait = [] ∧ b = false ∧ s'.comps = s.comps ∧ s'.wait = [] ∧ s'.log = s.log) ∨ ∃ e r, s.wait = e :: r ∧ b = true ∧ s'.comps = s.comps.set e.to.toNat (doE m (s.comps.getD e.to.toNat default) e).1 ∧ s'.log = s.log ++ [⟨e, (doE m (s.comps.getD e.to.toNat default) e).1.s⟩] ∧
    s'.wait.Perm ((doE m (s.comps.getD e.to.toNat default) e).2 ++ r) ∧ s'.wait.Pairwise leE
/-- A simulator in rows of the call's own. -/
def SqO (lo nc nw nl : Nat) (s : Sq) (vc : Value) (A : Option Addr) (c : Nat) (vl : Value) (w : World) : Prop :=
  w.ownsRow lo 64 3 vc nc (flat3 s.comps) ∧ StO lo nw s.wait s.wait A c w ∧ w.ownsRow lo 132 7 vl nl (flat7 s.log) ∧
    ∀ g, 0 < nw → A = some ⟨g, 0, none⟩ → ∀ x, (vc.ownBlock = some x ∨ vl.ownBlock = some x) → x ≠ g
/-- The lists behind a step, the pending events in any order. -/
def RelS (m : Mdl) (s : Sq) (cs : List Cst) (es : List Evt) (ls : List Rec) (b : Bool) : Prop :=
  (s.wait = [] ∧ b = false ∧ cs = s.comps ∧ es = [] ∧ ls = s.log) ∨ ∃ e r, s.wait = e :: r ∧ b = true ∧ cs = s.comps.set e.to.toNat (doE m (s.comps.getD e.to.toNat default) e).1 ∧ ls = s.log ++ [⟨e, (doE m (s.comps.getD e.to.toNat default) e).1.s⟩] ∧
    es.Perm ((doE m (s.comps.getD e.to.toNat default) e).2 ++ r)
/-- What a step leaves, of any simulator. -/
def StepA (lo nc p : Nat) (m : Mdl) (s : Sq) (w0 : World) (x : Ending) (w' : World) : Prop :=
  ∃ bb cs es ls nw nl vc vw vl, x = .returned (.bool bb) ∧ Up w0 w' ∧ RelS m s cs es ls bb ∧ p < w'.heap.size ∧ w'.cell? ⟨p, 3, none⟩ = some vc ∧ w'.cell? ⟨p, 4, none⟩ = some vw ∧ w'.cell? ⟨p, 5, none⟩ = some vl ∧
    w'.ownsRow lo 64 3 vc nc (flat3 cs) ∧ w'.ownsRow lo 130 6 vw nw (flat es) ∧ w'.ownsRow lo 132 7 vl nl (flat7 ls) ∧ nw ≤ 1100000
theorem stepA_any (b : Nat) (many : Int) (nc nw nl p : Nat) (m : Mdl) (s : Sq) (w3 w4 : World) (hA : Alone w3.heap.size b many m.til nc nw nl s p w4) (hU : Up w3 w4) (hM : Mach w3 b m) (hm : mdlB m = true) (hF : fitB m.rules.length m.til nc s = true)
    (hL : s.comps.length = nc ∧ s.wait.length = nw ∧ s.log.length = nl) (hn : nw ≤ 1049000) (hl : nl ≤ 1100000) :
    Calls Tryz.prog 63 #[.pointer (some ⟨p, 0, none⟩)] w4 (StepA w3.heap.size nc p m s w3) := by
  rcases hw : s.wait with _ | ⟨e, r⟩
  · have h0 : nw = 0 := by rw [← hL.2.1, hw]; rfl
    subst h0; obtain ⟨-, vc, vw, vl, hb, ⟨oc, ow, ol⟩⟩ := hA; obtain ⟨Aw, cw, rfl, -, -⟩ := (own_slice ow).2
    have hlt := (Array.getElem?_eq_some_iff.1 hb).1
    have e4 : w4.cell? ⟨p, 4, none⟩ = some (.slice Aw 0 cw) := by rw [cell_of_row _ _ 4 _ _ _ hb]; rfl
    refine (step_none p Aw cw w4 hlt e4).mono ?_; rintro x w5 ⟨rfl, rfl⟩
    exact ⟨false, _, _, _, 0, nl, vc, _, vl, rfl, hU, .inl ⟨hw, rfl, rfl, hw, rfl⟩, hlt, by rw [cell_of_row _ _ 3 _ _ _ hb]; rfl, e4, by rw [cell_of_row _ _ 5 _ _ _ hb]; rfl, oc, ow, ol, by omega⟩
  · have h1 : nw = r.length + 1 := by rw [← hL.2.1, hw]; rfl
    subst h1
    have hh := rise_heap s.wait (fit_wait hF)
    rw [hL.2.1] at hh; obtain ⟨vc, vl, g, c, hs⟩ := hA.sim (by omega) hh; obtain ⟨hto, hok⟩ := fit_first hm hF hL.1 hw
    have hd := doE_len (c := s.comps.getD e.to.toNat default) (e := e) hm
    refine (step_any w3.heap.size b many nc nl s.comps s.log p vc vl g r.length c _ m e w3 w4 hs hU (Nat.le_refl _) hM (by simp [hw]) hto hok (by omega) (by omega) (by omega)).mono ?_; rintro x w5 ⟨rfl, u5, R, vc5, vl5, g5, c5, F, hp1, hp2, h5⟩
    have hR : R.Perm r := by
      have e1 := range_getD s.wait
      rw [hL.2.1] at e1; rw [e1, hw] at hp1
      exact List.Perm.cons_inv hp1
    exact ⟨true, _, _, _, _, nl + 1, vc5, _, vl5, rfl, u5, .inr ⟨e, r, hw, rfl, rfl, rfl, hp2.trans (hR.append_left _)⟩, h5.pl, h5.c3, h5.c4, h5.c5, h5.rc, h5.hp.own, h5.rl, by omega⟩
def ISPost (m : Mdl) (n nc : Nat) (s : Sq) (w : World) (x : Ending) (w' : World) : Prop :=
  Up w w' ∧ ((sqS m n nc s = false ∧ x = .returned (.tuple #[.agg #[.slice none 0 0, .slice none 0 0, .slice none 0 0], .bool false])) ∨
    (sqS m n nc s = true ∧ ∃ s' b nw nl vc A c vl, StepV m s s' b ∧ x = .returned (.tuple #[.agg #[vc, .slice A nw c, vl], .bool b]) ∧ SqO w.heap.size nc nw nl s' vc A c vl w'))
set_option maxHeartbeats 8000000 in
theorem implSeqStep_any (A : Option Addr) (n c : Nat) (B : Option Addr) (k d : Nat) (m : Mdl) (Ac : Option Addr) (nc cc : Nat) (Aw : Option Addr) (nw cw : Nat) (Al : Option Addr) (nl cl : Nat) (s : Sq) (w : World) (hM : MdlV w A n B k m) (hS : ShortSq nc nw nl) (hn : nw ≤ 1049000) (hV : SqV w Ac nc Aw nw Al nl s) :
    Calls Tryz.prog 16 #[.agg #[.slice A n c, .slice B k d, .int .i64 m.til], .agg #[.slice Ac nc cc, .slice Aw nw cw, .slice Al nl cl]] w (ISPost m n nc s w) := by
  have RB := Lib.hid (show sqS m n nc s = (mdlB m && fitB m.rules.length m.til nc s) by rw [hM.rules.1]; exact sqS_fit m n nc s)
  have CM := Lib.hid (fun W (u : Up w W) => newMachine_any A n c B k d m W (hM.up u))
  have CF := Lib.hid (fun mp W (u : Up w W) => fits_any mp m.rules.length m.til Ac nc cc Aw nw cw Al nl cl s W hS (hV.up u))
  have CR := Lib.hid (fun b W (u : Up w W) => resume_any b m.rules.length m.til Ac nc cc Aw nw cw Al nl cl s W (by obtain ⟨h1, h2, h3⟩ := hS; omega) (hV.comps.up u) (hV.wait.up u) (hV.log.up u))
  have HL := Lib.hid (And.intro hV.comps.1 (And.intro hV.wait.1 hV.log.1))
  have HSZ := Lib.hid (And.intro hn hS)
  have B1 := Box3.new (w.alloc (.cells #[.slice A n c, .slice B k d, .int .i64 m.til] 41)) (.slice Ac nc cc) (.slice Aw nw cw) (.slice Al nl cl) 36
  have B2 := BoxF.new ((w.alloc (.cells #[.slice A n c, .slice B k d, .int .i64 m.til] 41)).alloc (.cells #[.slice Ac nc cc, .slice Aw nw cw, .slice Al nl cl] 36)) (.slice none 0 0) (.slice none 0 0) (.slice none 0 0) 36
  simp only [World.size_alloc] at B1 B2
  have U0 := Lib.hid ((((Up.refl w).alloc (.cells #[.slice A n c, .slice B k d, .int .i64 m.til] 41)).alloc (.cells #[.slice Ac nc cc, .slice Aw nw cw, .slice Al nl cl] 36)).alloc (.cells #[.slice none 0 0, .slice none 0 0, .slice none 0 0] 36))
  have B1 := Lib.hid (B1.up ((Up.refl _).alloc (.cells #[.slice none 0 0, .slice none 0 0, .slice none 0 0] 36)))
  have B2 := Lib.hid B2
  clear hM hV hS hn; unfold MachPost at CM
  go_enter Tryz.func16, Tryz.ntmps16
  go_wp2_with fail
  generalize ((w.alloc (.cells #[.slice A n c, .slice B k d, .int .i64 m.til] 41)).alloc (.cells #[.slice Ac nc cc, .slice Aw nw cw, .slice Al nl cl] 36)).alloc (.cells #[.slice none 0 0, .slice none 0 0, .slice none 0 0] 36) = W at *
  generalize hb1 : w.heap.size + 1 = b1 at *
  generalize hb2 : b1 + 1 = b2 at *
  have HB2 := Lib.hid (show w.heap.size ≤ b2 by omega)
  clear hb1 hb2; refine (CM.out _ U0.out).mono ?_; rintro x w1 ⟨u1, h⟩
  have U1 := Lib.hid (U0.out.trans u1)
  have B1 := Lib.hid (B1.out.up u1)
  have B2 := Lib.hid (B2.out.up u1)
  clear u1 CM
  rcases h with ⟨hm, rfl⟩ | ⟨hm, b, rfl, hbl, hmach⟩
  · have RT := Lib.hid (show sqS m n nc s = false by rw [RB.out, hm]; rfl)
    have ua := (Up.refl w1).alloc (.cells #[.map none, .int .i64 0, .int .i64 0] 113)
    have B2 := Lib.hid (B2.out.up ua)
    have U1 := Lib.hid (U1.out.trans ua)
    obtain ⟨q0, q1, q2⟩ := And.intro B2.out.k.c0 (And.intro B2.out.k.c1 B2.out.k.c2)
    have bl := B2.out.k.lt
    have bf := B2.out.f
    have LB := B2.out.laid (.slice none 0 0) (.slice none 0 0) (.slice none 0 0)
    obtain ⟨k0, k1, k2⟩ := And.intro LB.c0 (And.intro LB.c1 LB.c2)
    have UE := Lib.hid (((U1.out.setCell (p := ⟨b2, 0, none⟩) HB2.out (.slice none 0 0)).setCell (p := ⟨b2, 1, none⟩) HB2.out (.slice none 0 0)).setCell (p := ⟨b2, 2, none⟩) HB2.out (.slice none 0 0))
    clear hm RB ua LB; go_wp2
    exact bodyPost_ret (v := .tuple #[.agg #[.slice none 0 0, .slice none 0 0, .slice none 0 0], .bool false]) (by simp [results, Tryz.results16, go_sem, k0, k1, k2]) rfl ⟨UE.out, .inl ⟨RT.out, rfl⟩⟩
  · have RT := Lib.hid (show sqS m n nc s = fitB m.rules.length m.til nc s by rw [RB.out, hm]; rfl)
    have HM := Lib.hid hm
    have ua := (Up.refl w1).alloc (.cells #[.map (some b), .int .i64 m.rules.length, .int .i64 m.til] 113)
    have HC := Lib.hid (hmach.up ua)
    have B1 := Lib.hid (B1.out.up ua)
    have B2 := Lib.hid (B2.out.up ua)
    have U1 := Lib.hid (U1.out.trans ua)
    have BK := Lib.hid (Box3.new w1 (.map (some b)) (.int .i64 m.rules.length) (.int .i64 m.til) 113)
    obtain ⟨p0, p1, p2⟩ := And.intro B1.out.c0 (And.intro B1.out.c1 B1.out.c2); clear hm RB ua hmach hbl
    go_wp2_with fail
    generalize hw2 : w1.alloc (.cells #[.map (some b), .int .i64 m.rules.length, .int .i64 m.til] 113) = w2 at *
    generalize hb6 : w1.heap.size = b6 at *
    clear hw2 hb6 p0 p1 p2; refine (CF.out (some b) _ U1.out).mono ?_; rintro x w3 ⟨rfl, u2⟩
    have B1 := Lib.hid (B1.out.up u2)
    have B2 := Lib.hid (B2.out.up u2)
    have BK := Lib.hid (BK.out.up u2)
    have HC := Lib.hid (HC.out.up u2)
    have U1 := Lib.hid (U1.out.trans u2)
    clear u2 CF
    cases hfit : fitB m.rules.length m.til nc s
    · have RT := Lib.hid (RT.out.trans hfit)
      obtain ⟨q0, q1, q2⟩ := And.intro B2.out.k.c0 (And.intro B2.out.k.c1 B2.out.k.c2)
      have bl := B2.out.k.lt
      have bf := B2.out.f
      have LB := B2.out.laid (.slice none 0 0) (.slice none 0 0) (.slice none 0 0)
      obtain ⟨k0, k1, k2⟩ := And.intro LB.c0 (And.intro LB.c1 LB.c2)
      have UE := Lib.hid (((U1.out.setCell (p := ⟨b2, 0, none⟩) HB2.out (.slice none 0 0)).setCell (p := ⟨b2, 1, none⟩) HB2.out (.slice none 0 0)).setCell (p := ⟨b2, 2, none⟩) HB2.out (.slice none 0 0))
      clear hfit LB; go_wp2
      exact bodyPost_ret (v := .tuple #[.agg #[.slice none 0 0, .slice none 0 0, .slice none 0 0], .bool false]) (by simp [results, Tryz.results16, go_sem, k0, k1, k2]) rfl ⟨UE.out, .inl ⟨RT.out, rfl⟩⟩
    · have RT := Lib.hid (RT.out.trans hfit)
      have FT := Lib.hid hfit
      clear hfit; obtain ⟨p0, p1, p2⟩ := And.intro B1.out.c0 (And.intro B1.out.c1 B1.out.c2); obtain ⟨z0, z1, z2⟩ := And.intro BK.out.c0 (And.intro BK.out.c1 BK.out.c2)
      have l1 := B1.out.lt
      have l6 := BK.out.lt
      have BLT := Lib.hid (And.intro B2.out.k.lt U1.out.size)
      go_wp2_with fail
      refine (CR.out b _ U1.out).mono ?_; rintro x w4 ⟨p, rfl, hal, u4⟩
      have AL := Lib.hid hal
      have U4 := Lib.hid u4
      clear hal u4 p0 p1 p2 z0 z1 z2 l1 l6 CR
      have ST := Lib.hid (stepA_any b m.rules.length nc nw nl p m s w3 w4 AL.out U4.out HC.out HM.out FT.out HL.out HSZ.out.1 (by obtain ⟨_, h1, h2, h3⟩ := HSZ.out; omega))
      unfold StepA at ST; clear AL
      go_wp2_with fail
      refine ST.out.mono ?_; rintro x w5 ⟨bb, cs, es, ls, nw', nl', vc, vw, vl, rfl, u5, rel, hlt, e3, e4, e5, oc, ow, ol, hnw⟩
      have REL := Lib.hid rel
      have B2 := Lib.hid (B2.out.up u5)
      have U5 := Lib.hid (U1.out.trans u5)
      have LO := Lib.hid u5.size
      obtain ⟨Ac5, cc5, rfl, -, -⟩ := (own3_slice oc).2; obtain ⟨Al5, cl5, rfl, -, -⟩ := (own7_slice ol).2
      have SA := Lib.hid (state_any p w3.heap.size nc nw' nl' cs es ls _ vw _ w5 hlt e3 e4 e5 oc ow ol hnw)
      have OC := Lib.hid oc
      have OL := Lib.hid ol
      clear u5 rel hlt e3 e4 e5 oc ow ol hnw ST
      go_wp2_with fail
      refine SA.out.mono ?_; rintro x w6 ⟨fs, A6, c6, rfl, h6, u6⟩
      have GC := own_ge OC.out
      have GL := own_ge OL.out
      have APX : ∀ g, 0 < nw' → A6 = some ⟨g, 0, none⟩ → ∀ x, ((Value.slice Ac5 nc cc5).ownBlock = some x ∨ (Value.slice Al5 nl' cl5).ownBlock = some x) → x ≠ g := fun g h0 hA x hx => by
        obtain ⟨g9, e, l, o⟩ := h6.2.2.2.2.2 h0; rw [hA] at e
        injection e with e
        injection e with e _ _
        rcases hx with hx | hx
        · have := GC x hx
          omega
        · have := GL x hx
          omega
      have B2 := Lib.hid (B2.out.up u6)
      have U6 := U5.out.trans u6
      have OC := own_up OC.out u6
      have OL := own_up OL.out u6
      obtain ⟨q0, q1, q2⟩ := And.intro B2.out.k.c0 (And.intro B2.out.k.c1 B2.out.k.c2)
      have bl := B2.out.k.lt
      have bf := B2.out.f
      have LB := B2.out.laid (.slice Ac5 nc cc5) (.slice A6 nw' c6) (.slice Al5 nl' cl5)
      obtain ⟨k0, k1, k2⟩ := And.intro LB.c0 (And.intro LB.c1 LB.c2)
      have UE := Lib.hid (((U6.setCell (p := ⟨b2, 0, none⟩) HB2.out (.slice Ac5 nc cc5)).setCell (p := ⟨b2, 1, none⟩) HB2.out (.slice A6 nw' c6)).setCell (p := ⟨b2, 2, none⟩) HB2.out (.slice Al5 nl' cl5))
      have MX := ((((Up.refl w6).mv b2).setCell (o := 0) (.slice Ac5 nc cc5)).setCell (o := 1) (.slice A6 nw' c6) |>.setCell (o := 2) (.slice Al5 nl' cl5))
      have SV := Lib.hid (show StepV m s ⟨cs, fs, ls⟩ bb from by
        rcases REL.out with ⟨r0, r1, r2, r3, r4⟩ | ⟨e, r, r0, r1, r2, r3, r4⟩
        · refine .inl ⟨r0, r1, r2, ?_, r4⟩
          have := h6.2.2.1
          rw [r3] at this
          exact this.eq_nil
        · exact .inr ⟨e, r, r0, r1, r2, r3, h6.2.2.1.trans r4, h6.2.2.2.1⟩)
      have SO := Lib.hid (show SqO w.heap.size nc nw' nl' ⟨cs, fs, ls⟩ (.slice Ac5 nc cc5) A6 c6 (.slice Al5 nl' cl5) (((w6.setCell ⟨b2, 0, none⟩ (.slice Ac5 nc cc5)).setCell ⟨b2, 1, none⟩ (.slice A6 nw' c6)).setCell ⟨b2, 2, none⟩ (.slice Al5 nl' cl5)) from
        ⟨own_mono (own_keep OC (fun x hx hl => MX.block x hl (by have := own_ge OC x hx; have := BLT.out; omega))) BLT.out.2,
         (StO.mv (lo := w5.heap.size) (lo' := w.heap.size) h6 MX ⟨HB2.out, by have := BLT.out; have := LO.out; omega⟩).mono (Nat.le_refl _),
         own_mono (own_keep OL (fun x hx hl => MX.block x hl (by have := own_ge OL x hx; have := BLT.out; omega))) BLT.out.2, APX⟩)
      clear SA LB MX OC OL U6 u6 h6 GC GL APX; go_wp2
      exact bodyPost_ret (v := .tuple #[.agg #[.slice Ac5 nc cc5, .slice A6 nw' c6, .slice Al5 nl' cl5], .bool bb]) (by simp [results, Tryz.results16, go_sem, k0, k1, k2]) rfl ⟨UE.out, .inr ⟨RT.out, ⟨cs, fs, ls⟩, bb, nw', nl', _, A6, c6, _, SV.out, rfl, SO.out⟩⟩
end Go.Proofs.YtlikekmhccnilaaGreat

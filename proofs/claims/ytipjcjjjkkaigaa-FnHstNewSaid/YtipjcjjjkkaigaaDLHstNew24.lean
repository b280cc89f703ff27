/-
  What FnHstNew returns, in one sentence: true, with new blocks alone; for every code.
  For every code the law FnHstNew returns true and leaves its argument as it was; no condition.
-/
import Derived.Test.YtipjcjjjkkaigaaDLHstNew01
import Derived.Test.YtipjcjjjkkaigaaDLHstNew14
import Derived.Test.YtipjcjjjkkaigaaDLHstNew15
import Derived.Test.YtipjcjjjkkaigaaDLHstNew21
import Derived.Test.YtipjcjjjkkaigaaDLHstNew22
import Derived.Test.YtipjcjjjkkaigaaDLHstNew23
import Derived.Test.YtipjcjjjkkaigaaRows
namespace Go.Proofs.Ytipjcjjjkkaigaa
set_option maxRecDepth 100000
open Go.RowKit
theorem HsRes.val {lo : Nat} {m : Mdl} {comp : Int} {v : Value} {w : World} (h : HsRes lo m comp v w) :
    ∃ Aw cw, v = .agg #[.int .i64 0, .int .i64 0, .int .i64 0, .int .i64 0, .slice none 0 0, .slice Aw (hs0 m comp).length cw, .slice none 0 0, .slice none 0 0] ∧ Recs w Aw (hs0 m comp).length (hs0 m comp) := by
  obtain ⟨A, c, hv, _, _, ho⟩ := h
  exact ⟨A, c, hv, own7_recs ho⟩
/-- The item of an event stands behind those of the events before it. -/
theorem wtk_at {es : List Evt} {comp : Int} {q : Nat} (hq : q < es.length) (h : (es.getD q default).to = comp) : (wtk es comp q).length < (wtk es comp es.length).length ∧ (wtk es comp es.length).getD (wtk es comp q).length default = ⟨es.getD q default, 0⟩ := by
  have e1 : wtk es comp es.length = wtk es comp q ++ (⟨es.getD q default, 0⟩ : Rec) :: ((es.drop (q + 1)).filter (fun e => decide (e.to = comp))).map (fun e => (⟨e, 0⟩ : Rec)) := by
    unfold wtk; rw [List.take_of_length_le (Nat.le_refl _)]
    have e2 : es = es.take q ++ (es.getD q default :: es.drop (q + 1)) := by
      have e3 : es.drop q = es.getD q default :: es.drop (q + 1) := by
        rw [List.drop_eq_getElem_cons hq]; simp [List.getD, hq]
      rw [← e3, List.take_append_drop]
    conv => lhs; rw [e2]
    rw [List.filter_append, List.map_append, List.filter_cons_of_pos (by simpa using h), List.map_cons]
  rw [e1]
  exact ⟨by simp, by simp [List.getD]⟩
set_option maxHeartbeats 8000000 in
theorem walkHstNew {w : World} (A : Option Addr) (n cap : Nat) (hc : n ≤ cap) (hmax : cap ≤ 9223372036854775807) (hB : Bys w A n w.heap.size) :
    Calls Try.prog 4 #[.slice A n cap] w fun x w' => x = .returned (.bool true) ∧ Up w w' := by
  have HB := Lib.hid hB
  clear hB
  by_cases h : 1048576 < n
  · have h' : (1048576 : Int) < n := by omega
    go_enter Try.func4, Try.ntmps4
    go_wp2; go_ret
    exact ⟨rfl, Up.refl _⟩
  · have h' : ¬ (1048576 : Int) < n := by omega
    go_enter Try.func4, Try.ntmps4
    go_wp2_with fail
    refine (drawHsn_any A n cap _ hc hmax HB.out).mono ?_; rintro x w1 ⟨A, n, c, B, k, d, m, comp, rfl, MV, ⟨hn, hnc, hcm⟩, ⟨hz0, hz1⟩, u1⟩
    have MV1 := Lib.hid MV
    have HS := Lib.hid MV.starts
    have CI := Lib.hid (fun W (u : Up w1 W) => implHsNew_any A n c B k d m comp W (MV.up u))
    have CP := Lib.hid (fun W (u : Up w1 W) => (specHsNew_any A n c B k d m comp W (MV.up u)).mono (fun x w' h => (show ∃ Aw cw, x = .returned (.agg #[.int .i64 0, .int .i64 0, .int .i64 0, .int .i64 0, .slice none 0 0, .slice Aw (hs0 m comp).length cw, .slice none 0 0, .slice none 0 0]) ∧ Recs w' Aw (hs0 m comp).length (hs0 m comp) ∧ Up W w' from by
      obtain ⟨v, rfl, hr, u⟩ := h; obtain ⟨Aw, cw, rfl, hv⟩ := hr.val
      exact ⟨Aw, cw, rfl, hv, u⟩)))
    have CM := Lib.hid (fun W (u : Up w1 W) => specMdl_any A n c B k d m W (MV.up u))
    have FEW := hs0_few m comp
    have VAL := Lib.hid (fun lo v W (h : HsRes lo m comp v W) => h.val)
    have SIN := Lib.hid (fun (h : mdlB m = true) => hs0_in (comp := comp) h)
    have SOUT := Lib.hid (fun (h : mdlB m = false) => hs0_out (comp := comp) h)
    have FAR := Lib.hid (fun (h : comp < 0 ∨ (n : Int) ≤ comp) => hs0_far (m := m) (comp := comp) (by
      rw [MV.rules.1]
      cases hh : inB comp 0 ((n : Int) - 1) with
      | false => rfl
      | true => rw [inB_iff] at hh; omega))
    have CO := Lib.hid (fun Aw nw cw W (u : Up w1 W) (hm : mdlB m = true) (h1 : 0 ≤ comp) (h2 : comp < n) (hnw : nw ≤ 6) (hE : Recs W Aw nw (hs0 m comp)) => implHsOk_no A n c B k d m comp Aw nw cw W (MV.up u) hm (inB_iff.2 (by omega)) (by omega) hE)
    generalize hs0 m comp = s at CI CP FEW VAL SIN SOUT FAR CO
    generalize hlw : s.length = nw at CP FEW VAL
    have CT := Lib.hid (fun Aw cw Bw dw W (h : Recs W Aw nw s) (h' : Recs W Bw nw s) => tbHs_same Aw nw cw Bw dw s W (by omega) h h')
    have LW := Lib.hid hlw
    clear hlw
    have B3 := Lib.hid (Blk.new w1 #[.slice A n c, .slice B k d, .int .i64 m.til] 38)
    have U3 := Lib.hid ((Up.refl w1).alloc (.cells #[.slice A n c, .slice B k d, .int .i64 m.til] 38))
    clear MV
    go_wp2_with fail
    generalize w1.alloc (.cells #[.slice A n c, .slice B k d, .int .i64 m.til] 38) = W3 at *
    generalize hb3 : w1.heap.size = b3 at *
    clear hb3; refine (CI.out _ U3.out).mono ?_; rintro x w4 ⟨v, rfl, hres, u4⟩; obtain ⟨Aw, cw, rfl, VI⟩ := VAL.out _ _ _ hres
    have U5 := Lib.hid ((U3.out.trans u4).alloc (.cells #[.int .i64 0, .int .i64 0, .int .i64 0, .int .i64 0, .slice none 0 0, .slice Aw nw cw, .slice none 0 0, .slice none 0 0] 33))
    have V5 := Lib.hid (VI.up ((Up.refl w4).alloc (.cells #[.int .i64 0, .int .i64 0, .int .i64 0, .int .i64 0, .slice none 0 0, .slice Aw nw cw, .slice none 0 0, .slice none 0 0] 33)))
    have B5 := Lib.hid (Blk.new w4 #[.int .i64 0, .int .i64 0, .int .i64 0, .int .i64 0, .slice none 0 0, .slice Aw nw cw, .slice none 0 0, .slice none 0 0] 33)
    replace B3 := Lib.hid ((B3.out.up u4).alloc (.cells #[.int .i64 0, .int .i64 0, .int .i64 0, .int .i64 0, .slice none 0 0, .slice Aw nw cw, .slice none 0 0, .slice none 0 0] 33))
    clear u4 VI U3 hres VAL CI
    go_wp2_with fail
    generalize w4.alloc (.cells #[.int .i64 0, .int .i64 0, .int .i64 0, .int .i64 0, .slice none 0 0, .slice Aw nw cw, .slice none 0 0, .slice none 0 0] 33) = W5 at *
    generalize hb5 : w4.heap.size = b5 at *
    clear hb5; refine region_mixH (fun w' => Up W5 w') [(0, true), (1, true), (2, true), (3, false), (4, false), (5, true)] (by kernel_rfl) (by kernel_rfl) (Up.refl _).drew ?_; refine mixH_take rfl (by rfl) ?_; apply Exists.intro; refine ⟨fun w1 hS1 => ?_, ?_⟩
    · obtain ⟨m0, m1, m2⟩ := And.intro ((B3.out.up hS1).cell (j := 0) rfl) (And.intro ((B3.out.up hS1).cell (j := 1) rfl) ((B3.out.up hS1).cell (j := 2) rfl))
      have h0 := (B5.out.up hS1).cell (j := 0) rfl
      have h1 := (B5.out.up hS1).cell (j := 1) rfl
      have h2 := (B5.out.up hS1).cell (j := 2) rfl
      have h3 := (B5.out.up hS1).cell (j := 3) rfl
      have h4 := (B5.out.up hS1).cell (j := 4) rfl
      have h5 := (B5.out.up hS1).cell (j := 5) rfl
      have h6 := (B5.out.up hS1).cell (j := 6) rfl
      have h7 := (B5.out.up hS1).cell (j := 7) rfl
      have l3_ := (B3.out.up hS1).lt
      have l5_ := (B5.out.up hS1).lt
      clear hS1; go_simp
      try rfl
    go_simp; refine mixH_take rfl (by rfl) ?_; apply Exists.intro; refine ⟨fun w1 hS1 => ?_, ?_⟩
    · obtain ⟨m0, m1, m2⟩ := And.intro ((B3.out.up hS1).cell (j := 0) rfl) (And.intro ((B3.out.up hS1).cell (j := 1) rfl) ((B3.out.up hS1).cell (j := 2) rfl))
      have h0 := (B5.out.up hS1).cell (j := 0) rfl
      have h1 := (B5.out.up hS1).cell (j := 1) rfl
      have h2 := (B5.out.up hS1).cell (j := 2) rfl
      have h3 := (B5.out.up hS1).cell (j := 3) rfl
      have h4 := (B5.out.up hS1).cell (j := 4) rfl
      have h5 := (B5.out.up hS1).cell (j := 5) rfl
      have h6 := (B5.out.up hS1).cell (j := 6) rfl
      have h7 := (B5.out.up hS1).cell (j := 7) rfl
      have l3_ := (B3.out.up hS1).lt
      have l5_ := (B5.out.up hS1).lt
      clear hS1; go_simp
      try rfl
    go_simp; refine mixH_take rfl (by rfl) ?_; apply Exists.intro; refine ⟨fun w1 hS1 => ?_, ?_⟩
    · clear hS1
      go_simp
      try rfl
    go_simp; refine mixH_go rfl (by rfl) (fun K hK => ?_); go_simp; refine (CP.out _ (U5.out.trans (Up.refl _).drew)).mono ?_; rintro z wA ⟨Bw, dw, rfl, VA, uA⟩; refine hK _ _ ((Up.refl _).drew.trans uA) ?_; clear hK K; go_simp; refine mixH_go rfl (by rfl) (fun K hK => ?_); go_simp; refine (CT.out Aw cw Bw dw _ (V5.out.up ((Up.refl _).drew.trans uA)) VA).mono ?_; rintro z wB ⟨rfl, uB⟩; refine hK _ _ (((Up.refl _).drew.trans uA).trans uB) ?_; clear hK K; go_simp; refine mixH_take rfl (by rfl) ?_; apply Exists.intro; refine ⟨fun w1 hS1 => ?_, ?_⟩
    · clear hS1
      go_simp
      try rfl
    go_simp; refine mixH_nil ?_
    replace U5 := Lib.hid (U5.out.trans (((Up.refl _).drew.trans uA).trans uB))
    replace B3 := Lib.hid (B3.out.up (((Up.refl _).drew.trans uA).trans uB))
    replace B5 := Lib.hid (B5.out.up (((Up.refl _).drew.trans uA).trans uB))
    replace V5 := Lib.hid (V5.out.up (((Up.refl _).drew.trans uA).trans uB))
    clear VA uA uB CP CT; obtain ⟨m0, m1, m2⟩ := And.intro ((B3.out.up (Up.refl _)).cell (j := 0) rfl) (And.intro ((B3.out.up (Up.refl _)).cell (j := 1) rfl) ((B3.out.up (Up.refl _)).cell (j := 2) rfl))
    have l3_ := (B3.out.up (Up.refl _)).lt
    generalize hmb : mdlB m = mb at CM
    have HMB := Lib.hid hmb
    clear hmb
    go_wp2_with fail
    refine (CM.out _ U5.out).mono ?_; rintro x w6 ⟨rfl, u6⟩
    replace U5 := Lib.hid (U5.out.trans u6)
    replace B3 := Lib.hid (B3.out.up u6)
    replace B5 := Lib.hid (B5.out.up u6)
    replace V5 := Lib.hid (V5.out.up u6)
    clear u6 CM; clear m0 m1 m2 l3_
    cases mb
    · have EMP := Lib.hid (SOUT.out HMB.out)
      have e0 : nw = 0 := by rw [← LW.out, EMP.out]; rfl
      subst e0
      have h0 := (B5.out.up (Up.refl w6)).cell (j := 0) rfl
      have h1 := (B5.out.up (Up.refl w6)).cell (j := 1) rfl
      have h2 := (B5.out.up (Up.refl w6)).cell (j := 2) rfl
      have h3 := (B5.out.up (Up.refl w6)).cell (j := 3) rfl
      have h4 := (B5.out.up (Up.refl w6)).cell (j := 4) rfl
      have h5 := (B5.out.up (Up.refl w6)).cell (j := 5) rfl
      have h6 := (B5.out.up (Up.refl w6)).cell (j := 6) rfl
      have h7 := (B5.out.up (Up.refl w6)).cell (j := 7) rfl
      have l5_ := (B5.out.up (Up.refl w6)).lt
      go_wp2_with fail
      clear h0 h1 h2 h3 h4 h5 h6 h7 l5_; refine (tbOk_any _).mono ?_; rintro x w9 ⟨rfl, u9⟩; go_wp2; go_ret
      exact ⟨rfl, u1.trans (U5.out.trans u9)⟩
    · by_cases hc0 : comp < 0
      · have EMP := Lib.hid (FAR.out (.inl hc0))
        have e0 : nw = 0 := by rw [← LW.out, EMP.out]; rfl
        subst e0
        have h0 := (B5.out.up (Up.refl w6)).cell (j := 0) rfl
        have h1 := (B5.out.up (Up.refl w6)).cell (j := 1) rfl
        have h2 := (B5.out.up (Up.refl w6)).cell (j := 2) rfl
        have h3 := (B5.out.up (Up.refl w6)).cell (j := 3) rfl
        have h4 := (B5.out.up (Up.refl w6)).cell (j := 4) rfl
        have h5 := (B5.out.up (Up.refl w6)).cell (j := 5) rfl
        have h6 := (B5.out.up (Up.refl w6)).cell (j := 6) rfl
        have h7 := (B5.out.up (Up.refl w6)).cell (j := 7) rfl
        have l5_ := (B5.out.up (Up.refl w6)).lt
        go_wp2_with fail
        clear h0 h1 h2 h3 h4 h5 h6 h7 l5_; refine (tbOk_any _).mono ?_; rintro x w9 ⟨rfl, u9⟩; go_wp2; go_ret
        exact ⟨rfl, u1.trans (U5.out.trans u9)⟩
      · by_cases hc1 : (n : Int) ≤ comp
        · have EMP := Lib.hid (FAR.out (.inr hc1))
          obtain ⟨m0, m1, m2⟩ := And.intro ((B3.out.up (Up.refl w6)).cell (j := 0) rfl) (And.intro ((B3.out.up (Up.refl w6)).cell (j := 1) rfl) ((B3.out.up (Up.refl w6)).cell (j := 2) rfl))
          have l3_ := (B3.out.up (Up.refl w6)).lt
          have e0 : nw = 0 := by rw [← LW.out, EMP.out]; rfl
          subst e0
          have h0 := (B5.out.up (Up.refl w6)).cell (j := 0) rfl
          have h1 := (B5.out.up (Up.refl w6)).cell (j := 1) rfl
          have h2 := (B5.out.up (Up.refl w6)).cell (j := 2) rfl
          have h3 := (B5.out.up (Up.refl w6)).cell (j := 3) rfl
          have h4 := (B5.out.up (Up.refl w6)).cell (j := 4) rfl
          have h5 := (B5.out.up (Up.refl w6)).cell (j := 5) rfl
          have h6 := (B5.out.up (Up.refl w6)).cell (j := 6) rfl
          have h7 := (B5.out.up (Up.refl w6)).cell (j := 7) rfl
          have l5_ := (B5.out.up (Up.refl w6)).lt
          go_wp2_with fail
          clear h0 h1 h2 h3 h4 h5 h6 h7 l5_; refine (tbOk_any _).mono ?_; rintro x w9 ⟨rfl, u9⟩; go_wp2; go_ret
          exact ⟨rfl, u1.trans (U5.out.trans u9)⟩
        · have EIN := Lib.hid (SIN.out HMB.out)
          have hnc1 : comp < n := by omega
          have LS := Lib.hid HS.out.1
          have hk6 : k ≤ 6 := by have := mdlB_starts HMB.out; have := LS.out; omega
          have WIN := Lib.hid (fun q (hq : q < k) => (wtk_in (es := m.starts) (comp := comp) (k := q) (by rw [LS.out]; exact hq)))
          have WOUT := Lib.hid (fun q (hq : q < k) => (wtk_out (es := m.starts) (comp := comp) (k := q) (by rw [LS.out]; exact hq)))
          have WAT := Lib.hid (fun q (hq : q < k) => (wtk_at (es := m.starts) (comp := comp) (q := q) (by rw [LS.out]; exact hq)))
          rw [← EIN.out, LW.out] at WAT
          have WLE := Lib.hid (fun q => wtk_len m.starts comp q)
          obtain ⟨m0, m1, m2⟩ := And.intro ((B3.out.up (Up.refl w6)).cell (j := 0) rfl) (And.intro ((B3.out.up (Up.refl w6)).cell (j := 1) rfl) ((B3.out.up (Up.refl w6)).cell (j := 2) rfl))
          have l3_ := (B3.out.up (Up.refl w6)).lt
          go_wp2; clear m0 m1 m2 l3_
          go_loopw [6, 7] (fun a i wr => (∃ q : Nat, q ≤ k ∧ i = .int .i64 q ∧ a = .int .i64 ((wtk m.starts comp q).length : Nat)) ∧ Up w6 wr) (fun _ i _ => k - (intOf i).toNat)
          case atStart => exact ⟨⟨0, by omega, rfl, by rw [wtk_zero]; rfl⟩, Up.refl _⟩
          case round =>
            obtain ⟨⟨q, hq, rfl, rfl⟩, ur⟩ := hrel
            have wle := WLE.out q
            replace U5 := Lib.hid (U5.out.trans ur)
            replace B3 := Lib.hid (B3.out.up ur)
            replace B5 := Lib.hid (B5.out.up ur)
            replace V5 := Lib.hid (V5.out.up ur)
            by_cases hlt : q < k
            · obtain ⟨b, off, hA, hbS, hcS⟩ := (HS.out.up U5.out).2 (by omega)
              subst hA
              have a0 := hcS q hlt
              have win := WIN.out q hlt
              have wout := WOUT.out q hlt
              have wat := WAT.out q hlt
              clear hcS
              generalize m.starts.getD q default = e at a0 win wout wat
              have WI := Lib.hid win
              have WO := Lib.hid wout
              have WA := Lib.hid wat
              clear win wout wat; obtain ⟨et, eto, efr, esq, ekd, edt⟩ := e; unfold EvAt at a0; dsimp only at a0; obtain ⟨P0, P1, P2, P3, P4, P5⟩ := a0
              have i4 : (q : Int) < k := by omega
              obtain ⟨m0, m1, m2⟩ := And.intro ((B3.out.up (Up.refl wr)).cell (j := 0) rfl) (And.intro ((B3.out.up (Up.refl wr)).cell (j := 1) rfl) ((B3.out.up (Up.refl wr)).cell (j := 2) rfl))
              have l3_ := (B3.out.up (Up.refl wr)).lt
              by_cases hto : eto = comp
              · have HW := Lib.hid (WI.out hto)
                obtain ⟨wa0, wa1⟩ := WA.out hto; subst hto
                generalize hp : (wtk m.starts eto q).length = p at *
                have HP := Lib.hid hp
                clear hp; obtain ⟨bW, offW, hAW, hbW, hcW⟩ := V5.out.2 (by omega); subst hAW
                have r0 := hcW p (by omega)
                rw [wa1] at r0; unfold RecAt at r0; dsimp only at r0; obtain ⟨Q0, Q1, Q2, Q3, Q4, Q5, -⟩ := r0; clear hcW wa1
                have i5 : ¬ (nw : Int) ≤ p := by omega
                have i6 : (p : Int) < nw := by omega
                have i7 : decide (nw ≤ p) = false := decide_eq_false (by omega)
                have cl : ∀ W, (binOp .neq 51 (.agg #[.int .i64 et, .int .i64 eto, .int .i64 efr, .int .i64 esq, .int .i64 ekd, .int .i64 edt]) (.agg #[.int .i64 et, .int .i64 eto, .int .i64 efr, .int .i64 esq, .int .i64 ekd, .int .i64 edt])).run Try.prog W = .ok (.bool false) W := fun W => by
                  have h := neq_evt ⟨et, eto, efr, esq, ekd, edt⟩ ⟨et, eto, efr, esq, ekd, edt⟩ W
                  rw [show eqB (⟨et, eto, efr, esq, ekd, edt⟩ : Evt) ⟨et, eto, efr, esq, ekd, edt⟩ = true from by rw [eqB_iff]; simp] at h
                  exact h
                have gd := guard_evt
                go_wp2_with fail
                clear m0 m1 m2 l3_; refine region_mixH (fun w' => Up wr w') [(0, true), (1, true), (2, true), (3, true), (4, true), (5, true), (6, true), (7, true), (8, true), (9, true), (10, true), (11, true), (12, true), (13, true), (14, true), (15, true), (16, true), (17, true), (18, true)] (by kernel_rfl) (by kernel_rfl) (Up.refl _).drew ?_; refine mixH_take rfl (by rfl) ?_; apply Exists.intro; refine ⟨fun w1 hS1 => ?_, ?_⟩
                · clear hS1
                  go_simp
                  try rfl
                go_simp; refine mixH_take rfl (by rfl) ?_; apply Exists.intro; refine ⟨fun w1 hS1 => ?_, ?_⟩
                · clear hS1
                  go_simp
                  try rfl
                go_simp; refine mixH_take rfl (by rfl) ?_; apply Exists.intro; refine ⟨fun w1 hS1 => ?_, ?_⟩
                · obtain ⟨m0, m1, m2⟩ := And.intro ((B3.out.up hS1).cell (j := 0) rfl) (And.intro ((B3.out.up hS1).cell (j := 1) rfl) ((B3.out.up hS1).cell (j := 2) rfl))
                  have h0 := (B5.out.up hS1).cell (j := 0) rfl
                  have h1 := (B5.out.up hS1).cell (j := 1) rfl
                  have h2 := (B5.out.up hS1).cell (j := 2) rfl
                  have h3 := (B5.out.up hS1).cell (j := 3) rfl
                  have h4 := (B5.out.up hS1).cell (j := 4) rfl
                  have h5 := (B5.out.up hS1).cell (j := 5) rfl
                  have h6 := (B5.out.up hS1).cell (j := 6) rfl
                  have h7 := (B5.out.up hS1).cell (j := 7) rfl
                  have l3_ := (B3.out.up hS1).lt
                  have l5_ := (B5.out.up hS1).lt
                  obtain ⟨p0, p1, p2, p3, p4, p5⟩ := And.intro (hS1.cells _ _ hbS |>.trans P0) (And.intro (hS1.cells _ _ hbS |>.trans P1) (And.intro (hS1.cells _ _ hbS |>.trans P2) (And.intro (hS1.cells _ _ hbS |>.trans P3) (And.intro (hS1.cells _ _ hbS |>.trans P4) (hS1.cells _ _ hbS |>.trans P5))))); obtain ⟨q0, q1, q2, q3, q4, q5⟩ := And.intro (hS1.cells _ _ hbW |>.trans Q0) (And.intro (hS1.cells _ _ hbW |>.trans Q1) (And.intro (hS1.cells _ _ hbW |>.trans Q2) (And.intro (hS1.cells _ _ hbW |>.trans Q3) (And.intro (hS1.cells _ _ hbW |>.trans Q4) (hS1.cells _ _ hbW |>.trans Q5)))))
                  have lS := Nat.lt_of_lt_of_le hbS hS1.size
                  have lW := Nat.lt_of_lt_of_le hbW hS1.size
                  clear hS1; go_simp
                  try rfl
                go_simp; refine mixH_take rfl (by rfl) ?_; apply Exists.intro; refine ⟨fun w1 hS1 => ?_, ?_⟩
                · clear hS1
                  go_simp
                  try rfl
                go_simp; refine mixH_take rfl (by rfl) ?_; apply Exists.intro; refine ⟨fun w1 hS1 => ?_, ?_⟩
                · clear hS1
                  go_simp
                  try rfl
                go_simp
                try simp only [i7]
                refine mixH_take rfl (by rfl) ?_; apply Exists.intro; refine ⟨fun w1 hS1 => ?_, ?_⟩
                · clear hS1
                  go_simp
                  try rfl
                go_simp; refine mixH_take rfl (by rfl) ?_; apply Exists.intro; refine ⟨fun w1 hS1 => ?_, ?_⟩
                · clear hS1
                  go_simp
                  try rfl
                go_simp; refine mixH_take rfl (by rfl) ?_; apply Exists.intro; refine ⟨fun w1 hS1 => ?_, ?_⟩
                · obtain ⟨m0, m1, m2⟩ := And.intro ((B3.out.up hS1).cell (j := 0) rfl) (And.intro ((B3.out.up hS1).cell (j := 1) rfl) ((B3.out.up hS1).cell (j := 2) rfl))
                  have h0 := (B5.out.up hS1).cell (j := 0) rfl
                  have h1 := (B5.out.up hS1).cell (j := 1) rfl
                  have h2 := (B5.out.up hS1).cell (j := 2) rfl
                  have h3 := (B5.out.up hS1).cell (j := 3) rfl
                  have h4 := (B5.out.up hS1).cell (j := 4) rfl
                  have h5 := (B5.out.up hS1).cell (j := 5) rfl
                  have h6 := (B5.out.up hS1).cell (j := 6) rfl
                  have h7 := (B5.out.up hS1).cell (j := 7) rfl
                  have l3_ := (B3.out.up hS1).lt
                  have l5_ := (B5.out.up hS1).lt
                  obtain ⟨p0, p1, p2, p3, p4, p5⟩ := And.intro (hS1.cells _ _ hbS |>.trans P0) (And.intro (hS1.cells _ _ hbS |>.trans P1) (And.intro (hS1.cells _ _ hbS |>.trans P2) (And.intro (hS1.cells _ _ hbS |>.trans P3) (And.intro (hS1.cells _ _ hbS |>.trans P4) (hS1.cells _ _ hbS |>.trans P5))))); obtain ⟨q0, q1, q2, q3, q4, q5⟩ := And.intro (hS1.cells _ _ hbW |>.trans Q0) (And.intro (hS1.cells _ _ hbW |>.trans Q1) (And.intro (hS1.cells _ _ hbW |>.trans Q2) (And.intro (hS1.cells _ _ hbW |>.trans Q3) (And.intro (hS1.cells _ _ hbW |>.trans Q4) (hS1.cells _ _ hbW |>.trans Q5)))))
                  have lS := Nat.lt_of_lt_of_le hbS hS1.size
                  have lW := Nat.lt_of_lt_of_le hbW hS1.size
                  clear hS1; go_simp
                  try rfl
                go_simp; refine mixH_take rfl (by rfl) ?_; apply Exists.intro; refine ⟨fun w1 hS1 => ?_, ?_⟩
                · clear hS1
                  go_simp
                  try rfl
                go_simp; refine mixH_take rfl (by rfl) ?_; apply Exists.intro; refine ⟨fun w1 hS1 => ?_, ?_⟩
                · clear hS1
                  go_simp
                  try rfl
                go_simp; refine mixH_take rfl (by rfl) ?_; apply Exists.intro; refine ⟨fun w1 hS1 => ?_, ?_⟩
                · clear hS1
                  go_simp
                  try rfl
                go_simp; refine mixH_take rfl (by rfl) ?_; apply Exists.intro; refine ⟨fun w1 hS1 => ?_, ?_⟩
                · obtain ⟨m0, m1, m2⟩ := And.intro ((B3.out.up hS1).cell (j := 0) rfl) (And.intro ((B3.out.up hS1).cell (j := 1) rfl) ((B3.out.up hS1).cell (j := 2) rfl))
                  have h0 := (B5.out.up hS1).cell (j := 0) rfl
                  have h1 := (B5.out.up hS1).cell (j := 1) rfl
                  have h2 := (B5.out.up hS1).cell (j := 2) rfl
                  have h3 := (B5.out.up hS1).cell (j := 3) rfl
                  have h4 := (B5.out.up hS1).cell (j := 4) rfl
                  have h5 := (B5.out.up hS1).cell (j := 5) rfl
                  have h6 := (B5.out.up hS1).cell (j := 6) rfl
                  have h7 := (B5.out.up hS1).cell (j := 7) rfl
                  have l3_ := (B3.out.up hS1).lt
                  have l5_ := (B5.out.up hS1).lt
                  obtain ⟨p0, p1, p2, p3, p4, p5⟩ := And.intro (hS1.cells _ _ hbS |>.trans P0) (And.intro (hS1.cells _ _ hbS |>.trans P1) (And.intro (hS1.cells _ _ hbS |>.trans P2) (And.intro (hS1.cells _ _ hbS |>.trans P3) (And.intro (hS1.cells _ _ hbS |>.trans P4) (hS1.cells _ _ hbS |>.trans P5))))); obtain ⟨q0, q1, q2, q3, q4, q5⟩ := And.intro (hS1.cells _ _ hbW |>.trans Q0) (And.intro (hS1.cells _ _ hbW |>.trans Q1) (And.intro (hS1.cells _ _ hbW |>.trans Q2) (And.intro (hS1.cells _ _ hbW |>.trans Q3) (And.intro (hS1.cells _ _ hbW |>.trans Q4) (hS1.cells _ _ hbW |>.trans Q5)))))
                  have lS := Nat.lt_of_lt_of_le hbS hS1.size
                  have lW := Nat.lt_of_lt_of_le hbW hS1.size
                  clear hS1; go_simp
                  try rfl
                go_simp; refine mixH_take rfl (by rfl) ?_; apply Exists.intro; refine ⟨fun w1 hS1 => ?_, ?_⟩
                · clear hS1
                  go_simp
                  try rfl
                go_simp; refine mixH_take rfl (by rfl) ?_; apply Exists.intro; refine ⟨fun w1 hS1 => ?_, ?_⟩
                · obtain ⟨m0, m1, m2⟩ := And.intro ((B3.out.up hS1).cell (j := 0) rfl) (And.intro ((B3.out.up hS1).cell (j := 1) rfl) ((B3.out.up hS1).cell (j := 2) rfl))
                  have h0 := (B5.out.up hS1).cell (j := 0) rfl
                  have h1 := (B5.out.up hS1).cell (j := 1) rfl
                  have h2 := (B5.out.up hS1).cell (j := 2) rfl
                  have h3 := (B5.out.up hS1).cell (j := 3) rfl
                  have h4 := (B5.out.up hS1).cell (j := 4) rfl
                  have h5 := (B5.out.up hS1).cell (j := 5) rfl
                  have h6 := (B5.out.up hS1).cell (j := 6) rfl
                  have h7 := (B5.out.up hS1).cell (j := 7) rfl
                  have l3_ := (B3.out.up hS1).lt
                  have l5_ := (B5.out.up hS1).lt
                  obtain ⟨p0, p1, p2, p3, p4, p5⟩ := And.intro (hS1.cells _ _ hbS |>.trans P0) (And.intro (hS1.cells _ _ hbS |>.trans P1) (And.intro (hS1.cells _ _ hbS |>.trans P2) (And.intro (hS1.cells _ _ hbS |>.trans P3) (And.intro (hS1.cells _ _ hbS |>.trans P4) (hS1.cells _ _ hbS |>.trans P5))))); obtain ⟨q0, q1, q2, q3, q4, q5⟩ := And.intro (hS1.cells _ _ hbW |>.trans Q0) (And.intro (hS1.cells _ _ hbW |>.trans Q1) (And.intro (hS1.cells _ _ hbW |>.trans Q2) (And.intro (hS1.cells _ _ hbW |>.trans Q3) (And.intro (hS1.cells _ _ hbW |>.trans Q4) (hS1.cells _ _ hbW |>.trans Q5)))))
                  have lS := Nat.lt_of_lt_of_le hbS hS1.size
                  have lW := Nat.lt_of_lt_of_le hbW hS1.size
                  clear hS1; go_simp
                  try rfl
                go_simp; refine mixH_take rfl (by rfl) ?_; apply Exists.intro; refine ⟨fun w1 hS1 => ?_, ?_⟩
                · clear hS1
                  go_simp
                  try rfl
                go_simp; refine mixH_take rfl (by rfl) ?_; apply Exists.intro; refine ⟨fun w1 hS1 => ?_, ?_⟩
                · clear hS1
                  go_simp
                  try rfl
                go_simp; refine mixH_take rfl (by rfl) ?_; apply Exists.intro; refine ⟨fun w1 hS1 => ?_, ?_⟩
                · obtain ⟨m0, m1, m2⟩ := And.intro ((B3.out.up hS1).cell (j := 0) rfl) (And.intro ((B3.out.up hS1).cell (j := 1) rfl) ((B3.out.up hS1).cell (j := 2) rfl))
                  have h0 := (B5.out.up hS1).cell (j := 0) rfl
                  have h1 := (B5.out.up hS1).cell (j := 1) rfl
                  have h2 := (B5.out.up hS1).cell (j := 2) rfl
                  have h3 := (B5.out.up hS1).cell (j := 3) rfl
                  have h4 := (B5.out.up hS1).cell (j := 4) rfl
                  have h5 := (B5.out.up hS1).cell (j := 5) rfl
                  have h6 := (B5.out.up hS1).cell (j := 6) rfl
                  have h7 := (B5.out.up hS1).cell (j := 7) rfl
                  have l3_ := (B3.out.up hS1).lt
                  have l5_ := (B5.out.up hS1).lt
                  obtain ⟨p0, p1, p2, p3, p4, p5⟩ := And.intro (hS1.cells _ _ hbS |>.trans P0) (And.intro (hS1.cells _ _ hbS |>.trans P1) (And.intro (hS1.cells _ _ hbS |>.trans P2) (And.intro (hS1.cells _ _ hbS |>.trans P3) (And.intro (hS1.cells _ _ hbS |>.trans P4) (hS1.cells _ _ hbS |>.trans P5))))); obtain ⟨q0, q1, q2, q3, q4, q5⟩ := And.intro (hS1.cells _ _ hbW |>.trans Q0) (And.intro (hS1.cells _ _ hbW |>.trans Q1) (And.intro (hS1.cells _ _ hbW |>.trans Q2) (And.intro (hS1.cells _ _ hbW |>.trans Q3) (And.intro (hS1.cells _ _ hbW |>.trans Q4) (hS1.cells _ _ hbW |>.trans Q5)))))
                  have lS := Nat.lt_of_lt_of_le hbS hS1.size
                  have lW := Nat.lt_of_lt_of_le hbW hS1.size
                  clear hS1; go_simp
                  try rfl
                go_simp; refine mixH_take rfl (by rfl) ?_; apply Exists.intro; refine ⟨fun w1 hS1 => ?_, ?_⟩
                · clear hS1
                  go_simp
                  try rfl
                go_simp; refine mixH_take rfl (by rfl) ?_; apply Exists.intro; refine ⟨fun w1 hS1 => ?_, ?_⟩
                · clear hS1
                  go_simp
                  try rfl
                go_simp; refine mixH_nil ?_; go_wp2
                go_roundw
                case rel => exact ⟨⟨q + 1, by omega, by go_num, by rw [HW.out, List.length_append, HP.out]; simp⟩, ur.trans (Up.refl _).drew⟩
                case measure => simp [intOf]; omega
              · have HW := Lib.hid (WO.out hto)
                have i5 : ((eto : Int) == comp) = false := by simp [hto]
                go_wp2
                go_roundw
                case rel => exact ⟨⟨q + 1, by omega, by go_num, by rw [HW.out]⟩, ur⟩
                case measure => simp [intOf]; omega
            · obtain rfl : q = k := by omega
              have i4 : ¬ (q : Int) < q := by omega
              have HQ : (wtk m.starts comp q).length = nw := by rw [← LW.out, EIN.out, LS.out]
              rw [HQ]; clear HQ wle; obtain ⟨m0, m1, m2⟩ := And.intro ((B3.out.up (Up.refl wr)).cell (j := 0) rfl) (And.intro ((B3.out.up (Up.refl wr)).cell (j := 1) rfl) ((B3.out.up (Up.refl wr)).cell (j := 2) rfl))
              have l3_ := (B3.out.up (Up.refl wr)).lt
              have h0 := (B5.out.up (Up.refl wr)).cell (j := 0) rfl
              have h1 := (B5.out.up (Up.refl wr)).cell (j := 1) rfl
              have h2 := (B5.out.up (Up.refl wr)).cell (j := 2) rfl
              have h3 := (B5.out.up (Up.refl wr)).cell (j := 3) rfl
              have h4 := (B5.out.up (Up.refl wr)).cell (j := 4) rfl
              have h5 := (B5.out.up (Up.refl wr)).cell (j := 5) rfl
              have h6 := (B5.out.up (Up.refl wr)).cell (j := 6) rfl
              have h7 := (B5.out.up (Up.refl wr)).cell (j := 7) rfl
              have l5_ := (B5.out.up (Up.refl wr)).lt
              go_wp2_with fail
              refine (CO.out Aw nw cw _ U5.out HMB.out (by omega) (by omega) (by omega) V5.out).mono ?_; rintro x w7 ⟨rfl, u7⟩; clear m0 m1 m2 l3_ h0 h1 h2 h3 h4 h5 h6 h7 l5_
              have h0 := (B5.out.up u7).cell (j := 0) rfl
              have h1 := (B5.out.up u7).cell (j := 1) rfl
              have h2 := (B5.out.up u7).cell (j := 2) rfl
              have h3 := (B5.out.up u7).cell (j := 3) rfl
              have h4 := (B5.out.up u7).cell (j := 4) rfl
              have h5 := (B5.out.up u7).cell (j := 5) rfl
              have h6 := (B5.out.up u7).cell (j := 6) rfl
              have h7 := (B5.out.up u7).cell (j := 7) rfl
              have l5_ := (B5.out.up u7).lt
              have U7 := Lib.hid (U5.out.trans u7)
              clear u7; go_wp2; go_ret
              exact ⟨rfl, u1.trans U7.out⟩
end Go.Proofs.Ytipjcjjjkkaigaa

namespace Go.Proofs.Ytipjcjjjkkaigaa.fnHstNew
set_option maxRecDepth 100000
open Go.ChangeShapes Go.WideShapes Go.ChangeAt Go.RowKit Go.Joins Go.Deep
set_option linter.unusedVariables false
set_option maxRecDepth 100000 in
theorem lifted (os : Os) (started : os.Started) (H : Type) (enc : TypeId × Value → H) :
    ReturnsInHanded {} Try.checked os 4 .any (Rows.fnHstNewSpec.pre6 enc Try.prog Try.f4 Rows.fnHstNewRow.domain false) (Rows.fnHstNewSpec.post enc Try.prog Try.f4 false true false false) := by
  refine returnsInHanded_of_change (C := Try.checked) own started (by kernel_rfl) Try.func4
    (ChangeSpec.witness6 (enc := enc) (C := Try.checked) false ⟨#[], #[.slice none 0 0], []⟩ 8 (by kernel_rfl) (by kernel_rfl) (by kernel_rfl) (by kernel_rfl)) ?_
  intro W base args ds gs before hval0 hW hcnd _
  have hval : ∀ (j : Nat) t v, Try.f4.params[j]? = some t → args[j]? = some v → Value.okWide Try.prog W .any base t v := hval0
  have hW' := hW
  obtain ⟨p, q, hA0, hV, rfl, hfz, hnd⟩ := hW
  have hA : DataW.TrodAll enc Try.prog W 0 (fun _ => true) true Try.f4.params.toList args.toList ds p := hA0
  rw [Try.params4] at hA hval; obtain ⟨v0, vs0, d0, ds0, p0, q0, hargs, rfl, rfl, h0, r0⟩ := trodAll_cons hA; obtain ⟨rfl, rfl, rfl⟩ := trodAll_nil r0
  obtain rfl : args = #[v0] := by cases args; simp_all
  obtain ⟨rfl, rfl⟩ := trodVars_none hV
  have k0 := h0
  have lt0 : ∀ x ∈ p0, x.block < W.heap.size := by obtain ⟨m, hm⟩ := k0; exact DataW.trod_lt m _ _ _ hm
  obtain ⟨A0, len0, cap0, rfl⟩ := okWide_slice Try.underlying45 (hval 0 45 v0 rfl rfl)
  have w0 := open_bytes h0
  clear hA0 hval0
  refine (walkHstNew A0 len0 cap0 w0.2.1 w0.2.2 w0.1).mono fun e W' ⟨he, bel⟩ => ?_
  subst he
  exact ⟨_, rfl, _, _, _, [], _, [], hW', trodAll_mk1 (shut_bool Try.underlying4 _), (trodAll_cons_mk (Below.trod laidOut (by kernel_rfl) (of_decide_eq_true (by kernel_rfl)) k0 bel lt0) trodAll_mk0), rfl, bel.frame _, fun h => by cases h⟩
theorem over : Rows.fnHstNewRow.holds Try.pinned (OpenSpec.ofChange Rows.fnHstNewSpec) :=
  OpenClaim.holds_of_wide 4 Try.f4 rfl rfl rfl rfl rfl rfl rfl ⟨rfl, rfl, rfl, rfl, rfl⟩ rfl rfl rfl rfl rfl (by kernel_rfl) Try.func4 (by kernel_rfl)
    (of_decide_eq_true (by kernel_rfl)) (by unfold Func.isWrapper; first | (rw [if_pos (by decide +kernel)]; kernel_rfl) | (rw [if_neg (by decide +kernel)]; exact ⟨rfl, rfl⟩))
    (fun os started H enc _ => lifted os started H enc)
theorem proved : Rows.FnHstNewSaid := over
end Go.Proofs.Ytipjcjjjkkaigaa.fnHstNew

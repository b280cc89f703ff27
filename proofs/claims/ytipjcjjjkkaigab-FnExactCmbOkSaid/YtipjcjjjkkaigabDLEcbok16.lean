/-
  What spec.CmbOk returns, in one sentence: whether a conservative simulation is one of a model; for every model and every simulation that lie in memory.
  What newMachine returns, in one sentence: false for a model that is none; else a new map with the model's rules, their number and its end; for every model that lies in memory.
  What impl.CmbLook gives, in one sentence: the least delay of the first component's sends to the second, but at most the end and one, and -1 for a model that is none or a component that does not exist; for every model that lies in memory.
-/
import Derived.Test.YtipjcjjjkkaigabDLEcbok07
import Derived.Test.YtipjcjjjkkaigabDLEcbok12
import Derived.Test.YtipjcjjjkkaigabDLEcbok15
namespace Go.Proofs.Ytipjcjjjkkaigab
set_option maxRecDepth 100000
open Go.RowKit
set_option maxHeartbeats 8000000 in
theorem specCbOk_any (A : Option Addr) (n c : Nat) (B : Option Addr) (k d : Nat) (m : Mdl) (HA : Option Addr) (nh hc : Nat) (LB : Option Addr) (nl lc : Nat) (hs : List Ch) (ls : List (List Rec)) (w : World) (hM : MdlV w A n B k m) (hV : CbV w HA nh LB nl hs ls) :
    Calls Try.prog 8 #[.agg #[.slice A n c, .slice B k d, .int .i64 m.til], .agg #[.slice HA nh hc, .slice LB nl lc]] w fun x w' => x = .returned (.bool (cbB m hs ls)) ∧ Up w w' := by
  have CM := Lib.hid (fun W (u : Up w W) => specMdl_any A n c B k d m W (hM.up u))
  have LN := hM.rules.1
  have LV := Lib.hid (show cbB m hs ls = (mdlB m && (decide (nh = n) && decide (nl = n) && chsB n m.til 0 hs ls)) by rw [← LN, ← hV.hosts.1, ← hV.logs.1]; rfl)
  have FT := Lib.hid (fun (e : mdlB m = true) => And.intro (mdlB_few e) (mdlB_til e))
  rw [LN] at FT
  have HH := Lib.hid hV.hosts
  have HL := Lib.hid hV.logs
  have LH := Lib.hid hV.hosts.1
  have DR := Lib.hid (fun q h => chsB_drop n m.til hs ls q h)
  have DE := Lib.hid (fun q h => chsB_end n m.til hs ls q h)
  have H0 := Lib.hid (show chsB n m.til ((0 : Nat) : Int) (hs.drop 0) (ls.drop 0) = chsB n m.til 0 hs ls from rfl)
  have hnh := hV.few.1
  have hnl := hV.few.2
  generalize chsB n m.til 0 hs ls = b5 at H0 LV
  generalize cbB m hs ls = res at LV ⊢
  have X2 := Lib.hid ((Blk.new w #[.slice A n c, .slice B k d, .int .i64 m.til] 36).alloc (.cells #[.slice HA nh hc, .slice LB nl lc] 41))
  have X3 := Lib.hid (Blk.new (w.alloc (.cells #[.slice A n c, .slice B k d, .int .i64 m.til] 36)) #[.slice HA nh hc, .slice LB nl lc] 41)
  simp only [World.size_alloc] at X3
  have U := Lib.hid (((Up.refl w).alloc (.cells #[.slice A n c, .slice B k d, .int .i64 m.til] 36)).alloc (.cells #[.slice HA nh hc, .slice LB nl lc] 41))
  generalize mdlB m = bm at CM LV FT
  clear hM hV LN
  go_enter Try.func8, Try.ntmps8
  go_wp2_with fail
  generalize (w.alloc (.cells #[.slice A n c, .slice B k d, .int .i64 m.til] 36)).alloc (.cells #[.slice HA nh hc, .slice LB nl lc] 41) = W0 at *
  generalize hbm : w.heap.size + 1 = bX at *
  generalize hbx : w.heap.size = bM at *
  clear hbm hbx; refine (CM.out _ U.out).mono ?_; rintro x w1 ⟨rfl, u1⟩
  replace U := Lib.hid (U.out.trans u1)
  replace X2 := Lib.hid (X2.out.up u1)
  replace X3 := Lib.hid (X3.out.up u1)
  clear u1
  cases bm
  · have HF := Lib.hid (show res = false by rw [LV.out]; rfl)
    go_wp2; go_ret
    exact ⟨ret_bool HF.out.symm, U.out⟩
  · obtain ⟨few, tl⟩ := FT.out rfl
    obtain ⟨m0, m1, m2⟩ := And.intro (X2.out.cell (j := 0) rfl) (And.intro (X2.out.cell (j := 1) rfl) (X2.out.cell (j := 2) rfl))
    have lm := X2.out.lt
    obtain ⟨y0, y1⟩ := And.intro (X3.out.cell (j := 0) rfl) (X3.out.cell (j := 1) rfl)
    have ly := X3.out.lt
    by_cases e1 : nh = n
    · subst e1
      have q1 : ((nh : Int) != (nh : Int)) = false := by simp
      by_cases e2 : nl = nh
      · subst e2
        have LV := Lib.hid (show res = b5 by rw [LV.out]; simp)
        go_wp2; clear m0 m1 m2 lm y0 y1 ly
        go_loopw [5] (fun i wr => (∃ q : Nat, q ≤ nl ∧ i = .int .i64 q ∧ Hid (chsB nl m.til (q : Int) (hs.drop q) (ls.drop q) = b5)) ∧ Up w1 wr) (fun i _ => nl - (intOf i).toNat)
        case atStart => exact ⟨⟨0, by omega, rfl, H0⟩, Up.refl _⟩
        case round =>
          obtain ⟨⟨q, hq, rfl, HR⟩, ur⟩ := hrel
          have UR := Lib.hid (U.out.trans ur)
          have URW := Lib.hid ur
          have Y2 := Lib.hid (X2.out.up ur)
          have Y3 := Lib.hid (X3.out.up ur)
          clear ur; obtain ⟨m0, m1, m2⟩ := And.intro (Y2.out.cell (j := 0) rfl) (And.intro (Y2.out.cell (j := 1) rfl) (Y2.out.cell (j := 2) rfl))
          have lm := Y2.out.lt
          obtain ⟨y0, y1⟩ := And.intro (Y3.out.cell (j := 0) rfl) (Y3.out.cell (j := 1) rfl)
          have ly := Y3.out.lt
          by_cases hlt : q < nl
          · obtain ⟨b, off, hA, hb, hcc⟩ := (HH.out.up UR.out).2 (by omega)
            obtain ⟨b2, off2, hB, hb2, hcl⟩ := (HL.out.up UR.out).2 (by omega); subst hA hB
            have a0 := hcc q hlt
            obtain ⟨A4, n4, c4, p4, hl4, hn4⟩ := hcl q hlt
            have S := DR.out q (by rw [LH.out]; exact hlt)
            rw [HR.out] at S
            generalize hs.getD q default = h at a0 S
            generalize ls.getD q [] = l at hl4 S
            obtain ⟨Aw, nw, cw, Ai, ni, ci, ⟨p0, p1, p2, p3, p5⟩, ⟨h5, h6⟩, h7, h8⟩ := a0
            have C := Lib.hid (fun W1 (u : Up wr W1) => l9Host_any A nl c B k d m.til (q : Int) h Aw nw cw Ai ni ci A4 n4 c4 l W1 tl (by omega) (h5.up u) (h7.up u) (hl4.up u) ⟨h6, h8, hn4⟩)
            generalize chB nl m.til (q : Int) h l = r at S C
            have S' := Lib.hid S
            generalize h.now.s = z0 at *
            generalize h.now.sq = z1 at *
            generalize h.now.ct = z2 at *
            clear S hcc hcl h5 h6 h7 h8 hl4 hn4
            have i4 : (q : Int) < nl := by omega
            have i5 : IntKind.i64.wrap ((q : Int) + 1) = (q : Int) + 1 := IntWalk.i64_in _ (by omega)
            go_wp2_with fail
            refine region_qw (by kernel_rfl) (by kernel_rfl) ?_; refine qWalk_step ?_; intro K hK; go_simp; apply Exists.intro; refine And.intro ?_ ?_
            · intro w1 hw1
              obtain ⟨hc, hf, hz⟩ := hw1.facts
              try simp at hz
              try go_simp
              try rfl
            try go_simp
            refine hK _ ?_; clear hK K; refine qWalk_step ?_; intro K hK; go_simp; apply Exists.intro; refine And.intro ?_ ?_
            · intro w1 hw1
              try go_simp
              try rfl
            try go_simp
            refine hK _ ?_; clear hK K; refine qWalk_step ?_; intro K hK; go_simp; apply Exists.intro; refine And.intro ?_ ?_
            · intro w1 hw1
              try go_simp
              try rfl
            try go_simp
            refine hK _ ?_; clear hK K; refine qWalk_step ?_; intro K hK; go_simp; apply Exists.intro; refine And.intro ?_ ?_
            · intro w1 hw1
              obtain ⟨hc, hf, hz⟩ := hw1.facts
              try simp at hz
              try go_simp
              try rfl
            try go_simp
            refine hK _ ?_; clear hK K; refine qWalk_step ?_; intro K hK; go_simp; apply Exists.intro; refine And.intro ?_ ?_
            · intro w1 hw1
              try go_simp
              try rfl
            try go_simp
            refine hK _ ?_; clear hK K; refine qWalk_step ?_; intro K hK; go_simp; apply Exists.intro; refine And.intro ?_ ?_
            · intro w1 hw1
              try go_simp
              try rfl
            try go_simp
            refine hK _ ?_; clear hK K; refine qWalk_step ?_; intro K hK; go_simp; apply Exists.intro; refine And.intro ?_ ?_
            · intro w1 hw1
              obtain ⟨hc, hf, hz⟩ := hw1.facts
              try simp at hz
              try go_simp
              try rfl
            try go_simp
            refine hK _ ?_; clear hK K; refine qWalk_step ?_; intro K hK; go_simp; apply Exists.intro; refine And.intro ?_ ?_
            · intro w1 hw1
              try go_simp
              try rfl
            try go_simp
            refine hK _ ?_; clear hK K; refine qWalk_step ?_; intro K hK; go_simp; apply Exists.intro; refine And.intro ?_ ?_
            · intro w1 hw1
              obtain ⟨hc, hf, hz⟩ := hw1.facts
              try simp at hz
              try go_simp
              try rfl
            try go_simp
            refine hK _ ?_; clear hK K; refine qWalk_step ?_; intro K hK; go_simp; apply Exists.intro; refine And.intro ?_ ?_
            · intro w1 hw1
              try go_simp
              try rfl
            try go_simp
            refine hK _ ?_; clear hK K; refine qWalk_step ?_; intro K hK; go_simp; apply Exists.intro; refine And.intro ?_ ?_
            · intro w1 hw1
              try go_simp
              try rfl
            try go_simp
            refine hK _ ?_; clear hK K; refine qWalk_step ?_; intro K hK; go_simp; apply Exists.intro; refine And.intro ?_ ?_
            · intro w1 hw1
              obtain ⟨hc, hf, hz⟩ := hw1.facts
              try simp at hz
              try go_simp
              try rfl
            try go_simp
            refine hK _ ?_; clear hK K; refine qWalk_step ?_; intro K hK; go_simp; apply Exists.intro; refine And.intro ?_ ?_
            · intro w1 hw1
              try go_simp
              exact up_call hw1 (C.out _ hw1)
            try go_simp
            refine hK _ ?_; clear hK K; refine qWalk_step ?_; intro K hK; go_simp; apply Exists.intro; refine And.intro ?_ ?_
            · intro w1 hw1
              try go_simp
              try rfl
            try go_simp
            refine hK _ ?_; clear hK K; refine qWalk_nil ?_; intro wA uA
            have UN := Lib.hid (URW.out.trans uA)
            clear uA m0 m1 m2 lm y0 y1 ly p0 p1 p2 p3 p4 p5
            cases r
            · have HF := Lib.hid (show res = false by rw [LV.out, S'.out]; rfl)
              go_wp2; go_ret
              exact ⟨ret_bool HF.out.symm, U.out.trans UN.out⟩
            · have HN := Lib.hid (show chsB nl m.til ((q + 1 : Nat) : Int) (hs.drop (q + 1)) (ls.drop (q + 1)) = b5 by rw [S'.out]; rfl)
              go_wp2
              go_roundw
              case rel => exact ⟨⟨q + 1, by omega, by go_num, HN⟩, UN.out⟩
              case measure => simp [intOf]; omega
          · obtain rfl : q = nl := by omega
            have i4 : ¬ (q : Int) < q := by omega
            have HT := Lib.hid (show res = true by rw [LV.out, ← HR.out]; exact DE.out q (by rw [LH.out]; omega))
            go_wp2; go_ret
            exact ⟨ret_bool HT.out.symm, UR.out⟩
      · have q2 : ((nl : Int) != (nh : Int)) = true := by simp; omega
        have q3 : ¬ (nl : Int) = (nh : Int) := by omega
        have HF := Lib.hid (show res = false by rw [LV.out, decide_eq_false e2]; simp)
        go_wp2; go_ret
        exact ⟨ret_bool HF.out.symm, U.out⟩
    · have q2 : ((nh : Int) != (n : Int)) = true := by simp; omega
      have q3 : ¬ (nh : Int) = (n : Int) := by omega
      have HF := Lib.hid (show res = false by rw [LV.out, decide_eq_false e1]; simp)
      go_wp2; go_ret
      exact ⟨ret_bool HF.out.symm, U.out⟩
end Go.Proofs.Ytipjcjjjkkaigab

namespace Go.Proofs.Ytipjcjjjkkaigab
set_option maxRecDepth 100000
open Go.RowKit
def MachPost (m : Mdl) (w : World) (x : Ending) (w' : World) : Prop :=
  Up w w' ∧ ((mdlB m = false ∧ x = .returned (.tuple #[.agg #[.map none, .int .i64 0, .int .i64 0], .bool false])) ∨
    (mdlB m = true ∧ ∃ b, x = .returned (.tuple #[.agg #[.map (some b), .int .i64 m.rules.length, .int .i64 m.til], .bool true]) ∧ w.heap.size ≤ b ∧ Mach w' b m))
set_option maxHeartbeats 8000000 in
theorem newMachine_any (A : Option Addr) (n c : Nat) (B : Option Addr) (k d : Nat) (m : Mdl) (w : World) (hM : MdlV w A n B k m) :
    Calls Try.prog 30 #[.agg #[.slice A n c, .slice B k d, .int .i64 m.til]] w (MachPost m w) := by
  have HM := Lib.hid hM
  have HR := Lib.hid hM.rules
  have LR := Lib.hid hM.rules.1
  have U0 := Lib.hid (((Up.refl w).alloc (.cells #[.slice A n c, .slice B k d, .int .i64 m.til] 36)).alloc (.cells #[.map none, .int .i64 0, .int .i64 0] 70))
  have X1 := Lib.hid ((Box3.new w (.slice A n c) (.slice B k d) (.int .i64 m.til) 36).up ((Up.refl _).alloc (.cells #[.map none, .int .i64 0, .int .i64 0] 70)))
  have X2 := Lib.hid (Box3.new (w.alloc (.cells #[.slice A n c, .slice B k d, .int .i64 m.til] 36)) (.map none) (.int .i64 0) (.int .i64 0) 70)
  have F2 := Lib.hid (fun j => free_new (w.alloc (.cells #[.slice A n c, .slice B k d, .int .i64 m.til] 36)) #[.map none, .int .i64 0, .int .i64 0] 70 j)
  simp only [World.size_alloc] at X2 F2
  have CI := Lib.hid (fun W (u : Up w W) => implMdl_any A n c B k d m W (hM.up u))
  generalize hmb : mdlB m = g at CI
  have HB := Lib.hid hmb
  clear hM hmb
  go_enter Try.func30, Try.ntmps30
  go_wp2_with fail
  refine (CI.out _ U0.out).mono ?_; rintro x w1 ⟨rfl, u1⟩
  have U1 := Lib.hid (U0.out.trans u1)
  have X1 := Lib.hid (X1.out.up u1)
  have x2 := X2.out.up u1
  have f2 : ∀ j, w1.frozen? ⟨w.heap.size + 1, j, none⟩ = false := fun j => (u1.frozens _ _ (by simp)).trans (F2.out j)
  have X2 := Lib.hid x2
  have F2 := Lib.hid f2
  clear u1 x2 f2
  cases g
  · have K := set3_at (w := w1) (b := w.heap.size + 1) (x := .map none) (y := .int .i64 0) (z := .int .i64 0) (fun j hj => by
      have h3 : j = 0 ∨ j = 1 ∨ j = 2 := by omega
      rcases h3 with rfl | rfl | rfl
      · exact ⟨_, X2.out.c0⟩
      · exact ⟨_, X2.out.c1⟩
      · exact ⟨_, X2.out.c2⟩)
    have UE := Lib.hid (((U1.out.setCell (p := ⟨w.heap.size + 1, 0, none⟩) (by dsimp only; omega) (.map none)).setCell (p := ⟨w.heap.size + 1, 1, none⟩) (by dsimp only; omega) (.int .i64 0)).setCell (p := ⟨w.heap.size + 1, 2, none⟩) (by dsimp only; omega) (.int .i64 0))
    obtain ⟨k0, k1, k2⟩ := K; obtain ⟨q0, q1, q2⟩ := And.intro X2.out.c0 (And.intro X2.out.c1 X2.out.c2)
    have qf := F2.out
    go_wp2
    exact bodyPost_ret (v := .tuple #[.agg #[.map none, .int .i64 0, .int .i64 0], .bool false]) (by simp [results, Try.results30, go_sem, k0, k1, k2]) rfl ⟨UE.out, .inl ⟨HB.out, rfl⟩⟩
  · obtain ⟨q0, q1, q2⟩ := And.intro X1.out.c0 (And.intro X1.out.c1 X1.out.c2)
    have hsz1 : w.heap.size + 1 < w1.heap.size := X2.out.lt
    have FEW := Lib.hid (mdlB_few HB.out)
    have hn4 : n ≤ 4 := by have := FEW.out; have := LR.out; omega
    have H0 := RMap.made w1
    have F0 := Lib.hid (Filled.start w m.rules)
    have hmm := run_makeMap (P := Try.prog) 68 w1
    have u2 : Up w1 (w1.alloc (.map #[] 0)) := (Up.refl _).alloc _
    generalize w1.alloc (.map #[] 0) = w2 at H0 hmm u2
    generalize hmb : w1.heap.size = mb at H0 hmm
    have HMB := Lib.hid hmb
    have H0 := Lib.hid H0
    have x1 := X1.out.up u2
    obtain ⟨p0, p1, p2⟩ := And.intro x1.c0 (And.intro x1.c1 x1.c2)
    have U2 := Lib.hid u2
    clear hmb x1 u2 q0 q1 q2; go_wp2; clear hmm p0 p1 p2
    go_loopw [17] (fun i wr => (∃ (q N : Nat) (f : Int → Int → Option Value), q ≤ n ∧ i = .int .i64 q ∧ N ≤ 3 * q ∧ Hid (RMap wr mb N f) ∧ Hid (Filled w m.rules q 0 f)) ∧ Up w1 wr) (fun i _ => n - (intOf i).toNat)
    case atStart => exact ⟨⟨0, 0, _, by omega, rfl, by omega, H0, F0⟩, U2.out⟩
    case round =>
      obtain ⟨⟨q, N, f, hq, rfl, hN, HMAP, HF⟩, ur⟩ := hrel; obtain ⟨wo, hwo⟩ : ∃ W, W = wr := ⟨_, rfl⟩; subst hwo
      have UR := Lib.hid ur
      by_cases hlt : q < n
      · obtain ⟨b, off, hA, hb, hc⟩ := HR.out.2.2 (by omega)
        subst hA; obtain ⟨A', n', c', hcell, hrs⟩ := hc q hlt
        have cell := ((U1.out.trans ur).cells _ _ hb).trans hcell
        have HS := Lib.hid hrs
        have hb' : b < wo.heap.size := by have := (U1.out.trans ur).size; omega
        have RB := Lib.hid (mdlB_row HB.out q (by rw [LR.out]; exact hlt))
        have hn'3 : n' ≤ 3 := by
          have h := rulesB_len RB.out (by omega) (by omega)
          have := hrs.1
          omega
        clear hc hcell hrs ur
        have i4 : (q : Int) < n := by omega
        have i5 : IntKind.i64.wrap ((q : Int) + 1) = (q : Int) + 1 := IntWalk.i64_in _ (by omega)
        have RN : (m.rules.getD q []).length = n' := HS.out.1
        have RNH := Lib.hid RN
        clear RN
        go_wp2_with fail
        go_loopw [24] (fun j wj => (∃ (p N : Nat) (f : Int → Int → Option Value), p ≤ n' ∧ j = .int .i64 p ∧ N ≤ 3 * q + p ∧ Hid (RMap wj mb N f) ∧ Hid (Filled w m.rules q p f)) ∧ Up w1 wj) (fun j _ => n' - (intOf j).toNat)
        case atStart => exact ⟨⟨0, N, f, by omega, rfl, by omega, HMAP, HF⟩, UR.out⟩
        case round =>
          obtain ⟨⟨p, N2, f2, hp, rfl, hN2, HMAP2, HF2⟩, uj⟩ := hrel
          have UJ := Lib.hid uj
          by_cases hlp : p < n'
          · obtain ⟨b2, off2, hA2, hb2, hc2⟩ := HS.out.2.2 (by omega)
            subst hA2
            have at2 := (hc2 p hlp).up (U1.out.trans uj) hb2
            have hb2' : b2 < wr.heap.size := by have := (U1.out.trans uj).size; omega
            have at0 := hc2 p hlp
            clear hc2
            have ST := Lib.hid (fun r (hr : (m.rules.getD q []).getD p default = r) A n c hn he => HF2.out.step (r := r) (A := A) (n := n) (c := c) (by rw [RNH.out]; exact hlp) hr hn he)
            have RB2 := rulesB_mem RB.out p (by rw [RNH.out]; exact hlp)
            generalize hgr : (m.rules.getD q []).getD p default = r at at2 at0 RB2 ST
            obtain ⟨A3, n3, c3, ⟨r0, r1, r2, r3, r4⟩, hn3, he3⟩ := at0; obtain ⟨A4, n4, c4, ⟨s0, s1, s2, s3, s4⟩, hn4', he4⟩ := at2
            have e4 := ((U1.out.trans uj).cells _ _ hb2).trans r4
            rw [s4] at e4
            injection e4 with e4
            injection e4 with e41 e42 e43
            subst e41 e42 e43
            have HF3 := Lib.hid (ST.out r rfl A4 n4 c4 hn3 he3)
            have hkd : 0 ≤ r.kd ∧ r.kd ≤ 2 := by
              simp only [ruleB, Bool.and_eq_true, inB_iff] at RB2
              exact RB2.1.1.1.2
            obtain ⟨kd, ra, rb, rc, es⟩ := r; dsimp only at s0 s1 s2 s3 s4 hkd; unfold Rule.v at HF3; dsimp only at HF3
            have HM3 := Lib.hid (HMAP2.out.up ((Up.refl wr).alloc (.cells #[.int .i64 kd, .int .i64 ra, .int .i64 rb, .int .i64 rc, .slice A4 n4 c4] 114)))
            have UJ2 := Lib.hid (uj.alloc (.cells #[.int .i64 kd, .int .i64 ra, .int .i64 rb, .int .i64 rc, .slice A4 n4 c4] 114))
            clear uj r0 r1 r2 r3 r4 he3 he4 RB2 ST hgr
            have hmb1 : w1.heap.size ≤ mb := by have := HMB.out; omega
            have i6 : (p : Int) < n' := by omega
            have i7 : IntKind.i64.wrap ((p : Int) + 1) = (p : Int) + 1 := IntWalk.i64_in _ (by omega)
            go_wp2_with (at_mapUpdate; refine wpList_store_R rfl _ rfl _ _ _ rfl mb N2 f2 rfl HM3.out (by simp only [maxLen]; omega) q kd rfl (by unfold I64; omega) (by unfold I64; omega) _ rfl ?_; intro w5 h5 m5; have H5 := Lib.hid h5; have U5 := Lib.hid (m5.up UJ2.out hmb1); clear h5 m5)
            go_roundw
            case rel => exact ⟨⟨p + 1, N2 + 1, _, by omega, by first | rfl | go_num, by omega, H5, HF3⟩, U5.out⟩
            case measure => (simp [intOf]; try omega)
          · have HR2 := Lib.hid (HF2.out.row (by rw [RNH.out]; omega))
            have i6 : ¬ (p : Int) < n' := by omega
            clear uj; go_wp2
            go_roundw
            case rel => exact ⟨⟨q + 1, N2, f2, by omega, by first | rfl | go_num, by omega, HMAP2, HR2⟩, UJ.out⟩
            case measure => (simp [intOf]; try omega)
      · have hqn : q = n := by omega
        have DN := Lib.hid ((show Filled w m.rules m.rules.length 0 f by rw [LR.out, ← hqn]; exact HF.out).done HB.out)
        have i4 : ¬ (q : Int) < n := by omega
        clear ur hqn
        have x1 := X1.out.up UR.out
        obtain ⟨q0, q1, q2⟩ := And.intro x1.c0 (And.intro x1.c1 x1.c2)
        have x2 := X2.out.up UR.out
        obtain ⟨p0, p1, p2⟩ := And.intro x2.c0 (And.intro x2.c1 x2.c2)
        have qf : ∀ j, wo.frozen? ⟨w.heap.size + 1, j, none⟩ = false := fun j => (UR.out.frozens _ _ hsz1).trans (F2.out j)
        have K := set3_at (w := wo) (b := w.heap.size + 1) (x := .map (some mb)) (y := .int .i64 n) (z := .int .i64 m.til) (fun j hj => by
          have h3 : j = 0 ∨ j = 1 ∨ j = 2 := by omega
          rcases h3 with rfl | rfl | rfl
          · exact ⟨_, x2.c0⟩
          · exact ⟨_, x2.c1⟩
          · exact ⟨_, x2.c2⟩)
        obtain ⟨k0, k1, k2⟩ := K
        have UE := Lib.hid ((((U1.out.trans UR.out).setCell (p := ⟨w.heap.size + 1, 0, none⟩) (by dsimp only; omega) (.map (some mb))).setCell (p := ⟨w.heap.size + 1, 1, none⟩) (by dsimp only; omega) (.int .i64 n)).setCell (p := ⟨w.heap.size + 1, 2, none⟩) (by dsimp only; omega) (.int .i64 m.til))
        have hmbw : w.heap.size + 1 < mb := by have := HMB.out; omega
        have ME := Lib.hid (show Mach _ mb m from ⟨N, f, ((HMAP.out.setFar (p := ⟨w.heap.size + 1, 0, none⟩) (by dsimp only; omega) (.map (some mb))).setFar (p := ⟨w.heap.size + 1, 1, none⟩) (by dsimp only; omega) (.int .i64 n)).setFar (p := ⟨w.heap.size + 1, 2, none⟩) (by dsimp only; omega) (.int .i64 m.til), fun c k => (DN.out c k).up UE.out⟩)
        clear x1 x2; go_wp2
        exact bodyPost_ret (v := .tuple #[.agg #[.map (some mb), .int .i64 n, .int .i64 m.til], .bool true]) (by simp [results, Try.results30, go_sem, k0, k1, k2]) rfl ⟨UE.out, .inr ⟨HB.out, mb, by rw [LR.out], by omega, ME.out⟩⟩
end Go.Proofs.Ytipjcjjjkkaigab

namespace Go.Proofs.Ytipjcjjjkkaigab
set_option maxRecDepth 100000
open Go.RowKit
theorem neverL_any (mb : Option Nat) (many til : Int) (w : World) (h0 : 0 ≤ til ∧ til ≤ 99) :
    Calls Try.prog 85 #[.agg #[.map mb, .int .i64 many, .int .i64 til]] w fun x w' => x = .returned (.int .i64 (til + 1)) ∧ Up w w' := by
  have i1 : IntKind.i64.wrap (til + 1) = til + 1 := IntWalk.i64_in _ (by omega)
  go_enter Try.func85, Try.ntmps85
  go_wp2; go_ret
  exact ⟨rfl, (Up.refl w).alloc _⟩
end Go.Proofs.Ytipjcjjjkkaigab

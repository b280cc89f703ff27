/-
  What spec.CmbOk returns, in one sentence: whether a conservative simulation is one of a model; for every model and every simulation that lie in memory.
  The least of a number and a list, in one sentence: step by step; for every list.
  What spec.CmbSafe returns, in one sentence: the least bound of a host, or -1; for every model, every simulation and every number, all in memory.
  What newMachine returns, in one sentence: false for a model that is none; else a new map with the model's rules, their number and its end; for every model that lies in memory.
  What impl.CmbLook gives, in one sentence: the least delay of the first component's sends to the second, but at most the end and one, and -1 for a model that is none or a component that does not exist; for every model that lies in memory.
-/
import Derived.ProofKit
import Derived.Test.YtklldniapombiaaDLEcbsf07
import Derived.Test.YtklldniapombiaaDLEcbsf12
import Derived.Test.YtklldniapombiaaDLEcbsf15
namespace Go.Proofs.Ytklldniapombiaa
set_option maxRecDepth 100000
open Go.RowKit
set_option maxHeartbeats 8000000 in
theorem specCbOk_any (A : Option Addr) (n c : Nat) (B : Option Addr) (k d : Nat) (m : Mdl) (HA : Option Addr) (nh hc : Nat) (LB : Option Addr) (nl lc : Nat) (hs : List Ch) (ls : List (List Rec)) (w : World) (hM : MdlV w A n B k m) (hV : CbV w HA nh LB nl hs ls) :
    Calls Try.prog 48 #[.agg #[.slice A n c, .slice B k d, .int .i64 m.til], .agg #[.slice HA nh hc, .slice LB nl lc]] w fun x w' => x = .returned (.bool (cbB m hs ls)) ∧ Up w w' := by
  have CM := Lib.hid (fun W (u : Up w W) => specMdl_any A n c B k d m W (hM.up u))
  have LN := hM.rules.1
  have LV := Lib.hid (show cbB m hs ls = (mdlB m && (decide (nh = n) && decide (nl = n) && chsB n m.til 0 hs ls)) by rw [← LN, ← hV.hosts.1, ← hV.logs.1]; rfl)
  have FT := Lib.hid (fun (e : mdlB m = true) => And.intro (mdlB_few e) (mdlB_til e))
  rw [LN] at FT
  have HH := Lib.hid hV.hosts
  have HL := Lib.hid hV.logs
  have LH := Lib.hid hV.hosts.1
  have DR := Lib.hid (fun q h => chsB_drop n m.til hs ls q h)
  have DE := Lib.hid (fun q h => chsB_end n m.til hs ls q h)
  have H0 := Lib.hid (show chsB n m.til ((0 : Nat) : Int) (hs.drop 0) (ls.drop 0) = chsB n m.til 0 hs ls from rfl)
  have hnh := hV.few.1
  have hnl := hV.few.2
  generalize chsB n m.til 0 hs ls = b5 at H0 LV
  generalize cbB m hs ls = res at LV ⊢
  have X2 := Lib.hid ((Blk.new w #[.slice A n c, .slice B k d, .int .i64 m.til] 36).alloc (.cells #[.slice HA nh hc, .slice LB nl lc] 41))
  have X3 := Lib.hid (Blk.new (w.alloc (.cells #[.slice A n c, .slice B k d, .int .i64 m.til] 36)) #[.slice HA nh hc, .slice LB nl lc] 41)
  simp only [World.size_alloc] at X3
  have U := Lib.hid (((Up.refl w).alloc (.cells #[.slice A n c, .slice B k d, .int .i64 m.til] 36)).alloc (.cells #[.slice HA nh hc, .slice LB nl lc] 41))
  generalize mdlB m = bm at CM LV FT
  clear hM hV LN
  go_enter Try.func48, Try.ntmps48
  go_wp2_with fail
  generalize (w.alloc (.cells #[.slice A n c, .slice B k d, .int .i64 m.til] 36)).alloc (.cells #[.slice HA nh hc, .slice LB nl lc] 41) = W0 at *
  generalize hbm : w.heap.size + 1 = bX at *
  generalize hbx : w.heap.size = bM at *
  clear hbm hbx; refine (CM.out _ U.out).mono ?_; rintro x w1 ⟨rfl, u1⟩
  replace U := Lib.hid (U.out.trans u1)
  replace X2 := Lib.hid (X2.out.up u1)
  replace X3 := Lib.hid (X3.out.up u1)
  clear u1
  cases bm
  · have HF := Lib.hid (show res = false by rw [LV.out]; rfl)
    go_wp2; go_ret
    exact ⟨ret_bool HF.out.symm, U.out⟩
  · obtain ⟨few, tl⟩ := FT.out rfl
    obtain ⟨m0, m1, m2⟩ := And.intro (X2.out.cell (j := 0) rfl) (And.intro (X2.out.cell (j := 1) rfl) (X2.out.cell (j := 2) rfl))
    have lm := X2.out.lt
    obtain ⟨y0, y1⟩ := And.intro (X3.out.cell (j := 0) rfl) (X3.out.cell (j := 1) rfl)
    have ly := X3.out.lt
    by_cases e1 : nh = n
    · subst e1
      have q1 : ((nh : Int) != (nh : Int)) = false := by simp
      by_cases e2 : nl = nh
      · subst e2
        have LV := Lib.hid (show res = b5 by rw [LV.out]; simp)
        go_wp2; clear m0 m1 m2 lm y0 y1 ly
        go_loopw [5] (fun i wr => (∃ q : Nat, q ≤ nl ∧ i = .int .i64 q ∧ Hid (chsB nl m.til (q : Int) (hs.drop q) (ls.drop q) = b5)) ∧ Up w1 wr) (fun i _ => nl - (intOf i).toNat)
        case atStart => exact ⟨⟨0, by omega, rfl, H0⟩, Up.refl _⟩
        case round =>
          obtain ⟨⟨q, hq, rfl, HR⟩, ur⟩ := hrel
          have UR := Lib.hid (U.out.trans ur)
          have URW := Lib.hid ur
          have Y2 := Lib.hid (X2.out.up ur)
          have Y3 := Lib.hid (X3.out.up ur)
          clear ur; obtain ⟨m0, m1, m2⟩ := And.intro (Y2.out.cell (j := 0) rfl) (And.intro (Y2.out.cell (j := 1) rfl) (Y2.out.cell (j := 2) rfl))
          have lm := Y2.out.lt
          obtain ⟨y0, y1⟩ := And.intro (Y3.out.cell (j := 0) rfl) (Y3.out.cell (j := 1) rfl)
          have ly := Y3.out.lt
          by_cases hlt : q < nl
          · obtain ⟨b, off, hA, hb, hcc⟩ := (HH.out.up UR.out).2 (by omega)
            obtain ⟨b2, off2, hB, hb2, hcl⟩ := (HL.out.up UR.out).2 (by omega); subst hA hB
            have a0 := hcc q hlt
            obtain ⟨A4, n4, c4, p4, hl4, hn4⟩ := hcl q hlt
            have S := DR.out q (by rw [LH.out]; exact hlt)
            rw [HR.out] at S
            generalize hs.getD q default = h at a0 S
            generalize ls.getD q [] = l at hl4 S
            obtain ⟨Aw, nw, cw, Ai, ni, ci, ⟨p0, p1, p2, p3, p5⟩, ⟨h5, h6⟩, h7, h8⟩ := a0
            have C := Lib.hid (fun W1 (u : Up wr W1) => l9Host_any A nl c B k d m.til (q : Int) h Aw nw cw Ai ni ci A4 n4 c4 l W1 tl (by omega) (h5.up u) (h7.up u) (hl4.up u) ⟨h6, h8, hn4⟩)
            generalize chB nl m.til (q : Int) h l = r at S C
            have S' := Lib.hid S
            generalize h.now.s = z0 at *
            generalize h.now.sq = z1 at *
            generalize h.now.ct = z2 at *
            clear S hcc hcl h5 h6 h7 h8 hl4 hn4
            have i4 : (q : Int) < nl := by omega
            have i5 : IntKind.i64.wrap ((q : Int) + 1) = (q : Int) + 1 := IntWalk.i64_in _ (by omega)
            go_wp2_with fail
            refine region_qw (by kernel_rfl) (by kernel_rfl) ?_; refine qWalk_step ?_; intro K hK; go_simp; apply Exists.intro; refine And.intro ?_ ?_
            · intro w1 hw1
              obtain ⟨hc, hf, hz⟩ := hw1.facts
              try simp at hz
              try go_simp
              try rfl
            try go_simp
            refine hK _ ?_; clear hK K; refine qWalk_step ?_; intro K hK; go_simp; apply Exists.intro; refine And.intro ?_ ?_
            · intro w1 hw1
              try go_simp
              try rfl
            try go_simp
            refine hK _ ?_; clear hK K; refine qWalk_step ?_; intro K hK; go_simp; apply Exists.intro; refine And.intro ?_ ?_
            · intro w1 hw1
              try go_simp
              try rfl
            try go_simp
            refine hK _ ?_; clear hK K; refine qWalk_step ?_; intro K hK; go_simp; apply Exists.intro; refine And.intro ?_ ?_
            · intro w1 hw1
              obtain ⟨hc, hf, hz⟩ := hw1.facts
              try simp at hz
              try go_simp
              try rfl
            try go_simp
            refine hK _ ?_; clear hK K; refine qWalk_step ?_; intro K hK; go_simp; apply Exists.intro; refine And.intro ?_ ?_
            · intro w1 hw1
              try go_simp
              try rfl
            try go_simp
            refine hK _ ?_; clear hK K; refine qWalk_step ?_; intro K hK; go_simp; apply Exists.intro; refine And.intro ?_ ?_
            · intro w1 hw1
              try go_simp
              try rfl
            try go_simp
            refine hK _ ?_; clear hK K; refine qWalk_step ?_; intro K hK; go_simp; apply Exists.intro; refine And.intro ?_ ?_
            · intro w1 hw1
              obtain ⟨hc, hf, hz⟩ := hw1.facts
              try simp at hz
              try go_simp
              try rfl
            try go_simp
            refine hK _ ?_; clear hK K; refine qWalk_step ?_; intro K hK; go_simp; apply Exists.intro; refine And.intro ?_ ?_
            · intro w1 hw1
              try go_simp
              try rfl
            try go_simp
            refine hK _ ?_; clear hK K; refine qWalk_step ?_; intro K hK; go_simp; apply Exists.intro; refine And.intro ?_ ?_
            · intro w1 hw1
              obtain ⟨hc, hf, hz⟩ := hw1.facts
              try simp at hz
              try go_simp
              try rfl
            try go_simp
            refine hK _ ?_; clear hK K; refine qWalk_step ?_; intro K hK; go_simp; apply Exists.intro; refine And.intro ?_ ?_
            · intro w1 hw1
              try go_simp
              try rfl
            try go_simp
            refine hK _ ?_; clear hK K; refine qWalk_step ?_; intro K hK; go_simp; apply Exists.intro; refine And.intro ?_ ?_
            · intro w1 hw1
              try go_simp
              try rfl
            try go_simp
            refine hK _ ?_; clear hK K; refine qWalk_step ?_; intro K hK; go_simp; apply Exists.intro; refine And.intro ?_ ?_
            · intro w1 hw1
              obtain ⟨hc, hf, hz⟩ := hw1.facts
              try simp at hz
              try go_simp
              try rfl
            try go_simp
            refine hK _ ?_; clear hK K; refine qWalk_step ?_; intro K hK; go_simp; apply Exists.intro; refine And.intro ?_ ?_
            · intro w1 hw1
              try go_simp
              exact up_call hw1 (C.out _ hw1)
            try go_simp
            refine hK _ ?_; clear hK K; refine qWalk_step ?_; intro K hK; go_simp; apply Exists.intro; refine And.intro ?_ ?_
            · intro w1 hw1
              try go_simp
              try rfl
            try go_simp
            refine hK _ ?_; clear hK K; refine qWalk_nil ?_; intro wA uA
            have UN := Lib.hid (URW.out.trans uA)
            clear uA m0 m1 m2 lm y0 y1 ly p0 p1 p2 p3 p4 p5
            cases r
            · have HF := Lib.hid (show res = false by rw [LV.out, S'.out]; rfl)
              go_wp2; go_ret
              exact ⟨ret_bool HF.out.symm, U.out.trans UN.out⟩
            · have HN := Lib.hid (show chsB nl m.til ((q + 1 : Nat) : Int) (hs.drop (q + 1)) (ls.drop (q + 1)) = b5 by rw [S'.out]; rfl)
              go_wp2
              go_roundw
              case rel => exact ⟨⟨q + 1, by omega, by go_num, HN⟩, UN.out⟩
              case measure => simp [intOf]; omega
          · obtain rfl : q = nl := by omega
            have i4 : ¬ (q : Int) < q := by omega
            have HT := Lib.hid (show res = true by rw [LV.out, ← HR.out]; exact DE.out q (by rw [LH.out]; omega))
            go_wp2; go_ret
            exact ⟨ret_bool HT.out.symm, UR.out⟩
      · have q2 : ((nl : Int) != (nh : Int)) = true := by simp; omega
        have q3 : ¬ (nl : Int) = (nh : Int) := by omega
        have HF := Lib.hid (show res = false by rw [LV.out, decide_eq_false e2]; simp)
        go_wp2; go_ret
        exact ⟨ret_bool HF.out.symm, U.out⟩
    · have q2 : ((nh : Int) != (n : Int)) = true := by simp; omega
      have q3 : ¬ (nh : Int) = (n : Int) := by omega
      have HF := Lib.hid (show res = false by rw [LV.out, decide_eq_false e1]; simp)
      go_wp2; go_ret
      exact ⟨ret_bool HF.out.symm, U.out⟩
end Go.Proofs.Ytklldniapombiaa

namespace Go.Proofs.Ytklldniapombiaa
set_option maxRecDepth 100000
/-- The least of a number and a list. -/
def mnL : Int → List Int → Int
  | a, [] => a
  | a, z :: zs => mnL (min a z) zs
theorem mnL_drop (a : Int) (zs : List Int) (q : Nat) (h : q < zs.length) : mnL a (zs.drop q) = mnL (min a (zs.getD q 0)) (zs.drop (q + 1)) := by
  rw [List.drop_eq_getElem_cons h]; simp [mnL, List.getD_eq_getElem?_getD, List.getElem?_eq_getElem h]
theorem mnL_end (a : Int) (zs : List Int) (q : Nat) (h : zs.length ≤ q) : mnL a (zs.drop q) = a := by
  rw [List.drop_eq_nil_of_le h]
  rfl
end Go.Proofs.Ytklldniapombiaa

namespace Go.Proofs.Ytklldniapombiaa
set_option maxRecDepth 100000
open Go.RowKit
/-- What the safe time is. -/
def safV (m : Mdl) (hs : List Ch) (ls : List (List Rec)) (at_ : Int) : Int :=
  if cbB m hs ls && inB at_ 0 ((hs.length : Int) - 1) then mnL ((hs.getD at_.toNat default).ins.getD 0 0) ((hs.getD at_.toNat default).ins.drop 1) else -1
theorem chB_ins {many : Nat} {til comp : Int} {h : Ch} {l : List Rec} (e : chB many til comp h l = true) : h.ins.length = many := by
  unfold chB at e; simp only [Bool.and_eq_true, decide_eq_true_eq] at e
  exact e.1.1.1.1.2
theorem chsB_at (many : Nat) (til : Int) : ∀ (hs : List Ch) (ls : List (List Rec)) (comp : Int), chsB many til comp hs ls = true → ∀ i, i < hs.length → (hs.getD i default).ins.length = many
  | [], _, _, _, i, hi => absurd hi (by simp)
  | h :: hs, ls, comp, e, i, hi => by
    unfold chsB at e; rw [Bool.and_eq_true] at e
    cases i with
    | zero => simpa using chB_ins e.1
    | succ i => simpa using chsB_at many til hs (ls.drop 1) (comp + 1) e.2 i (by simpa using hi)
theorem cbB_ins {m : Mdl} {hs : List Ch} {ls : List (List Rec)} (e : cbB m hs ls = true) (i : Nat) (hi : i < hs.length) : 0 < (hs.getD i default).ins.length := by
  unfold cbB at e; simp only [Bool.and_eq_true, decide_eq_true_eq] at e
  have := chsB_at m.rules.length m.til hs ls 0 e.2.2 i hi
  have := e.2.1.1
  omega
set_option maxHeartbeats 2000000 in
theorem l9Safe_any (h : Ch) (Aw : Option Addr) (nw cw : Nat) (Ai : Option Addr) (ni ci : Nat) (w : World) (hN : Nms w Ai ni h.ins) (h0 : 0 < ni) (h1 : ni ≤ 1048576) :
    Calls Try.prog 55 #[.agg #[.int .i64 h.now.s, .int .i64 h.now.sq, .int .i64 h.now.ct, .slice Aw nw cw, .slice Ai ni ci]] w fun x w' => x = .returned (.int .i64 (mnL (h.ins.getD 0 0) (h.ins.drop 1))) ∧ Up w w' := by
  obtain ⟨⟨a0, a1, a2⟩, hw_, zs⟩ := h; dsimp only at hN ⊢; obtain ⟨b, off, hA, hb, hc⟩ := hN.2 h0; subst hA
  have X := Lib.hid (Blk.new w #[.int .i64 a0, .int .i64 a1, .int .i64 a2, .slice Aw nw cw, .slice (some ⟨b, off, none⟩) ni ci] 86)
  have U := Lib.hid ((Up.refl w).alloc (.cells #[.int .i64 a0, .int .i64 a1, .int .i64 a2, .slice Aw nw cw, .slice (some ⟨b, off, none⟩) ni ci] 86))
  have HN := Lib.hid hN
  have LN := Lib.hid hN.1
  have DR := Lib.hid (fun a q h => mnL_drop a zs q h)
  have DE := Lib.hid (fun a q h => mnL_end a zs q h)
  generalize hres : mnL (zs.getD 0 0) (zs.drop 1) = res
  have H0 := Lib.hid hres
  clear hres
  have p0 := (U.out.cells _ _ hb).trans (hc 0 h0)
  rw [Nat.add_zero] at p0
  have hb' : b < (w.alloc (.cells #[.int .i64 a0, .int .i64 a1, .int .i64 a2, .slice Aw nw cw, .slice (some ⟨b, off, none⟩) ni ci] 86)).heap.size := by have := U.out.size; omega
  generalize zs.getD 0 0 = z0 at p0 H0
  have y4 := X.out.cell (j := 4) rfl
  have ly := X.out.lt
  clear hN hc
  go_enter Try.func55, Try.ntmps55
  go_wp2
  generalize w.alloc (.cells #[.int .i64 a0, .int .i64 a1, .int .i64 a2, .slice Aw nw cw, .slice (some ⟨b, off, none⟩) ni ci] 86) = W at *
  generalize hbx : w.heap.size = bX at *
  clear hbx y4 ly p0 hb'
  go_loopw [3, 4] (fun s i wr => (∃ (a : Int) (q : Nat), 1 ≤ q ∧ q ≤ ni ∧ s = .int .i64 a ∧ i = .int .i64 q ∧ Hid (mnL a (zs.drop q) = res)) ∧ Up W wr) (fun _ i _ => ni - (intOf i).toNat)
  case atStart => exact ⟨⟨z0, 1, by omega, by omega, rfl, rfl, H0⟩, Up.refl _⟩
  case round =>
    obtain ⟨⟨a, q, hq1, hq, rfl, rfl, HR⟩, ur⟩ := hrel
    have UR := Lib.hid (U.out.trans ur)
    have URW := Lib.hid ur
    have Y := X.out.up ur
    have y4 := Y.cell (j := 4) rfl
    have ly := Y.lt
    clear ur Y
    by_cases hlt : q < ni
    · obtain ⟨b2, off2, hA, hb2, hc⟩ := (HN.out.up UR.out).2 h0
      have p := hc q hlt
      have S := DR.out a q (by rw [LN.out]; exact hlt)
      rw [HR.out] at S
      generalize zs.getD q 0 = z at p S
      obtain ⟨rfl, rfl⟩ : b2 = b ∧ off2 = off := by
        injection hA with e
        injection e with e1 e2 _
        exact ⟨e1.symm, e2.symm⟩
      clear hc hA
      have i4 : (q : Int) < ni := by omega
      have i5 : IntKind.i64.wrap ((q : Int) + 1) = (q : Int) + 1 := IntWalk.i64_in _ (by omega)
      by_cases hm : z < a
      · have HZ := Lib.hid (show mnL z (zs.drop (q + 1)) = res by rw [S, show min a z = z by omega])
        clear S; go_wp2
        go_roundw
        case rel => exact ⟨⟨z, q + 1, by omega, by omega, rfl, by first | rfl | go_num, HZ⟩, URW.out⟩
        case measure => (simp [intOf]; try omega)
      · have HZ := Lib.hid (show mnL a (zs.drop (q + 1)) = res by rw [S, show min a z = a by omega])
        clear S; go_wp2
        go_roundw
        case rel => exact ⟨⟨a, q + 1, by omega, by omega, rfl, by first | rfl | go_num, HZ⟩, URW.out⟩
        case measure => (simp [intOf]; try omega)
    · obtain rfl : q = ni := by omega
      have i4 : ¬ (q : Int) < q := by omega
      have HE := Lib.hid (show res = a by rw [← HR.out]; exact DE.out a q (by rw [LN.out]; omega))
      go_wp2; go_ret
      exact ⟨congrArg (fun z => Ending.returned (.int .i64 z)) HE.out.symm, UR.out⟩
set_option maxHeartbeats 4000000 in
theorem specCbSafe_any (A : Option Addr) (n c : Nat) (B : Option Addr) (k d : Nat) (m : Mdl) (HA : Option Addr) (nh hc : Nat) (LB : Option Addr) (nl lc : Nat) (hs : List Ch) (ls : List (List Rec)) (at_ : Int) (w : World) (hM : MdlV w A n B k m) (hV : CbV w HA nh LB nl hs ls) :
    Calls Try.prog 13 #[.agg #[.slice A n c, .slice B k d, .int .i64 m.til], .agg #[.slice HA nh hc, .slice LB nl lc], .int .i64 at_] w fun x w' => x = .returned (.int .i64 (safV m hs ls at_)) ∧ Up w w' := by
  have CM := Lib.hid (fun W (u : Up w W) => specCbOk_any A n c B k d m HA nh hc LB nl lc hs ls W (hM.up u) (hV.up u))
  have LH := Lib.hid hV.hosts.1
  have HH := Lib.hid hV.hosts
  have hnh := hV.few.1
  have LV := Lib.hid (show safV m hs ls at_ = if cbB m hs ls && inB at_ 0 ((nh : Int) - 1) then mnL ((hs.getD at_.toNat default).ins.getD 0 0) ((hs.getD at_.toNat default).ins.drop 1) else -1 by rw [← LH.out]; rfl)
  have INS := Lib.hid (fun (e : cbB m hs ls = true) i (hi : i < nh) => cbB_ins e i (by rw [LH.out]; exact hi))
  have X2 := Lib.hid ((Blk.new w #[.slice A n c, .slice B k d, .int .i64 m.til] 36).alloc (.cells #[.slice HA nh hc, .slice LB nl lc] 41))
  have X3 := Lib.hid (Blk.new (w.alloc (.cells #[.slice A n c, .slice B k d, .int .i64 m.til] 36)) #[.slice HA nh hc, .slice LB nl lc] 41)
  simp only [World.size_alloc] at X3
  have U := Lib.hid (((Up.refl w).alloc (.cells #[.slice A n c, .slice B k d, .int .i64 m.til] 36)).alloc (.cells #[.slice HA nh hc, .slice LB nl lc] 41))
  generalize safV m hs ls at_ = res at LV ⊢
  generalize cbB m hs ls = bm at CM LV INS
  obtain ⟨m0, m1, m2⟩ := And.intro (X2.out.cell (j := 0) rfl) (And.intro (X2.out.cell (j := 1) rfl) (X2.out.cell (j := 2) rfl))
  have lm := X2.out.lt
  obtain ⟨y0, y1⟩ := And.intro (X3.out.cell (j := 0) rfl) (X3.out.cell (j := 1) rfl)
  have ly := X3.out.lt
  clear hM hV
  go_enter Try.func13, Try.ntmps13
  go_wp2_with fail
  generalize (w.alloc (.cells #[.slice A n c, .slice B k d, .int .i64 m.til] 36)).alloc (.cells #[.slice HA nh hc, .slice LB nl lc] 41) = W0 at *
  generalize hbm : w.heap.size + 1 = bX at *
  generalize hbx : w.heap.size = bM at *
  clear hbm hbx m0 m1 m2 lm y0 y1 ly; refine (CM.out _ U.out).mono ?_; rintro x w1 ⟨rfl, u1⟩
  replace U := Lib.hid (U.out.trans u1)
  replace X3 := Lib.hid (X3.out.up u1)
  clear u1
  cases bm
  · have HF := Lib.hid (show res = -1 by rw [LV.out]; rfl)
    go_wp2; go_ret
    exact ⟨congrArg (fun z => Ending.returned (.int .i64 z)) HF.out.symm, U.out⟩
  · obtain ⟨y0, y1⟩ := And.intro (X3.out.cell (j := 0) rfl) (X3.out.cell (j := 1) rfl)
    have ly := X3.out.lt
    have IN := Lib.hid (inB_iff (n := at_) (lo := 0) (hi := (nh : Int) - 1))
    have CF := Lib.hid (fun W => l1In_any at_ 0 ((nh : Int) - 1) W)
    have i1 : IntKind.i64.wrap ((nh : Int) - 1) = (nh : Int) - 1 := IntWalk.i64_in _ (by omega)
    generalize inB at_ 0 ((nh : Int) - 1) = b1 at LV CF IN
    cases b1
    · have HF := Lib.hid (show res = -1 by rw [LV.out]; rfl)
      go_wp2_with fail
      refine (CF.out _).mono ?_; rintro x w2 ⟨rfl, rfl⟩; go_wp2; go_ret
      exact ⟨congrArg (fun z => Ending.returned (.int .i64 z)) HF.out.symm, U.out⟩
    · have INF := Lib.hid (IN.out.1 rfl)
      obtain ⟨q, hq⟩ : ∃ q : Nat, at_ = q := ⟨at_.toNat, by have := INF.out; omega⟩; subst hq
      have hlt : q < nh := by have := INF.out; omega
      have ins := INS.out rfl q hlt
      have HF := Lib.hid (show res = mnL ((hs.getD q default).ins.getD 0 0) ((hs.getD q default).ins.drop 1) by rw [LV.out]; rfl)
      obtain ⟨b, off, hA, hb, hcc⟩ := (HH.out.up U.out).2 (by omega); subst hA
      have a0 := hcc q hlt
      generalize hs.getD q default = h at a0 HF ins
      obtain ⟨Aw, nw, cw, Ai, ni, ci, ⟨p0, p1, p2, p3, p4⟩, ⟨h5, h6⟩, h7, h8⟩ := a0
      have C := Lib.hid (fun W1 (u : Up w1 W1) => l9Safe_any h Aw nw cw Ai ni ci W1 (h7.up u) (by rw [← h7.1]; exact ins) h8)
      generalize mnL (h.ins.getD 0 0) (h.ins.drop 1) = R at C HF
      generalize h.now.s = z0 at *
      generalize h.now.sq = z1 at *
      generalize h.now.ct = z2 at *
      clear hcc h5 h6 h7 ins INS
      have i4 : (q : Int) < nh := by omega
      go_wp2_with fail
      refine (CF.out _).mono ?_; rintro x w2 ⟨rfl, rfl⟩
      go_wp2_with fail
      refine (C.out _ (Up.refl _)).mono ?_; rintro x w3 ⟨rfl, u3⟩; go_wp2; go_ret
      exact ⟨congrArg (fun z => Ending.returned (.int .i64 z)) HF.out.symm, U.out.trans u3⟩
end Go.Proofs.Ytklldniapombiaa

namespace Go.Proofs.Ytklldniapombiaa
set_option maxRecDepth 100000
open Go.RowKit
def MachPost (m : Mdl) (w : World) (x : Ending) (w' : World) : Prop :=
  Up w w' ∧ ((mdlB m = false ∧ x = .returned (.tuple #[.agg #[.map none, .int .i64 0, .int .i64 0], .bool false])) ∨
    (mdlB m = true ∧ ∃ b, x = .returned (.tuple #[.agg #[.map (some b), .int .i64 m.rules.length, .int .i64 m.til], .bool true]) ∧ w.heap.size ≤ b ∧ Mach w' b m))
set_option maxHeartbeats 8000000 in
theorem newMachine_any (A : Option Addr) (n c : Nat) (B : Option Addr) (k d : Nat) (m : Mdl) (w : World) (hM : MdlV w A n B k m) :
    Calls Try.prog 66 #[.agg #[.slice A n c, .slice B k d, .int .i64 m.til]] w (MachPost m w) := by
  have HM := Lib.hid hM
  have HR := Lib.hid hM.rules
  have LR := Lib.hid hM.rules.1
  have U0 := Lib.hid (((Up.refl w).alloc (.cells #[.slice A n c, .slice B k d, .int .i64 m.til] 36)).alloc (.cells #[.map none, .int .i64 0, .int .i64 0] 109))
  have X1 := Lib.hid ((Box3.new w (.slice A n c) (.slice B k d) (.int .i64 m.til) 36).up ((Up.refl _).alloc (.cells #[.map none, .int .i64 0, .int .i64 0] 109)))
  have X2 := Lib.hid (Box3.new (w.alloc (.cells #[.slice A n c, .slice B k d, .int .i64 m.til] 36)) (.map none) (.int .i64 0) (.int .i64 0) 109)
  have F2 := Lib.hid (fun j => free_new (w.alloc (.cells #[.slice A n c, .slice B k d, .int .i64 m.til] 36)) #[.map none, .int .i64 0, .int .i64 0] 109 j)
  simp only [World.size_alloc] at X2 F2
  have CI := Lib.hid (fun W (u : Up w W) => implMdl_any A n c B k d m W (hM.up u))
  generalize hmb : mdlB m = g at CI
  have HB := Lib.hid hmb
  clear hM hmb
  go_enter Try.func66, Try.ntmps66
  go_wp2_with fail
  refine (CI.out _ U0.out).mono ?_; rintro x w1 ⟨rfl, u1⟩
  have U1 := Lib.hid (U0.out.trans u1)
  have X1 := Lib.hid (X1.out.up u1)
  have x2 := X2.out.up u1
  have f2 : ∀ j, w1.frozen? ⟨w.heap.size + 1, j, none⟩ = false := fun j => (u1.frozens _ _ (by simp)).trans (F2.out j)
  have X2 := Lib.hid x2
  have F2 := Lib.hid f2
  clear u1 x2 f2
  cases g
  · have K := set3_at (w := w1) (b := w.heap.size + 1) (x := .map none) (y := .int .i64 0) (z := .int .i64 0) (fun j hj => by
      have h3 : j = 0 ∨ j = 1 ∨ j = 2 := by omega
      rcases h3 with rfl | rfl | rfl
      · exact ⟨_, X2.out.c0⟩
      · exact ⟨_, X2.out.c1⟩
      · exact ⟨_, X2.out.c2⟩)
    have UE := Lib.hid (((U1.out.setCell (p := ⟨w.heap.size + 1, 0, none⟩) (by dsimp only; omega) (.map none)).setCell (p := ⟨w.heap.size + 1, 1, none⟩) (by dsimp only; omega) (.int .i64 0)).setCell (p := ⟨w.heap.size + 1, 2, none⟩) (by dsimp only; omega) (.int .i64 0))
    obtain ⟨k0, k1, k2⟩ := K; obtain ⟨q0, q1, q2⟩ := And.intro X2.out.c0 (And.intro X2.out.c1 X2.out.c2)
    have qf := F2.out
    go_wp2
    exact bodyPost_ret (v := .tuple #[.agg #[.map none, .int .i64 0, .int .i64 0], .bool false]) (by simp [results, Try.results66, go_sem, k0, k1, k2]) rfl ⟨UE.out, .inl ⟨HB.out, rfl⟩⟩
  · obtain ⟨q0, q1, q2⟩ := And.intro X1.out.c0 (And.intro X1.out.c1 X1.out.c2)
    have hsz1 : w.heap.size + 1 < w1.heap.size := X2.out.lt
    have FEW := Lib.hid (mdlB_few HB.out)
    have hn4 : n ≤ 4 := by have := FEW.out; have := LR.out; omega
    have H0 := RMap.made w1
    have F0 := Lib.hid (Filled.start w m.rules)
    have hmm := run_makeMap (P := Try.prog) 107 w1
    have u2 : Up w1 (w1.alloc (.map #[] 0)) := (Up.refl _).alloc _
    generalize w1.alloc (.map #[] 0) = w2 at H0 hmm u2
    generalize hmb : w1.heap.size = mb at H0 hmm
    have HMB := Lib.hid hmb
    have H0 := Lib.hid H0
    have x1 := X1.out.up u2
    obtain ⟨p0, p1, p2⟩ := And.intro x1.c0 (And.intro x1.c1 x1.c2)
    have U2 := Lib.hid u2
    clear hmb x1 u2 q0 q1 q2; go_wp2; clear hmm p0 p1 p2
    go_loopw [17] (fun i wr => (∃ (q N : Nat) (f : Int → Int → Option Value), q ≤ n ∧ i = .int .i64 q ∧ N ≤ 3 * q ∧ Hid (RMap wr mb N f) ∧ Hid (Filled w m.rules q 0 f)) ∧ Up w1 wr) (fun i _ => n - (intOf i).toNat)
    case atStart => exact ⟨⟨0, 0, _, by omega, rfl, by omega, H0, F0⟩, U2.out⟩
    case round =>
      obtain ⟨⟨q, N, f, hq, rfl, hN, HMAP, HF⟩, ur⟩ := hrel; obtain ⟨wo, hwo⟩ : ∃ W, W = wr := ⟨_, rfl⟩; subst hwo
      have UR := Lib.hid ur
      by_cases hlt : q < n
      · obtain ⟨b, off, hA, hb, hc⟩ := HR.out.2.2 (by omega)
        subst hA; obtain ⟨A', n', c', hcell, hrs⟩ := hc q hlt
        have cell := ((U1.out.trans ur).cells _ _ hb).trans hcell
        have HS := Lib.hid hrs
        have hb' : b < wo.heap.size := by have := (U1.out.trans ur).size; omega
        have RB := Lib.hid (mdlB_row HB.out q (by rw [LR.out]; exact hlt))
        have hn'3 : n' ≤ 3 := by
          have h := rulesB_len RB.out (by omega) (by omega)
          have := hrs.1
          omega
        clear hc hcell hrs ur
        have i4 : (q : Int) < n := by omega
        have i5 : IntKind.i64.wrap ((q : Int) + 1) = (q : Int) + 1 := IntWalk.i64_in _ (by omega)
        have RN : (m.rules.getD q []).length = n' := HS.out.1
        have RNH := Lib.hid RN
        clear RN
        go_wp2_with fail
        go_loopw [24] (fun j wj => (∃ (p N : Nat) (f : Int → Int → Option Value), p ≤ n' ∧ j = .int .i64 p ∧ N ≤ 3 * q + p ∧ Hid (RMap wj mb N f) ∧ Hid (Filled w m.rules q p f)) ∧ Up w1 wj) (fun j _ => n' - (intOf j).toNat)
        case atStart => exact ⟨⟨0, N, f, by omega, rfl, by omega, HMAP, HF⟩, UR.out⟩
        case round =>
          obtain ⟨⟨p, N2, f2, hp, rfl, hN2, HMAP2, HF2⟩, uj⟩ := hrel
          have UJ := Lib.hid uj
          by_cases hlp : p < n'
          · obtain ⟨b2, off2, hA2, hb2, hc2⟩ := HS.out.2.2 (by omega)
            subst hA2
            have at2 := (hc2 p hlp).up (U1.out.trans uj) hb2
            have hb2' : b2 < wr.heap.size := by have := (U1.out.trans uj).size; omega
            have at0 := hc2 p hlp
            clear hc2
            have ST := Lib.hid (fun r (hr : (m.rules.getD q []).getD p default = r) A n c hn he => HF2.out.step (r := r) (A := A) (n := n) (c := c) (by rw [RNH.out]; exact hlp) hr hn he)
            have RB2 := rulesB_mem RB.out p (by rw [RNH.out]; exact hlp)
            generalize hgr : (m.rules.getD q []).getD p default = r at at2 at0 RB2 ST
            obtain ⟨A3, n3, c3, ⟨r0, r1, r2, r3, r4⟩, hn3, he3⟩ := at0; obtain ⟨A4, n4, c4, ⟨s0, s1, s2, s3, s4⟩, hn4', he4⟩ := at2
            have e4 := ((U1.out.trans uj).cells _ _ hb2).trans r4
            rw [s4] at e4
            injection e4 with e4
            injection e4 with e41 e42 e43
            subst e41 e42 e43
            have HF3 := Lib.hid (ST.out r rfl A4 n4 c4 hn3 he3)
            have hkd : 0 ≤ r.kd ∧ r.kd ≤ 2 := by
              simp only [ruleB, Bool.and_eq_true, inB_iff] at RB2
              exact RB2.1.1.1.2
            obtain ⟨kd, ra, rb, rc, es⟩ := r; dsimp only at s0 s1 s2 s3 s4 hkd; unfold Rule.v at HF3; dsimp only at HF3
            have HM3 := Lib.hid (HMAP2.out.up ((Up.refl wr).alloc (.cells #[.int .i64 kd, .int .i64 ra, .int .i64 rb, .int .i64 rc, .slice A4 n4 c4] 166)))
            have UJ2 := Lib.hid (uj.alloc (.cells #[.int .i64 kd, .int .i64 ra, .int .i64 rb, .int .i64 rc, .slice A4 n4 c4] 166))
            clear uj r0 r1 r2 r3 r4 he3 he4 RB2 ST hgr
            have hmb1 : w1.heap.size ≤ mb := by have := HMB.out; omega
            have i6 : (p : Int) < n' := by omega
            have i7 : IntKind.i64.wrap ((p : Int) + 1) = (p : Int) + 1 := IntWalk.i64_in _ (by omega)
            go_wp2_with (at_mapUpdate; refine wpList_store_R rfl _ rfl _ _ _ rfl mb N2 f2 rfl HM3.out (by simp only [maxLen]; omega) q kd rfl (by unfold I64; omega) (by unfold I64; omega) _ rfl ?_; intro w5 h5 m5; have H5 := Lib.hid h5; have U5 := Lib.hid (m5.up UJ2.out hmb1); clear h5 m5)
            go_roundw
            case rel => exact ⟨⟨p + 1, N2 + 1, _, by omega, by first | rfl | go_num, by omega, H5, HF3⟩, U5.out⟩
            case measure => (simp [intOf]; try omega)
          · have HR2 := Lib.hid (HF2.out.row (by rw [RNH.out]; omega))
            have i6 : ¬ (p : Int) < n' := by omega
            clear uj; go_wp2
            go_roundw
            case rel => exact ⟨⟨q + 1, N2, f2, by omega, by first | rfl | go_num, by omega, HMAP2, HR2⟩, UJ.out⟩
            case measure => (simp [intOf]; try omega)
      · have hqn : q = n := by omega
        have DN := Lib.hid ((show Filled w m.rules m.rules.length 0 f by rw [LR.out, ← hqn]; exact HF.out).done HB.out)
        have i4 : ¬ (q : Int) < n := by omega
        clear ur hqn
        have x1 := X1.out.up UR.out
        obtain ⟨q0, q1, q2⟩ := And.intro x1.c0 (And.intro x1.c1 x1.c2)
        have x2 := X2.out.up UR.out
        obtain ⟨p0, p1, p2⟩ := And.intro x2.c0 (And.intro x2.c1 x2.c2)
        have qf : ∀ j, wo.frozen? ⟨w.heap.size + 1, j, none⟩ = false := fun j => (UR.out.frozens _ _ hsz1).trans (F2.out j)
        have K := set3_at (w := wo) (b := w.heap.size + 1) (x := .map (some mb)) (y := .int .i64 n) (z := .int .i64 m.til) (fun j hj => by
          have h3 : j = 0 ∨ j = 1 ∨ j = 2 := by omega
          rcases h3 with rfl | rfl | rfl
          · exact ⟨_, x2.c0⟩
          · exact ⟨_, x2.c1⟩
          · exact ⟨_, x2.c2⟩)
        obtain ⟨k0, k1, k2⟩ := K
        have UE := Lib.hid ((((U1.out.trans UR.out).setCell (p := ⟨w.heap.size + 1, 0, none⟩) (by dsimp only; omega) (.map (some mb))).setCell (p := ⟨w.heap.size + 1, 1, none⟩) (by dsimp only; omega) (.int .i64 n)).setCell (p := ⟨w.heap.size + 1, 2, none⟩) (by dsimp only; omega) (.int .i64 m.til))
        have hmbw : w.heap.size + 1 < mb := by have := HMB.out; omega
        have ME := Lib.hid (show Mach _ mb m from ⟨N, f, ((HMAP.out.setFar (p := ⟨w.heap.size + 1, 0, none⟩) (by dsimp only; omega) (.map (some mb))).setFar (p := ⟨w.heap.size + 1, 1, none⟩) (by dsimp only; omega) (.int .i64 n)).setFar (p := ⟨w.heap.size + 1, 2, none⟩) (by dsimp only; omega) (.int .i64 m.til), fun c k => (DN.out c k).up UE.out⟩)
        clear x1 x2; go_wp2
        exact bodyPost_ret (v := .tuple #[.agg #[.map (some mb), .int .i64 n, .int .i64 m.til], .bool true]) (by simp [results, Try.results66, go_sem, k0, k1, k2]) rfl ⟨UE.out, .inr ⟨HB.out, mb, by rw [LR.out], by omega, ME.out⟩⟩
end Go.Proofs.Ytklldniapombiaa

namespace Go.Proofs.Ytklldniapombiaa
set_option maxRecDepth 100000
open Go.RowKit
theorem neverL_any (mb : Option Nat) (many til : Int) (w : World) (h0 : 0 ≤ til ∧ til ≤ 99) :
    Calls Try.prog 120 #[.agg #[.map mb, .int .i64 many, .int .i64 til]] w fun x w' => x = .returned (.int .i64 (til + 1)) ∧ Up w w' := by
  have i1 : IntKind.i64.wrap (til + 1) = til + 1 := IntWalk.i64_in _ (by omega)
  go_enter Try.func120, Try.ntmps120
  go_wp2; go_ret
  exact ⟨rfl, (Up.refl w).alloc _⟩
end Go.Proofs.Ytklldniapombiaa

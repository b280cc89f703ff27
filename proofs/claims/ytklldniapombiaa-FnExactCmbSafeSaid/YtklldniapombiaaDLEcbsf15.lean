/-
  What spec.CmbOk returns, in one sentence: whether a conservative simulation is one of a model; for every model and every simulation that lie in memory.
-/
import Derived.Test.YtklldniapombiaaDLEcbsf08
import Derived.Test.YtklldniapombiaaDLEcbsf11
import Derived.Test.YtklldniapombiaaDLEcbsf12
import Derived.Test.YtklldniapombiaaDLEcbsf14
namespace Go.Proofs.Ytklldniapombiaa
set_option maxRecDepth 100000
open Go.RowKit
/-- Records in order, behind p, each of them one of the component. -/
def logC (many comp : Int) : Option Evt → List Rec → Bool
  | _, [] => true
  | p, r :: rs => rcdB many comp r && behind p r.ev && logC many comp (some r.ev) rs
theorem logC_eq (many comp : Int) : ∀ (log : List Rec) (p : Option Evt), logC many comp p log = (logB many p log && log.all (fun r => decide (r.ev.to = comp)))
  | [], p => rfl
  | r :: rs, p => by
    rw [logC, logB, List.all_cons, logC_eq many comp rs (some r.ev), rcdB]
    generalize recB many r = a
    generalize behind p r.ev = b
    generalize logB many (some r.ev) rs = c
    generalize rs.all (fun r => decide (r.ev.to = comp)) = d
    generalize decide (r.ev.to = comp) = e
    cases a <;> cases b <;> cases c <;> cases d <;> cases e <;> rfl
theorem rcd_all (many comp : Int) : ∀ (log : List Rec), log.all (rcdB many comp) = (log.all (recB many) && log.all (fun r => decide (r.ev.to = comp)))
  | [] => rfl
  | r :: rs => by
    rw [List.all_cons, List.all_cons, List.all_cons, rcd_all many comp rs, rcdB]
    generalize recB many r = a
    generalize rs.all (recB many) = b
    generalize rs.all (fun r => decide (r.ev.to = comp)) = d
    generalize decide (r.ev.to = comp) = e
    cases a <;> cases b <;> cases d <;> cases e <;> rfl
theorem logC_drop (many comp : Int) (log : List Rec) (k : Nat) (p : Option Evt) (h : k < log.length) : logC many comp p (log.drop k) = (rcdB many comp (log.getD k default) && behind p (log.getD k default).ev && logC many comp (some (log.getD k default).ev) (log.drop (k + 1))) := by
  rw [List.drop_eq_getElem_cons h, logC]; simp [List.getD, h]
theorem logC_end (many comp : Int) (log : List Rec) (k : Nat) (p : Option Evt) (h : log.length ≤ k) : logC many comp p (log.drop k) = true := by
  rw [List.drop_of_length_le h]
  rfl
/-- A host, as the reference checks it. -/
theorem chB_spec (many : Nat) (til comp : Int) (h : Ch) (log : List Rec) : chB many til comp h log = (cstB h.now && (decide (h.ins.length = many) && (riseB h.wait && (h.ins.all (bndB til) && (h.wait.all (pndB many til comp) && (logC many comp none log && joinB (lastP none log) h.wait)))))) := by
  have e := log_join many h.wait log none
  rw [riseP] at e; unfold chB; rw [logC_eq, rcd_all]
  generalize riseB (log.map (·.ev) ++ h.wait) = a at e ⊢
  generalize log.all (recB many) = b at e ⊢
  generalize logB many none log = x at e ⊢
  generalize riseB h.wait = y at e ⊢
  generalize joinB (lastP none log) h.wait = z at e ⊢
  generalize log.all (fun r => decide (r.ev.to = comp)) = t
  generalize cstB h.now = p
  generalize decide (h.ins.length = many) = q
  generalize h.ins.all (bndB til) = r
  generalize h.wait.all (pndB many til comp) = u
  revert e
  cases a <;> cases b <;> cases x <;> cases y <;> cases z <;> cases t <;> cases p <;> cases q <;> cases r <;> cases u <;> simp
set_option maxHeartbeats 8000000 in
theorem l9Host_any (A : Option Addr) (n c : Nat) (B : Option Addr) (k d : Nat) (til comp : Int) (h : Ch) (Aw : Option Addr) (nw cw : Nat) (Ai : Option Addr) (ni ci : Nat) (Al : Option Addr) (nl cl : Nat) (log : List Rec) (w : World) (ht : 0 ≤ til ∧ til ≤ 99) (hn4 : n ≤ 4) (hw : Evs w Aw nw h.wait) (hi : Nms w Ai ni h.ins) (hl : Recs w Al nl log) (hn : nw ≤ 1048576 ∧ ni ≤ 1048576 ∧ nl ≤ 1048576) :
    Calls Try.prog 107 #[.agg #[.slice A n c, .slice B k d, .int .i64 til], .int .i64 comp, .agg #[.int .i64 h.now.s, .int .i64 h.now.sq, .int .i64 h.now.ct, .slice Aw nw cw, .slice Ai ni ci], .slice Al nl cl] w fun x w' => x = .returned (.bool (chB n til comp h log)) ∧ Up w w' := by
  obtain ⟨h1, h2, h3⟩ := hn
  have HW := Lib.hid hw
  have HI := Lib.hid hi
  have HL := Lib.hid hl
  have LW := Lib.hid hw.1
  have LE := Lib.hid hl.1
  have LN := Lib.hid hi.1
  have LI := Lib.hid l1In_up
  have CS := Lib.hid (fun W => specCst_any h.now W)
  have CR := Lib.hid (fun W (u : Up w W) => specRise_any Aw nw cw h.wait W (by omega) (hw.up u))
  have CO := Lib.hid (fun e W => specOk_any e (n : Int) W)
  have CLs := Lib.hid (fun a b W => specLess_any a b W)
  have RB := Lib.hid (chB_spec n til comp h log)
  rw [hi.1] at RB
  have AB := Lib.hid (fun q hq => all_drop (f := bndB til) (d := 0) h.ins q hq)
  have EB := Lib.hid (fun q hq => all_end (f := bndB til) h.ins q hq)
  have AP := Lib.hid (fun q hq => all_drop (f := pndB n til comp) (d := default) h.wait q hq)
  have EP := Lib.hid (fun q hq => all_end (f := pndB n til comp) h.wait q hq)
  have AL := Lib.hid (fun q p hq => logC_drop n comp log q p hq)
  have EL := Lib.hid (fun q p hq => logC_end n comp log q p hq)
  have K0 := Lib.hid (show (h.ins.drop 0).all (bndB til) = h.ins.all (bndB til) from rfl)
  have K1 := Lib.hid (show (h.wait.drop 0).all (pndB n til comp) = h.wait.all (pndB n til comp) from rfl)
  have K2 := Lib.hid (show logC n comp (prevP log 0) (log.drop 0) = logC n comp none log from rfl)
  generalize chB n til comp h log = res at RB ⊢
  unfold Cst.v at CS
  generalize cstB h.now = b0 at CS RB
  generalize riseB h.wait = b2 at CR RB
  generalize h.ins.all (bndB til) = b3 at K0 RB
  generalize h.wait.all (pndB n til comp) = b4 at K1 RB
  generalize logC n comp none log = b5 at K2 RB
  have JL := Lib.hid (show joinB (lastP none log) h.wait = if nl = 0 then true else if nw = 0 then true else ltE (log.getD (nl - 1) default).ev (h.wait.getD 0 default) by
    rw [lastP_eq, hl.1]
    split
    · cases h.wait <;> rfl
    · split
      · rename_i e0
        rw [List.eq_nil_of_length_eq_zero (hw.1.trans e0)]
        rfl
      · rename_i e0
        obtain ⟨e, es, he⟩ := List.exists_cons_of_length_pos (l := h.wait) (by rw [hw.1]; omega); rw [he]
        rfl)
  generalize joinB (lastP none log) h.wait = b6 at JL RB
  clear hw hi hl
  generalize h.now.s = z0 at *
  generalize h.now.sq = z1 at *
  generalize h.now.ct = z2 at *
  have X2 := Lib.hid ((Blk.new w #[.slice A n c, .slice B k d, .int .i64 til] 36).alloc (.cells #[.int .i64 z0, .int .i64 z1, .int .i64 z2, .slice Aw nw cw, .slice Ai ni ci] 86))
  have X3 := Lib.hid (Blk.new (w.alloc (.cells #[.slice A n c, .slice B k d, .int .i64 til] 36)) #[.int .i64 z0, .int .i64 z1, .int .i64 z2, .slice Aw nw cw, .slice Ai ni ci] 86)
  simp only [World.size_alloc] at X3
  have U := Lib.hid (((Up.refl w).alloc (.cells #[.slice A n c, .slice B k d, .int .i64 til] 36)).alloc (.cells #[.int .i64 z0, .int .i64 z1, .int .i64 z2, .slice Aw nw cw, .slice Ai ni ci] 86))
  obtain ⟨m0, m1, m2⟩ := And.intro (X2.out.cell (j := 0) rfl) (And.intro (X2.out.cell (j := 1) rfl) (X2.out.cell (j := 2) rfl))
  have lm := X2.out.lt
  obtain ⟨x0, x1, x2⟩ := And.intro (X3.out.cell (j := 0) rfl) (And.intro (X3.out.cell (j := 1) rfl) (X3.out.cell (j := 2) rfl))
  have lx := X3.out.lt
  have i1 : IntKind.i64.wrap (til + 1) = til + 1 := IntWalk.i64_in _ (by omega)
  go_enter Try.func107, Try.ntmps107
  go_wp2_with fail
  clear m0 m1 m2 lm x0 x1 x2 lx
  generalize (w.alloc (.cells #[.slice A n c, .slice B k d, .int .i64 til] 36)).alloc (.cells #[.int .i64 z0, .int .i64 z1, .int .i64 z2, .slice Aw nw cw, .slice Ai ni ci] 86) = W0 at *
  generalize hbm : w.heap.size + 1 = bX at *
  generalize hbx : w.heap.size = bM at *
  clear hbm hbx; refine (CS.out _).mono ?_; rintro x w1 ⟨rfl, u1⟩
  replace U := Lib.hid (U.out.trans u1)
  replace X2 := Lib.hid (X2.out.up u1)
  replace X3 := Lib.hid (X3.out.up u1)
  clear u1
  cases b0
  · have HF := Lib.hid (show res = false by rw [RB.out]; rfl)
    go_wp2; go_ret
    exact ⟨ret_bool HF.out.symm, U.out⟩
  · obtain ⟨m0, m1, m2⟩ := And.intro (X2.out.cell (j := 0) rfl) (And.intro (X2.out.cell (j := 1) rfl) (X2.out.cell (j := 2) rfl))
    have lm := X2.out.lt
    have x3 := X3.out.cell (j := 3) rfl
    have x4 := X3.out.cell (j := 4) rfl
    have lx := X3.out.lt
    by_cases e1 : ni = n
    · subst e1
      have q1 : ((ni : Int) != (ni : Int)) = false := by simp
      go_wp2_with fail
      refine (CR.out _ U.out).mono ?_; rintro x w2 ⟨rfl, u2⟩
      replace U := Lib.hid (U.out.trans u2)
      replace X2 := Lib.hid (X2.out.up u2)
      replace X3 := Lib.hid (X3.out.up u2)
      clear u2 m0 m1 m2 lm x3 x4 lx
      cases b2
      · have HF := Lib.hid (show res = false by rw [RB.out]; simp)
        go_wp2; go_ret
        exact ⟨ret_bool HF.out.symm, U.out⟩
      · have RB := Lib.hid (show res = (b3 && (b4 && (b5 && b6))) by rw [RB.out]; simp)
        go_wp2
        go_loopw [9] (fun i wr => (∃ q : Nat, q ≤ ni ∧ i = .int .i64 q ∧ Hid ((h.ins.drop q).all (bndB til) = b3)) ∧ Up w2 wr) (fun i _ => ni - (intOf i).toNat)
        case atStart => exact ⟨⟨0, by omega, rfl, K0⟩, Up.refl _⟩
        case round =>
          obtain ⟨⟨q, hq, rfl, HR⟩, ur⟩ := hrel
          have UR := Lib.hid (U.out.trans ur)
          have URW := Lib.hid ur
          have Y2 := Lib.hid (X2.out.up ur)
          have Y3 := Lib.hid (X3.out.up ur)
          clear ur; obtain ⟨m0, m1, m2⟩ := And.intro (Y2.out.cell (j := 0) rfl) (And.intro (Y2.out.cell (j := 1) rfl) (Y2.out.cell (j := 2) rfl))
          have lm := Y2.out.lt
          have x3 := Y3.out.cell (j := 3) rfl
          have x4 := Y3.out.cell (j := 4) rfl
          have lx := Y3.out.lt
          by_cases hlt : q < ni
          · obtain ⟨b, off, hA, hb, hc⟩ := (HI.out.up UR.out).2 (by omega)
            subst hA
            have p0 := hc q hlt
            have S := AB.out q (by rw [LN.out]; exact hlt)
            rw [HR.out] at S; clear hc
            generalize h.ins.getD q 0 = z at p0 S
            unfold bndB at S
            generalize hin : inB z 0 (til + 1) = r at S
            have S' := Lib.hid S
            have i4 : (q : Int) < ni := by omega
            have i5 : IntKind.i64.wrap ((q : Int) + 1) = (q : Int) + 1 := IntWalk.i64_in _ (by omega)
            go_wp2_with fail
            refine region_qw (by kernel_rfl) (by kernel_rfl) ?_; refine qWalk_step ?_; intro K hK; go_simp; apply Exists.intro; refine And.intro ?_ ?_
            · intro w1 hw1
              try go_simp
              try rfl
            try go_simp
            refine hK _ ?_; clear hK K; refine qWalk_step ?_; intro K hK; go_simp; apply Exists.intro; refine And.intro ?_ ?_
            · intro w1 hw1
              obtain ⟨hc, hf, hz⟩ := hw1.facts
              try simp at hz
              try go_simp
              try rfl
            try go_simp
            refine hK _ ?_; clear hK K; refine qWalk_step ?_; intro K hK; go_simp; apply Exists.intro; refine And.intro ?_ ?_
            · intro w1 hw1
              try go_simp
              try rfl
            try go_simp
            refine hK _ ?_; clear hK K; refine qWalk_step ?_; intro K hK; go_simp; apply Exists.intro; refine And.intro ?_ ?_
            · intro w1 hw1
              try go_simp
              try rfl
            try go_simp
            refine hK _ ?_; clear hK K; refine qWalk_step ?_; intro K hK; go_simp; apply Exists.intro; refine And.intro ?_ ?_
            · intro w1 hw1
              obtain ⟨hc, hf, hz⟩ := hw1.facts
              try simp at hz
              try go_simp
              try rfl
            try go_simp
            refine hK _ ?_; clear hK K; refine qWalk_step ?_; intro K hK; go_simp; apply Exists.intro; refine And.intro ?_ ?_
            · intro w1 hw1
              try go_simp
              try rfl
            try go_simp
            refine hK _ ?_; clear hK K; refine qWalk_step ?_; intro K hK; go_simp; apply Exists.intro; refine And.intro ?_ ?_
            · intro w1 hw1
              obtain ⟨hc, hf, hz⟩ := hw1.facts
              try simp at hz
              try go_simp
              try rfl
            try go_simp
            refine hK _ ?_; clear hK K; refine qWalk_step ?_; intro K hK; go_simp; apply Exists.intro; refine And.intro ?_ ?_
            · intro w1 hw1
              try go_simp
              try rfl
            try go_simp
            refine hK _ ?_; clear hK K; refine qWalk_step ?_; intro K hK; go_simp; apply Exists.intro; refine And.intro ?_ ?_
            · intro w1 hw1
              try go_simp
              exact up_call hw1 (LI.out z 0 (til + 1) _ _ hin)
            try go_simp
            refine hK _ ?_; clear hK K; refine qWalk_step ?_; intro K hK; go_simp; apply Exists.intro; refine And.intro ?_ ?_
            · intro w1 hw1
              try go_simp
              try rfl
            try go_simp
            refine hK _ ?_; clear hK K; refine qWalk_nil ?_; intro wA uA
            have UN := Lib.hid (URW.out.trans uA)
            clear uA m0 m1 m2 lm x3 x4 lx
            cases r
            · have HF := Lib.hid (show res = false by rw [RB.out, S'.out]; rfl)
              go_wp2; go_ret
              exact ⟨ret_bool HF.out.symm, U.out.trans UN.out⟩
            · have HN := Lib.hid (show (h.ins.drop (q + 1)).all (bndB til) = b3 by rw [S'.out]; rfl)
              go_wp2
              go_roundw
              case rel => exact ⟨⟨q + 1, by omega, by go_num, HN⟩, UN.out⟩
              case measure => simp [intOf]; omega
          · obtain rfl : q = ni := by omega
            have i4 : ¬ (q : Int) < q := by omega
            have RB := Lib.hid (show res = (b4 && (b5 && b6)) by rw [RB.out, show b3 = true by rw [← HR.out]; exact EB.out q (by rw [LN.out]; omega)]; rfl)
            obtain ⟨w3, hw3⟩ : ∃ W, W = wr := ⟨_, rfl⟩; subst hw3; go_wp2; clear m0 m1 m2 lm x3 x4 lx
            go_loopw [10] (fun i wr => (∃ p : Nat, p ≤ nw ∧ i = .int .i64 p ∧ Hid ((h.wait.drop p).all (pndB q til comp) = b4)) ∧ Up w3 wr) (fun i _ => nw - (intOf i).toNat)
            case atStart => exact ⟨⟨0, by omega, rfl, K1⟩, Up.refl _⟩
            case round =>
              obtain ⟨⟨p, hp, rfl, HR2⟩, ur⟩ := hrel
              have UR3 := Lib.hid (UR.out.trans ur)
              have URW3 := Lib.hid ur
              have Z2 := Lib.hid (Y2.out.up ur)
              have Z3 := Lib.hid (Y3.out.up ur)
              clear ur; obtain ⟨m0, m1, m2⟩ := And.intro (Z2.out.cell (j := 0) rfl) (And.intro (Z2.out.cell (j := 1) rfl) (Z2.out.cell (j := 2) rfl))
              have lm := Z2.out.lt
              have x3 := Z3.out.cell (j := 3) rfl
              have x4 := Z3.out.cell (j := 4) rfl
              have lx := Z3.out.lt
              by_cases hlp : p < nw
              · obtain ⟨b, off, hA, hb, hc⟩ := (HW.out.up UR3.out).2 (by omega)
                subst hA
                have a0 := hc p hlp
                have S := AP.out p (by rw [LW.out]; exact hlp)
                rw [HR2.out] at S
                have co := CO.out (h.wait.getD p default)
                clear hc
                generalize h.wait.getD p default = e at a0 S co
                obtain ⟨et, eto, efr, esq, ekd, edt⟩ := e; unfold EvAt at a0; unfold Evt.v at co; dsimp only at a0 co; obtain ⟨p0, p1, p2, p3, p4, p5⟩ := a0
                have CO1 := Lib.hid co
                clear co; unfold pndB at S; dsimp only at S
                generalize okB ⟨et, eto, efr, esq, ekd, edt⟩ q = ok at S CO1
                have S' := Lib.hid S
                clear S
                have j4 : (p : Int) < nw := by omega
                have j5 : IntKind.i64.wrap ((p : Int) + 1) = (p : Int) + 1 := IntWalk.i64_in _ (by omega)
                have ua := (Up.refl wr).alloc (.cells #[.int .i64 et, .int .i64 eto, .int .i64 efr, .int .i64 esq, .int .i64 ekd, .int .i64 edt] 74)
                have Z4 := Lib.hid (Blk.new wr #[.int .i64 et, .int .i64 eto, .int .i64 efr, .int .i64 esq, .int .i64 ekd, .int .i64 edt] 74)
                replace Z2 := Lib.hid (Z2.out.up ua)
                replace Z3 := Lib.hid (Z3.out.up ua)
                have UA := Lib.hid (URW3.out.trans ua)
                clear ua
                go_wp2_with fail
                generalize hb4 : wr.heap.size = bE at *
                generalize wr.alloc (.cells #[.int .i64 et, .int .i64 eto, .int .i64 efr, .int .i64 esq, .int .i64 ekd, .int .i64 edt] 74) = W4 at *
                clear m0 m1 m2 lm x3 x4 lx p0 p1 p2 p3 p4 p5 hb4 hb; refine (CO1.out _).mono ?_; rintro x w5 ⟨rfl, u5⟩
                replace Z2 := Lib.hid (Z2.out.up u5)
                replace Z3 := Lib.hid (Z3.out.up u5)
                replace Z4 := Lib.hid (Z4.out.up u5)
                replace UA := Lib.hid (UA.out.trans u5)
                clear u5
                cases ok
                · have HF := Lib.hid (show res = false by rw [RB.out, S'.out]; rfl)
                  go_wp2; go_ret
                  exact ⟨ret_bool HF.out.symm, UR.out.trans UA.out⟩
                · have y0 := Z4.out.cell (j := 0) rfl
                  have y1 := Z4.out.cell (j := 1) rfl
                  have ly := Z4.out.lt
                  obtain ⟨m0, m1, m2⟩ := And.intro (Z2.out.cell (j := 0) rfl) (And.intro (Z2.out.cell (j := 1) rfl) (Z2.out.cell (j := 2) rfl))
                  have lm := Z2.out.lt
                  have x3 := Z3.out.cell (j := 3) rfl
                  have x4 := Z3.out.cell (j := 4) rfl
                  have lx := Z3.out.lt
                  by_cases h5 : eto = comp
                  · subst h5
                    have q5 : (eto != eto) = false := by simp
                    by_cases h6 : et ≤ til
                    · have q6 : ¬ til < et := by omega
                      have HN := Lib.hid (show (h.wait.drop (p + 1)).all (pndB q til eto) = b4 by rw [S'.out, decide_eq_true h6, decide_eq_true rfl]; rfl)
                      go_wp2
                      go_roundw
                      case rel => exact ⟨⟨p + 1, by omega, by go_num, HN⟩, UA.out⟩
                      case measure => simp [intOf]; omega
                    · have q6 : til < et := by omega
                      have HF := Lib.hid (show res = false by rw [RB.out, S'.out, decide_eq_false h6]; rfl)
                      go_wp2; go_ret
                      exact ⟨ret_bool HF.out.symm, UR.out.trans UA.out⟩
                  · have q5 : (eto != comp) = true := by simp [h5]
                    have HF := Lib.hid (show res = false by rw [RB.out, S'.out, decide_eq_false h5]; simp)
                    go_wp2; go_ret
                    exact ⟨ret_bool HF.out.symm, UR.out.trans UA.out⟩
              · obtain rfl : p = nw := by omega
                have j4 : ¬ (p : Int) < p := by omega
                have RB := Lib.hid (show res = (b5 && b6) by rw [RB.out, show b4 = true by rw [← HR2.out]; exact EP.out p (by rw [LW.out]; omega)]; rfl)
                obtain ⟨w4, hw4⟩ : ∃ W, W = wr := ⟨_, rfl⟩; subst hw4; go_wp2; clear m0 m1 m2 lm x3 x4 lx
                go_loopw [12] (fun i wr => (∃ r : Nat, r ≤ nl ∧ i = .int .i64 r ∧ Hid (logC q comp (prevP log r) (log.drop r) = b5)) ∧ Up w4 wr) (fun i _ => nl - (intOf i).toNat)
                case atStart => exact ⟨⟨0, by omega, rfl, K2⟩, Up.refl _⟩
                case round =>
                  obtain ⟨⟨r, hr, rfl, HR3⟩, ur⟩ := hrel
                  have UR4 := Lib.hid (UR3.out.trans ur)
                  have URW4 := Lib.hid ur
                  have V2 := Lib.hid (Z2.out.up ur)
                  have V3 := Lib.hid (Z3.out.up ur)
                  clear ur; obtain ⟨m0, m1, m2⟩ := And.intro (V2.out.cell (j := 0) rfl) (And.intro (V2.out.cell (j := 1) rfl) (V2.out.cell (j := 2) rfl))
                  have lm := V2.out.lt
                  have x3 := V3.out.cell (j := 3) rfl
                  have x4 := V3.out.cell (j := 4) rfl
                  have lx := V3.out.lt
                  by_cases hlr : r < nl
                  · obtain ⟨b, off, hA, hb, hc⟩ := (HL.out.up UR4.out).2 (by omega)
                    subst hA
                    have a0 := hc r hlr
                    have PV := Lib.hid (fun (h : 0 < r) => hc (r - 1) (by omega))
                    have S := AL.out r (prevP log r) (by rw [LE.out]; exact hlr)
                    rw [HR3.out] at S
                    have NX := prevP_succ log r
                    have PP := Lib.hid (show prevP log r = if r = 0 then none else some (log.getD (r - 1) default).ev from rfl)
                    clear hc
                    generalize log.getD r default = rc at a0 S NX
                    rw [← NX] at S
                    have co := fun W => CO.out rc.ev W
                    unfold rcdB recB at S; obtain ⟨⟨et, eto, efr, esq, ekd, edt⟩, rs⟩ := rc; unfold RecAt at a0; unfold Evt.v at co; dsimp only at a0 co S; obtain ⟨p0, p1, p2, p3, p4, p5, p6⟩ := a0
                    have CO1 := Lib.hid co
                    clear co NX
                    generalize okB ⟨et, eto, efr, esq, ekd, edt⟩ q = ok at S CO1
                    generalize hin : inB rs 0 96 = si at S
                    have S' := Lib.hid S
                    clear S
                    have j4 : (r : Int) < nl := by omega
                    have j5 : IntKind.i64.wrap ((r : Int) + 1) = (r : Int) + 1 := IntWalk.i64_in _ (by omega)
                    cases ok
                    · have HF := Lib.hid (show res = false by rw [RB.out, S'.out]; rfl)
                      go_wp2_with fail
                      refine region_qw (by kernel_rfl) (by kernel_rfl) ?_; refine qWalk_step ?_; intro K hK; go_simp; apply Exists.intro; refine And.intro ?_ ?_
                      · intro w1 hw1
                        try go_simp
                        try rfl
                      try go_simp
                      refine hK _ ?_; clear hK K; refine qWalk_step ?_; intro K hK; go_simp; apply Exists.intro; refine And.intro ?_ ?_
                      · intro w1 hw1
                        try go_simp
                        try rfl
                      try go_simp
                      refine hK _ ?_; clear hK K; refine qWalk_step ?_; intro K hK; go_simp; apply Exists.intro; refine And.intro ?_ ?_
                      · intro w1 hw1
                        try go_simp
                        try rfl
                      try go_simp
                      refine hK _ ?_; clear hK K; refine qWalk_step ?_; intro K hK; go_simp; apply Exists.intro; refine And.intro ?_ ?_
                      · intro w1 hw1
                        try go_simp
                        try rfl
                      try go_simp
                      refine hK _ ?_; clear hK K; refine qWalk_step ?_; intro K hK; go_simp; apply Exists.intro; refine And.intro ?_ ?_
                      · intro w1 hw1
                        obtain ⟨hc, hf, hz⟩ := hw1.facts
                        try simp at hz
                        try go_simp
                        try rfl
                      try go_simp
                      refine hK _ ?_; clear hK K; refine qWalk_step ?_; intro K hK; go_simp; apply Exists.intro; refine And.intro ?_ ?_
                      · intro w1 hw1
                        try go_simp
                        try rfl
                      try go_simp
                      refine hK _ ?_; clear hK K; refine qWalk_step ?_; intro K hK; go_simp; apply Exists.intro; refine And.intro ?_ ?_
                      · intro w1 hw1
                        obtain ⟨hc, hf, hz⟩ := hw1.facts
                        try simp at hz
                        try go_simp
                        try rfl
                      try go_simp
                      refine hK _ ?_; clear hK K; refine qWalk_step ?_; intro K hK; go_simp; apply Exists.intro; refine And.intro ?_ ?_
                      · intro w1 hw1
                        try go_simp
                        try rfl
                      try go_simp
                      refine hK _ ?_; clear hK K; refine qWalk_step ?_; intro K hK; go_simp; apply Exists.intro; refine And.intro ?_ ?_
                      · intro w1 hw1
                        try go_simp
                        exact up_call hw1 (CO1.out _)
                      try go_simp
                      refine hK _ ?_; clear hK K; refine qWalk_step ?_; intro K hK; go_simp; apply Exists.intro; refine And.intro ?_ ?_
                      · intro w1 hw1
                        try go_simp
                        try rfl
                      try go_simp
                      refine hK _ ?_; clear hK K; refine qWalk_step ?_; intro K hK; go_simp; apply Exists.intro; refine And.intro ?_ ?_
                      · intro w1 hw1
                        try go_simp
                        try rfl
                      try go_simp
                      refine hK _ ?_; clear hK K; refine qWalk_step ?_; intro K hK; go_simp; refine hK _ ?_; clear hK K; refine qWalk_step ?_; intro K hK; go_simp; refine hK _ ?_; clear hK K; refine qWalk_step ?_; intro K hK; go_simp; refine hK _ ?_; clear hK K; refine qWalk_step ?_; intro K hK; go_simp; refine hK _ ?_; clear hK K; refine qWalk_step ?_; intro K hK; go_simp; refine hK _ ?_; clear hK K; refine qWalk_step ?_; intro K hK; go_simp; refine hK _ ?_; clear hK K; refine qWalk_step ?_; intro K hK; go_simp; refine hK _ ?_; clear hK K; refine qWalk_step ?_; intro K hK; go_simp; refine hK _ ?_; clear hK K; refine qWalk_step ?_
                      intro K hK; go_simp; apply Exists.intro; refine And.intro ?_ ?_
                      · intro w1 hw1
                        try go_simp
                        try rfl
                      try go_simp
                      refine hK _ ?_; clear hK K; refine qWalk_step ?_; intro K hK; go_simp; apply Exists.intro; refine And.intro ?_ ?_
                      · intro w1 hw1
                        try go_simp
                        try rfl
                      try go_simp
                      refine hK _ ?_; clear hK K; refine qWalk_step ?_; intro K hK; go_simp; refine hK _ ?_; clear hK K; refine qWalk_step ?_; intro K hK; go_simp; refine hK _ ?_; clear hK K; refine qWalk_step ?_; intro K hK; go_simp; refine hK _ ?_; clear hK K; refine qWalk_step ?_; intro K hK; go_simp; refine hK _ ?_; clear hK K; refine qWalk_step ?_; intro K hK; go_simp; refine hK _ ?_; clear hK K; refine qWalk_step ?_; intro K hK; go_simp; refine hK _ ?_; clear hK K; refine qWalk_step ?_; intro K hK; go_simp; refine hK _ ?_; clear hK K; refine qWalk_step ?_; intro K hK; go_simp; apply Exists.intro; refine And.intro ?_ ?_
                      · intro w1 hw1
                        try go_simp
                        try rfl
                      try go_simp
                      refine hK _ ?_; clear hK K; refine qWalk_step ?_; intro K hK; go_simp; apply Exists.intro; refine And.intro ?_ ?_
                      · intro w1 hw1
                        try go_simp
                        try rfl
                      try go_simp
                      refine hK _ ?_; clear hK K; refine qWalk_step ?_; intro K hK; go_simp; refine hK _ ?_; clear hK K; refine qWalk_step ?_; intro K hK; go_simp; refine hK _ ?_; clear hK K; refine qWalk_step ?_; intro K hK; go_simp; refine hK _ ?_; clear hK K; refine qWalk_step ?_; intro K hK; go_simp; refine hK _ ?_; clear hK K; refine qWalk_step ?_; intro K hK; go_simp; refine hK _ ?_; clear hK K; refine qWalk_step ?_; intro K hK; go_simp; refine hK _ ?_; clear hK K; refine qWalk_step ?_; intro K hK; go_simp; refine hK _ ?_; clear hK K; refine qWalk_step ?_; intro K hK; go_simp; refine hK _ ?_; clear hK K; refine qWalk_step ?_
                      intro K hK; go_simp; refine hK _ ?_; clear hK K; refine qWalk_step ?_; intro K hK; go_simp; refine hK _ ?_; clear hK K; refine qWalk_step ?_; intro K hK; go_simp; refine hK _ ?_; clear hK K; refine qWalk_step ?_; intro K hK; go_simp; refine hK _ ?_; clear hK K; refine qWalk_step ?_; intro K hK; go_simp; refine hK _ ?_; clear hK K; refine qWalk_step ?_; intro K hK; go_simp; refine hK _ ?_; clear hK K; refine qWalk_step ?_; intro K hK; go_simp; refine hK _ ?_; clear hK K; refine qWalk_step ?_; intro K hK; go_simp; refine hK _ ?_; clear hK K; refine qWalk_step ?_; intro K hK; go_simp; refine hK _ ?_
                      clear hK K; refine qWalk_step ?_; intro K hK; go_simp; apply Exists.intro; refine And.intro ?_ ?_
                      · intro w1 hw1
                        try go_simp
                        try rfl
                      try go_simp
                      refine hK _ ?_; clear hK K; refine qWalk_nil ?_; intro wA uA
                      have UN := Lib.hid (UR4.out.trans uA)
                      clear uA m0 m1 m2 lm x3 x4 lx; go_wp2; go_ret
                      exact ⟨ret_bool HF.out.symm, UN.out⟩
                    · by_cases h5 : eto = comp
                      · subst h5
                        have q5 : (eto != eto) = false := by simp
                        cases si
                        · have HF := Lib.hid (show res = false by rw [RB.out, S'.out]; rfl)
                          go_wp2_with fail
                          refine region_qw (by kernel_rfl) (by kernel_rfl) ?_; refine qWalk_step ?_; intro K hK; go_simp; apply Exists.intro; refine And.intro ?_ ?_
                          · intro w1 hw1
                            try go_simp
                            try rfl
                          try go_simp
                          refine hK _ ?_; clear hK K; refine qWalk_step ?_; intro K hK; go_simp; apply Exists.intro; refine And.intro ?_ ?_
                          · intro w1 hw1
                            try go_simp
                            try rfl
                          try go_simp
                          refine hK _ ?_; clear hK K; refine qWalk_step ?_; intro K hK; go_simp; apply Exists.intro; refine And.intro ?_ ?_
                          · intro w1 hw1
                            try go_simp
                            try rfl
                          try go_simp
                          refine hK _ ?_; clear hK K; refine qWalk_step ?_; intro K hK; go_simp; apply Exists.intro; refine And.intro ?_ ?_
                          · intro w1 hw1
                            try go_simp
                            try rfl
                          try go_simp
                          refine hK _ ?_; clear hK K; refine qWalk_step ?_; intro K hK; go_simp; apply Exists.intro; refine And.intro ?_ ?_
                          · intro w1 hw1
                            obtain ⟨hc, hf, hz⟩ := hw1.facts
                            try simp at hz
                            try go_simp
                            try rfl
                          try go_simp
                          refine hK _ ?_; clear hK K; refine qWalk_step ?_; intro K hK; go_simp; apply Exists.intro; refine And.intro ?_ ?_
                          · intro w1 hw1
                            try go_simp
                            try rfl
                          try go_simp
                          refine hK _ ?_; clear hK K; refine qWalk_step ?_; intro K hK; go_simp; apply Exists.intro; refine And.intro ?_ ?_
                          · intro w1 hw1
                            obtain ⟨hc, hf, hz⟩ := hw1.facts
                            try simp at hz
                            try go_simp
                            try rfl
                          try go_simp
                          refine hK _ ?_; clear hK K; refine qWalk_step ?_; intro K hK; go_simp; apply Exists.intro; refine And.intro ?_ ?_
                          · intro w1 hw1
                            try go_simp
                            try rfl
                          try go_simp
                          refine hK _ ?_; clear hK K; refine qWalk_step ?_; intro K hK; go_simp; apply Exists.intro; refine And.intro ?_ ?_
                          · intro w1 hw1
                            try go_simp
                            exact up_call hw1 (CO1.out _)
                          try go_simp
                          refine hK _ ?_; clear hK K; refine qWalk_step ?_; intro K hK; go_simp; apply Exists.intro; refine And.intro ?_ ?_
                          · intro w1 hw1
                            try go_simp
                            try rfl
                          try go_simp
                          refine hK _ ?_; clear hK K; refine qWalk_step ?_; intro K hK; go_simp; apply Exists.intro; refine And.intro ?_ ?_
                          · intro w1 hw1
                            try go_simp
                            try rfl
                          try go_simp
                          refine hK _ ?_; clear hK K; refine qWalk_step ?_; intro K hK; go_simp; apply Exists.intro; refine And.intro ?_ ?_
                          · intro w1 hw1
                            try go_simp
                            try rfl
                          try go_simp
                          refine hK _ ?_; clear hK K; refine qWalk_step ?_; intro K hK; go_simp; apply Exists.intro; refine And.intro ?_ ?_
                          · intro w1 hw1
                            try go_simp
                            try rfl
                          try go_simp
                          refine hK _ ?_; clear hK K; refine qWalk_step ?_; intro K hK; go_simp; apply Exists.intro; refine And.intro ?_ ?_
                          · intro w1 hw1
                            try go_simp
                            try rfl
                          try go_simp
                          refine hK _ ?_; clear hK K; refine qWalk_step ?_; intro K hK; go_simp; apply Exists.intro; refine And.intro ?_ ?_
                          · intro w1 hw1
                            try go_simp
                            try rfl
                          try go_simp
                          refine hK _ ?_; clear hK K; refine qWalk_step ?_; intro K hK; go_simp; apply Exists.intro; refine And.intro ?_ ?_
                          · intro w1 hw1
                            try go_simp
                            try rfl
                          try go_simp
                          refine hK _ ?_; clear hK K; refine qWalk_step ?_; intro K hK; go_simp; apply Exists.intro; refine And.intro ?_ ?_
                          · intro w1 hw1
                            obtain ⟨hc, hf, hz⟩ := hw1.facts
                            try simp at hz
                            try go_simp
                            try rfl
                          try go_simp
                          refine hK _ ?_; clear hK K; refine qWalk_step ?_; intro K hK; go_simp; apply Exists.intro; refine And.intro ?_ ?_
                          · intro w1 hw1
                            try go_simp
                            try rfl
                          try go_simp
                          refine hK _ ?_; clear hK K; refine qWalk_step ?_; intro K hK; go_simp; apply Exists.intro; refine And.intro ?_ ?_
                          · intro w1 hw1
                            try go_simp
                            try rfl
                          try go_simp
                          refine hK _ ?_; clear hK K; refine qWalk_step ?_; intro K hK; go_simp; apply Exists.intro; refine And.intro ?_ ?_
                          · intro w1 hw1
                            try go_simp
                            try rfl
                          try go_simp
                          refine hK _ ?_; clear hK K; refine qWalk_step ?_; intro K hK; go_simp; apply Exists.intro; refine And.intro ?_ ?_
                          · intro w1 hw1
                            try go_simp
                            try rfl
                          try go_simp
                          refine hK _ ?_; clear hK K; refine qWalk_step ?_; intro K hK; go_simp; apply Exists.intro; refine And.intro ?_ ?_
                          · intro w1 hw1
                            try go_simp
                            try rfl
                          try go_simp
                          refine hK _ ?_; clear hK K; refine qWalk_step ?_; intro K hK; go_simp; apply Exists.intro; refine And.intro ?_ ?_
                          · intro w1 hw1
                            try go_simp
                            try rfl
                          try go_simp
                          refine hK _ ?_; clear hK K; refine qWalk_step ?_; intro K hK; go_simp; apply Exists.intro; refine And.intro ?_ ?_
                          · intro w1 hw1
                            try go_simp
                            try rfl
                          try go_simp
                          refine hK _ ?_; clear hK K; refine qWalk_step ?_; intro K hK; go_simp; apply Exists.intro; refine And.intro ?_ ?_
                          · intro w1 hw1
                            try go_simp
                            try rfl
                          try go_simp
                          refine hK _ ?_; clear hK K; refine qWalk_step ?_; intro K hK; go_simp; apply Exists.intro; refine And.intro ?_ ?_
                          · intro w1 hw1
                            obtain ⟨hc, hf, hz⟩ := hw1.facts
                            try simp at hz
                            try go_simp
                            try rfl
                          try go_simp
                          refine hK _ ?_; clear hK K; refine qWalk_step ?_; intro K hK; go_simp; apply Exists.intro; refine And.intro ?_ ?_
                          · intro w1 hw1
                            try go_simp
                            exact up_call hw1 (LI.out rs 0 96 _ _ hin)
                          try go_simp
                          refine hK _ ?_; clear hK K; refine qWalk_step ?_; intro K hK; go_simp; apply Exists.intro; refine And.intro ?_ ?_
                          · intro w1 hw1
                            try go_simp
                            try rfl
                          try go_simp
                          refine hK _ ?_; clear hK K; refine qWalk_step ?_; intro K hK; go_simp; apply Exists.intro; refine And.intro ?_ ?_
                          · intro w1 hw1
                            try go_simp
                            try rfl
                          try go_simp
                          refine hK _ ?_; clear hK K; refine qWalk_step ?_; intro K hK; go_simp; apply Exists.intro; refine And.intro ?_ ?_
                          · intro w1 hw1
                            try go_simp
                            try rfl
                          try go_simp
                          refine hK _ ?_; clear hK K; refine qWalk_step ?_; intro K hK; go_simp; refine hK _ ?_; clear hK K; refine qWalk_step ?_; intro K hK; go_simp; refine hK _ ?_; clear hK K; refine qWalk_step ?_; intro K hK; go_simp; refine hK _ ?_; clear hK K; refine qWalk_step ?_; intro K hK; go_simp; refine hK _ ?_; clear hK K; refine qWalk_step ?_; intro K hK; go_simp; refine hK _ ?_; clear hK K; refine qWalk_step ?_; intro K hK; go_simp; refine hK _ ?_; clear hK K; refine qWalk_step ?_; intro K hK; go_simp; refine hK _ ?_; clear hK K; refine qWalk_step ?_; intro K hK; go_simp; refine hK _ ?_; clear hK K; refine qWalk_step ?_
                          intro K hK; go_simp; refine hK _ ?_; clear hK K; refine qWalk_step ?_; intro K hK; go_simp; refine hK _ ?_; clear hK K; refine qWalk_step ?_; intro K hK; go_simp; refine hK _ ?_; clear hK K; refine qWalk_step ?_; intro K hK; go_simp; refine hK _ ?_; clear hK K; refine qWalk_step ?_; intro K hK; go_simp; refine hK _ ?_; clear hK K; refine qWalk_step ?_; intro K hK; go_simp; refine hK _ ?_; clear hK K; refine qWalk_step ?_; intro K hK; go_simp; refine hK _ ?_; clear hK K; refine qWalk_step ?_; intro K hK; go_simp; refine hK _ ?_; clear hK K; refine qWalk_step ?_; intro K hK; go_simp; refine hK _ ?_
                          clear hK K; refine qWalk_step ?_; intro K hK; go_simp; apply Exists.intro; refine And.intro ?_ ?_
                          · intro w1 hw1
                            try go_simp
                            try rfl
                          try go_simp
                          refine hK _ ?_; clear hK K; refine qWalk_nil ?_; intro wA uA
                          have UN := Lib.hid (UR4.out.trans uA)
                          clear uA m0 m1 m2 lm x3 x4 lx; go_wp2; go_ret
                          exact ⟨ret_bool HF.out.symm, UN.out⟩
                        · rcases Nat.eq_zero_or_pos r with hz | hz
                          · subst hz
                            have HN := Lib.hid (show logC q eto (prevP log (0 + 1)) (log.drop (0 + 1)) = b5 by rw [S'.out, PP.out, decide_eq_true rfl]; rfl)
                            have q6 : ¬ (0 : Int) < 0 := by omega
                            simp only [Nat.zero_mul, Nat.add_zero] at p0 p1 p2 p3 p4 p5 p6
                            go_wp2_with fail
                            refine region_qw (by kernel_rfl) (by kernel_rfl) ?_; refine qWalk_step ?_; intro K hK; go_simp; apply Exists.intro; refine And.intro ?_ ?_
                            · intro w1 hw1
                              try go_simp
                              try rfl
                            try go_simp
                            refine hK _ ?_; clear hK K; refine qWalk_step ?_; intro K hK; go_simp; apply Exists.intro; refine And.intro ?_ ?_
                            · intro w1 hw1
                              try go_simp
                              try rfl
                            try go_simp
                            refine hK _ ?_; clear hK K; refine qWalk_step ?_; intro K hK; go_simp; apply Exists.intro; refine And.intro ?_ ?_
                            · intro w1 hw1
                              try go_simp
                              try rfl
                            try go_simp
                            refine hK _ ?_; clear hK K; refine qWalk_step ?_; intro K hK; go_simp; apply Exists.intro; refine And.intro ?_ ?_
                            · intro w1 hw1
                              try go_simp
                              try rfl
                            try go_simp
                            refine hK _ ?_; clear hK K; refine qWalk_step ?_; intro K hK; go_simp; apply Exists.intro; refine And.intro ?_ ?_
                            · intro w1 hw1
                              obtain ⟨hc, hf, hz⟩ := hw1.facts
                              try simp at hz
                              try go_simp
                              try rfl
                            try go_simp
                            refine hK _ ?_; clear hK K; refine qWalk_step ?_; intro K hK; go_simp; apply Exists.intro; refine And.intro ?_ ?_
                            · intro w1 hw1
                              try go_simp
                              try rfl
                            try go_simp
                            refine hK _ ?_; clear hK K; refine qWalk_step ?_; intro K hK; go_simp; apply Exists.intro; refine And.intro ?_ ?_
                            · intro w1 hw1
                              obtain ⟨hc, hf, hz⟩ := hw1.facts
                              try simp at hz
                              try go_simp
                              try rfl
                            try go_simp
                            refine hK _ ?_; clear hK K; refine qWalk_step ?_; intro K hK; go_simp; apply Exists.intro; refine And.intro ?_ ?_
                            · intro w1 hw1
                              try go_simp
                              try rfl
                            try go_simp
                            refine hK _ ?_; clear hK K; refine qWalk_step ?_; intro K hK; go_simp; apply Exists.intro; refine And.intro ?_ ?_
                            · intro w1 hw1
                              try go_simp
                              exact up_call hw1 (CO1.out _)
                            try go_simp
                            refine hK _ ?_; clear hK K; refine qWalk_step ?_; intro K hK; go_simp; apply Exists.intro; refine And.intro ?_ ?_
                            · intro w1 hw1
                              try go_simp
                              try rfl
                            try go_simp
                            refine hK _ ?_; clear hK K; refine qWalk_step ?_; intro K hK; go_simp; apply Exists.intro; refine And.intro ?_ ?_
                            · intro w1 hw1
                              try go_simp
                              try rfl
                            try go_simp
                            refine hK _ ?_; clear hK K; refine qWalk_step ?_; intro K hK; go_simp; apply Exists.intro; refine And.intro ?_ ?_
                            · intro w1 hw1
                              try go_simp
                              try rfl
                            try go_simp
                            refine hK _ ?_; clear hK K; refine qWalk_step ?_; intro K hK; go_simp; apply Exists.intro; refine And.intro ?_ ?_
                            · intro w1 hw1
                              try go_simp
                              try rfl
                            try go_simp
                            refine hK _ ?_; clear hK K; refine qWalk_step ?_; intro K hK; go_simp; apply Exists.intro; refine And.intro ?_ ?_
                            · intro w1 hw1
                              try go_simp
                              try rfl
                            try go_simp
                            refine hK _ ?_; clear hK K; refine qWalk_step ?_; intro K hK; go_simp; apply Exists.intro; refine And.intro ?_ ?_
                            · intro w1 hw1
                              try go_simp
                              try rfl
                            try go_simp
                            refine hK _ ?_; clear hK K; refine qWalk_step ?_; intro K hK; go_simp; apply Exists.intro; refine And.intro ?_ ?_
                            · intro w1 hw1
                              try go_simp
                              try rfl
                            try go_simp
                            refine hK _ ?_; clear hK K; refine qWalk_step ?_; intro K hK; go_simp; apply Exists.intro; refine And.intro ?_ ?_
                            · intro w1 hw1
                              obtain ⟨hc, hf, hz⟩ := hw1.facts
                              try simp at hz
                              try go_simp
                              try rfl
                            try go_simp
                            refine hK _ ?_; clear hK K; refine qWalk_step ?_; intro K hK; go_simp; apply Exists.intro; refine And.intro ?_ ?_
                            · intro w1 hw1
                              try go_simp
                              try rfl
                            try go_simp
                            refine hK _ ?_; clear hK K; refine qWalk_step ?_; intro K hK; go_simp; apply Exists.intro; refine And.intro ?_ ?_
                            · intro w1 hw1
                              try go_simp
                              try rfl
                            try go_simp
                            refine hK _ ?_; clear hK K; refine qWalk_step ?_; intro K hK; go_simp; apply Exists.intro; refine And.intro ?_ ?_
                            · intro w1 hw1
                              try go_simp
                              try rfl
                            try go_simp
                            refine hK _ ?_; clear hK K; refine qWalk_step ?_; intro K hK; go_simp; apply Exists.intro; refine And.intro ?_ ?_
                            · intro w1 hw1
                              try go_simp
                              try rfl
                            try go_simp
                            refine hK _ ?_; clear hK K; refine qWalk_step ?_; intro K hK; go_simp; apply Exists.intro; refine And.intro ?_ ?_
                            · intro w1 hw1
                              try go_simp
                              try rfl
                            try go_simp
                            refine hK _ ?_; clear hK K; refine qWalk_step ?_; intro K hK; go_simp; apply Exists.intro; refine And.intro ?_ ?_
                            · intro w1 hw1
                              try go_simp
                              try rfl
                            try go_simp
                            refine hK _ ?_; clear hK K; refine qWalk_step ?_; intro K hK; go_simp; apply Exists.intro; refine And.intro ?_ ?_
                            · intro w1 hw1
                              try go_simp
                              try rfl
                            try go_simp
                            refine hK _ ?_; clear hK K; refine qWalk_step ?_; intro K hK; go_simp; apply Exists.intro; refine And.intro ?_ ?_
                            · intro w1 hw1
                              try go_simp
                              try rfl
                            try go_simp
                            refine hK _ ?_; clear hK K; refine qWalk_step ?_; intro K hK; go_simp; apply Exists.intro; refine And.intro ?_ ?_
                            · intro w1 hw1
                              obtain ⟨hc, hf, hz⟩ := hw1.facts
                              try simp at hz
                              try go_simp
                              try rfl
                            try go_simp
                            refine hK _ ?_; clear hK K; refine qWalk_step ?_; intro K hK; go_simp; apply Exists.intro; refine And.intro ?_ ?_
                            · intro w1 hw1
                              try go_simp
                              exact up_call hw1 (LI.out rs 0 96 _ _ hin)
                            try go_simp
                            refine hK _ ?_; clear hK K; refine qWalk_step ?_; intro K hK; go_simp; apply Exists.intro; refine And.intro ?_ ?_
                            · intro w1 hw1
                              try go_simp
                              try rfl
                            try go_simp
                            refine hK _ ?_; clear hK K; refine qWalk_step ?_; intro K hK; go_simp; apply Exists.intro; refine And.intro ?_ ?_
                            · intro w1 hw1
                              try go_simp
                              try rfl
                            try go_simp
                            refine hK _ ?_; clear hK K; refine qWalk_step ?_; intro K hK; go_simp; apply Exists.intro; refine And.intro ?_ ?_
                            · intro w1 hw1
                              try go_simp
                              try rfl
                            try go_simp
                            refine hK _ ?_; clear hK K; refine qWalk_step ?_; intro K hK; go_simp; apply Exists.intro; refine And.intro ?_ ?_
                            · intro w1 hw1
                              try go_simp
                              try rfl
                            try go_simp
                            refine hK _ ?_; clear hK K; refine qWalk_step ?_; intro K hK; go_simp; apply Exists.intro; refine And.intro ?_ ?_
                            · intro w1 hw1
                              try go_simp
                              try rfl
                            try go_simp
                            refine hK _ ?_; clear hK K; refine qWalk_step ?_; intro K hK; go_simp; apply Exists.intro; refine And.intro ?_ ?_
                            · intro w1 hw1
                              try go_simp
                              try rfl
                            try go_simp
                            refine hK _ ?_; clear hK K; refine qWalk_step ?_; intro K hK; go_simp; refine hK _ ?_; clear hK K; refine qWalk_step ?_; intro K hK; go_simp; refine hK _ ?_; clear hK K; refine qWalk_step ?_; intro K hK; go_simp; refine hK _ ?_; clear hK K; refine qWalk_step ?_; intro K hK; go_simp; refine hK _ ?_; clear hK K; refine qWalk_step ?_; intro K hK; go_simp; refine hK _ ?_; clear hK K; refine qWalk_step ?_; intro K hK; go_simp; refine hK _ ?_; clear hK K; refine qWalk_step ?_; intro K hK; go_simp; refine hK _ ?_; clear hK K; refine qWalk_step ?_; intro K hK; go_simp; refine hK _ ?_; clear hK K; refine qWalk_step ?_
                            intro K hK; go_simp; refine hK _ ?_; clear hK K; refine qWalk_step ?_; intro K hK; go_simp; refine hK _ ?_; clear hK K; refine qWalk_step ?_; intro K hK; go_simp; refine hK _ ?_; clear hK K; refine qWalk_step ?_; intro K hK; go_simp; refine hK _ ?_; clear hK K; refine qWalk_step ?_; intro K hK; go_simp; refine hK _ ?_; clear hK K; refine qWalk_step ?_; intro K hK; go_simp; apply Exists.intro; refine And.intro ?_ ?_
                            · intro w1 hw1
                              try go_simp
                              try rfl
                            try go_simp
                            refine hK _ ?_; clear hK K; refine qWalk_step ?_; intro K hK; go_simp; apply Exists.intro; refine And.intro ?_ ?_
                            · intro w1 hw1
                              try go_simp
                              try rfl
                            try go_simp
                            refine hK _ ?_; clear hK K; refine qWalk_nil ?_; intro wA uA
                            have UN := Lib.hid (URW4.out.trans uA)
                            clear uA m0 m1 m2 lm x3 x4 lx; go_wp2
                            go_roundw
                            case rel => exact ⟨⟨1, by omega, by go_num, HN⟩, UN.out⟩
                            case measure => simp [intOf]; omega
                          · have q6 : (0 : Int) < (r : Int) := by omega
                            have v0 := PV.out hz
                            have PP2 := PP.out
                            rw [if_neg (by omega)] at PP2
                            generalize log.getD (r - 1) default = pc at v0 PP2
                            obtain ⟨r1, hr1⟩ : ∃ r1, r1 = r - 1 := ⟨_, rfl⟩; rw [← hr1] at v0; obtain ⟨⟨ft, fto, ffr, fsq, fkd, fdt⟩, fs⟩ := pc; unfold RecAt at v0; dsimp only at v0 PP2; obtain ⟨v0, v1, v2, v3, v4, v5, _⟩ := v0
                            have i7 : IntKind.i64.wrap ((r : Int) - 1) = (r1 : Int) := by
                              have := IntWalk.i64_in ((r : Int) - 1) (by omega)
                              rw [this]
                              omega
                            have i8 : (r1 : Int) < nl := by omega
                            have i9 : r1 < nl := by omega
                            clear hr1 PP PV
                            have cl1 := fun W => CLs.out ⟨ft, fto, ffr, fsq, fkd, fdt⟩ ⟨et, eto, efr, esq, ekd, edt⟩ W
                            unfold Evt.v at cl1; dsimp only at cl1
                            have CL1 := Lib.hid cl1
                            clear cl1; rw [PP2] at S'; unfold behind at S'; dsimp only at S'
                            generalize ltE ⟨ft, fto, ffr, fsq, fkd, fdt⟩ ⟨et, eto, efr, esq, ekd, edt⟩ = lb at S' CL1
                            go_wp2_with fail
                            refine region_qw (by kernel_rfl) (by kernel_rfl) ?_; refine qWalk_step ?_; intro K hK; go_simp; apply Exists.intro; refine And.intro ?_ ?_
                            · intro w1 hw1
                              try go_simp
                              try rfl
                            try go_simp
                            refine hK _ ?_; clear hK K; refine qWalk_step ?_; intro K hK; go_simp; apply Exists.intro; refine And.intro ?_ ?_
                            · intro w1 hw1
                              try go_simp
                              try rfl
                            try go_simp
                            refine hK _ ?_; clear hK K; refine qWalk_step ?_; intro K hK; go_simp; apply Exists.intro; refine And.intro ?_ ?_
                            · intro w1 hw1
                              try go_simp
                              try rfl
                            try go_simp
                            refine hK _ ?_; clear hK K; refine qWalk_step ?_; intro K hK; go_simp; apply Exists.intro; refine And.intro ?_ ?_
                            · intro w1 hw1
                              try go_simp
                              try rfl
                            try go_simp
                            refine hK _ ?_; clear hK K; refine qWalk_step ?_; intro K hK; go_simp; apply Exists.intro; refine And.intro ?_ ?_
                            · intro w1 hw1
                              obtain ⟨hc, hf, hz⟩ := hw1.facts
                              try simp at hz
                              try go_simp
                              try rfl
                            try go_simp
                            refine hK _ ?_; clear hK K; refine qWalk_step ?_; intro K hK; go_simp; apply Exists.intro; refine And.intro ?_ ?_
                            · intro w1 hw1
                              try go_simp
                              try rfl
                            try go_simp
                            refine hK _ ?_; clear hK K; refine qWalk_step ?_; intro K hK; go_simp; apply Exists.intro; refine And.intro ?_ ?_
                            · intro w1 hw1
                              obtain ⟨hc, hf, hz⟩ := hw1.facts
                              try simp at hz
                              try go_simp
                              try rfl
                            try go_simp
                            refine hK _ ?_; clear hK K; refine qWalk_step ?_; intro K hK; go_simp; apply Exists.intro; refine And.intro ?_ ?_
                            · intro w1 hw1
                              try go_simp
                              try rfl
                            try go_simp
                            refine hK _ ?_; clear hK K; refine qWalk_step ?_; intro K hK; go_simp; apply Exists.intro; refine And.intro ?_ ?_
                            · intro w1 hw1
                              try go_simp
                              exact up_call hw1 (CO1.out _)
                            try go_simp
                            refine hK _ ?_; clear hK K; refine qWalk_step ?_; intro K hK; go_simp; apply Exists.intro; refine And.intro ?_ ?_
                            · intro w1 hw1
                              try go_simp
                              try rfl
                            try go_simp
                            refine hK _ ?_; clear hK K; refine qWalk_step ?_; intro K hK; go_simp; apply Exists.intro; refine And.intro ?_ ?_
                            · intro w1 hw1
                              try go_simp
                              try rfl
                            try go_simp
                            refine hK _ ?_; clear hK K; refine qWalk_step ?_; intro K hK; go_simp; apply Exists.intro; refine And.intro ?_ ?_
                            · intro w1 hw1
                              try go_simp
                              try rfl
                            try go_simp
                            refine hK _ ?_; clear hK K; refine qWalk_step ?_; intro K hK; go_simp; apply Exists.intro; refine And.intro ?_ ?_
                            · intro w1 hw1
                              try go_simp
                              try rfl
                            try go_simp
                            refine hK _ ?_; clear hK K; refine qWalk_step ?_; intro K hK; go_simp; apply Exists.intro; refine And.intro ?_ ?_
                            · intro w1 hw1
                              try go_simp
                              try rfl
                            try go_simp
                            refine hK _ ?_; clear hK K; refine qWalk_step ?_; intro K hK; go_simp; apply Exists.intro; refine And.intro ?_ ?_
                            · intro w1 hw1
                              try go_simp
                              try rfl
                            try go_simp
                            refine hK _ ?_; clear hK K; refine qWalk_step ?_; intro K hK; go_simp; apply Exists.intro; refine And.intro ?_ ?_
                            · intro w1 hw1
                              try go_simp
                              try rfl
                            try go_simp
                            refine hK _ ?_; clear hK K; refine qWalk_step ?_; intro K hK; go_simp; apply Exists.intro; refine And.intro ?_ ?_
                            · intro w1 hw1
                              obtain ⟨hc, hf, hz⟩ := hw1.facts
                              try simp at hz
                              try go_simp
                              try rfl
                            try go_simp
                            refine hK _ ?_; clear hK K; refine qWalk_step ?_; intro K hK; go_simp; apply Exists.intro; refine And.intro ?_ ?_
                            · intro w1 hw1
                              try go_simp
                              try rfl
                            try go_simp
                            refine hK _ ?_; clear hK K; refine qWalk_step ?_; intro K hK; go_simp; apply Exists.intro; refine And.intro ?_ ?_
                            · intro w1 hw1
                              try go_simp
                              try rfl
                            try go_simp
                            refine hK _ ?_; clear hK K; refine qWalk_step ?_; intro K hK; go_simp; apply Exists.intro; refine And.intro ?_ ?_
                            · intro w1 hw1
                              try go_simp
                              try rfl
                            try go_simp
                            refine hK _ ?_; clear hK K; refine qWalk_step ?_; intro K hK; go_simp; apply Exists.intro; refine And.intro ?_ ?_
                            · intro w1 hw1
                              try go_simp
                              try rfl
                            try go_simp
                            refine hK _ ?_; clear hK K; refine qWalk_step ?_; intro K hK; go_simp; apply Exists.intro; refine And.intro ?_ ?_
                            · intro w1 hw1
                              try go_simp
                              try rfl
                            try go_simp
                            refine hK _ ?_; clear hK K; refine qWalk_step ?_; intro K hK; go_simp; apply Exists.intro; refine And.intro ?_ ?_
                            · intro w1 hw1
                              try go_simp
                              try rfl
                            try go_simp
                            refine hK _ ?_; clear hK K; refine qWalk_step ?_; intro K hK; go_simp; apply Exists.intro; refine And.intro ?_ ?_
                            · intro w1 hw1
                              try go_simp
                              try rfl
                            try go_simp
                            refine hK _ ?_; clear hK K; refine qWalk_step ?_; intro K hK; go_simp; apply Exists.intro; refine And.intro ?_ ?_
                            · intro w1 hw1
                              try go_simp
                              try rfl
                            try go_simp
                            refine hK _ ?_; clear hK K; refine qWalk_step ?_; intro K hK; go_simp; apply Exists.intro; refine And.intro ?_ ?_
                            · intro w1 hw1
                              obtain ⟨hc, hf, hz⟩ := hw1.facts
                              try simp at hz
                              try go_simp
                              try rfl
                            try go_simp
                            refine hK _ ?_; clear hK K; refine qWalk_step ?_; intro K hK; go_simp; apply Exists.intro; refine And.intro ?_ ?_
                            · intro w1 hw1
                              try go_simp
                              exact up_call hw1 (LI.out rs 0 96 _ _ hin)
                            try go_simp
                            refine hK _ ?_; clear hK K; refine qWalk_step ?_; intro K hK; go_simp; apply Exists.intro; refine And.intro ?_ ?_
                            · intro w1 hw1
                              try go_simp
                              try rfl
                            try go_simp
                            refine hK _ ?_; clear hK K; refine qWalk_step ?_; intro K hK; go_simp; apply Exists.intro; refine And.intro ?_ ?_
                            · intro w1 hw1
                              try go_simp
                              try rfl
                            try go_simp
                            refine hK _ ?_; clear hK K; refine qWalk_step ?_; intro K hK; go_simp; apply Exists.intro; refine And.intro ?_ ?_
                            · intro w1 hw1
                              try go_simp
                              try rfl
                            try go_simp
                            refine hK _ ?_; clear hK K; refine qWalk_step ?_; intro K hK; go_simp; apply Exists.intro; refine And.intro ?_ ?_
                            · intro w1 hw1
                              try go_simp
                              try rfl
                            try go_simp
                            refine hK _ ?_; clear hK K; refine qWalk_step ?_; intro K hK; go_simp; apply Exists.intro; refine And.intro ?_ ?_
                            · intro w1 hw1
                              try go_simp
                              try rfl
                            try go_simp
                            refine hK _ ?_; clear hK K; refine qWalk_step ?_; intro K hK; go_simp; apply Exists.intro; refine And.intro ?_ ?_
                            · intro w1 hw1
                              try go_simp
                              try rfl
                            try go_simp
                            refine hK _ ?_; clear hK K; refine qWalk_step ?_; intro K hK; go_simp; apply Exists.intro; refine And.intro ?_ ?_
                            · intro w1 hw1
                              try go_simp
                              try rfl
                            try go_simp
                            refine hK _ ?_; clear hK K; refine qWalk_step ?_; intro K hK; go_simp; apply Exists.intro; refine And.intro ?_ ?_
                            · intro w1 hw1
                              try go_simp
                              try rfl
                            try go_simp
                            refine hK _ ?_; clear hK K; refine qWalk_step ?_; intro K hK; go_simp; apply Exists.intro; refine And.intro ?_ ?_
                            · intro w1 hw1
                              try go_simp
                              try rfl
                            try go_simp
                            refine hK _ ?_; clear hK K; refine qWalk_step ?_; intro K hK; go_simp; apply Exists.intro; refine And.intro ?_ ?_
                            · intro w1 hw1
                              try go_simp
                              try rfl
                            try go_simp
                            refine hK _ ?_; clear hK K; refine qWalk_step ?_; intro K hK; go_simp; apply Exists.intro; refine And.intro ?_ ?_
                            · intro w1 hw1
                              try go_simp
                              try rfl
                            try go_simp
                            refine hK _ ?_; clear hK K; refine qWalk_step ?_; intro K hK; go_simp; apply Exists.intro; refine And.intro ?_ ?_
                            · intro w1 hw1
                              obtain ⟨hc, hf, hz⟩ := hw1.facts
                              try simp at hz
                              try go_simp
                              try rfl
                            try go_simp
                            refine hK _ ?_; clear hK K; refine qWalk_step ?_; intro K hK; go_simp; apply Exists.intro; refine And.intro ?_ ?_
                            · intro w1 hw1
                              try go_simp
                              try rfl
                            try go_simp
                            refine hK _ ?_; clear hK K; refine qWalk_step ?_; intro K hK; go_simp; apply Exists.intro; refine And.intro ?_ ?_
                            · intro w1 hw1
                              try go_simp
                              try rfl
                            try go_simp
                            refine hK _ ?_; clear hK K; refine qWalk_step ?_; intro K hK; go_simp; apply Exists.intro; refine And.intro ?_ ?_
                            · intro w1 hw1
                              try go_simp
                              try rfl
                            try go_simp
                            refine hK _ ?_; clear hK K; refine qWalk_step ?_; intro K hK; go_simp; apply Exists.intro; refine And.intro ?_ ?_
                            · intro w1 hw1
                              try go_simp
                              try rfl
                            try go_simp
                            refine hK _ ?_; clear hK K; refine qWalk_step ?_; intro K hK; go_simp; apply Exists.intro; refine And.intro ?_ ?_
                            · intro w1 hw1
                              obtain ⟨hc, hf, hz⟩ := hw1.facts
                              try simp at hz
                              try go_simp
                              try rfl
                            try go_simp
                            refine hK _ ?_; clear hK K; refine qWalk_step ?_; intro K hK; go_simp; apply Exists.intro; refine And.intro ?_ ?_
                            · intro w1 hw1
                              try go_simp
                              exact up_call hw1 (CL1.out _)
                            try go_simp
                            refine hK _ ?_; clear hK K; refine qWalk_step ?_; intro K hK; go_simp; apply Exists.intro; refine And.intro ?_ ?_
                            · intro w1 hw1
                              try go_simp
                              try rfl
                            try go_simp
                            refine hK _ ?_; clear hK K; refine qWalk_step ?_; intro K hK; go_simp; apply Exists.intro; refine And.intro ?_ ?_
                            · intro w1 hw1
                              try go_simp
                              try rfl
                            try go_simp
                            refine hK _ ?_; clear hK K; refine qWalk_step ?_; intro K hK; go_simp; apply Exists.intro; refine And.intro ?_ ?_
                            · intro w1 hw1
                              try go_simp
                              try rfl
                            try go_simp
                            refine hK _ ?_; clear hK K; refine qWalk_nil ?_; intro wA uA
                            have UN := Lib.hid (URW4.out.trans uA)
                            clear uA m0 m1 m2 lm x3 x4 lx
                            cases lb
                            · have HF := Lib.hid (show res = false by rw [RB.out, S'.out]; simp)
                              go_wp2; go_ret
                              exact ⟨ret_bool HF.out.symm, UR3.out.trans UN.out⟩
                            · have HN := Lib.hid (show logC q eto (prevP log (r + 1)) (log.drop (r + 1)) = b5 by rw [S'.out]; simp)
                              go_wp2
                              go_roundw
                              case rel => exact ⟨⟨r + 1, by omega, by go_num, HN⟩, UN.out⟩
                              case measure => simp [intOf]; omega
                      · have q5 : (eto != comp) = true := by simp [h5]
                        have HF := Lib.hid (show res = false by rw [RB.out, S'.out, decide_eq_false h5]; simp)
                        go_wp2_with fail
                        refine region_qw (by kernel_rfl) (by kernel_rfl) ?_; refine qWalk_step ?_; intro K hK; go_simp; apply Exists.intro; refine And.intro ?_ ?_
                        · intro w1 hw1
                          try go_simp
                          try rfl
                        try go_simp
                        refine hK _ ?_; clear hK K; refine qWalk_step ?_; intro K hK; go_simp; apply Exists.intro; refine And.intro ?_ ?_
                        · intro w1 hw1
                          try go_simp
                          try rfl
                        try go_simp
                        refine hK _ ?_; clear hK K; refine qWalk_step ?_; intro K hK; go_simp; apply Exists.intro; refine And.intro ?_ ?_
                        · intro w1 hw1
                          try go_simp
                          try rfl
                        try go_simp
                        refine hK _ ?_; clear hK K; refine qWalk_step ?_; intro K hK; go_simp; apply Exists.intro; refine And.intro ?_ ?_
                        · intro w1 hw1
                          try go_simp
                          try rfl
                        try go_simp
                        refine hK _ ?_; clear hK K; refine qWalk_step ?_; intro K hK; go_simp; apply Exists.intro; refine And.intro ?_ ?_
                        · intro w1 hw1
                          obtain ⟨hc, hf, hz⟩ := hw1.facts
                          try simp at hz
                          try go_simp
                          try rfl
                        try go_simp
                        refine hK _ ?_; clear hK K; refine qWalk_step ?_; intro K hK; go_simp; apply Exists.intro; refine And.intro ?_ ?_
                        · intro w1 hw1
                          try go_simp
                          try rfl
                        try go_simp
                        refine hK _ ?_; clear hK K; refine qWalk_step ?_; intro K hK; go_simp; apply Exists.intro; refine And.intro ?_ ?_
                        · intro w1 hw1
                          obtain ⟨hc, hf, hz⟩ := hw1.facts
                          try simp at hz
                          try go_simp
                          try rfl
                        try go_simp
                        refine hK _ ?_; clear hK K; refine qWalk_step ?_; intro K hK; go_simp; apply Exists.intro; refine And.intro ?_ ?_
                        · intro w1 hw1
                          try go_simp
                          try rfl
                        try go_simp
                        refine hK _ ?_; clear hK K; refine qWalk_step ?_; intro K hK; go_simp; apply Exists.intro; refine And.intro ?_ ?_
                        · intro w1 hw1
                          try go_simp
                          exact up_call hw1 (CO1.out _)
                        try go_simp
                        refine hK _ ?_; clear hK K; refine qWalk_step ?_; intro K hK; go_simp; apply Exists.intro; refine And.intro ?_ ?_
                        · intro w1 hw1
                          try go_simp
                          try rfl
                        try go_simp
                        refine hK _ ?_; clear hK K; refine qWalk_step ?_; intro K hK; go_simp; apply Exists.intro; refine And.intro ?_ ?_
                        · intro w1 hw1
                          try go_simp
                          try rfl
                        try go_simp
                        refine hK _ ?_; clear hK K; refine qWalk_step ?_; intro K hK; go_simp; apply Exists.intro; refine And.intro ?_ ?_
                        · intro w1 hw1
                          try go_simp
                          try rfl
                        try go_simp
                        refine hK _ ?_; clear hK K; refine qWalk_step ?_; intro K hK; go_simp; apply Exists.intro; refine And.intro ?_ ?_
                        · intro w1 hw1
                          try go_simp
                          try rfl
                        try go_simp
                        refine hK _ ?_; clear hK K; refine qWalk_step ?_; intro K hK; go_simp; apply Exists.intro; refine And.intro ?_ ?_
                        · intro w1 hw1
                          try go_simp
                          try rfl
                        try go_simp
                        refine hK _ ?_; clear hK K; refine qWalk_step ?_; intro K hK; go_simp; apply Exists.intro; refine And.intro ?_ ?_
                        · intro w1 hw1
                          try go_simp
                          try rfl
                        try go_simp
                        refine hK _ ?_; clear hK K; refine qWalk_step ?_; intro K hK; go_simp; apply Exists.intro; refine And.intro ?_ ?_
                        · intro w1 hw1
                          try go_simp
                          try rfl
                        try go_simp
                        refine hK _ ?_; clear hK K; refine qWalk_step ?_; intro K hK; go_simp; apply Exists.intro; refine And.intro ?_ ?_
                        · intro w1 hw1
                          obtain ⟨hc, hf, hz⟩ := hw1.facts
                          try simp at hz
                          try go_simp
                          try rfl
                        try go_simp
                        refine hK _ ?_; clear hK K; refine qWalk_step ?_; intro K hK; go_simp; apply Exists.intro; refine And.intro ?_ ?_
                        · intro w1 hw1
                          try go_simp
                          try rfl
                        try go_simp
                        refine hK _ ?_; clear hK K; refine qWalk_step ?_; intro K hK; go_simp; apply Exists.intro; refine And.intro ?_ ?_
                        · intro w1 hw1
                          try go_simp
                          try rfl
                        try go_simp
                        refine hK _ ?_; clear hK K; refine qWalk_step ?_; intro K hK; go_simp; apply Exists.intro; refine And.intro ?_ ?_
                        · intro w1 hw1
                          try go_simp
                          try rfl
                        try go_simp
                        refine hK _ ?_; clear hK K; refine qWalk_step ?_; intro K hK; go_simp; apply Exists.intro; refine And.intro ?_ ?_
                        · intro w1 hw1
                          try go_simp
                          try rfl
                        try go_simp
                        refine hK _ ?_; clear hK K; refine qWalk_step ?_; intro K hK; go_simp; refine hK _ ?_; clear hK K; refine qWalk_step ?_; intro K hK; go_simp; refine hK _ ?_; clear hK K; refine qWalk_step ?_; intro K hK; go_simp; refine hK _ ?_; clear hK K; refine qWalk_step ?_; intro K hK; go_simp; refine hK _ ?_; clear hK K; refine qWalk_step ?_; intro K hK; go_simp; refine hK _ ?_; clear hK K; refine qWalk_step ?_; intro K hK; go_simp; refine hK _ ?_; clear hK K; refine qWalk_step ?_; intro K hK; go_simp; refine hK _ ?_; clear hK K; refine qWalk_step ?_; intro K hK; go_simp; apply Exists.intro; refine And.intro ?_ ?_
                        · intro w1 hw1
                          try go_simp
                          try rfl
                        try go_simp
                        refine hK _ ?_; clear hK K; refine qWalk_step ?_; intro K hK; go_simp; apply Exists.intro; refine And.intro ?_ ?_
                        · intro w1 hw1
                          try go_simp
                          try rfl
                        try go_simp
                        refine hK _ ?_; clear hK K; refine qWalk_step ?_; intro K hK; go_simp; refine hK _ ?_; clear hK K; refine qWalk_step ?_; intro K hK; go_simp; refine hK _ ?_; clear hK K; refine qWalk_step ?_; intro K hK; go_simp; refine hK _ ?_; clear hK K; refine qWalk_step ?_; intro K hK; go_simp; refine hK _ ?_; clear hK K; refine qWalk_step ?_; intro K hK; go_simp; refine hK _ ?_; clear hK K; refine qWalk_step ?_; intro K hK; go_simp; refine hK _ ?_; clear hK K; refine qWalk_step ?_; intro K hK; go_simp; refine hK _ ?_; clear hK K; refine qWalk_step ?_; intro K hK; go_simp; refine hK _ ?_; clear hK K; refine qWalk_step ?_
                        intro K hK; go_simp; refine hK _ ?_; clear hK K; refine qWalk_step ?_; intro K hK; go_simp; refine hK _ ?_; clear hK K; refine qWalk_step ?_; intro K hK; go_simp; refine hK _ ?_; clear hK K; refine qWalk_step ?_; intro K hK; go_simp; refine hK _ ?_; clear hK K; refine qWalk_step ?_; intro K hK; go_simp; refine hK _ ?_; clear hK K; refine qWalk_step ?_; intro K hK; go_simp; refine hK _ ?_; clear hK K; refine qWalk_step ?_; intro K hK; go_simp; refine hK _ ?_; clear hK K; refine qWalk_step ?_; intro K hK; go_simp; refine hK _ ?_; clear hK K; refine qWalk_step ?_; intro K hK; go_simp; refine hK _ ?_
                        clear hK K; refine qWalk_step ?_; intro K hK; go_simp; apply Exists.intro; refine And.intro ?_ ?_
                        · intro w1 hw1
                          try go_simp
                          try rfl
                        try go_simp
                        refine hK _ ?_; clear hK K; refine qWalk_nil ?_; intro wA uA
                        have UN := Lib.hid (UR4.out.trans uA)
                        clear uA m0 m1 m2 lm x3 x4 lx; go_wp2; go_ret
                        exact ⟨ret_bool HF.out.symm, UN.out⟩
                  · obtain rfl : r = nl := by omega
                    have j4 : ¬ (r : Int) < r := by omega
                    have RB := Lib.hid (show res = b6 by rw [RB.out, show b5 = true by rw [← HR3.out]; exact EL.out r _ (by rw [LE.out]; omega)]; rfl)
                    go_wp2_with fail
                    rcases Nat.eq_zero_or_pos r with hz | hz
                    · subst hz
                      have JT := Lib.hid (show res = true by rw [RB.out, JL.out]; rfl)
                      refine region_qw (by kernel_rfl) (by kernel_rfl) ?_; refine qWalk_step ?_; intro K hK; go_simp; apply Exists.intro; refine And.intro ?_ ?_
                      · intro w1 hw1
                        try go_simp
                        try rfl
                      try go_simp
                      refine hK _ ?_; clear hK K; refine qWalk_step ?_; intro K hK; go_simp; apply Exists.intro; refine And.intro ?_ ?_
                      · intro w1 hw1
                        try go_simp
                        try rfl
                      try go_simp
                      refine hK _ ?_; clear hK K; refine qWalk_step ?_; intro K hK; go_simp; apply Exists.intro; refine And.intro ?_ ?_
                      · intro w1 hw1
                        try go_simp
                        try rfl
                      try go_simp
                      refine hK _ ?_; clear hK K; refine qWalk_step ?_; intro K hK; go_simp; apply Exists.intro; refine And.intro ?_ ?_
                      · intro w1 hw1
                        try go_simp
                        try rfl
                      try go_simp
                      refine hK _ ?_; clear hK K; refine qWalk_step ?_; intro K hK; go_simp; refine hK _ ?_; clear hK K; refine qWalk_step ?_; intro K hK; go_simp; refine hK _ ?_; clear hK K; refine qWalk_step ?_; intro K hK; go_simp; refine hK _ ?_; clear hK K; refine qWalk_step ?_; intro K hK; go_simp; refine hK _ ?_; clear hK K; refine qWalk_step ?_; intro K hK; go_simp; apply Exists.intro; refine And.intro ?_ ?_
                      · intro w1 hw1
                        try go_simp
                        try rfl
                      try go_simp
                      refine hK _ ?_; clear hK K; refine qWalk_step ?_; intro K hK; go_simp; apply Exists.intro; refine And.intro ?_ ?_
                      · intro w1 hw1
                        try go_simp
                        try rfl
                      try go_simp
                      refine hK _ ?_; clear hK K; refine qWalk_step ?_; intro K hK; go_simp; refine hK _ ?_; clear hK K; refine qWalk_step ?_; intro K hK; go_simp; refine hK _ ?_; clear hK K; refine qWalk_step ?_; intro K hK; go_simp; refine hK _ ?_; clear hK K; refine qWalk_step ?_; intro K hK; go_simp; refine hK _ ?_; clear hK K; refine qWalk_step ?_; intro K hK; go_simp; refine hK _ ?_; clear hK K; refine qWalk_step ?_; intro K hK; go_simp; refine hK _ ?_; clear hK K; refine qWalk_step ?_; intro K hK; go_simp; refine hK _ ?_; clear hK K; refine qWalk_step ?_; intro K hK; go_simp; refine hK _ ?_; clear hK K; refine qWalk_step ?_
                      intro K hK; go_simp; refine hK _ ?_; clear hK K; refine qWalk_step ?_; intro K hK; go_simp; refine hK _ ?_; clear hK K; refine qWalk_step ?_; intro K hK; go_simp; refine hK _ ?_; clear hK K; refine qWalk_step ?_; intro K hK; go_simp; refine hK _ ?_; clear hK K; refine qWalk_step ?_; intro K hK; go_simp; apply Exists.intro; refine And.intro ?_ ?_
                      · intro w1 hw1
                        try go_simp
                        try rfl
                      try go_simp
                      refine hK _ ?_; clear hK K; refine qWalk_step ?_; intro K hK; go_simp; apply Exists.intro; refine And.intro ?_ ?_
                      · intro w1 hw1
                        try go_simp
                        try rfl
                      try go_simp
                      refine hK _ ?_; clear hK K; refine qWalk_nil ?_; intro wA uA
                      have UN := Lib.hid (UR4.out.trans uA)
                      clear uA m0 m1 m2 lm x3 x4 lx; go_wp2; go_ret
                      exact ⟨ret_bool JT.out.symm, UN.out⟩
                    · have z1' : ((r : Int) == 0) = false := by simp; omega
                      have z2' : ¬ (r : Int) = 0 := by omega
                      rcases Nat.eq_zero_or_pos p with hy | hy
                      · subst hy
                        have JT := Lib.hid (show res = true by rw [RB.out, JL.out, if_neg (by omega)]; rfl)
                        refine region_qw (by kernel_rfl) (by kernel_rfl) ?_; refine qWalk_step ?_; intro K hK; go_simp; apply Exists.intro; refine And.intro ?_ ?_
                        · intro w1 hw1
                          try go_simp
                          try rfl
                        try go_simp
                        refine hK _ ?_; clear hK K; refine qWalk_step ?_; intro K hK; go_simp; apply Exists.intro; refine And.intro ?_ ?_
                        · intro w1 hw1
                          try go_simp
                          try rfl
                        try go_simp
                        refine hK _ ?_; clear hK K; refine qWalk_step ?_; intro K hK; go_simp; apply Exists.intro; refine And.intro ?_ ?_
                        · intro w1 hw1
                          try go_simp
                          try rfl
                        try go_simp
                        refine hK _ ?_; clear hK K; refine qWalk_step ?_; intro K hK; go_simp; apply Exists.intro; refine And.intro ?_ ?_
                        · intro w1 hw1
                          try go_simp
                          try rfl
                        try go_simp
                        refine hK _ ?_; clear hK K; refine qWalk_step ?_; intro K hK; go_simp; apply Exists.intro; refine And.intro ?_ ?_
                        · intro w1 hw1
                          try go_simp
                          try rfl
                        try go_simp
                        refine hK _ ?_; clear hK K; refine qWalk_step ?_; intro K hK; go_simp; apply Exists.intro; refine And.intro ?_ ?_
                        · intro w1 hw1
                          obtain ⟨hc, hf, hz⟩ := hw1.facts
                          try simp at hz
                          try go_simp
                          try rfl
                        try go_simp
                        refine hK _ ?_; clear hK K; refine qWalk_step ?_; intro K hK; go_simp; apply Exists.intro; refine And.intro ?_ ?_
                        · intro w1 hw1
                          try go_simp
                          try rfl
                        try go_simp
                        refine hK _ ?_; clear hK K; refine qWalk_step ?_; intro K hK; go_simp; apply Exists.intro; refine And.intro ?_ ?_
                        · intro w1 hw1
                          try go_simp
                          try rfl
                        try go_simp
                        refine hK _ ?_; clear hK K; refine qWalk_step ?_; intro K hK; go_simp; apply Exists.intro; refine And.intro ?_ ?_
                        · intro w1 hw1
                          try go_simp
                          try rfl
                        try go_simp
                        refine hK _ ?_; clear hK K; refine qWalk_step ?_; intro K hK; go_simp; apply Exists.intro; refine And.intro ?_ ?_
                        · intro w1 hw1
                          try go_simp
                          try rfl
                        try go_simp
                        refine hK _ ?_; clear hK K; refine qWalk_step ?_; intro K hK; go_simp; refine hK _ ?_; clear hK K; refine qWalk_step ?_; intro K hK; go_simp; refine hK _ ?_; clear hK K; refine qWalk_step ?_; intro K hK; go_simp; refine hK _ ?_; clear hK K; refine qWalk_step ?_; intro K hK; go_simp; refine hK _ ?_; clear hK K; refine qWalk_step ?_; intro K hK; go_simp; refine hK _ ?_; clear hK K; refine qWalk_step ?_; intro K hK; go_simp; refine hK _ ?_; clear hK K; refine qWalk_step ?_; intro K hK; go_simp; refine hK _ ?_; clear hK K; refine qWalk_step ?_; intro K hK; go_simp; refine hK _ ?_; clear hK K; refine qWalk_step ?_
                        intro K hK; go_simp; refine hK _ ?_; clear hK K; refine qWalk_step ?_; intro K hK; go_simp; refine hK _ ?_; clear hK K; refine qWalk_step ?_; intro K hK; go_simp; refine hK _ ?_; clear hK K; refine qWalk_step ?_; intro K hK; go_simp; refine hK _ ?_; clear hK K; refine qWalk_step ?_; intro K hK; go_simp; apply Exists.intro; refine And.intro ?_ ?_
                        · intro w1 hw1
                          try go_simp
                          try rfl
                        try go_simp
                        refine hK _ ?_; clear hK K; refine qWalk_step ?_; intro K hK; go_simp; apply Exists.intro; refine And.intro ?_ ?_
                        · intro w1 hw1
                          try go_simp
                          try rfl
                        try go_simp
                        refine hK _ ?_; clear hK K; refine qWalk_nil ?_; intro wA uA
                        have UN := Lib.hid (UR4.out.trans uA)
                        clear uA m0 m1 m2 lm x3 x4 lx; go_wp2; go_ret
                        exact ⟨ret_bool JT.out.symm, UN.out⟩
                      · have y1' : ((p : Int) == 0) = false := by simp; omega
                        have y2' : ¬ (p : Int) = 0 := by omega
                        have JT := RB.out.trans (JL.out.trans (by rw [if_neg (by omega), if_neg (by omega)]))
                        obtain ⟨b, off, hA, hb, hc⟩ := (HL.out.up UR4.out).2 (by omega); obtain ⟨b2, off2, hA2, hb2, hc2⟩ := (HW.out.up UR4.out).2 (by omega); subst hA hA2
                        have v0 := hc (r - 1) (by omega)
                        have a0 := hc2 0 (by omega)
                        clear hc hc2
                        generalize log.getD (r - 1) default = pc at v0 JT
                        generalize h.wait.getD 0 default = e at a0 JT
                        obtain ⟨r1, hr1⟩ : ∃ r1, r1 = r - 1 := ⟨_, rfl⟩; rw [← hr1] at v0; obtain ⟨⟨ft, fto, ffr, fsq, fkd, fdt⟩, fs⟩ := pc; obtain ⟨et, eto, efr, esq, ekd, edt⟩ := e; unfold RecAt at v0; unfold EvAt at a0; dsimp only at v0 a0 JT; obtain ⟨v0, v1, v2, v3, v4, v5, _⟩ := v0; obtain ⟨p0, p1, p2, p3, p4, p5⟩ := a0; simp only [Nat.zero_mul, Nat.add_zero] at p0 p1 p2 p3 p4 p5
                        have i7 : IntKind.i64.wrap ((r : Int) - 1) = (r1 : Int) := by
                          have := IntWalk.i64_in ((r : Int) - 1) (by omega)
                          rw [this]
                          omega
                        have i8 : (r1 : Int) < r := by omega
                        have i9 : r1 < r := by omega
                        have i10 : (0 : Int) < (p : Int) := by omega
                        have cl1 := fun W => CLs.out ⟨ft, fto, ffr, fsq, fkd, fdt⟩ ⟨et, eto, efr, esq, ekd, edt⟩ W
                        unfold Evt.v at cl1; dsimp only at cl1
                        have CL1 := Lib.hid cl1
                        have HF := Lib.hid JT
                        clear cl1 hr1 JT
                        generalize ltE ⟨ft, fto, ffr, fsq, fkd, fdt⟩ ⟨et, eto, efr, esq, ekd, edt⟩ = lb at HF CL1
                        refine region_qw (by kernel_rfl) (by kernel_rfl) ?_; refine qWalk_step ?_; intro K hK; go_simp; apply Exists.intro; refine And.intro ?_ ?_
                        · intro w1 hw1
                          try go_simp
                          try rfl
                        try go_simp
                        refine hK _ ?_; clear hK K; refine qWalk_step ?_; intro K hK; go_simp; apply Exists.intro; refine And.intro ?_ ?_
                        · intro w1 hw1
                          try go_simp
                          try rfl
                        try go_simp
                        refine hK _ ?_; clear hK K; refine qWalk_step ?_; intro K hK; go_simp; apply Exists.intro; refine And.intro ?_ ?_
                        · intro w1 hw1
                          try go_simp
                          try rfl
                        try go_simp
                        refine hK _ ?_; clear hK K; refine qWalk_step ?_; intro K hK; go_simp; apply Exists.intro; refine And.intro ?_ ?_
                        · intro w1 hw1
                          try go_simp
                          try rfl
                        try go_simp
                        refine hK _ ?_; clear hK K; refine qWalk_step ?_; intro K hK; go_simp; apply Exists.intro; refine And.intro ?_ ?_
                        · intro w1 hw1
                          try go_simp
                          try rfl
                        try go_simp
                        refine hK _ ?_; clear hK K; refine qWalk_step ?_; intro K hK; go_simp; apply Exists.intro; refine And.intro ?_ ?_
                        · intro w1 hw1
                          obtain ⟨hc, hf, hz⟩ := hw1.facts
                          try simp at hz
                          try go_simp
                          try rfl
                        try go_simp
                        refine hK _ ?_; clear hK K; refine qWalk_step ?_; intro K hK; go_simp; apply Exists.intro; refine And.intro ?_ ?_
                        · intro w1 hw1
                          try go_simp
                          try rfl
                        try go_simp
                        refine hK _ ?_; clear hK K; refine qWalk_step ?_; intro K hK; go_simp; apply Exists.intro; refine And.intro ?_ ?_
                        · intro w1 hw1
                          try go_simp
                          try rfl
                        try go_simp
                        refine hK _ ?_; clear hK K; refine qWalk_step ?_; intro K hK; go_simp; apply Exists.intro; refine And.intro ?_ ?_
                        · intro w1 hw1
                          try go_simp
                          try rfl
                        try go_simp
                        refine hK _ ?_; clear hK K; refine qWalk_step ?_; intro K hK; go_simp; apply Exists.intro; refine And.intro ?_ ?_
                        · intro w1 hw1
                          try go_simp
                          try rfl
                        try go_simp
                        refine hK _ ?_; clear hK K; refine qWalk_step ?_; intro K hK; go_simp; apply Exists.intro; refine And.intro ?_ ?_
                        · intro w1 hw1
                          try go_simp
                          try rfl
                        try go_simp
                        refine hK _ ?_; clear hK K; refine qWalk_step ?_; intro K hK; go_simp; apply Exists.intro; refine And.intro ?_ ?_
                        · intro w1 hw1
                          try go_simp
                          try rfl
                        try go_simp
                        refine hK _ ?_; clear hK K; refine qWalk_step ?_; intro K hK; go_simp; apply Exists.intro; refine And.intro ?_ ?_
                        · intro w1 hw1
                          try go_simp
                          try rfl
                        try go_simp
                        refine hK _ ?_; clear hK K; refine qWalk_step ?_; intro K hK; go_simp; apply Exists.intro; refine And.intro ?_ ?_
                        · intro w1 hw1
                          try go_simp
                          try rfl
                        try go_simp
                        refine hK _ ?_; clear hK K; refine qWalk_step ?_; intro K hK; go_simp; apply Exists.intro; refine And.intro ?_ ?_
                        · intro w1 hw1
                          try go_simp
                          try rfl
                        try go_simp
                        refine hK _ ?_; clear hK K; refine qWalk_step ?_; intro K hK; go_simp; apply Exists.intro; refine And.intro ?_ ?_
                        · intro w1 hw1
                          try go_simp
                          try rfl
                        try go_simp
                        refine hK _ ?_; clear hK K; refine qWalk_step ?_; intro K hK; go_simp; apply Exists.intro; refine And.intro ?_ ?_
                        · intro w1 hw1
                          obtain ⟨hc, hf, hz⟩ := hw1.facts
                          try simp at hz
                          try go_simp
                          try rfl
                        try go_simp
                        refine hK _ ?_; clear hK K; refine qWalk_step ?_; intro K hK; go_simp; apply Exists.intro; refine And.intro ?_ ?_
                        · intro w1 hw1
                          try go_simp
                          try rfl
                        try go_simp
                        refine hK _ ?_; clear hK K; refine qWalk_step ?_; intro K hK; go_simp; apply Exists.intro; refine And.intro ?_ ?_
                        · intro w1 hw1
                          obtain ⟨hc, hf, hz⟩ := hw1.facts
                          try simp at hz
                          try go_simp
                          try rfl
                        try go_simp
                        refine hK _ ?_; clear hK K; refine qWalk_step ?_; intro K hK; go_simp; apply Exists.intro; refine And.intro ?_ ?_
                        · intro w1 hw1
                          try go_simp
                          try rfl
                        try go_simp
                        refine hK _ ?_; clear hK K; refine qWalk_step ?_; intro K hK; go_simp; apply Exists.intro; refine And.intro ?_ ?_
                        · intro w1 hw1
                          obtain ⟨hc, hf, hz⟩ := hw1.facts
                          try simp at hz
                          try go_simp
                          try rfl
                        try go_simp
                        refine hK _ ?_; clear hK K; refine qWalk_step ?_; intro K hK; go_simp; apply Exists.intro; refine And.intro ?_ ?_
                        · intro w1 hw1
                          try go_simp
                          exact up_call hw1 (CL1.out _)
                        try go_simp
                        refine hK _ ?_; clear hK K; refine qWalk_step ?_; intro K hK; go_simp; apply Exists.intro; refine And.intro ?_ ?_
                        · intro w1 hw1
                          try go_simp
                          try rfl
                        try go_simp
                        refine hK _ ?_; clear hK K; refine qWalk_step ?_; intro K hK; go_simp; apply Exists.intro; refine And.intro ?_ ?_
                        · intro w1 hw1
                          try go_simp
                          try rfl
                        try go_simp
                        refine hK _ ?_; clear hK K; refine qWalk_nil ?_; intro wA uA
                        have UN := Lib.hid (UR4.out.trans uA)
                        clear uA m0 m1 m2 lm x3 x4 lx; go_wp2; go_ret
                        exact ⟨ret_bool HF.out.symm, UN.out⟩
    · have q2 : ((ni : Int) != (n : Int)) = true := by simp; omega
      have q3 : ¬ (ni : Int) = (n : Int) := by omega
      have HF := Lib.hid (show res = false by rw [RB.out, decide_eq_false e1]; simp)
      go_wp2; go_ret
      exact ⟨ret_bool HF.out.symm, U.out⟩
end Go.Proofs.Ytklldniapombiaa

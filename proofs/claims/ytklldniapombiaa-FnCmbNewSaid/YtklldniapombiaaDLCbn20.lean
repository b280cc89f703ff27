/-
  What spec.CmbNew gives, in one sentence: the conservative simulation that has done nothing; for every model that lies in memory.
  A record is not different from itself, in one sentence: the language's own sign says so; for every record.
-/
import Derived.Test.YtklldniapombiaaDLCbn06
import Derived.Test.YtklldniapombiaaDLCbn13
import Derived.Test.YtklldniapombiaaDLCbn16
import Derived.Test.YtklldniapombiaaDLCbn19
namespace Go.Proofs.Ytklldniapombiaa
set_option maxRecDepth 100000
open Go.RowKit
/-- Slices of no elements. -/
def NoR (u : Value) : Prop := ∃ A c, u = .slice A 0 c
theorem Lgs.of_own {w : World} {lo n c : Nat} {m : Mdl} {B : Option Addr} {ls : List Value} (hn : cbN m = n) (h : w.ownsRow lo 60 1 (.slice B n c) n ls) (hz : ∀ u ∈ ls, NoR u) : Lgs w B n (cbL m) := by
  refine ⟨by simp [cbL, hn], fun h0 => ?_⟩; obtain ⟨g, cap, hv, _, hlt⟩ := h.form h0
  injection hv with hA _ hcap
  subst hA hcap
  have hlen := h.1
  refine ⟨g, 0, rfl, hlt, fun i hi => ?_⟩
  have hc := h.cellAt i (by omega)
  have hi' : i < ls.length := by omega
  rw [List.getElem?_eq_getElem hi'] at hc; obtain ⟨A, c', hu⟩ := hz _ (List.getElem_mem hi'); rw [hu] at hc; refine ⟨A, 0, c', by rw [Nat.zero_add]; exact hc, ?_, by omega⟩
  have : (cbL m).getD i [] = [] := by
    simp only [cbL, List.getD, List.getElem?_replicate]
    split <;> rfl
  rw [this]
  exact ⟨rfl, fun h => absurd h (by omega)⟩
theorem readsV_new (w : World) (u : Value) (t : TypeId) : Reads (w.alloc (.cells #[u] t)) (w.heap.size + 1) 1 (some ⟨w.heap.size, 0, none⟩) 1 [u] := by
  have hh := heap_alloc_new w (.cells #[u] t)
  refine ⟨rfl, fun _ => ⟨_, rfl, by show w.heap.size < w.heap.size + 1; omega, fun j u' hu => ?_⟩⟩
  have ad : (⟨w.heap.size, 0, none⟩ : Addr).add j = ⟨w.heap.size, j, none⟩ := by
    unfold Addr.add
    split <;> simp_all
  rw [ad, cell_of_row _ _ j _ _ _ hh, ← hu]; simp
theorem cb_form {w : World} {b e s q : Nat} {v : Value} {ys : List Value} (ho : w.ownsRow b e s v (q + 1) ys) : ∃ A9 c9, v = .slice A9 (q + 1) c9 := by
  rcases ho.2 with ⟨_, h0⟩ | ⟨g, cap, cur, rfl, _⟩
  · omega
  · exact ⟨_, cap, rfl⟩
theorem cb_push {wX w' : World} {b4 q : Nat} {VW VL v' : Value} {xs ls ys : List Value} (HG1 : wX.ownsRow b4 86 5 VW q xs) (X4 : Blk wX b4 41 #[VW, VL]) (LL : wX.ownsRow b4 60 1 VL q ls) (ho : w'.ownsRow b4 86 5 v' (q + 1) ys) (hg : wX.grownBy w' VW.ownBlock) :
    ∃ A9 c9, v' = .slice A9 (q + 1) c9 ∧ Blk w' b4 41 #[VW, VL] ∧ w'.ownsRow b4 60 1 VL q ls := by
  obtain ⟨A9, c9, hv⟩ := cb_form ho
  exact ⟨A9, c9, hv, (hg.block b4 X4.lt (fun e => own_off HG1 X4 (by decide) b4 e.symm rfl)).trans X4, own_keep LL (fun g hg' hlt => hg.block g hlt (fun e => own_apart LL HG1 (by decide) g hg' e.symm))⟩
theorem cb_push2 {w' : World} {b4 q : Nat} {VW VL : Value} {ls : List Value} (v' : Value) (c4 : Blk w' b4 41 #[VW, VL]) (ll : w'.ownsRow b4 60 1 VL q ls) :
    (((w'.setCell ⟨b4, 0, none⟩ v').alloc (.cells #[] 180)).alloc (.cells #[.slice (some ⟨w'.heap.size, 0, none⟩) 0 0] 60)).ownsRow b4 60 1 VL q ls ∧
    Reads (((w'.setCell ⟨b4, 0, none⟩ v').alloc (.cells #[] 180)).alloc (.cells #[.slice (some ⟨w'.heap.size, 0, none⟩) 0 0] 60)) (w'.heap.size + 1 + 1) 1 (some ⟨w'.heap.size + 1, 0, none⟩) 1 [.slice (some ⟨w'.heap.size, 0, none⟩) 0 0] ∧
    b4 ≤ (((w'.setCell ⟨b4, 0, none⟩ v').alloc (.cells #[] 180)).alloc (.cells #[.slice (some ⟨w'.heap.size, 0, none⟩) 0 0] 60)).heap.size ∧
    Blk (((w'.setCell ⟨b4, 0, none⟩ v').alloc (.cells #[] 180)).alloc (.cells #[.slice (some ⟨w'.heap.size, 0, none⟩) 0 0] 60)) b4 41 #[v', VL] := by
  have u := ((Up.refl (w'.setCell ⟨b4, 0, none⟩ v')).alloc (.cells #[] 180)).alloc (.cells #[.slice (some ⟨w'.heap.size, 0, none⟩) 0 0] 60)
  have hsz : ((w'.setCell ⟨b4, 0, none⟩ v').alloc (.cells #[] 180)).heap.size = w'.heap.size + 1 := by simp
  have l := c4.lt
  have rd := readsV_new ((w'.setCell ⟨b4, 0, none⟩ v').alloc (.cells #[] 180)) (.slice (some ⟨w'.heap.size, 0, none⟩) 0 0) 60
  rw [hsz] at rd
  exact ⟨own_up (own_keep ll (fun g hg _ => Below.heap_setCell _ _ _ g (own_off ll c4 (by decide) g hg))) u, rd, by simp; omega, (c4.set 0 v').up u⟩
theorem cb_push3 {w w' : World} {b4 q : Nat} {v' VL : Value} {ls : List Value} (c4 : Blk w b4 41 #[v', VL]) (ll : w.ownsRow b4 60 1 VL q ls) (hg : w.grownBy w' VL.ownBlock) : Blk w' b4 41 #[v', VL] :=
  (hg.block b4 c4.lt (fun e => own_off ll c4 (by decide) b4 e.symm rfl)).trans c4
theorem HsW.grown {w w' : World} {lo many q q' b4 : Nat} {es : List Evt} {v VL : Value} {hl : List Hd} {ls : List Value} (h : HsW w lo many es q v hl) (ll : w.ownsRow b4 60 1 VL q' ls) (hg : w.grownBy w' VL.ownBlock) : HsW w' lo many es q v hl := by
  refine ⟨h.len, own_keep h.row (fun g hg' hlt => hg.block g hlt (fun e => own_apart h.row ll (by decide) g hg' e.symm)), fun i hi => (h.at_ i hi).keep fun g hgk => ?_, h.ape, h.api⟩
  have hlt : g < w.heap.size := by rcases hgk with ⟨arr, e⟩ | ⟨arr, e⟩ <;> exact (Array.getElem?_eq_some_iff.1 e).1
  refine hg.block g hlt fun e => ?_
  rcases ll.2 with ⟨h0, _⟩ | ⟨g', cap, cur, h0, _, hb, _⟩
  · rw [h0] at e; cases e
  · rw [h0] at e
    injection e with e
    have e : g = g' := e
    subst e
    rcases hgk with ⟨arr, e⟩ | ⟨arr, e⟩
    · rw [hb] at e
      injection e with e
      injection e with _ e _
      exact absurd e (by decide)
    · rw [hb] at e
      injection e with e
      injection e with _ e _
      exact absurd e (by decide)
set_option maxHeartbeats 8000000 in
theorem specCb_any (A : Option Addr) (n c : Nat) (B : Option Addr) (k d : Nat) (m : Mdl) (w : World) (h : MdlV w A n B k m) :
    Calls Try.prog 45 #[.agg #[.slice A n c, .slice B k d, .int .i64 m.til]] w fun x w' => ∃ v, x = .returned v ∧ CbVal m v w' ∧ Up w w' := by
  obtain ⟨i0, hi0, hz0, hz1, hz2⟩ := info_parts info86
  have INF := Lib.hid (And.intro hi0 (And.intro hz0 (And.intro hz1 hz2)))
  clear hi0 hz0 hz1 hz2; obtain ⟨i1, hi1, hy0, hy1, hy2⟩ := info_parts infoI3
  have hmkI := fun (hn : n ≤ 4) W => run_make_rowN (P := Try.prog) 84 3 i1 _ Try.underlying84 hi1 hy0 .i64 .i64 n n (Nat.le_refl _) (by rw [hy2]; omega) (by omega) W
  simp only [hy1, Nat.mul_one] at hmkI
  have HMI := Lib.hid hmkI
  obtain ⟨i2, hi2, hx0, hx1, hx2⟩ := info_parts infoR60
  have INR := Lib.hid (And.intro hi2 (And.intro hx0 (And.intro hx1 hx2)))
  obtain ⟨i3, hi3, hw0, hw1, hw2⟩ := info_parts info74
  have INE := Lib.hid (And.intro hi3 (And.intro hw0 (And.intro hw1 hw2)))
  clear hi1 hy0 hy1 hy2 hi2 hx0 hx1 hx2 hi3 hw0 hw1 hw2 hmkI
  have HM := Lib.hid h
  have LS := Lib.hid h.starts.1
  have LN := Lib.hid h.rules.1
  have CM := Lib.hid (fun W (u : Up w W) => specMdl_any A n c B k d m W (h.up u))
  have U0 := Lib.hid (((Up.refl w).alloc (.cells #[.slice A n c, .slice B k d, .int .i64 m.til] 36)).alloc (.cells #[.slice none 0 0, .slice none 0 0] 41))
  have B2 := Lib.hid ((Blk.new w #[.slice A n c, .slice B k d, .int .i64 m.til] 36).alloc (.cells #[.slice none 0 0, .slice none 0 0] 41))
  have B3 := Lib.hid (Blk.new (w.alloc (.cells #[.slice A n c, .slice B k d, .int .i64 m.til] 36)) #[.slice none 0 0, .slice none 0 0] 41)
  simp only [World.size_alloc] at B3
  generalize hmb : mdlB m = g at CM
  have HB := Lib.hid hmb
  clear h hmb
  go_enter Try.func45, Try.ntmps45
  go_wp2_with fail
  refine (CM.out _ U0.out).mono ?_; rintro x w1 ⟨rfl, u1⟩
  have U1 := Lib.hid (U0.out.trans u1)
  replace B2 := Lib.hid (B2.out.up u1)
  replace B3 := Lib.hid (B3.out.up u1)
  have hs3 := B3.out.lt
  clear u1 U0 CM
  cases g
  · have UE_ := Lib.hid ((U1.out.setCell (p := ⟨w.heap.size + 1, 0, none⟩) (by dsimp only; omega) (.slice none 0 0)).setCell (p := ⟨w.heap.size + 1, 1, none⟩) (by dsimp only; omega) (.slice none 0 0))
    have Q_ := Lib.hid ((B3.out.set 0 (.slice none 0 0)).set 1 (.slice none 0 0))
    have f_ := B3.out.frozen
    have old0 := B3.out.cell (j := 0) rfl
    have old1 := B3.out.cell (j := 1) rfl
    have k0 := Q_.out.cell (j := 0) rfl
    have k1 := Q_.out.cell (j := 1) rfl
    go_wp2
    exact bodyPost_ret (v := .agg #[.slice none 0 0, .slice none 0 0]) (by simp [results, Try.results45, go_sem, k0, k1]) rfl ⟨_, rfl, (CbKeep.zero w.heap.size _ HB.out).val, UE_.out⟩
  · have few := mdlB_few HB.out
    have hn4 : n ≤ 4 := by have := LN.out; omega
    have hk6 : k ≤ 6 := by have := mdlB_starts HB.out; have := LS.out; omega
    have CN := Lib.hid (show cbN m = n by unfold cbN; rw [HB.out]; exact LN.out)
    have SL6 := Lib.hid (show m.starts.length ≤ 6 by have := LS.out; omega)
    replace HMI := Lib.hid (HMI.out hn4)
    have hn63 : n ≤ maxLen := by simp only [maxLen]; omega
    have HS := Lib.hid (HM.out.starts.up U1.out)
    have WIN := Lib.hid (fun comp q (hq : q < k) => (stk_in (es := m.starts) (comp := comp) (k := q) (by rw [LS.out]; exact hq)))
    have WOUT := Lib.hid (fun comp q (hq : q < k) => (stk_out (es := m.starts) (comp := comp) (k := q) (by rw [LS.out]; exact hq)))
    have WL := Lib.hid (fun comp q => stk_len m.starts comp q)
    have B4 := Lib.hid (Blk.new w1 #[.slice none 0 0, .slice none 0 0] 41)
    have U2 := Lib.hid ((Up.refl w1).alloc (.cells #[.slice none 0 0, .slice none 0 0] 41))
    go_wp2
    generalize w1.alloc (.cells #[.slice none 0 0, .slice none 0 0] 41) = w2 at *
    generalize hb4 : w1.heap.size = b4 at *
    go_loopw [4] (fun i wr => (∃ (q : Nat) (v vl : Value) (hl : List Hd) (ls : List Value), q ≤ n ∧ i = .int .i64 q ∧ Hid (HsW wr b4 n m.starts q v hl) ∧ Hid (wr.ownsRow b4 60 1 vl q ls ∧ ∀ u ∈ ls, NoR u) ∧ Hid (Blk wr b4 41 #[v, vl])) ∧ Up w1 wr) (fun i _ => n - (intOf i).toNat)
    case atStart => exact ⟨⟨0, _, _, [], [], by omega, rfl, Lib.hid (HsW.start _ _ _ _), Lib.hid ⟨World.ownsRow_nil _ _ _ _, fun _ h => by cases h⟩, B4⟩, U2.out⟩
    case round =>
      clear B4 U2; obtain ⟨⟨q, VW, VL, hl, ls, hq, rfl, HH, HL, B4⟩, ur⟩ := hrel; obtain ⟨W0, hW0⟩ : ∃ W, W = wr := ⟨_, rfl⟩; subst hW0
      have UR := Lib.hid ur
      clear ur
      have C2 := Lib.hid (B2.out.up UR.out)
      obtain ⟨m0, m1, m2⟩ := And.intro (C2.out.cell (j := 0) rfl) (And.intro (C2.out.cell (j := 1) rfl) (C2.out.cell (j := 2) rfl))
      have lm := C2.out.lt
      by_cases hlt : q < n
      · have i4 : (q : Int) < n := by omega
        have UA := Lib.hid UR.out.size
        have hmk := HMI.out W0
        have H26 := Lib.hid (made_zeros W0 n hn63)
        have U01 := Lib.hid ((Up.refl W0).alloc (.cells (madeCells #[.int .i64 0] n) 3))
        have B5 := Lib.hid (Blk.new (W0.alloc (.cells (madeCells #[.int .i64 0] n) 3)) #[.int .i64 0, .int .i64 0, .int .i64 0, .slice none 0 0, .slice (some ⟨W0.heap.size, 0, none⟩) n n] 86)
        have hS1 : (W0.alloc (.cells (madeCells #[.int .i64 0] n) 3)).heap.size = W0.heap.size + 1 := by simp
        go_wp2; clear m0 m1 m2 lm hmk; rw [← hS1]
        have HS1 := Lib.hid hS1
        clear hS1
        generalize W0.alloc (.cells (madeCells #[.int .i64 0] n) 3) = W1 at *
        have B5s := Lib.hid ((Up.refl W1).alloc (.cells #[.int .i64 0, .int .i64 0, .int .i64 0, .slice none 0 0, .slice (some ⟨W0.heap.size, 0, none⟩) n n] 86))
        generalize W1.alloc (.cells #[.int .i64 0, .int .i64 0, .int .i64 0, .slice none 0 0, .slice (some ⟨W0.heap.size, 0, none⟩) n n] 86) = W2 at *
        generalize hbI : W0.heap.size = bI at *
        replace C2 := Lib.hid (C2.out.up U01.out)
        go_loopw [6] (fun i wj => (∃ (p : Nat) (VT : Value), p ≤ k ∧ i = .int .i64 p ∧ Hid (wj.ownsRow W1.heap.size 74 6 VT (stk m.starts (q : Int) p).length (flat (stk m.starts (q : Int) p))) ∧ Hid (Blk wj W1.heap.size 86 #[.int .i64 0, .int .i64 0, .int .i64 0, VT, .slice (some ⟨bI, 0, none⟩) n n])) ∧ Up W1 wj) (fun i _ => k - (intOf i).toNat)
        case atStart => exact ⟨⟨0, .slice none 0 0, by omega, rfl, Lib.hid (World.ownsRow_nil _ _ _ _), B5⟩, B5s.out⟩
        case round =>
          clear B5 B5s; obtain ⟨⟨p, VT, hp, rfl, HO, B5⟩, uj⟩ := hrel
          have UJ := Lib.hid uj
          clear uj
          have c2 := C2.out.up UJ.out
          obtain ⟨m0, m1, m2⟩ := And.intro (c2.cell (j := 0) rfl) (And.intro (c2.cell (j := 1) rfl) (c2.cell (j := 2) rfl))
          have lm := c2.lt
          clear c2
          by_cases hlp : p < k
          · obtain ⟨b, off, hA, hb, hc⟩ := ((HS.out.up UR.out).up U01.out).2 (by omega)
            subst hA
            have a0 := hc p hlp
            have win := WIN.out (q : Int) p hlp
            have wout := WOUT.out (q : Int) p hlp
            have wl := WL.out (q : Int) p
            have BE := Lib.hid hb
            have hbj : b < wr.heap.size := by have := UJ.out.size; omega
            clear hc
            generalize m.starts.getD p default = e at a0 win wout
            have WI := Lib.hid win
            have WO := Lib.hid wout
            clear win wout
            have EA := Lib.hid a0
            have a1 := a0.up UJ.out hb
            clear a0; obtain ⟨et, eto, efr, esq, ekd, edt⟩ := e; unfold EvAt at a1; dsimp only at a1; obtain ⟨p0, p1, p2, p3, p4, p5⟩ := a1
            have i5 : (p : Int) < k := by omega
            have i6 : IntKind.i64.wrap ((p : Int) + 1) = (p : Int) + 1 := IntWalk.i64_in _ (by omega)
            have j5 : ¬ (p : Int) < 0 := by omega
            by_cases hto : eto = (q : Int)
            · subst hto
              have HW := Lib.hid (WI.out rfl)
              generalize hl' : stk m.starts (q : Int) p = l at HO HW wl
              clear hl' WI WO
              have HMX := Lib.hid (show l.length + 1 ≤ maxLen by simp only [maxLen]; omega)
              have HBY := Lib.hid (show (l.length + 1) * 48 ≤ 140737488355328 by omega)
              go_wp2_with fail
              clear m0 m1 m2 lm p0 p1 p2 p3 p4 p5; refine region_hWalk (fun w1 => Up W1 w1) 11 (by kernel_rfl) rfl (by kernel_rfl) (UJ.out.drew) ?_
              have HU := Lib.hid (UJ.out.drew)
              have B5c := Lib.hid (show Blk wr.drew W1.heap.size 86 _ from B5.out)
              replace HO := Lib.hid (own_up HO.out (Up.refl _).drew)
              generalize wr.drew = wd at *
              refine hWalk_take 0 (by kernel_rfl) rfl (by rfl) ?_; apply Exists.intro; refine ⟨fun w1 hS1 => ?_, ?_⟩
              · clear hS1
                go_simp
                try rfl
              go_simp; refine hWalk_take 2 (by kernel_rfl) rfl (by rfl) ?_; apply Exists.intro; refine ⟨fun w1 hS1 => ?_, ?_⟩
              · clear hS1
                go_simp
                try rfl
              go_simp; refine hWalk_take 3 (by kernel_rfl) rfl (by rfl) ?_; apply Exists.intro; refine ⟨fun w1 hS1 => ?_, ?_⟩
              · obtain ⟨m0, m1, m2⟩ := And.intro ((C2.out.up hS1).cell (j := 0) rfl) (And.intro ((C2.out.up hS1).cell (j := 1) rfl) ((C2.out.up hS1).cell (j := 2) rfl))
                have lm := (C2.out.up hS1).lt
                clear hS1; go_simp
                try rfl
              go_simp; refine hWalk_take 4 (by kernel_rfl) rfl (by rfl) ?_; apply Exists.intro; refine ⟨fun w1 hS1 => ?_, ?_⟩
              · clear hS1
                go_simp
                try rfl
              go_simp; refine hWalk_take 5 (by kernel_rfl) rfl (by rfl) ?_; apply Exists.intro; refine ⟨fun w1 hS1 => ?_, ?_⟩
              · clear hS1
                go_simp
                try rfl
              go_simp; refine hWalk_take 6 (by kernel_rfl) rfl (by rfl) ?_; apply Exists.intro; refine ⟨fun w1 hS1 => ?_, ?_⟩
              · obtain ⟨p0, p1, p2, p3, p4, p5⟩ := EA.out.up hS1 BE.out
                have lb : b < w1.heap.size := Nat.lt_of_lt_of_le BE.out hS1.size
                clear hS1; go_simp
                try rfl
              go_simp; refine hWalk_two (i := 1) (j := 7) (by kernel_rfl) ?_ ?_
              · refine next_mk rfl (by rfl) (fun K hK => ?_)
                have y0 := B5c.out.cell (j := 3) rfl
                have ly := B5c.out.lt
                go_simp; refine hK _ _ HU.out ?_; clear hK K y0 ly; refine hWalk_one (i := 7) (by kernel_rfl) ?_
                · refine next_mk rfl (by rfl) (fun K hK => ?_)
                  go_simp; refine hK _ _ (HU.out.alloc _) ?_; clear hK K
                  have rd := (Evs.new wd ⟨et, (q : Int), efr, esq, ekd, edt⟩ 74).reads
                  have u7 := (Up.refl wd).alloc (.cells #[.int .i64 et, .int .i64 (q : Int), .int .i64 efr, .int .i64 esq, .int .i64 ekd, .int .i64 edt] 74)
                  replace B5c := Lib.hid (B5c.out.up u7)
                  replace HO := Lib.hid (own_up HO.out u7)
                  replace HU := Lib.hid (HU.out.trans u7)
                  clear u7
                  generalize wd.alloc (.cells #[.int .i64 et, .int .i64 (q : Int), .int .i64 efr, .int .i64 esq, .int .i64 ekd, .int .i64 edt] 74) = w7 at *
                  generalize wd.heap.size = g7 at *
                  refine hWalk_one (i := 8) (by kernel_rfl) (next_mk rfl (by rfl) (fun K hK => ?_)); refine wp_append_any (P := Try.prog) w7 (.tmp 40) (.tmp 46) 34 rfl W1.heap.size 74 i3 _ 6 48 Try.underlying34 INE.out.1 INE.out.2.1 INE.out.2.2.1 INE.out.2.2.2 rfl (by omega) VT l.length (flat l) (by go_simp) HO.out w7.heap.size (some ⟨g7, 0, none⟩) 1 1 (flat [⟨et, (q : Int), efr, esq, ekd, edt⟩]) (by go_simp) rd (flat_one _) HMX.out HBY.out HU.out.size ?_; intro v' w' ho hg _
                  obtain ⟨A9, c9, rfl⟩ : ∃ A9 c9, v' = .slice A9 (l.length + 1) c9 := by
                    rcases ho.2 with ⟨_, h0⟩ | ⟨g, cap, cur, rfl, _⟩
                    · omega
                    · exact ⟨_, cap, rfl⟩
                  have un := HU.out.own HO.out hg
                  refine hK _ _ un ?_; clear hK K
                  have C5 := Lib.hid (show Blk w' W1.heap.size 86 #[.int .i64 0, .int .i64 0, .int .i64 0, VT, .slice (some ⟨bI, 0, none⟩) n n] from (hg.block W1.heap.size B5c.out.lt (fun e => own_off HO.out B5c.out (by decide) W1.heap.size e.symm rfl)).trans B5c.out)
                  have UN := Lib.hid un
                  have HN := Lib.hid (own_snoc ho rfl)
                  have o5 := C5.out.cell (j := 3) rfl
                  have f5 := C5.out.frozen 3
                  have l5 := C5.out.lt
                  have HNN := Lib.hid (own_keep HN.out (w' := w'.setCell ⟨W1.heap.size, 3, none⟩ (.slice A9 (l.length + 1) c9)) (fun g hg _ => Below.heap_setCell _ _ _ g (own_off HN.out C5.out (by decide) g hg)))
                  have C5N := Lib.hid (C5.out.set 3 (.slice A9 (l.length + 1) c9))
                  have UNN := Lib.hid (UN.out.setCell (p := ⟨W1.heap.size, 3, none⟩) (Nat.le_refl _) (.slice A9 (l.length + 1) c9))
                  clear ho hg un rd HU HO B5c HN; go_simp; refine hWalk_one (i := 9) (by kernel_rfl) (next_mk rfl (by rfl) (fun K hK => ?_)); go_simp; refine hK _ _ UN.out ?_; clear hK K; refine hWalk_one (i := 10) (by kernel_rfl) (next_mk rfl (by rfl) (fun K hK => ?_)); go_simp; refine hK _ _ UNN.out ?_; clear hK K; refine hWalk_nil (by kernel_rfl) ?_; clear o5 f5 l5; go_wp2
                  go_roundw
                  case rel => exact ⟨⟨p + 1, _, by omega, by go_num, by rw [HW.out]; exact HNN, C5N⟩, UNN.out⟩
                  case measure => simp [intOf]; omega
              · refine next_mk rfl (by rfl) (fun K hK => ?_)
                go_simp; refine hK _ _ (HU.out.alloc _) ?_; clear hK K
                have rd := (Evs.new wd ⟨et, (q : Int), efr, esq, ekd, edt⟩ 74).reads
                have u7 := (Up.refl wd).alloc (.cells #[.int .i64 et, .int .i64 (q : Int), .int .i64 efr, .int .i64 esq, .int .i64 ekd, .int .i64 edt] 74)
                replace B5c := Lib.hid (B5c.out.up u7)
                replace HO := Lib.hid (own_up HO.out u7)
                replace HU := Lib.hid (HU.out.trans u7)
                clear u7
                generalize wd.alloc (.cells #[.int .i64 et, .int .i64 (q : Int), .int .i64 efr, .int .i64 esq, .int .i64 ekd, .int .i64 edt] 74) = w7 at *
                generalize wd.heap.size = g7 at *
                refine hWalk_one (i := 1) (by kernel_rfl) ?_
                · refine next_mk rfl (by rfl) (fun K hK => ?_)
                  have y0 := B5c.out.cell (j := 3) rfl
                  have ly := B5c.out.lt
                  go_simp; refine hK _ _ HU.out ?_; clear hK K y0 ly; refine hWalk_one (i := 8) (by kernel_rfl) (next_mk rfl (by rfl) (fun K hK => ?_)); refine wp_append_any (P := Try.prog) w7 (.tmp 40) (.tmp 46) 34 rfl W1.heap.size 74 i3 _ 6 48 Try.underlying34 INE.out.1 INE.out.2.1 INE.out.2.2.1 INE.out.2.2.2 rfl (by omega) VT l.length (flat l) (by go_simp) HO.out w7.heap.size (some ⟨g7, 0, none⟩) 1 1 (flat [⟨et, (q : Int), efr, esq, ekd, edt⟩]) (by go_simp) rd (flat_one _) HMX.out HBY.out HU.out.size ?_; intro v' w' ho hg _
                  obtain ⟨A9, c9, rfl⟩ : ∃ A9 c9, v' = .slice A9 (l.length + 1) c9 := by
                    rcases ho.2 with ⟨_, h0⟩ | ⟨g, cap, cur, rfl, _⟩
                    · omega
                    · exact ⟨_, cap, rfl⟩
                  have un := HU.out.own HO.out hg
                  refine hK _ _ un ?_; clear hK K
                  have C5 := Lib.hid (show Blk w' W1.heap.size 86 #[.int .i64 0, .int .i64 0, .int .i64 0, VT, .slice (some ⟨bI, 0, none⟩) n n] from (hg.block W1.heap.size B5c.out.lt (fun e => own_off HO.out B5c.out (by decide) W1.heap.size e.symm rfl)).trans B5c.out)
                  have UN := Lib.hid un
                  have HN := Lib.hid (own_snoc ho rfl)
                  have o5 := C5.out.cell (j := 3) rfl
                  have f5 := C5.out.frozen 3
                  have l5 := C5.out.lt
                  have HNN := Lib.hid (own_keep HN.out (w' := w'.setCell ⟨W1.heap.size, 3, none⟩ (.slice A9 (l.length + 1) c9)) (fun g hg _ => Below.heap_setCell _ _ _ g (own_off HN.out C5.out (by decide) g hg)))
                  have C5N := Lib.hid (C5.out.set 3 (.slice A9 (l.length + 1) c9))
                  have UNN := Lib.hid (UN.out.setCell (p := ⟨W1.heap.size, 3, none⟩) (Nat.le_refl _) (.slice A9 (l.length + 1) c9))
                  clear ho hg un rd HU HO B5c HN; go_simp; refine hWalk_one (i := 9) (by kernel_rfl) (next_mk rfl (by rfl) (fun K hK => ?_)); go_simp; refine hK _ _ UN.out ?_; clear hK K; refine hWalk_one (i := 10) (by kernel_rfl) (next_mk rfl (by rfl) (fun K hK => ?_)); go_simp; refine hK _ _ UNN.out ?_; clear hK K; refine hWalk_nil (by kernel_rfl) ?_; clear o5 f5 l5; go_wp2
                  go_roundw
                  case rel => exact ⟨⟨p + 1, _, by omega, by go_num, by rw [HW.out]; exact HNN, C5N⟩, UNN.out⟩
                  case measure => simp [intOf]; omega
            · have HW := Lib.hid (WO.out hto)
              have bz : (eto == (q : Int)) = false := by simp [hto]
              go_wp2
              go_roundw
              case rel => exact ⟨⟨p + 1, VT, by omega, by go_num, by rw [HW.out]; exact HO, B5⟩, UJ.out⟩
              case measure => simp [intOf]; omega
          · obtain rfl : p = k := by omega
            have i5 : ¬ (p : Int) < p := by omega
            have i6 : IntKind.i64.wrap ((q : Int) + 1) = (q : Int) + 1 := IntWalk.i64_in _ (by omega)
            have U0J := Lib.hid (U01.out.trans UJ.out)
            have hO := HO.out
            rw [← LS.out] at hO; obtain ⟨_, A24, c24, rfl, _, _⟩ := own_slice hO
            have hW : HdW wr bI n (stk m.starts (q : Int) m.starts.length) ⟨A24, (stk m.starts (q : Int) m.starts.length).length, c24, some ⟨bI, 0, none⟩, n, n⟩ := ⟨own_mono hO (by have := HS1.out; omega), own_up H26.out UJ.out⟩
            generalize (stk m.starts (q : Int) m.starts.length).length = L at hW B5
            have XB := (Up.refl wr).alloc (.cells #[.int .i64 0, .int .i64 0, .int .i64 0, .slice A24 L c24, .slice (some ⟨bI, 0, none⟩) n n] 86)
            have hB28 : (wr.alloc (.cells #[.int .i64 0, .int .i64 0, .int .i64 0, .slice A24 L c24, .slice (some ⟨bI, 0, none⟩) n n] 86)).heap[wr.heap.size]? = some (.cells (⟨A24, L, c24, some ⟨bI, 0, none⟩, n, n⟩ : Hd).c5.toArray 86 (0, 0)) := heap_alloc_new _ _
            have HW := Lib.hid (hW.up XB)
            have RD := Lib.hid (readsH_blk hB28 (wr.heap.size + 1) (by omega))
            have UX := Lib.hid (U0J.out.trans XB)
            have HG1 := Lib.hid (own_up HH.out.row UX.out)
            have BAS := Lib.hid (show b4 ≤ (wr.alloc (.cells #[.int .i64 0, .int .i64 0, .int .i64 0, .slice A24 L c24, .slice (some ⟨bI, 0, none⟩) n n] 86)).heap.size by have := UX.out.size; have := UA.out; have := hbI; omega)
            have X4 := Lib.hid (B4.out.up UX.out)
            have LL := Lib.hid (own_up HL.out.1 UX.out)
            have y4 := (B4.out.up U0J.out).cell (j := 0) rfl
            have l4 := (B4.out.up U0J.out).lt
            obtain ⟨z0, z1, z2⟩ := And.intro (B5.out.cell (j := 0) rfl) (And.intro (B5.out.cell (j := 1) rfl) (B5.out.cell (j := 2) rfl)); obtain ⟨z3, z4⟩ := And.intro (B5.out.cell (j := 3) rfl) (B5.out.cell (j := 4) rfl)
            have l5 := B5.out.lt
            have HMX := Lib.hid (show q + 1 ≤ maxLen by simp only [maxLen]; omega)
            have HBY := Lib.hid (show (q + 1) * 72 ≤ 140737488355328 by omega)
            have HBZ := Lib.hid (show (q + 1) * 24 ≤ 140737488355328 by omega)
            clear hO hW XB hB28
            have P1 := Lib.hid (fun (v' : Value) (w' : World) (ys : List Value) (ho : w'.ownsRow b4 86 5 v' (q + 1) ys) hg => cb_push HG1.out X4.out LL.out ho hg)
            have P2 := Lib.hid (fun (v' : Value) (w' : World) c4 ll => cb_push2 (w' := w') (b4 := b4) (q := q) (ls := ls) (VW := VW) (VL := VL) v' c4 ll)
            have HZ := Lib.hid HL.out.2
            go_wp2_with (first
              | (at_builtin; refine wpList_append_any _ rfl (.tmp 50) (.tmp 52) 38 rfl b4 86 i0 _ 5 72 Try.underlying38 INF.out.1 INF.out.2.1 INF.out.2.2.1 INF.out.2.2.2 rfl (by omega) _ _ (flatH hl) rfl HG1.out _ _ 1 1 (flatH [⟨A24, L, c24, some ⟨bI, 0, none⟩, n, n⟩]) rfl RD.out (flatH_one _) HMX.out HBY.out BAS.out ?_; intro v' w' ho hg _; obtain ⟨A9, c9, hv', c4, ll⟩ := P1.out _ _ _ ho hg; subst hv'; have HO9 := Lib.hid ho; have HG9 := Lib.hid hg; have Q2 := Lib.hid (P2.out (.slice A9 (q + 1) c9) w' c4 ll); have C4 := Lib.hid c4; clear ho hg ll; have o40 := c4.cell (j := 0) rfl; have o41 := c4.cell (j := 1) rfl; have f40 := c4.frozen 0; have f41 := c4.frozen 1; have l49 := c4.lt; clear c4)
              | (at_builtin; refine wpList_append_any _ rfl (.tmp 56) (.tmp 58) 39 rfl b4 60 i2 _ 1 24 Try.underlying39 INR.out.1 INR.out.2.1 INR.out.2.2.1 INR.out.2.2.2 rfl (by omega) _ _ ls rfl Q2.out.1 _ _ 1 1 [.slice (some ⟨_, 0, none⟩) 0 0] rfl Q2.out.2.1 (by simp [Value.oneCell']) HMX.out HBZ.out Q2.out.2.2.1 ?_; intro v2 w2 ho2 hg2 _; have C42 := Lib.hid (cb_push3 Q2.out.2.2.2 Q2.out.1 hg2); obtain ⟨A7, c7, hv2⟩ := cb_form ho2; subst hv2; have HO7 := Lib.hid ho2; have HG7 := Lib.hid hg2; clear ho2 hg2; have o70 := C42.out.cell (j := 0) rfl; have o71 := C42.out.cell (j := 1) rfl; have f70 := C42.out.frozen 0; have f71 := C42.out.frozen 1; have l79 := C42.out.lt))
            have HN := Lib.hid (HH.out.push (x := ⟨A24, L, c24, some ⟨bI, 0, none⟩, n, n⟩) UX.out (by rw [hbI]; exact HW.out) (by have := UA.out; omega) HO9.out HG9.out)
            have HN2 := Lib.hid (((HN.out.far (p := b4) (o := 0) (u := .slice A9 (q + 1) c9) C4.out (by decide) (by decide) (by decide)).up (((Up.refl _).alloc (.cells #[] 180)).alloc (.cells #[.slice (some ⟨w'.heap.size, 0, none⟩) 0 0] 60))).grown Q2.out.1 HG7.out)
            have HN3 := Lib.hid (HN2.out.far (p := b4) (o := 1) (u := .slice A7 (q + 1) c7) C42.out (by decide) (by decide) (by decide))
            have HL3 := Lib.hid (And.intro (own_keep HO7.out (w' := w2.setCell ⟨b4, 1, none⟩ (.slice A7 (q + 1) c7)) (fun g hg _ => Below.heap_setCell _ _ _ g (own_off HO7.out C42.out (by decide) g hg))) (show ∀ u ∈ ls ++ [.slice (some ⟨w'.heap.size, 0, none⟩) 0 0], NoR u from fun u hu => by
              rcases List.mem_append.1 hu with hu | hu
              · exact HZ.out u hu
              · obtain rfl : u = _ := by simpa using hu
                exact ⟨_, _, rfl⟩))
            have C43 := Lib.hid (C42.out.set 1 (.slice A7 (q + 1) c7))
            have UF := Lib.hid ((((((UR.out.trans UX.out).grown HG9.out (fun k hk => by have := (own_geB HG1.out k hk).1; omega)).setCell (p := ⟨b4, 0, none⟩) (by dsimp only; omega) (.slice A9 (q + 1) c9)).alloc (.cells #[] 180)).alloc (.cells #[.slice (some ⟨w'.heap.size, 0, none⟩) 0 0] 60)).grown HG7.out (fun k hk => by have := (own_geB Q2.out.1 k hk).1; omega))
            have UG := Lib.hid (UF.out.setCell (p := ⟨b4, 1, none⟩) (by dsimp only; omega) (.slice A7 (q + 1) c7))
            go_roundw
            case rel => exact ⟨⟨q + 1, _, _, _, _, by omega, by go_num, HN3, HL3, C43⟩, UG.out⟩
            case measure => simp [intOf]; omega
      · obtain rfl : q = n := by omega
        have i4 : ¬ (q : Int) < q := by omega
        obtain ⟨A5, c5, rfl⟩ : ∃ A5 c5, VW = .slice A5 q c5 := by
          rcases HH.out.row.2 with ⟨rfl, rfl⟩ | ⟨g, cap, cur, rfl, _⟩
          · exact ⟨none, 0, rfl⟩
          · exact ⟨_, cap, rfl⟩
        obtain ⟨A6, c6, rfl⟩ : ∃ A6 c6, VL = .slice A6 q c6 := by
          rcases HL.out.1.2 with ⟨rfl, rfl⟩ | ⟨g, cap, cur, rfl, _⟩
          · exact ⟨none, 0, rfl⟩
          · exact ⟨_, cap, rfl⟩
        replace B3 := Lib.hid (B3.out.up UR.out)
        have x0 := B4.out.cell (j := 0) rfl
        have x1 := B4.out.cell (j := 1) rfl
        have lx := B4.out.lt
        have hs13 : w.heap.size + 1 < b4 := hs3
        have b31 := B3.out.set 0 (.slice A5 q c5)
        have HFIN := Lib.hid ((HH.out.far (p := w.heap.size + 1) (o := 0) (u := .slice A5 q c5) B3.out (by decide) (by decide) (by decide)).far (p := w.heap.size + 1) (o := 1) (u := .slice A6 q c6) b31 (by decide) (by decide) (by decide))
        have ll1 := own_keep HL.out.1 (w' := W0.setCell ⟨w.heap.size + 1, 0, none⟩ (.slice A5 q c5)) (fun g hg _ => Below.heap_setCell _ _ _ g (own_off HL.out.1 B3.out (by decide) g hg))
        have LFIN := Lib.hid (own_keep ll1 (w' := (W0.setCell ⟨w.heap.size + 1, 0, none⟩ (.slice A5 q c5)).setCell ⟨w.heap.size + 1, 1, none⟩ (.slice A6 q c6)) (fun g hg _ => Below.heap_setCell _ _ _ g (own_off ll1 b31 (by decide) g hg)))
        have RES := Lib.hid (show CbVal m (.agg #[.slice A5 q c5, .slice A6 q c6]) ((W0.setCell ⟨w.heap.size + 1, 0, none⟩ (.slice A5 q c5)).setCell ⟨w.heap.size + 1, 1, none⟩ (.slice A6 q c6)) from ⟨A5, c5, A6, c6, by rw [CN.out], by rw [CN.out]; exact ⟨HFIN.out.chs CN.out SL6.out, Lgs.of_own CN.out LFIN.out HL.out.2, by omega, by omega⟩⟩)
        have UE_ := Lib.hid (((U1.out.trans UR.out).setCell (p := ⟨w.heap.size + 1, 0, none⟩) (by dsimp only; omega) (.slice A5 q c5)).setCell (p := ⟨w.heap.size + 1, 1, none⟩) (by dsimp only; omega) (.slice A6 q c6))
        have Q_ := Lib.hid ((B3.out.set 0 (.slice A5 q c5)).set 1 (.slice A6 q c6))
        have f_ := B3.out.frozen
        have old0 := B3.out.cell (j := 0) rfl
        have old1 := B3.out.cell (j := 1) rfl
        have k0 := Q_.out.cell (j := 0) rfl
        have k1 := Q_.out.cell (j := 1) rfl
        have lz := B3.out.lt
        clear b31 ll1; go_wp2
        exact bodyPost_ret (v := .agg #[.slice A5 q c5, .slice A6 q c6]) (by simp [results, Try.results45, go_sem, k0, k1]) rfl ⟨_, rfl, RES.out, UE_.out⟩
end Go.Proofs.Ytklldniapombiaa

namespace Go.Proofs.Ytklldniapombiaa
set_option maxRecDepth 100000
open Go.RowKit
theorem equalIn_evt_f (a b : Evt) (f : Nat) (w : World) : (Op.equalIn (f + 2) 74 a.v b.v).run Try.prog w = .ok (eqB a b) w := by
  obtain ⟨z0, z1, z2, z3, z4, z5⟩ := a; obtain ⟨y0, y1, y2, y3, y4, y5⟩ := b
  have u3 := Try.underlying3
  have a3 := Try.isAgg3
  have s3 := Try.sizeOf3
  have hS : Try.prog.underlying 74 = some (.struct (Try.prog.fieldsOf 74)) := by kernel_rfl
  have hp : Try.prog.stoodInHeld 74 = false := by kernel_rfl
  rw [eqB_mk]; unfold Evt.v; dsimp only; rw [show f + 2 = (f + 1) + 1 from rfl, run_equalIn_agg w (f + 1) 74 _ _ hS hp]; simp only [Program.fieldsOf, Try.underlying74]; go_simp
  by_cases h0 : z0 = y0 <;> by_cases h1 : z1 = y1 <;> by_cases h2 : z2 = y2 <;> by_cases h3 : z3 = y3 <;> by_cases h4 : z4 = y4 <;> by_cases h5 : z5 = y5 <;> simp [h0, h1, h2, h3, h4, h5]
theorem equalIn_rec (a : Rec) (w : World) : (Op.equalIn 10000 180 a.v a.v).run Try.prog w = .ok true w := by
  obtain ⟨e, s⟩ := a
  have u3 := Try.underlying3
  have a3 := Try.isAgg3
  have s3 := Try.sizeOf3
  have hS : Try.prog.underlying 180 = some (.struct (Try.prog.fieldsOf 180)) := by kernel_rfl
  have hp : Try.prog.stoodInHeld 180 = false := by kernel_rfl
  have hE := equalIn_evt_f e e 9997 w
  unfold Evt.v at hE; unfold Rec.v; dsimp only; rw [show (10000 : Nat) = 9999 + 1 from rfl, run_equalIn_agg w 9999 180 _ _ hS hp]; simp only [Program.fieldsOf, Try.underlying180]; go_simp
theorem neq_rec (a : Rec) (w : World) : (binOp .neq 180 a.v a.v).run Try.prog w = .ok (.bool false) w := by
  have h := equalIn_rec a w
  unfold Rec.v at h ⊢; rw [run_neq_struct, h]
  rfl
theorem guard_rec (op : BinOp) (x y : Operand) (xs ys : Array Value) (w : World) : (eqGuard op 180 x y (.agg xs) (.agg ys)).run Try.prog w = .ok () w :=
  run_eqGuard_agg w op 180 x y xs ys (by kernel_rfl)
end Go.Proofs.Ytklldniapombiaa

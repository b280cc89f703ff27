/-
  What impl.CmbNew gives, in one sentence: the conservative simulation that has done nothing, its slices in blocks of their own; for every model that lies in memory.
-/
import Derived.Test.YtklldniapombiaaDLCbn01
import Derived.Test.YtklldniapombiaaDLCbn13
import Derived.Test.YtklldniapombiaaDLCbn18
namespace Go.Proofs.Ytklldniapombiaa
set_option maxRecDepth 100000
open Go.RowKit
theorem info86 : (Try.prog.info? 86).map (fun i => (i.zero, i.size, i.bytes)) = some (some (.agg #[.int .i64 0, .int .i64 0, .int .i64 0, .slice none 0 0, .slice none 0 0]), 5, 72) := by kernel_rfl
theorem infoI3 : (Try.prog.info? 3).map (fun i => (i.zero, i.size, i.bytes)) = some (some (.int .i64 0), 1, 8) := by kernel_rfl
theorem infoR60 : (Try.prog.info? 60).map (fun i => (i.zero, i.size, i.bytes)) = some (some (.slice none 0 0), 1, 24) := by kernel_rfl
theorem made1 (z : Value) (N j : Nat) (hj : j < N) : (madeCells #[z] N)[j]? = some z := by
  unfold madeCells; rw [Array.getElem?_map, Array.getElem?_range, if_pos hj]; simp [Nat.mod_one]
theorem made_zeros (w : World) (n : Nat) (hn : n ≤ maxLen) : (w.alloc (.cells (madeCells #[.int .i64 0] n) 3)).ownsRow w.heap.size 3 1 (.slice (some ⟨w.heap.size, 0, none⟩) n n) n (zeros n) := by
  have hsz : (madeCells #[.int .i64 0] n).size = n * 1 := by rw [Nat.mul_one]; exact size_madeCells _ _
  refine ⟨by simp [zeros], .inr ⟨w.heap.size, n, _, rfl, Nat.le_refl _, heap_alloc_new w _, Nat.le_refl _, hn, hsz, ?_⟩⟩
  refine List.ext_getElem? fun j => ?_
  rw [List.getElem?_take]
  by_cases hj : j < n * 1
  · rw [if_pos hj, Array.getElem?_toList, made1 _ _ j (by omega)]
    simp only [zeros, List.getElem?_replicate]; rw [if_pos (by omega)]
  · rw [if_neg hj]
    simp only [zeros, List.getElem?_replicate]; rw [if_neg (by omega)]
theorem HsW.mono {w : World} {lo lo' many q : Nat} {es : List Evt} {v : Value} {hl : List Hd} (h : HsW w lo many es q v hl) (k : lo' ≤ lo) : HsW w lo' many es q v hl := ⟨h.len, own_mono h.row k, fun i hi => (h.at_ i hi).mono k, h.ape, h.api⟩
set_option maxHeartbeats 8000000 in
theorem implCb_any (A : Option Addr) (n c : Nat) (B : Option Addr) (k d : Nat) (m : Mdl) (w : World) (h : MdlV w A n B k m) :
    Calls Try.prog 43 #[.agg #[.slice A n c, .slice B k d, .int .i64 m.til]] w fun x w' => ∃ v, x = .returned v ∧ CbKeep w.heap.size m v w' ∧ Up w w' := by
  obtain ⟨i0, hi0, hz0, hz1, hz2⟩ := info_parts info86
  have INF := Lib.hid (And.intro hi0 (And.intro hz0 (And.intro hz1 hz2)))
  clear hi0 hz0 hz1 hz2; obtain ⟨i1, hi1, hy0, hy1, hy2⟩ := info_parts infoI3; obtain ⟨i2, hi2, hx0, hx1, hx2⟩ := info_parts infoR60
  have hmkI := fun (hn : n ≤ 4) W => run_make_rowN (P := Try.prog) 84 3 i1 _ Try.underlying84 hi1 hy0 .i64 .i64 n n (Nat.le_refl _) (by rw [hy2]; omega) (by omega) W
  simp only [hy1, Nat.mul_one] at hmkI
  have HMI := Lib.hid hmkI
  have hmkR := fun (hn : n ≤ 4) W => run_make_rowN (P := Try.prog) 39 60 i2 _ Try.underlying39 hi2 hx0 .i64 .i64 n n (Nat.le_refl _) (by rw [hx2]; omega) (by omega) W
  simp only [hx1, Nat.mul_one] at hmkR
  have HMR := Lib.hid hmkR
  clear hi1 hy0 hy1 hy2 hi2 hx0 hx1 hx2 hmkI hmkR
  have HM := Lib.hid h
  have LS := Lib.hid h.starts.1
  have LN := Lib.hid h.rules.1
  have CM := Lib.hid (fun W (u : Up w W) => implMdl_any A n c B k d m W (h.up u))
  have U0 := Lib.hid (((Up.refl w).alloc (.cells #[.slice A n c, .slice B k d, .int .i64 m.til] 36)).alloc (.cells #[.slice none 0 0, .slice none 0 0] 41))
  have B2 := Lib.hid ((Blk.new w #[.slice A n c, .slice B k d, .int .i64 m.til] 36).alloc (.cells #[.slice none 0 0, .slice none 0 0] 41))
  have B3 := Lib.hid (Blk.new (w.alloc (.cells #[.slice A n c, .slice B k d, .int .i64 m.til] 36)) #[.slice none 0 0, .slice none 0 0] 41)
  simp only [World.size_alloc] at B3
  generalize hmb : mdlB m = g at CM
  have HB := Lib.hid hmb
  clear h hmb
  go_enter Try.func43, Try.ntmps43
  go_wp2_with fail
  refine (CM.out _ U0.out).mono ?_; rintro x w1 ⟨rfl, u1⟩
  have U1 := Lib.hid (U0.out.trans u1)
  replace B2 := Lib.hid (B2.out.up u1)
  replace B3 := Lib.hid (B3.out.up u1)
  have hs3 := B3.out.lt
  clear u1 U0 CM
  cases g
  · have UE_ := Lib.hid ((U1.out.setCell (p := ⟨w.heap.size + 1, 0, none⟩) (by dsimp only; omega) (.slice none 0 0)).setCell (p := ⟨w.heap.size + 1, 1, none⟩) (by dsimp only; omega) (.slice none 0 0))
    have Q_ := Lib.hid ((B3.out.set 0 (.slice none 0 0)).set 1 (.slice none 0 0))
    have f_ := B3.out.frozen
    have old0 := B3.out.cell (j := 0) rfl
    have old1 := B3.out.cell (j := 1) rfl
    have k0 := Q_.out.cell (j := 0) rfl
    have k1 := Q_.out.cell (j := 1) rfl
    go_wp2
    exact bodyPost_ret (v := .agg #[.slice none 0 0, .slice none 0 0]) (by simp [results, Try.results43, go_sem, k0, k1]) rfl ⟨_, rfl, CbKeep.zero _ _ HB.out, UE_.out⟩
  · have few := mdlB_few HB.out
    have hn4 : n ≤ 4 := by have := LN.out; omega
    have hk6 : k ≤ 6 := by have := mdlB_starts HB.out; have := LS.out; omega
    have CN := Lib.hid (show cbN m = n by unfold cbN; rw [HB.out]; exact LN.out)
    have HS := Lib.hid HM.out.starts
    have SA := Lib.hid (fun W (u : Up w W) (q : Nat) => starts_any A n c B k d m.starts m.til (q : Int) W (HS.out.up u) hk6)
    have SL6 := Lib.hid (show m.starts.length ≤ 6 by have := LS.out; omega)
    replace HMI := Lib.hid (HMI.out hn4)
    replace HMR := Lib.hid (HMR.out hn4)
    have hn63 : n ≤ maxLen := by simp only [maxLen]; omega
    have hmr := HMR.out w1
    obtain ⟨q0, q1, q2⟩ := And.intro (B2.out.cell (j := 0) rfl) (And.intro (B2.out.cell (j := 1) rfl) (B2.out.cell (j := 2) rfl))
    have lt2_ := B2.out.lt
    have BL := Lib.hid ((Blk.new w1 (madeCells #[.slice none 0 0] n) 60).alloc (.cells #[.slice none 0 0, .slice (some ⟨w1.heap.size, 0, none⟩) n n] 41))
    have B4 := Lib.hid (Blk.new (w1.alloc (.cells (madeCells #[.slice none 0 0] n) 60)) #[.slice none 0 0, .slice (some ⟨w1.heap.size, 0, none⟩) n n] 41)
    have U2 := Lib.hid (((Up.refl w1).alloc (.cells (madeCells #[.slice none 0 0] n) 60)).alloc (.cells #[.slice none 0 0, .slice (some ⟨w1.heap.size, 0, none⟩) n n] 41))
    simp only [World.size_alloc] at B4; go_wp2; clear q0 q1 q2 lt2_ hmr
    generalize (w1.alloc (.cells (madeCells #[.slice none 0 0] n) 60)).alloc (.cells #[.slice none 0 0, .slice (some ⟨w1.heap.size, 0, none⟩) n n] 41) = w2 at *
    have hs13 : w.heap.size + 1 < w1.heap.size := hs3
    generalize hb4 : w1.heap.size + 1 = b4 at *
    generalize hbL : w1.heap.size = bL at *
    go_loopw [17] (fun i wr => (∃ (q : Nat) (v : Value) (hl : List Hd), q ≤ n ∧ i = .int .i64 q ∧ Hid (HsW wr bL n m.starts q v hl) ∧ Hid (Blk wr b4 41 #[v, .slice (some ⟨bL, 0, none⟩) n n]) ∧ Hid (Blk wr bL 60 (madeCells #[.slice none 0 0] n))) ∧ Up w1 wr) (fun i _ => n - (intOf i).toNat)
    case atStart => exact ⟨⟨0, _, [], by omega, rfl, Lib.hid (HsW.start _ _ _ _), B4, BL⟩, U2.out⟩
    case round =>
      clear B4 BL U2; obtain ⟨⟨q, VW, hl, hq, rfl, HH, B4, BL⟩, ur⟩ := hrel
      have UR := Lib.hid ur
      clear ur
      by_cases hlt : q < n
      · have i4 : (q : Int) < n := by omega
        have UW := Lib.hid (U1.out.trans UR.out)
        replace B2 := Lib.hid (B2.out.up UR.out)
        replace SA := Lib.hid (fun W (u : Up w W) => SA.out W u q)
        have UA := Lib.hid UR.out.size
        go_wp2_with fail
        have HMX := Lib.hid (show q + 1 ≤ maxLen by simp only [maxLen]; omega)
        have HBY := Lib.hid (show (q + 1) * 72 ≤ 140737488355328 by omega)
        obtain ⟨W0, hW0⟩ : ∃ W, W = wr := ⟨_, rfl⟩; subst hW0; refine region_hWalk (fun w1 => Blk w1 w.heap.size 36 #[.slice A n c, .slice B k d, .int .i64 m.til]) 12 (by kernel_rfl) rfl (by kernel_rfl) B2.out ?_
        have HU := Lib.hid ((Up.refl W0).drew)
        generalize W0.drew = wd at *
        refine hWalk_take 0 (by kernel_rfl) rfl (by rfl) ?_; apply Exists.intro; refine ⟨fun w1 hS1 => ?_, ?_⟩
        · clear hS1
          go_simp
          try rfl
        go_simp; refine hWalk_take 2 (by kernel_rfl) rfl (by rfl) ?_; apply Exists.intro; refine ⟨fun w1 hS1 => ?_, ?_⟩
        · obtain ⟨m0, m1, m2⟩ := And.intro (hS1.cell (j := 0) rfl) (And.intro (hS1.cell (j := 1) rfl) (hS1.cell (j := 2) rfl))
          have lm := hS1.lt
          clear hS1; go_simp
          try rfl
        go_simp; refine hWalk_take 3 (by kernel_rfl) rfl (by rfl) ?_; apply Exists.intro; refine ⟨fun w1 hS1 => ?_, ?_⟩
        · clear hS1
          go_simp
          try rfl
        go_simp; refine hWalk_take 5 (by kernel_rfl) rfl (by rfl) ?_; apply Exists.intro; refine ⟨fun w1 hS1 => ?_, ?_⟩
        · clear hS1
          go_simp
          try rfl
        go_simp; refine hWalk_three (i := 1) (j := 4) (m := 6) (by kernel_rfl) ?_ ?_ ?_
        · refine next_mk rfl (by rfl) (fun K hK => ?_)
          have y0 := (B4.out.up HU.out).cell (j := 0) rfl
          have ly := (B4.out.up HU.out).lt
          go_simp; refine hK _ _ (B2.out.up HU.out) ?_; clear hK K y0 ly; refine hWalk_two (i := 4) (j := 6) (by kernel_rfl) ?_ ?_
          · refine next_mk rfl (by rfl) (fun K hK => ?_)
            go_simp; refine (SA.out _ (UW.out.trans HU.out)).mono ?_; rintro x w4 ⟨v24, rfl, ho24, u24⟩; obtain ⟨_, A24, c24, rfl, _, _⟩ := own_slice ho24; refine hK _ _ (B2.out.up (HU.out.trans u24)) ?_; clear hK K
            have H24 := Lib.hid (own_mono ho24 HU.out.size)
            replace HU := Lib.hid (HU.out.trans u24)
            clear ho24 u24; refine hWalk_one (i := 6) (by kernel_rfl) ?_
            · refine next_mk rfl (by rfl) (fun K hK => ?_)
              have hmk := HMI.out w4
              go_simp; refine hK _ _ ((B2.out.up HU.out).alloc _) ?_; clear hK K hmk
              have u26 := (Up.refl w4).alloc (.cells (madeCells #[.int .i64 0] n) 3)
              have H26 := Lib.hid (own_mono (made_zeros w4 n hn63) HU.out.size)
              replace H24 := Lib.hid (own_up H24.out u26)
              replace HU := Lib.hid (HU.out.trans u26)
              clear u26
              generalize w4.alloc (.cells (madeCells #[.int .i64 0] n) 3) = w6 at *
              generalize w4.heap.size = b26 at *
              refine hWalk_take 7 (by kernel_rfl) rfl (by rfl) ?_; apply Exists.intro; refine ⟨fun w1 hS1 => ?_, ?_⟩
              · clear hS1
                go_simp
                try rfl
              go_simp; refine hWalk_one (i := 8) (by kernel_rfl) ?_
              · refine next_mk rfl (by rfl) (fun K hK => ?_)
                go_simp; refine hK _ _ ((B2.out.up HU.out).alloc _) ?_; clear hK K
                have u28 := (Up.refl w6).alloc (.cells #[.int .i64 0, .int .i64 0, .int .i64 0, .slice A24 (stk m.starts (q : Int) k).length c24, .slice (some ⟨b26, 0, none⟩) n n] 86)
                have hB28 : (w6.alloc (.cells #[.int .i64 0, .int .i64 0, .int .i64 0, .slice A24 (stk m.starts (q : Int) k).length c24, .slice (some ⟨b26, 0, none⟩) n n] 86)).heap[w6.heap.size]? = some (.cells (⟨A24, (stk m.starts (q : Int) k).length, c24, some ⟨b26, 0, none⟩, n, n⟩ : Hd).c5.toArray 86 (0, 0)) := heap_alloc_new _ _
                have hW28 : HdW (w6.alloc (.cells #[.int .i64 0, .int .i64 0, .int .i64 0, .slice A24 (stk m.starts (q : Int) k).length c24, .slice (some ⟨b26, 0, none⟩) n n] 86)) W0.heap.size n (stk m.starts (q : Int) k) (⟨A24, (stk m.starts (q : Int) k).length, c24, some ⟨b26, 0, none⟩, n, n⟩ : Hd) := HdW.up ⟨H24.out, H26.out⟩ u28
                replace HU := Lib.hid (HU.out.trans u28)
                clear u28 H24 H26
                generalize (⟨A24, (stk m.starts (q : Int) k).length, c24, some ⟨b26, 0, none⟩, n, n⟩ : Hd) = x28 at hB28 hW28
                generalize w6.alloc (.cells #[.int .i64 0, .int .i64 0, .int .i64 0, .slice A24 (stk m.starts (q : Int) k).length c24, .slice (some ⟨b26, 0, none⟩) n n] 86) = wX at *
                generalize w6.heap.size = g28 at *
                rw [← LS.out] at hW28
                have hG := HU.out
                clear HU
                have hG1 := own_up HH.out.row hG
                have rd := readsH_blk hB28 wX.heap.size (Array.getElem?_eq_some_iff.1 hB28).1
                refine hWalk_one (i := 9) (by kernel_rfl) (next_mk rfl (by rfl) (fun K hK => ?_)); refine wp_append_any (P := Try.prog) wX (.tmp 21) (.tmp 28) 38 rfl bL 86 i0 _ 5 72 Try.underlying38 INF.out.1 INF.out.2.1 INF.out.2.2.1 INF.out.2.2.2 rfl (by omega) VW q (flatH hl) (by go_simp) hG1 wX.heap.size (some ⟨g28, 0, none⟩) 1 1 (flatH [x28]) (by go_simp) rd (flatH_one _) HMX.out HBY.out (by have := UA.out; have := hG.size; omega) ?_; intro v' w' ho hg _
                obtain ⟨A9, c9, rfl⟩ : ∃ A9 c9, v' = .slice A9 (q + 1) c9 := by
                  rcases ho.2 with ⟨_, h0⟩ | ⟨g, cap, cur, rfl, _⟩
                  · omega
                  · exact ⟨_, cap, rfl⟩
                have b2 := B2.out.up hG
                refine hK _ _ ((hg.block w.heap.size b2.lt (fun e => own_off hG1 b2 (by decide) w.heap.size e.symm rfl)).trans b2) ?_; clear hK K
                have UN := Lib.hid ((UR.out.trans hG).grown hg (fun k hk => by have := (own_geB hG1 k hk).1; omega))
                have HN := Lib.hid (HH.out.push hG hW28 (by have := UA.out; omega) ho hg)
                have c4 := B4.out.up hG
                have cL := BL.out.up hG
                have C2 := Lib.hid (show Blk w' w.heap.size 36 _ from (hg.block w.heap.size b2.lt (fun e => own_off hG1 b2 (by decide) w.heap.size e.symm rfl)).trans b2)
                have C4 := Lib.hid (show Blk w' b4 41 #[VW, .slice (some ⟨bL, 0, none⟩) n n] from (hg.block b4 c4.lt (fun e => own_off hG1 c4 (by decide) b4 e.symm rfl)).trans c4)
                have CL := Lib.hid (show Blk w' bL 60 (madeCells #[.slice none 0 0] n) from (hg.block bL cL.lt (fun e => own_off hG1 cL (by decide) bL e.symm rfl)).trans cL)
                have HN4 := Lib.hid (HN.out.far (p := b4) (o := 0) (u := .slice A9 (q + 1) c9) C4.out (by decide) (by decide) (by decide))
                have C4N := Lib.hid (C4.out.set 0 (.slice A9 (q + 1) c9))
                have CLN := Lib.hid (CL.out.far (b' := b4) 0 (.slice A9 (q + 1) c9) (by omega))
                have UNN := Lib.hid (UN.out.setCell (p := ⟨b4, 0, none⟩) (by dsimp only; omega) (.slice A9 (q + 1) c9))
                have o4 := C4.out.cell (j := 0) rfl
                have f4 := C4.out.frozen 0
                have l4 := C4.out.lt
                clear ho hg hG hG1 rd hB28 hW28 c4 cL b2; go_simp; refine hWalk_one (i := 10) (by kernel_rfl) (next_mk rfl (by rfl) (fun K hK => ?_)); go_simp; refine hK _ _ C2.out ?_; clear hK K; refine hWalk_one (i := 11) (by kernel_rfl) (next_mk rfl (by rfl) (fun K hK => ?_)); go_simp; refine hK _ _ (C2.out.far (b' := b4) 0 (.slice A9 (q + 1) c9) (by omega)) ?_; clear hK K; refine hWalk_nil (by kernel_rfl) ?_; clear o4 f4 l4; go_wp2
                go_roundw
                case rel => exact ⟨⟨q + 1, _, hl ++ [x28], by omega, by go_num, HN4, C4N, CLN⟩, UNN.out⟩
                case measure => simp [intOf]; omega
          · refine next_mk rfl (by rfl) (fun K hK => ?_)
            have hmk := HMI.out wd
            go_simp; refine hK _ _ ((B2.out.up HU.out).alloc _) ?_; clear hK K hmk
            have u26 := (Up.refl wd).alloc (.cells (madeCells #[.int .i64 0] n) 3)
            have H26 := Lib.hid (own_mono (made_zeros wd n hn63) HU.out.size)
            replace HU := Lib.hid (HU.out.trans u26)
            clear u26
            generalize wd.alloc (.cells (madeCells #[.int .i64 0] n) 3) = w6 at *
            generalize wd.heap.size = b26 at *
            refine hWalk_one (i := 4) (by kernel_rfl) ?_
            · refine next_mk rfl (by rfl) (fun K hK => ?_)
              go_simp; refine (SA.out _ (UW.out.trans HU.out)).mono ?_; rintro x w4 ⟨v24, rfl, ho24, u24⟩; obtain ⟨_, A24, c24, rfl, _, _⟩ := own_slice ho24; refine hK _ _ (B2.out.up (HU.out.trans u24)) ?_; clear hK K
              have H24 := Lib.hid (own_mono ho24 HU.out.size)
              replace H26 := Lib.hid (own_up H26.out u24)
              replace HU := Lib.hid (HU.out.trans u24)
              clear ho24 u24; refine hWalk_take 7 (by kernel_rfl) rfl (by rfl) ?_; apply Exists.intro; refine ⟨fun w1 hS1 => ?_, ?_⟩
              · clear hS1
                go_simp
                try rfl
              go_simp; refine hWalk_one (i := 8) (by kernel_rfl) ?_
              · refine next_mk rfl (by rfl) (fun K hK => ?_)
                go_simp; refine hK _ _ ((B2.out.up HU.out).alloc _) ?_; clear hK K
                have u28 := (Up.refl w4).alloc (.cells #[.int .i64 0, .int .i64 0, .int .i64 0, .slice A24 (stk m.starts (q : Int) k).length c24, .slice (some ⟨b26, 0, none⟩) n n] 86)
                have hB28 : (w4.alloc (.cells #[.int .i64 0, .int .i64 0, .int .i64 0, .slice A24 (stk m.starts (q : Int) k).length c24, .slice (some ⟨b26, 0, none⟩) n n] 86)).heap[w4.heap.size]? = some (.cells (⟨A24, (stk m.starts (q : Int) k).length, c24, some ⟨b26, 0, none⟩, n, n⟩ : Hd).c5.toArray 86 (0, 0)) := heap_alloc_new _ _
                have hW28 : HdW (w4.alloc (.cells #[.int .i64 0, .int .i64 0, .int .i64 0, .slice A24 (stk m.starts (q : Int) k).length c24, .slice (some ⟨b26, 0, none⟩) n n] 86)) W0.heap.size n (stk m.starts (q : Int) k) (⟨A24, (stk m.starts (q : Int) k).length, c24, some ⟨b26, 0, none⟩, n, n⟩ : Hd) := HdW.up ⟨H24.out, H26.out⟩ u28
                replace HU := Lib.hid (HU.out.trans u28)
                clear u28 H24 H26
                generalize (⟨A24, (stk m.starts (q : Int) k).length, c24, some ⟨b26, 0, none⟩, n, n⟩ : Hd) = x28 at hB28 hW28
                generalize w4.alloc (.cells #[.int .i64 0, .int .i64 0, .int .i64 0, .slice A24 (stk m.starts (q : Int) k).length c24, .slice (some ⟨b26, 0, none⟩) n n] 86) = wX at *
                generalize w4.heap.size = g28 at *
                rw [← LS.out] at hW28
                have hG := HU.out
                clear HU
                have hG1 := own_up HH.out.row hG
                have rd := readsH_blk hB28 wX.heap.size (Array.getElem?_eq_some_iff.1 hB28).1
                refine hWalk_one (i := 9) (by kernel_rfl) (next_mk rfl (by rfl) (fun K hK => ?_)); refine wp_append_any (P := Try.prog) wX (.tmp 21) (.tmp 28) 38 rfl bL 86 i0 _ 5 72 Try.underlying38 INF.out.1 INF.out.2.1 INF.out.2.2.1 INF.out.2.2.2 rfl (by omega) VW q (flatH hl) (by go_simp) hG1 wX.heap.size (some ⟨g28, 0, none⟩) 1 1 (flatH [x28]) (by go_simp) rd (flatH_one _) HMX.out HBY.out (by have := UA.out; have := hG.size; omega) ?_; intro v' w' ho hg _
                obtain ⟨A9, c9, rfl⟩ : ∃ A9 c9, v' = .slice A9 (q + 1) c9 := by
                  rcases ho.2 with ⟨_, h0⟩ | ⟨g, cap, cur, rfl, _⟩
                  · omega
                  · exact ⟨_, cap, rfl⟩
                have b2 := B2.out.up hG
                refine hK _ _ ((hg.block w.heap.size b2.lt (fun e => own_off hG1 b2 (by decide) w.heap.size e.symm rfl)).trans b2) ?_; clear hK K
                have UN := Lib.hid ((UR.out.trans hG).grown hg (fun k hk => by have := (own_geB hG1 k hk).1; omega))
                have HN := Lib.hid (HH.out.push hG hW28 (by have := UA.out; omega) ho hg)
                have c4 := B4.out.up hG
                have cL := BL.out.up hG
                have C2 := Lib.hid (show Blk w' w.heap.size 36 _ from (hg.block w.heap.size b2.lt (fun e => own_off hG1 b2 (by decide) w.heap.size e.symm rfl)).trans b2)
                have C4 := Lib.hid (show Blk w' b4 41 #[VW, .slice (some ⟨bL, 0, none⟩) n n] from (hg.block b4 c4.lt (fun e => own_off hG1 c4 (by decide) b4 e.symm rfl)).trans c4)
                have CL := Lib.hid (show Blk w' bL 60 (madeCells #[.slice none 0 0] n) from (hg.block bL cL.lt (fun e => own_off hG1 cL (by decide) bL e.symm rfl)).trans cL)
                have HN4 := Lib.hid (HN.out.far (p := b4) (o := 0) (u := .slice A9 (q + 1) c9) C4.out (by decide) (by decide) (by decide))
                have C4N := Lib.hid (C4.out.set 0 (.slice A9 (q + 1) c9))
                have CLN := Lib.hid (CL.out.far (b' := b4) 0 (.slice A9 (q + 1) c9) (by omega))
                have UNN := Lib.hid (UN.out.setCell (p := ⟨b4, 0, none⟩) (by dsimp only; omega) (.slice A9 (q + 1) c9))
                have o4 := C4.out.cell (j := 0) rfl
                have f4 := C4.out.frozen 0
                have l4 := C4.out.lt
                clear ho hg hG hG1 rd hB28 hW28 c4 cL b2; go_simp; refine hWalk_one (i := 10) (by kernel_rfl) (next_mk rfl (by rfl) (fun K hK => ?_)); go_simp; refine hK _ _ C2.out ?_; clear hK K; refine hWalk_one (i := 11) (by kernel_rfl) (next_mk rfl (by rfl) (fun K hK => ?_)); go_simp; refine hK _ _ (C2.out.far (b' := b4) 0 (.slice A9 (q + 1) c9) (by omega)) ?_; clear hK K; refine hWalk_nil (by kernel_rfl) ?_; clear o4 f4 l4; go_wp2
                go_roundw
                case rel => exact ⟨⟨q + 1, _, hl ++ [x28], by omega, by go_num, HN4, C4N, CLN⟩, UNN.out⟩
                case measure => simp [intOf]; omega
        · refine next_mk rfl (by rfl) (fun K hK => ?_)
          go_simp; refine (SA.out _ (UW.out.trans HU.out)).mono ?_; rintro x w4 ⟨v24, rfl, ho24, u24⟩; obtain ⟨_, A24, c24, rfl, _, _⟩ := own_slice ho24; refine hK _ _ (B2.out.up (HU.out.trans u24)) ?_; clear hK K
          have H24 := Lib.hid (own_mono ho24 HU.out.size)
          replace HU := Lib.hid (HU.out.trans u24)
          clear ho24 u24; refine hWalk_two (i := 1) (j := 6) (by kernel_rfl) ?_ ?_
          · refine next_mk rfl (by rfl) (fun K hK => ?_)
            have y0 := (B4.out.up HU.out).cell (j := 0) rfl
            have ly := (B4.out.up HU.out).lt
            go_simp; refine hK _ _ (B2.out.up HU.out) ?_; clear hK K y0 ly; refine hWalk_one (i := 6) (by kernel_rfl) ?_
            · refine next_mk rfl (by rfl) (fun K hK => ?_)
              have hmk := HMI.out w4
              go_simp; refine hK _ _ ((B2.out.up HU.out).alloc _) ?_; clear hK K hmk
              have u26 := (Up.refl w4).alloc (.cells (madeCells #[.int .i64 0] n) 3)
              have H26 := Lib.hid (own_mono (made_zeros w4 n hn63) HU.out.size)
              replace H24 := Lib.hid (own_up H24.out u26)
              replace HU := Lib.hid (HU.out.trans u26)
              clear u26
              generalize w4.alloc (.cells (madeCells #[.int .i64 0] n) 3) = w6 at *
              generalize w4.heap.size = b26 at *
              refine hWalk_take 7 (by kernel_rfl) rfl (by rfl) ?_; apply Exists.intro; refine ⟨fun w1 hS1 => ?_, ?_⟩
              · clear hS1
                go_simp
                try rfl
              go_simp; refine hWalk_one (i := 8) (by kernel_rfl) ?_
              · refine next_mk rfl (by rfl) (fun K hK => ?_)
                go_simp; refine hK _ _ ((B2.out.up HU.out).alloc _) ?_; clear hK K
                have u28 := (Up.refl w6).alloc (.cells #[.int .i64 0, .int .i64 0, .int .i64 0, .slice A24 (stk m.starts (q : Int) k).length c24, .slice (some ⟨b26, 0, none⟩) n n] 86)
                have hB28 : (w6.alloc (.cells #[.int .i64 0, .int .i64 0, .int .i64 0, .slice A24 (stk m.starts (q : Int) k).length c24, .slice (some ⟨b26, 0, none⟩) n n] 86)).heap[w6.heap.size]? = some (.cells (⟨A24, (stk m.starts (q : Int) k).length, c24, some ⟨b26, 0, none⟩, n, n⟩ : Hd).c5.toArray 86 (0, 0)) := heap_alloc_new _ _
                have hW28 : HdW (w6.alloc (.cells #[.int .i64 0, .int .i64 0, .int .i64 0, .slice A24 (stk m.starts (q : Int) k).length c24, .slice (some ⟨b26, 0, none⟩) n n] 86)) W0.heap.size n (stk m.starts (q : Int) k) (⟨A24, (stk m.starts (q : Int) k).length, c24, some ⟨b26, 0, none⟩, n, n⟩ : Hd) := HdW.up ⟨H24.out, H26.out⟩ u28
                replace HU := Lib.hid (HU.out.trans u28)
                clear u28 H24 H26
                generalize (⟨A24, (stk m.starts (q : Int) k).length, c24, some ⟨b26, 0, none⟩, n, n⟩ : Hd) = x28 at hB28 hW28
                generalize w6.alloc (.cells #[.int .i64 0, .int .i64 0, .int .i64 0, .slice A24 (stk m.starts (q : Int) k).length c24, .slice (some ⟨b26, 0, none⟩) n n] 86) = wX at *
                generalize w6.heap.size = g28 at *
                rw [← LS.out] at hW28
                have hG := HU.out
                clear HU
                have hG1 := own_up HH.out.row hG
                have rd := readsH_blk hB28 wX.heap.size (Array.getElem?_eq_some_iff.1 hB28).1
                refine hWalk_one (i := 9) (by kernel_rfl) (next_mk rfl (by rfl) (fun K hK => ?_)); refine wp_append_any (P := Try.prog) wX (.tmp 21) (.tmp 28) 38 rfl bL 86 i0 _ 5 72 Try.underlying38 INF.out.1 INF.out.2.1 INF.out.2.2.1 INF.out.2.2.2 rfl (by omega) VW q (flatH hl) (by go_simp) hG1 wX.heap.size (some ⟨g28, 0, none⟩) 1 1 (flatH [x28]) (by go_simp) rd (flatH_one _) HMX.out HBY.out (by have := UA.out; have := hG.size; omega) ?_; intro v' w' ho hg _
                obtain ⟨A9, c9, rfl⟩ : ∃ A9 c9, v' = .slice A9 (q + 1) c9 := by
                  rcases ho.2 with ⟨_, h0⟩ | ⟨g, cap, cur, rfl, _⟩
                  · omega
                  · exact ⟨_, cap, rfl⟩
                have b2 := B2.out.up hG
                refine hK _ _ ((hg.block w.heap.size b2.lt (fun e => own_off hG1 b2 (by decide) w.heap.size e.symm rfl)).trans b2) ?_; clear hK K
                have UN := Lib.hid ((UR.out.trans hG).grown hg (fun k hk => by have := (own_geB hG1 k hk).1; omega))
                have HN := Lib.hid (HH.out.push hG hW28 (by have := UA.out; omega) ho hg)
                have c4 := B4.out.up hG
                have cL := BL.out.up hG
                have C2 := Lib.hid (show Blk w' w.heap.size 36 _ from (hg.block w.heap.size b2.lt (fun e => own_off hG1 b2 (by decide) w.heap.size e.symm rfl)).trans b2)
                have C4 := Lib.hid (show Blk w' b4 41 #[VW, .slice (some ⟨bL, 0, none⟩) n n] from (hg.block b4 c4.lt (fun e => own_off hG1 c4 (by decide) b4 e.symm rfl)).trans c4)
                have CL := Lib.hid (show Blk w' bL 60 (madeCells #[.slice none 0 0] n) from (hg.block bL cL.lt (fun e => own_off hG1 cL (by decide) bL e.symm rfl)).trans cL)
                have HN4 := Lib.hid (HN.out.far (p := b4) (o := 0) (u := .slice A9 (q + 1) c9) C4.out (by decide) (by decide) (by decide))
                have C4N := Lib.hid (C4.out.set 0 (.slice A9 (q + 1) c9))
                have CLN := Lib.hid (CL.out.far (b' := b4) 0 (.slice A9 (q + 1) c9) (by omega))
                have UNN := Lib.hid (UN.out.setCell (p := ⟨b4, 0, none⟩) (by dsimp only; omega) (.slice A9 (q + 1) c9))
                have o4 := C4.out.cell (j := 0) rfl
                have f4 := C4.out.frozen 0
                have l4 := C4.out.lt
                clear ho hg hG hG1 rd hB28 hW28 c4 cL b2; go_simp; refine hWalk_one (i := 10) (by kernel_rfl) (next_mk rfl (by rfl) (fun K hK => ?_)); go_simp; refine hK _ _ C2.out ?_; clear hK K; refine hWalk_one (i := 11) (by kernel_rfl) (next_mk rfl (by rfl) (fun K hK => ?_)); go_simp; refine hK _ _ (C2.out.far (b' := b4) 0 (.slice A9 (q + 1) c9) (by omega)) ?_; clear hK K; refine hWalk_nil (by kernel_rfl) ?_; clear o4 f4 l4; go_wp2
                go_roundw
                case rel => exact ⟨⟨q + 1, _, hl ++ [x28], by omega, by go_num, HN4, C4N, CLN⟩, UNN.out⟩
                case measure => simp [intOf]; omega
          · refine next_mk rfl (by rfl) (fun K hK => ?_)
            have hmk := HMI.out w4
            go_simp; refine hK _ _ ((B2.out.up HU.out).alloc _) ?_; clear hK K hmk
            have u26 := (Up.refl w4).alloc (.cells (madeCells #[.int .i64 0] n) 3)
            have H26 := Lib.hid (own_mono (made_zeros w4 n hn63) HU.out.size)
            replace H24 := Lib.hid (own_up H24.out u26)
            replace HU := Lib.hid (HU.out.trans u26)
            clear u26
            generalize w4.alloc (.cells (madeCells #[.int .i64 0] n) 3) = w6 at *
            generalize w4.heap.size = b26 at *
            refine hWalk_take 7 (by kernel_rfl) rfl (by rfl) ?_; apply Exists.intro; refine ⟨fun w1 hS1 => ?_, ?_⟩
            · clear hS1
              go_simp
              try rfl
            go_simp; refine hWalk_two (i := 1) (j := 8) (by kernel_rfl) ?_ ?_
            · refine next_mk rfl (by rfl) (fun K hK => ?_)
              have y0 := (B4.out.up HU.out).cell (j := 0) rfl
              have ly := (B4.out.up HU.out).lt
              go_simp; refine hK _ _ (B2.out.up HU.out) ?_; clear hK K y0 ly; refine hWalk_one (i := 8) (by kernel_rfl) ?_
              · refine next_mk rfl (by rfl) (fun K hK => ?_)
                go_simp; refine hK _ _ ((B2.out.up HU.out).alloc _) ?_; clear hK K
                have u28 := (Up.refl w6).alloc (.cells #[.int .i64 0, .int .i64 0, .int .i64 0, .slice A24 (stk m.starts (q : Int) k).length c24, .slice (some ⟨b26, 0, none⟩) n n] 86)
                have hB28 : (w6.alloc (.cells #[.int .i64 0, .int .i64 0, .int .i64 0, .slice A24 (stk m.starts (q : Int) k).length c24, .slice (some ⟨b26, 0, none⟩) n n] 86)).heap[w6.heap.size]? = some (.cells (⟨A24, (stk m.starts (q : Int) k).length, c24, some ⟨b26, 0, none⟩, n, n⟩ : Hd).c5.toArray 86 (0, 0)) := heap_alloc_new _ _
                have hW28 : HdW (w6.alloc (.cells #[.int .i64 0, .int .i64 0, .int .i64 0, .slice A24 (stk m.starts (q : Int) k).length c24, .slice (some ⟨b26, 0, none⟩) n n] 86)) W0.heap.size n (stk m.starts (q : Int) k) (⟨A24, (stk m.starts (q : Int) k).length, c24, some ⟨b26, 0, none⟩, n, n⟩ : Hd) := HdW.up ⟨H24.out, H26.out⟩ u28
                replace HU := Lib.hid (HU.out.trans u28)
                clear u28 H24 H26
                generalize (⟨A24, (stk m.starts (q : Int) k).length, c24, some ⟨b26, 0, none⟩, n, n⟩ : Hd) = x28 at hB28 hW28
                generalize w6.alloc (.cells #[.int .i64 0, .int .i64 0, .int .i64 0, .slice A24 (stk m.starts (q : Int) k).length c24, .slice (some ⟨b26, 0, none⟩) n n] 86) = wX at *
                generalize w6.heap.size = g28 at *
                rw [← LS.out] at hW28
                have hG := HU.out
                clear HU
                have hG1 := own_up HH.out.row hG
                have rd := readsH_blk hB28 wX.heap.size (Array.getElem?_eq_some_iff.1 hB28).1
                refine hWalk_one (i := 9) (by kernel_rfl) (next_mk rfl (by rfl) (fun K hK => ?_)); refine wp_append_any (P := Try.prog) wX (.tmp 21) (.tmp 28) 38 rfl bL 86 i0 _ 5 72 Try.underlying38 INF.out.1 INF.out.2.1 INF.out.2.2.1 INF.out.2.2.2 rfl (by omega) VW q (flatH hl) (by go_simp) hG1 wX.heap.size (some ⟨g28, 0, none⟩) 1 1 (flatH [x28]) (by go_simp) rd (flatH_one _) HMX.out HBY.out (by have := UA.out; have := hG.size; omega) ?_; intro v' w' ho hg _
                obtain ⟨A9, c9, rfl⟩ : ∃ A9 c9, v' = .slice A9 (q + 1) c9 := by
                  rcases ho.2 with ⟨_, h0⟩ | ⟨g, cap, cur, rfl, _⟩
                  · omega
                  · exact ⟨_, cap, rfl⟩
                have b2 := B2.out.up hG
                refine hK _ _ ((hg.block w.heap.size b2.lt (fun e => own_off hG1 b2 (by decide) w.heap.size e.symm rfl)).trans b2) ?_; clear hK K
                have UN := Lib.hid ((UR.out.trans hG).grown hg (fun k hk => by have := (own_geB hG1 k hk).1; omega))
                have HN := Lib.hid (HH.out.push hG hW28 (by have := UA.out; omega) ho hg)
                have c4 := B4.out.up hG
                have cL := BL.out.up hG
                have C2 := Lib.hid (show Blk w' w.heap.size 36 _ from (hg.block w.heap.size b2.lt (fun e => own_off hG1 b2 (by decide) w.heap.size e.symm rfl)).trans b2)
                have C4 := Lib.hid (show Blk w' b4 41 #[VW, .slice (some ⟨bL, 0, none⟩) n n] from (hg.block b4 c4.lt (fun e => own_off hG1 c4 (by decide) b4 e.symm rfl)).trans c4)
                have CL := Lib.hid (show Blk w' bL 60 (madeCells #[.slice none 0 0] n) from (hg.block bL cL.lt (fun e => own_off hG1 cL (by decide) bL e.symm rfl)).trans cL)
                have HN4 := Lib.hid (HN.out.far (p := b4) (o := 0) (u := .slice A9 (q + 1) c9) C4.out (by decide) (by decide) (by decide))
                have C4N := Lib.hid (C4.out.set 0 (.slice A9 (q + 1) c9))
                have CLN := Lib.hid (CL.out.far (b' := b4) 0 (.slice A9 (q + 1) c9) (by omega))
                have UNN := Lib.hid (UN.out.setCell (p := ⟨b4, 0, none⟩) (by dsimp only; omega) (.slice A9 (q + 1) c9))
                have o4 := C4.out.cell (j := 0) rfl
                have f4 := C4.out.frozen 0
                have l4 := C4.out.lt
                clear ho hg hG hG1 rd hB28 hW28 c4 cL b2; go_simp; refine hWalk_one (i := 10) (by kernel_rfl) (next_mk rfl (by rfl) (fun K hK => ?_)); go_simp; refine hK _ _ C2.out ?_; clear hK K; refine hWalk_one (i := 11) (by kernel_rfl) (next_mk rfl (by rfl) (fun K hK => ?_)); go_simp; refine hK _ _ (C2.out.far (b' := b4) 0 (.slice A9 (q + 1) c9) (by omega)) ?_; clear hK K; refine hWalk_nil (by kernel_rfl) ?_; clear o4 f4 l4; go_wp2
                go_roundw
                case rel => exact ⟨⟨q + 1, _, hl ++ [x28], by omega, by go_num, HN4, C4N, CLN⟩, UNN.out⟩
                case measure => simp [intOf]; omega
            · refine next_mk rfl (by rfl) (fun K hK => ?_)
              go_simp; refine hK _ _ ((B2.out.up HU.out).alloc _) ?_; clear hK K
              have u28 := (Up.refl w6).alloc (.cells #[.int .i64 0, .int .i64 0, .int .i64 0, .slice A24 (stk m.starts (q : Int) k).length c24, .slice (some ⟨b26, 0, none⟩) n n] 86)
              have hB28 : (w6.alloc (.cells #[.int .i64 0, .int .i64 0, .int .i64 0, .slice A24 (stk m.starts (q : Int) k).length c24, .slice (some ⟨b26, 0, none⟩) n n] 86)).heap[w6.heap.size]? = some (.cells (⟨A24, (stk m.starts (q : Int) k).length, c24, some ⟨b26, 0, none⟩, n, n⟩ : Hd).c5.toArray 86 (0, 0)) := heap_alloc_new _ _
              have hW28 : HdW (w6.alloc (.cells #[.int .i64 0, .int .i64 0, .int .i64 0, .slice A24 (stk m.starts (q : Int) k).length c24, .slice (some ⟨b26, 0, none⟩) n n] 86)) W0.heap.size n (stk m.starts (q : Int) k) (⟨A24, (stk m.starts (q : Int) k).length, c24, some ⟨b26, 0, none⟩, n, n⟩ : Hd) := HdW.up ⟨H24.out, H26.out⟩ u28
              replace HU := Lib.hid (HU.out.trans u28)
              clear u28 H24 H26
              generalize (⟨A24, (stk m.starts (q : Int) k).length, c24, some ⟨b26, 0, none⟩, n, n⟩ : Hd) = x28 at hB28 hW28
              generalize w6.alloc (.cells #[.int .i64 0, .int .i64 0, .int .i64 0, .slice A24 (stk m.starts (q : Int) k).length c24, .slice (some ⟨b26, 0, none⟩) n n] 86) = wX at *
              generalize w6.heap.size = g28 at *
              rw [← LS.out] at hW28; refine hWalk_one (i := 1) (by kernel_rfl) ?_
              · refine next_mk rfl (by rfl) (fun K hK => ?_)
                have y0 := (B4.out.up HU.out).cell (j := 0) rfl
                have ly := (B4.out.up HU.out).lt
                go_simp; refine hK _ _ (B2.out.up HU.out) ?_; clear hK K y0 ly
                have hG := HU.out
                clear HU
                have hG1 := own_up HH.out.row hG
                have rd := readsH_blk hB28 wX.heap.size (Array.getElem?_eq_some_iff.1 hB28).1
                refine hWalk_one (i := 9) (by kernel_rfl) (next_mk rfl (by rfl) (fun K hK => ?_)); refine wp_append_any (P := Try.prog) wX (.tmp 21) (.tmp 28) 38 rfl bL 86 i0 _ 5 72 Try.underlying38 INF.out.1 INF.out.2.1 INF.out.2.2.1 INF.out.2.2.2 rfl (by omega) VW q (flatH hl) (by go_simp) hG1 wX.heap.size (some ⟨g28, 0, none⟩) 1 1 (flatH [x28]) (by go_simp) rd (flatH_one _) HMX.out HBY.out (by have := UA.out; have := hG.size; omega) ?_; intro v' w' ho hg _
                obtain ⟨A9, c9, rfl⟩ : ∃ A9 c9, v' = .slice A9 (q + 1) c9 := by
                  rcases ho.2 with ⟨_, h0⟩ | ⟨g, cap, cur, rfl, _⟩
                  · omega
                  · exact ⟨_, cap, rfl⟩
                have b2 := B2.out.up hG
                refine hK _ _ ((hg.block w.heap.size b2.lt (fun e => own_off hG1 b2 (by decide) w.heap.size e.symm rfl)).trans b2) ?_; clear hK K
                have UN := Lib.hid ((UR.out.trans hG).grown hg (fun k hk => by have := (own_geB hG1 k hk).1; omega))
                have HN := Lib.hid (HH.out.push hG hW28 (by have := UA.out; omega) ho hg)
                have c4 := B4.out.up hG
                have cL := BL.out.up hG
                have C2 := Lib.hid (show Blk w' w.heap.size 36 _ from (hg.block w.heap.size b2.lt (fun e => own_off hG1 b2 (by decide) w.heap.size e.symm rfl)).trans b2)
                have C4 := Lib.hid (show Blk w' b4 41 #[VW, .slice (some ⟨bL, 0, none⟩) n n] from (hg.block b4 c4.lt (fun e => own_off hG1 c4 (by decide) b4 e.symm rfl)).trans c4)
                have CL := Lib.hid (show Blk w' bL 60 (madeCells #[.slice none 0 0] n) from (hg.block bL cL.lt (fun e => own_off hG1 cL (by decide) bL e.symm rfl)).trans cL)
                have HN4 := Lib.hid (HN.out.far (p := b4) (o := 0) (u := .slice A9 (q + 1) c9) C4.out (by decide) (by decide) (by decide))
                have C4N := Lib.hid (C4.out.set 0 (.slice A9 (q + 1) c9))
                have CLN := Lib.hid (CL.out.far (b' := b4) 0 (.slice A9 (q + 1) c9) (by omega))
                have UNN := Lib.hid (UN.out.setCell (p := ⟨b4, 0, none⟩) (by dsimp only; omega) (.slice A9 (q + 1) c9))
                have o4 := C4.out.cell (j := 0) rfl
                have f4 := C4.out.frozen 0
                have l4 := C4.out.lt
                clear ho hg hG hG1 rd hB28 hW28 c4 cL b2; go_simp; refine hWalk_one (i := 10) (by kernel_rfl) (next_mk rfl (by rfl) (fun K hK => ?_)); go_simp; refine hK _ _ C2.out ?_; clear hK K; refine hWalk_one (i := 11) (by kernel_rfl) (next_mk rfl (by rfl) (fun K hK => ?_)); go_simp; refine hK _ _ (C2.out.far (b' := b4) 0 (.slice A9 (q + 1) c9) (by omega)) ?_; clear hK K; refine hWalk_nil (by kernel_rfl) ?_; clear o4 f4 l4; go_wp2
                go_roundw
                case rel => exact ⟨⟨q + 1, _, hl ++ [x28], by omega, by go_num, HN4, C4N, CLN⟩, UNN.out⟩
                case measure => simp [intOf]; omega
        · refine next_mk rfl (by rfl) (fun K hK => ?_)
          have hmk := HMI.out wd
          go_simp; refine hK _ _ ((B2.out.up HU.out).alloc _) ?_; clear hK K hmk
          have u26 := (Up.refl wd).alloc (.cells (madeCells #[.int .i64 0] n) 3)
          have H26 := Lib.hid (own_mono (made_zeros wd n hn63) HU.out.size)
          replace HU := Lib.hid (HU.out.trans u26)
          clear u26
          generalize wd.alloc (.cells (madeCells #[.int .i64 0] n) 3) = w6 at *
          generalize wd.heap.size = b26 at *
          refine hWalk_two (i := 1) (j := 4) (by kernel_rfl) ?_ ?_
          · refine next_mk rfl (by rfl) (fun K hK => ?_)
            have y0 := (B4.out.up HU.out).cell (j := 0) rfl
            have ly := (B4.out.up HU.out).lt
            go_simp; refine hK _ _ (B2.out.up HU.out) ?_; clear hK K y0 ly; refine hWalk_one (i := 4) (by kernel_rfl) ?_
            · refine next_mk rfl (by rfl) (fun K hK => ?_)
              go_simp; refine (SA.out _ (UW.out.trans HU.out)).mono ?_; rintro x w4 ⟨v24, rfl, ho24, u24⟩; obtain ⟨_, A24, c24, rfl, _, _⟩ := own_slice ho24; refine hK _ _ (B2.out.up (HU.out.trans u24)) ?_; clear hK K
              have H24 := Lib.hid (own_mono ho24 HU.out.size)
              replace H26 := Lib.hid (own_up H26.out u24)
              replace HU := Lib.hid (HU.out.trans u24)
              clear ho24 u24; refine hWalk_take 7 (by kernel_rfl) rfl (by rfl) ?_; apply Exists.intro; refine ⟨fun w1 hS1 => ?_, ?_⟩
              · clear hS1
                go_simp
                try rfl
              go_simp; refine hWalk_one (i := 8) (by kernel_rfl) ?_
              · refine next_mk rfl (by rfl) (fun K hK => ?_)
                go_simp; refine hK _ _ ((B2.out.up HU.out).alloc _) ?_; clear hK K
                have u28 := (Up.refl w4).alloc (.cells #[.int .i64 0, .int .i64 0, .int .i64 0, .slice A24 (stk m.starts (q : Int) k).length c24, .slice (some ⟨b26, 0, none⟩) n n] 86)
                have hB28 : (w4.alloc (.cells #[.int .i64 0, .int .i64 0, .int .i64 0, .slice A24 (stk m.starts (q : Int) k).length c24, .slice (some ⟨b26, 0, none⟩) n n] 86)).heap[w4.heap.size]? = some (.cells (⟨A24, (stk m.starts (q : Int) k).length, c24, some ⟨b26, 0, none⟩, n, n⟩ : Hd).c5.toArray 86 (0, 0)) := heap_alloc_new _ _
                have hW28 : HdW (w4.alloc (.cells #[.int .i64 0, .int .i64 0, .int .i64 0, .slice A24 (stk m.starts (q : Int) k).length c24, .slice (some ⟨b26, 0, none⟩) n n] 86)) W0.heap.size n (stk m.starts (q : Int) k) (⟨A24, (stk m.starts (q : Int) k).length, c24, some ⟨b26, 0, none⟩, n, n⟩ : Hd) := HdW.up ⟨H24.out, H26.out⟩ u28
                replace HU := Lib.hid (HU.out.trans u28)
                clear u28 H24 H26
                generalize (⟨A24, (stk m.starts (q : Int) k).length, c24, some ⟨b26, 0, none⟩, n, n⟩ : Hd) = x28 at hB28 hW28
                generalize w4.alloc (.cells #[.int .i64 0, .int .i64 0, .int .i64 0, .slice A24 (stk m.starts (q : Int) k).length c24, .slice (some ⟨b26, 0, none⟩) n n] 86) = wX at *
                generalize w4.heap.size = g28 at *
                rw [← LS.out] at hW28
                have hG := HU.out
                clear HU
                have hG1 := own_up HH.out.row hG
                have rd := readsH_blk hB28 wX.heap.size (Array.getElem?_eq_some_iff.1 hB28).1
                refine hWalk_one (i := 9) (by kernel_rfl) (next_mk rfl (by rfl) (fun K hK => ?_)); refine wp_append_any (P := Try.prog) wX (.tmp 21) (.tmp 28) 38 rfl bL 86 i0 _ 5 72 Try.underlying38 INF.out.1 INF.out.2.1 INF.out.2.2.1 INF.out.2.2.2 rfl (by omega) VW q (flatH hl) (by go_simp) hG1 wX.heap.size (some ⟨g28, 0, none⟩) 1 1 (flatH [x28]) (by go_simp) rd (flatH_one _) HMX.out HBY.out (by have := UA.out; have := hG.size; omega) ?_; intro v' w' ho hg _
                obtain ⟨A9, c9, rfl⟩ : ∃ A9 c9, v' = .slice A9 (q + 1) c9 := by
                  rcases ho.2 with ⟨_, h0⟩ | ⟨g, cap, cur, rfl, _⟩
                  · omega
                  · exact ⟨_, cap, rfl⟩
                have b2 := B2.out.up hG
                refine hK _ _ ((hg.block w.heap.size b2.lt (fun e => own_off hG1 b2 (by decide) w.heap.size e.symm rfl)).trans b2) ?_; clear hK K
                have UN := Lib.hid ((UR.out.trans hG).grown hg (fun k hk => by have := (own_geB hG1 k hk).1; omega))
                have HN := Lib.hid (HH.out.push hG hW28 (by have := UA.out; omega) ho hg)
                have c4 := B4.out.up hG
                have cL := BL.out.up hG
                have C2 := Lib.hid (show Blk w' w.heap.size 36 _ from (hg.block w.heap.size b2.lt (fun e => own_off hG1 b2 (by decide) w.heap.size e.symm rfl)).trans b2)
                have C4 := Lib.hid (show Blk w' b4 41 #[VW, .slice (some ⟨bL, 0, none⟩) n n] from (hg.block b4 c4.lt (fun e => own_off hG1 c4 (by decide) b4 e.symm rfl)).trans c4)
                have CL := Lib.hid (show Blk w' bL 60 (madeCells #[.slice none 0 0] n) from (hg.block bL cL.lt (fun e => own_off hG1 cL (by decide) bL e.symm rfl)).trans cL)
                have HN4 := Lib.hid (HN.out.far (p := b4) (o := 0) (u := .slice A9 (q + 1) c9) C4.out (by decide) (by decide) (by decide))
                have C4N := Lib.hid (C4.out.set 0 (.slice A9 (q + 1) c9))
                have CLN := Lib.hid (CL.out.far (b' := b4) 0 (.slice A9 (q + 1) c9) (by omega))
                have UNN := Lib.hid (UN.out.setCell (p := ⟨b4, 0, none⟩) (by dsimp only; omega) (.slice A9 (q + 1) c9))
                have o4 := C4.out.cell (j := 0) rfl
                have f4 := C4.out.frozen 0
                have l4 := C4.out.lt
                clear ho hg hG hG1 rd hB28 hW28 c4 cL b2; go_simp; refine hWalk_one (i := 10) (by kernel_rfl) (next_mk rfl (by rfl) (fun K hK => ?_)); go_simp; refine hK _ _ C2.out ?_; clear hK K; refine hWalk_one (i := 11) (by kernel_rfl) (next_mk rfl (by rfl) (fun K hK => ?_)); go_simp; refine hK _ _ (C2.out.far (b' := b4) 0 (.slice A9 (q + 1) c9) (by omega)) ?_; clear hK K; refine hWalk_nil (by kernel_rfl) ?_; clear o4 f4 l4; go_wp2
                go_roundw
                case rel => exact ⟨⟨q + 1, _, hl ++ [x28], by omega, by go_num, HN4, C4N, CLN⟩, UNN.out⟩
                case measure => simp [intOf]; omega
          · refine next_mk rfl (by rfl) (fun K hK => ?_)
            go_simp; refine (SA.out _ (UW.out.trans HU.out)).mono ?_; rintro x w4 ⟨v24, rfl, ho24, u24⟩; obtain ⟨_, A24, c24, rfl, _, _⟩ := own_slice ho24; refine hK _ _ (B2.out.up (HU.out.trans u24)) ?_; clear hK K
            have H24 := Lib.hid (own_mono ho24 HU.out.size)
            replace H26 := Lib.hid (own_up H26.out u24)
            replace HU := Lib.hid (HU.out.trans u24)
            clear ho24 u24; refine hWalk_take 7 (by kernel_rfl) rfl (by rfl) ?_; apply Exists.intro; refine ⟨fun w1 hS1 => ?_, ?_⟩
            · clear hS1
              go_simp
              try rfl
            go_simp; refine hWalk_two (i := 1) (j := 8) (by kernel_rfl) ?_ ?_
            · refine next_mk rfl (by rfl) (fun K hK => ?_)
              have y0 := (B4.out.up HU.out).cell (j := 0) rfl
              have ly := (B4.out.up HU.out).lt
              go_simp; refine hK _ _ (B2.out.up HU.out) ?_; clear hK K y0 ly; refine hWalk_one (i := 8) (by kernel_rfl) ?_
              · refine next_mk rfl (by rfl) (fun K hK => ?_)
                go_simp; refine hK _ _ ((B2.out.up HU.out).alloc _) ?_; clear hK K
                have u28 := (Up.refl w4).alloc (.cells #[.int .i64 0, .int .i64 0, .int .i64 0, .slice A24 (stk m.starts (q : Int) k).length c24, .slice (some ⟨b26, 0, none⟩) n n] 86)
                have hB28 : (w4.alloc (.cells #[.int .i64 0, .int .i64 0, .int .i64 0, .slice A24 (stk m.starts (q : Int) k).length c24, .slice (some ⟨b26, 0, none⟩) n n] 86)).heap[w4.heap.size]? = some (.cells (⟨A24, (stk m.starts (q : Int) k).length, c24, some ⟨b26, 0, none⟩, n, n⟩ : Hd).c5.toArray 86 (0, 0)) := heap_alloc_new _ _
                have hW28 : HdW (w4.alloc (.cells #[.int .i64 0, .int .i64 0, .int .i64 0, .slice A24 (stk m.starts (q : Int) k).length c24, .slice (some ⟨b26, 0, none⟩) n n] 86)) W0.heap.size n (stk m.starts (q : Int) k) (⟨A24, (stk m.starts (q : Int) k).length, c24, some ⟨b26, 0, none⟩, n, n⟩ : Hd) := HdW.up ⟨H24.out, H26.out⟩ u28
                replace HU := Lib.hid (HU.out.trans u28)
                clear u28 H24 H26
                generalize (⟨A24, (stk m.starts (q : Int) k).length, c24, some ⟨b26, 0, none⟩, n, n⟩ : Hd) = x28 at hB28 hW28
                generalize w4.alloc (.cells #[.int .i64 0, .int .i64 0, .int .i64 0, .slice A24 (stk m.starts (q : Int) k).length c24, .slice (some ⟨b26, 0, none⟩) n n] 86) = wX at *
                generalize w4.heap.size = g28 at *
                rw [← LS.out] at hW28
                have hG := HU.out
                clear HU
                have hG1 := own_up HH.out.row hG
                have rd := readsH_blk hB28 wX.heap.size (Array.getElem?_eq_some_iff.1 hB28).1
                refine hWalk_one (i := 9) (by kernel_rfl) (next_mk rfl (by rfl) (fun K hK => ?_)); refine wp_append_any (P := Try.prog) wX (.tmp 21) (.tmp 28) 38 rfl bL 86 i0 _ 5 72 Try.underlying38 INF.out.1 INF.out.2.1 INF.out.2.2.1 INF.out.2.2.2 rfl (by omega) VW q (flatH hl) (by go_simp) hG1 wX.heap.size (some ⟨g28, 0, none⟩) 1 1 (flatH [x28]) (by go_simp) rd (flatH_one _) HMX.out HBY.out (by have := UA.out; have := hG.size; omega) ?_; intro v' w' ho hg _
                obtain ⟨A9, c9, rfl⟩ : ∃ A9 c9, v' = .slice A9 (q + 1) c9 := by
                  rcases ho.2 with ⟨_, h0⟩ | ⟨g, cap, cur, rfl, _⟩
                  · omega
                  · exact ⟨_, cap, rfl⟩
                have b2 := B2.out.up hG
                refine hK _ _ ((hg.block w.heap.size b2.lt (fun e => own_off hG1 b2 (by decide) w.heap.size e.symm rfl)).trans b2) ?_; clear hK K
                have UN := Lib.hid ((UR.out.trans hG).grown hg (fun k hk => by have := (own_geB hG1 k hk).1; omega))
                have HN := Lib.hid (HH.out.push hG hW28 (by have := UA.out; omega) ho hg)
                have c4 := B4.out.up hG
                have cL := BL.out.up hG
                have C2 := Lib.hid (show Blk w' w.heap.size 36 _ from (hg.block w.heap.size b2.lt (fun e => own_off hG1 b2 (by decide) w.heap.size e.symm rfl)).trans b2)
                have C4 := Lib.hid (show Blk w' b4 41 #[VW, .slice (some ⟨bL, 0, none⟩) n n] from (hg.block b4 c4.lt (fun e => own_off hG1 c4 (by decide) b4 e.symm rfl)).trans c4)
                have CL := Lib.hid (show Blk w' bL 60 (madeCells #[.slice none 0 0] n) from (hg.block bL cL.lt (fun e => own_off hG1 cL (by decide) bL e.symm rfl)).trans cL)
                have HN4 := Lib.hid (HN.out.far (p := b4) (o := 0) (u := .slice A9 (q + 1) c9) C4.out (by decide) (by decide) (by decide))
                have C4N := Lib.hid (C4.out.set 0 (.slice A9 (q + 1) c9))
                have CLN := Lib.hid (CL.out.far (b' := b4) 0 (.slice A9 (q + 1) c9) (by omega))
                have UNN := Lib.hid (UN.out.setCell (p := ⟨b4, 0, none⟩) (by dsimp only; omega) (.slice A9 (q + 1) c9))
                have o4 := C4.out.cell (j := 0) rfl
                have f4 := C4.out.frozen 0
                have l4 := C4.out.lt
                clear ho hg hG hG1 rd hB28 hW28 c4 cL b2; go_simp; refine hWalk_one (i := 10) (by kernel_rfl) (next_mk rfl (by rfl) (fun K hK => ?_)); go_simp; refine hK _ _ C2.out ?_; clear hK K; refine hWalk_one (i := 11) (by kernel_rfl) (next_mk rfl (by rfl) (fun K hK => ?_)); go_simp; refine hK _ _ (C2.out.far (b' := b4) 0 (.slice A9 (q + 1) c9) (by omega)) ?_; clear hK K; refine hWalk_nil (by kernel_rfl) ?_; clear o4 f4 l4; go_wp2
                go_roundw
                case rel => exact ⟨⟨q + 1, _, hl ++ [x28], by omega, by go_num, HN4, C4N, CLN⟩, UNN.out⟩
                case measure => simp [intOf]; omega
            · refine next_mk rfl (by rfl) (fun K hK => ?_)
              go_simp; refine hK _ _ ((B2.out.up HU.out).alloc _) ?_; clear hK K
              have u28 := (Up.refl w4).alloc (.cells #[.int .i64 0, .int .i64 0, .int .i64 0, .slice A24 (stk m.starts (q : Int) k).length c24, .slice (some ⟨b26, 0, none⟩) n n] 86)
              have hB28 : (w4.alloc (.cells #[.int .i64 0, .int .i64 0, .int .i64 0, .slice A24 (stk m.starts (q : Int) k).length c24, .slice (some ⟨b26, 0, none⟩) n n] 86)).heap[w4.heap.size]? = some (.cells (⟨A24, (stk m.starts (q : Int) k).length, c24, some ⟨b26, 0, none⟩, n, n⟩ : Hd).c5.toArray 86 (0, 0)) := heap_alloc_new _ _
              have hW28 : HdW (w4.alloc (.cells #[.int .i64 0, .int .i64 0, .int .i64 0, .slice A24 (stk m.starts (q : Int) k).length c24, .slice (some ⟨b26, 0, none⟩) n n] 86)) W0.heap.size n (stk m.starts (q : Int) k) (⟨A24, (stk m.starts (q : Int) k).length, c24, some ⟨b26, 0, none⟩, n, n⟩ : Hd) := HdW.up ⟨H24.out, H26.out⟩ u28
              replace HU := Lib.hid (HU.out.trans u28)
              clear u28 H24 H26
              generalize (⟨A24, (stk m.starts (q : Int) k).length, c24, some ⟨b26, 0, none⟩, n, n⟩ : Hd) = x28 at hB28 hW28
              generalize w4.alloc (.cells #[.int .i64 0, .int .i64 0, .int .i64 0, .slice A24 (stk m.starts (q : Int) k).length c24, .slice (some ⟨b26, 0, none⟩) n n] 86) = wX at *
              generalize w4.heap.size = g28 at *
              rw [← LS.out] at hW28; refine hWalk_one (i := 1) (by kernel_rfl) ?_
              · refine next_mk rfl (by rfl) (fun K hK => ?_)
                have y0 := (B4.out.up HU.out).cell (j := 0) rfl
                have ly := (B4.out.up HU.out).lt
                go_simp; refine hK _ _ (B2.out.up HU.out) ?_; clear hK K y0 ly
                have hG := HU.out
                clear HU
                have hG1 := own_up HH.out.row hG
                have rd := readsH_blk hB28 wX.heap.size (Array.getElem?_eq_some_iff.1 hB28).1
                refine hWalk_one (i := 9) (by kernel_rfl) (next_mk rfl (by rfl) (fun K hK => ?_)); refine wp_append_any (P := Try.prog) wX (.tmp 21) (.tmp 28) 38 rfl bL 86 i0 _ 5 72 Try.underlying38 INF.out.1 INF.out.2.1 INF.out.2.2.1 INF.out.2.2.2 rfl (by omega) VW q (flatH hl) (by go_simp) hG1 wX.heap.size (some ⟨g28, 0, none⟩) 1 1 (flatH [x28]) (by go_simp) rd (flatH_one _) HMX.out HBY.out (by have := UA.out; have := hG.size; omega) ?_; intro v' w' ho hg _
                obtain ⟨A9, c9, rfl⟩ : ∃ A9 c9, v' = .slice A9 (q + 1) c9 := by
                  rcases ho.2 with ⟨_, h0⟩ | ⟨g, cap, cur, rfl, _⟩
                  · omega
                  · exact ⟨_, cap, rfl⟩
                have b2 := B2.out.up hG
                refine hK _ _ ((hg.block w.heap.size b2.lt (fun e => own_off hG1 b2 (by decide) w.heap.size e.symm rfl)).trans b2) ?_; clear hK K
                have UN := Lib.hid ((UR.out.trans hG).grown hg (fun k hk => by have := (own_geB hG1 k hk).1; omega))
                have HN := Lib.hid (HH.out.push hG hW28 (by have := UA.out; omega) ho hg)
                have c4 := B4.out.up hG
                have cL := BL.out.up hG
                have C2 := Lib.hid (show Blk w' w.heap.size 36 _ from (hg.block w.heap.size b2.lt (fun e => own_off hG1 b2 (by decide) w.heap.size e.symm rfl)).trans b2)
                have C4 := Lib.hid (show Blk w' b4 41 #[VW, .slice (some ⟨bL, 0, none⟩) n n] from (hg.block b4 c4.lt (fun e => own_off hG1 c4 (by decide) b4 e.symm rfl)).trans c4)
                have CL := Lib.hid (show Blk w' bL 60 (madeCells #[.slice none 0 0] n) from (hg.block bL cL.lt (fun e => own_off hG1 cL (by decide) bL e.symm rfl)).trans cL)
                have HN4 := Lib.hid (HN.out.far (p := b4) (o := 0) (u := .slice A9 (q + 1) c9) C4.out (by decide) (by decide) (by decide))
                have C4N := Lib.hid (C4.out.set 0 (.slice A9 (q + 1) c9))
                have CLN := Lib.hid (CL.out.far (b' := b4) 0 (.slice A9 (q + 1) c9) (by omega))
                have UNN := Lib.hid (UN.out.setCell (p := ⟨b4, 0, none⟩) (by dsimp only; omega) (.slice A9 (q + 1) c9))
                have o4 := C4.out.cell (j := 0) rfl
                have f4 := C4.out.frozen 0
                have l4 := C4.out.lt
                clear ho hg hG hG1 rd hB28 hW28 c4 cL b2; go_simp; refine hWalk_one (i := 10) (by kernel_rfl) (next_mk rfl (by rfl) (fun K hK => ?_)); go_simp; refine hK _ _ C2.out ?_; clear hK K; refine hWalk_one (i := 11) (by kernel_rfl) (next_mk rfl (by rfl) (fun K hK => ?_)); go_simp; refine hK _ _ (C2.out.far (b' := b4) 0 (.slice A9 (q + 1) c9) (by omega)) ?_; clear hK K; refine hWalk_nil (by kernel_rfl) ?_; clear o4 f4 l4; go_wp2
                go_roundw
                case rel => exact ⟨⟨q + 1, _, hl ++ [x28], by omega, by go_num, HN4, C4N, CLN⟩, UNN.out⟩
                case measure => simp [intOf]; omega
      · obtain rfl : q = n := by omega
        have i4 : ¬ (q : Int) < q := by omega
        obtain ⟨A5, c5, rfl⟩ : ∃ A5 c5, VW = .slice A5 q c5 := by
          rcases HH.out.row.2 with ⟨rfl, rfl⟩ | ⟨g, cap, cur, rfl, _⟩
          · exact ⟨none, 0, rfl⟩
          · exact ⟨_, cap, rfl⟩
        replace B3 := Lib.hid (B3.out.up UR.out)
        have x0 := B4.out.cell (j := 0) rfl
        have x1 := B4.out.cell (j := 1) rfl
        have lx := B4.out.lt
        have RES := Lib.hid (HsW.res (lc := q) CN.out SL6.out (((HH.out.far (p := w.heap.size + 1) (o := 0) (u := .slice A5 q c5) B3.out (by decide) (by decide) (by decide)).far (p := w.heap.size + 1) (o := 1) (u := .slice (some ⟨bL, 0, none⟩) q q) (B3.out.set 0 _) (by decide) (by decide) (by decide)).mono (show w.heap.size ≤ bL by omega)) ((BL.out.far (b' := w.heap.size + 1) 0 (.slice A5 q c5) (by omega)).far (b' := w.heap.size + 1) 1 (.slice (some ⟨bL, 0, none⟩) q q) (by omega)) (by omega) (fun i hi => made1 _ _ i (by omega)))
        have UE_ := Lib.hid (((U1.out.trans UR.out).setCell (p := ⟨w.heap.size + 1, 0, none⟩) (by dsimp only; omega) (.slice A5 q c5)).setCell (p := ⟨w.heap.size + 1, 1, none⟩) (by dsimp only; omega) (.slice (some ⟨bL, 0, none⟩) q q))
        have Q_ := Lib.hid ((B3.out.set 0 (.slice A5 q c5)).set 1 (.slice (some ⟨bL, 0, none⟩) q q))
        have f_ := B3.out.frozen
        have old0 := B3.out.cell (j := 0) rfl
        have old1 := B3.out.cell (j := 1) rfl
        have k0 := Q_.out.cell (j := 0) rfl
        have k1 := Q_.out.cell (j := 1) rfl
        have lz := B3.out.lt
        go_wp2
        exact bodyPost_ret (v := .agg #[.slice A5 q c5, .slice (some ⟨bL, 0, none⟩) q q]) (by simp [results, Try.results43, go_sem, k0, k1]) rfl ⟨_, rfl, RES.out, UE_.out⟩
end Go.Proofs.Ytklldniapombiaa

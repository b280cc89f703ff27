/-
  What machine.cautious returns, in one sentence: a simulation at work of its own, which holds what the given one holds; for every simulation in memory.
-/
import Derived.Test.YtklldniapombiaaDLEcbsf19
import Derived.Test.YtklldniapombiaaDLEcbsf23
namespace Go.Proofs.Ytklldniapombiaa
set_option maxRecDepth 100000
open Go.RowKit
theorem info208 : (Try.prog.info? 208).map (fun i => (i.zero, i.size, i.bytes)) = some (some (.agg #[.int .i64 0, .int .i64 0, .int .i64 0, .slice none 0 0, .slice none 0 0]), 5, 72) := by kernel_rfl
/-- What the last operations of a region ask of those ahead, said once for all their orders. -/
theorem hWalk_cut {P : Program} {ops : Array Oper} {Q : Exit → Act → World → Prop} {S : World → Prop} {N : Nat} {listed : Array Bool} {a : Act} {w : World} (T : Act → World → Prop) (M : Nat) (L : Array Bool)
    (tail : ∀ a w, T a w → hWalk P ops Q S M L a w) (front : (∀ a w, T a w → hWalk P ops Q S M L a w) → hWalk P ops Q S N listed a w) : hWalk P ops Q S N listed a w := front tail
theorem hWalk_list {P : Program} {ops : Array Oper} {Q : Exit → Act → World → Prop} {S : World → Prop} {N : Nat} {listed : Array Bool} {a : Act} {w : World} (L : Array Bool) (e : listed = L) (h : hWalk P ops Q S N L a w) : hWalk P ops Q S N listed a w := by
  rw [e]
  exact h
/-- What machine.cautious gives. -/
def NewX (w : World) (mb N : Nat) (til : Int) (hs : List Ch) (ls : List (List Rec)) (x : Ending) (w' : World) : Prop :=
  ∃ bX v hl, x = .returned (.pointer (some ⟨bX, 0, none⟩)) ∧ w.heap.size ≤ bX ∧ CauB w' bX mb N til hs N v ∧ CsW w' bX ls hs N v hl ∧ Up w w'
set_option maxHeartbeats 8000000 in
theorem cautious_any (mb N : Nat) (til : Int) (HA : Option Addr) (hc : Nat) (LB : Option Addr) (lc : Nat) (hs : List Ch) (ls : List (List Rec)) (w : World) (h4 : N ≤ 4) (hI : ∀ i, i < N → (hs.getD i default).ins.length = N) (hV : CbV w HA N LB N hs ls) :
    Calls Try.prog 115 #[.agg #[.map (some mb), .int .i64 N, .int .i64 til], .agg #[.slice HA N hc, .slice LB N lc]] w (NewX w mb N til hs ls) := by
  obtain ⟨i0, hi0, hz0, hz1, hz2⟩ := info_parts info208
  have INF := Lib.hid (And.intro hi0 (And.intro hz0 (And.intro hz1 hz2)))
  clear hi0 hz0 hz1 hz2
  have HV := Lib.hid hV
  clear hV
  have UB := Lib.hid (((Up.refl w).alloc (.cells #[.map (some mb), .int .i64 N, .int .i64 til] 109)).alloc (.cells #[.slice HA N hc, .slice LB N lc] 41))
  have B3 := Lib.hid ((Blk.new (w.alloc (.cells #[.map (some mb), .int .i64 N, .int .i64 til] 109)) #[.slice HA N hc, .slice LB N lc] 41).alloc (.cells #[.map (some mb), .int .i64 N, .int .i64 til, .slice none 0 0, .int .i64 0, .int .i64 0, .int .i64 0, .int .i64 0, .int .i64 0, .int .i64 0, .int .i64 0, .int .i64 0, .int .i64 0, .int .i64 0, .int .i64 0, .int .i64 0, .int .i64 0, .int .i64 0, .int .i64 0, .int .i64 0] 214))
  have BX := Lib.hid (Blk.new ((w.alloc (.cells #[.map (some mb), .int .i64 N, .int .i64 til] 109)).alloc (.cells #[.slice HA N hc, .slice LB N lc] 41)) #[.map (some mb), .int .i64 N, .int .i64 til, .slice none 0 0, .int .i64 0, .int .i64 0, .int .i64 0, .int .i64 0, .int .i64 0, .int .i64 0, .int .i64 0, .int .i64 0, .int .i64 0, .int .i64 0, .int .i64 0, .int .i64 0, .int .i64 0, .int .i64 0, .int .i64 0, .int .i64 0] 214)
  have HXB := Lib.hid (show w.heap.size + 1 + 1 = ((w.alloc (.cells #[.map (some mb), .int .i64 N, .int .i64 til] 109)).alloc (.cells #[.slice HA N hc, .slice LB N lc] 41)).heap.size by simp)
  have U1 := Lib.hid ((Up.refl ((w.alloc (.cells #[.map (some mb), .int .i64 N, .int .i64 til] 109)).alloc (.cells #[.slice HA N hc, .slice LB N lc] 41))).alloc (.cells #[.map (some mb), .int .i64 N, .int .i64 til, .slice none 0 0, .int .i64 0, .int .i64 0, .int .i64 0, .int .i64 0, .int .i64 0, .int .i64 0, .int .i64 0, .int .i64 0, .int .i64 0, .int .i64 0, .int .i64 0, .int .i64 0, .int .i64 0, .int .i64 0, .int .i64 0, .int .i64 0] 214))
  simp only [World.size_alloc] at B3 BX
  go_enter Try.func115, Try.ntmps115
  go_wp2
  generalize hWb : (w.alloc (.cells #[.map (some mb), .int .i64 N, .int .i64 til] 109)).alloc (.cells #[.slice HA N hc, .slice LB N lc] 41) = Wb at *
  generalize Wb.alloc (.cells #[.map (some mb), .int .i64 N, .int .i64 til, .slice none 0 0, .int .i64 0, .int .i64 0, .int .i64 0, .int .i64 0, .int .i64 0, .int .i64 0, .int .i64 0, .int .i64 0, .int .i64 0, .int .i64 0, .int .i64 0, .int .i64 0, .int .i64 0, .int .i64 0, .int .i64 0, .int .i64 0] 214) = W1 at *
  generalize hbX : w.heap.size + 1 + 1 = bX at *
  generalize hb3 : w.heap.size + 1 = b3 at *
  clear hWb
  go_loopw [14] (fun i wr => (∃ (q : Nat) (v : Value) (hl : List Cd), q ≤ N ∧ i = .int .i64 q ∧ Hid (CauB wr bX mb N til hs q v) ∧ Hid (CsW wr bX ls hs q v hl) ∧ Hid (Blk wr b3 41 #[.slice HA N hc, .slice LB N lc])) ∧ Up Wb wr) (fun i _ => N - (intOf i).toNat)
  case atStart => exact ⟨⟨0, _, [], by omega, rfl, Lib.hid (CauB.start BX.out), Lib.hid (CsW.start _ _ _ _), B3⟩, U1.out⟩
  case round =>
    clear B3 BX U1; obtain ⟨⟨q, VW, hl, hq, rfl, CB, HH, B3⟩, ur⟩ := hrel
    have UR := Lib.hid ur
    clear ur
    by_cases hlt : q < N
    · obtain ⟨b, off, hA, hb, hcc⟩ := HV.out.hosts.2 (by omega)
      obtain ⟨bl, ol, hL, hbl, hll⟩ := HV.out.logs.2 (by omega); subst hA hL
      have ins := hI q hlt
      have a0 := hcc q hlt
      have l0 := hll q hlt
      obtain ⟨h, hh⟩ : ∃ h, h = hs.getD q default := ⟨_, rfl⟩; obtain ⟨lg, hlg⟩ : ∃ lg, lg = ls.getD q [] := ⟨_, rfl⟩; rw [← hh] at a0 ins; rw [← hlg] at l0
      have LG_ := Lib.hid hlg.symm
      clear hcc hll hlg; obtain ⟨⟨z0, z1, z2⟩, wt, zs⟩ := h; obtain ⟨Aw, nw, cw, Ai, ni, ci, ⟨p0, p1, p2, p3, p4⟩, ⟨h5, h6⟩, h7, h8⟩ := a0; obtain ⟨Al, nl, cl, l1, l2, l3⟩ := l0; dsimp only at p0 p1 p2 p3 p4 h5 h7 ins
      have WT_ := Lib.hid (show (hs.getD q default).wait = wt by rw [← hh])
      have ZS_ := Lib.hid (show zs = (hs.getD q default).ins by rw [← hh])
      have NOW_ := Lib.hid (show z0 = (hs.getD q default).now.s ∧ z1 = (hs.getD q default).now.sq ∧ z2 = (hs.getD q default).now.ct by rw [← hh]; exact ⟨rfl, rfl, rfl⟩)
      clear hh
      obtain rfl : ni = N := by rw [← h7.1, ins]
      have EW0 := Lib.hid h5
      have RW0 := Lib.hid l2
      have LC0 := Lib.hid l1
      have LL0 := Lib.hid hbl
      have NM0 := Lib.hid h7
      have INS := Lib.hid ins
      have UW := Lib.hid (UB.out.trans UR.out)
      replace p0 := (UW.out.cells _ _ hb).trans p0
      replace p1 := (UW.out.cells _ _ hb).trans p1
      replace p2 := (UW.out.cells _ _ hb).trans p2
      replace p3 := (UW.out.cells _ _ hb).trans p3
      replace p4 := (UW.out.cells _ _ hb).trans p4
      have hbr : b < wr.heap.size := Nat.lt_of_lt_of_le hb UW.out.size
      have i4 : (q : Int) < ni := by omega
      have i6 : (q : Int) < 4 := by omega
      have BH := Lib.hid ((Blk.new wr #[.int .i64 z0, .int .i64 z1, .int .i64 z2, .slice Aw nw cw, .slice Ai ni ci] 86).up (Up.refl _).drew)
      have UH := Lib.hid (((Up.refl wr).alloc (.cells #[.int .i64 z0, .int .i64 z1, .int .i64 z2, .slice Aw nw cw, .slice Ai ni ci] 86)).drew)
      have NEH := Lib.hid (show bX ≠ wr.heap.size by have := CB.out.lt; omega)
      clear h5 l2 l1 hbl h7 ins
      go_wp2_with fail
      clear p0 p1 p2 p3 p4; refine region_hWalk (fun w1 => w1.cell? ⟨wr.heap.size, 4, none⟩ = some (.slice Ai ni ci) ∧ wr.heap.size < w1.heap.size) 9 (by kernel_rfl) rfl (by kernel_rfl) ⟨BH.out.cell (j := 4) rfl, BH.out.lt⟩ ?_
      generalize (wr.alloc (.cells #[.int .i64 z0, .int .i64 z1, .int .i64 z2, .slice Aw nw cw, .slice Ai ni ci] 86)).drew = W5 at *
      generalize wr.heap.size = bH at *
      refine hWalk_take 0 (by kernel_rfl) rfl (by rfl) ?_; apply Exists.intro; refine ⟨fun w1 hS1 => ?_, ?_⟩
      · clear hS1
        go_simp
        try rfl
      go_simp; refine hWalk_take 1 (by kernel_rfl) rfl (by rfl) ?_; apply Exists.intro; refine ⟨fun w1 hS1 => ?_, ?_⟩
      · clear hS1
        go_simp
        try rfl
      go_simp; refine hWalk_take 2 (by kernel_rfl) rfl (by rfl) ?_; apply Exists.intro; refine ⟨fun w1 hS1 => ?_, ?_⟩
      · clear hS1
        go_simp
        try rfl
      go_simp; refine hWalk_take 3 (by kernel_rfl) rfl (by rfl) ?_; apply Exists.intro; refine ⟨fun w1 hS1 => ?_, ?_⟩
      · clear hS1
        go_simp
        try rfl
      go_simp; refine hWalk_take 4 (by kernel_rfl) rfl (by rfl) ?_; apply Exists.intro; refine ⟨fun w1 hS1 => ?_, ?_⟩
      · clear hS1
        go_simp
        try rfl
      go_simp; refine hWalk_take 5 (by kernel_rfl) rfl (by rfl) ?_; apply Exists.intro; refine ⟨fun w1 hS1 => ?_, ?_⟩
      · clear hS1
        go_simp
        try rfl
      go_simp; refine hWalk_take 6 (by kernel_rfl) rfl (by rfl) ?_; apply Exists.intro; refine ⟨fun w1 hS1 => ?_, ?_⟩
      · clear hS1
        go_simp
        try rfl
      go_simp; refine hWalk_take 7 (by kernel_rfl) rfl (by rfl) ?_; apply Exists.intro; refine ⟨fun w1 hS1 => ?_, ?_⟩
      · obtain ⟨s1, s2⟩ := hS1
        go_simp
        try rfl
      go_simp; refine hWalk_one (i := 8) (by kernel_rfl) (next_mk rfl (by rfl) (fun K hK => ?_))
      have CB5 := Lib.hid (CB.out.up UH.out)
      have HH5 := Lib.hid (HH.out.up UH.out)
      have MATd : ∀ j, j < 4 → IntC W5 bX (4 + q * 4 + j) := fun j hj => CB5.out.ints _ (by omega) (by omega)
      obtain ⟨w', hr, cp⟩ := copy_nums (c := ci) (NM0.out.up (UW.out.trans UH.out)) h4 MATd
      have CP := Lib.hid cp
      clear MATd cp; go_simp; refine hK _ _ ⟨(CP.out.other bH 4 (.inl (fun e => NEH.out e.symm))).trans (BH.out.cell (j := 4) rfl), by rw [CP.out.size]; exact BH.out.lt⟩ ?_; clear hK K hr; refine hWalk_nil (by kernel_rfl) ?_
      replace BH := Lib.hid (show Blk w' bH 86 #[.int .i64 z0, .int .i64 z1, .int .i64 z2, .slice Aw nw cw, .slice Ai ni ci] from (CP.out.block bH (fun e => NEH.out e.symm)).trans BH.out)
      replace B3 := Lib.hid (B3.out.up UH.out)
      obtain ⟨arr5, bx5⟩ := CB5.out.blk
      replace B3 := Lib.hid (show Blk w' b3 41 #[.slice (some ⟨b, off, none⟩) ni hc, .slice (some ⟨bl, ol, none⟩) ni lc] from (CP.out.block b3 (Blk.neq B3.out bx5 (by decide))).trans B3.out)
      replace CB := Lib.hid (CB5.out.cpd CP.out ZS_.out INS.out h4 (by omega))
      replace HH := Lib.hid (HH5.out.but bx5 (by decide) (by decide) (by decide) (fun g hg => CP.out.block g hg))
      have UR0 := Lib.hid (CP.out.up Wb (UR.out.trans UH.out) (by have := HXB.out; omega))
      have LX := Lib.hid (show bX ≤ w'.heap.size from Nat.le_of_lt CB.out.lt)
      clear bx5 CB5 HH5 UH CP UR UW
      have UW := Lib.hid (UB.out.trans UR0.out)
      have EW := Lib.hid (EW0.out.up UW.out)
      have RW := Lib.hid (RW0.out.up UW.out)
      have LC := Lib.hid ((UW.out.cells _ _ LL0.out).trans LC0.out)
      have LBL := Lib.hid (Nat.lt_of_lt_of_le LL0.out UW.out.size)
      have BLX := Lib.hid (show bl < bX from by have := LL0.out; omega)
      have HMX := Lib.hid (show q + 1 ≤ maxLen by simp only [maxLen]; omega)
      have HBY := Lib.hid (show (q + 1) * 72 ≤ 140737488355328 by omega)
      obtain rfl : wt.length = nw := EW.out.1; obtain rfl : lg.length = nl := RW.out.1
      go_wp2_with fail
      obtain ⟨W0, hW0⟩ : ∃ W, W = w' := ⟨_, rfl⟩; subst hW0; refine region_hWalk (fun w1 => Blk w1 bH 86 #[.int .i64 z0, .int .i64 z1, .int .i64 z2, .slice Aw wt.length cw, .slice Ai ni ci] ∧ Blk w1 b3 41 #[.slice (some ⟨b, off, none⟩) ni hc, .slice (some ⟨bl, ol, none⟩) ni lc] ∧ w1.cell? ⟨bl, ol + q, none⟩ = some (.slice Al lg.length cl) ∧ bl < w1.heap.size) 24 (by kernel_rfl) rfl (by kernel_rfl) ⟨BH.out.up ((Up.refl _).drew), B3.out.up ((Up.refl _).drew), (((Up.refl _).drew).cells _ _ LBL.out).trans LC.out, Nat.lt_of_lt_of_le LBL.out ((Up.refl _).drew).size⟩ ?_
      have HU := Lib.hid ((Up.refl W0).drew)
      generalize W0.drew = wd at *
      refine hWalk_take 0 (by kernel_rfl) rfl (by rfl) ?_; apply Exists.intro; refine ⟨fun w1 hS1 => ?_, ?_⟩
      · clear hS1
        go_simp
        try rfl
      go_simp; refine hWalk_take 1 (by kernel_rfl) rfl (by rfl) ?_; apply Exists.intro; refine ⟨fun w1 hS1 => ?_, ?_⟩
      · clear hS1
        go_simp
        try rfl
      go_simp; refine hWalk_take 2 (by kernel_rfl) rfl (by rfl) ?_; apply Exists.intro; refine ⟨fun w1 hS1 => ?_, ?_⟩
      · clear hS1
        go_simp
        try rfl
      go_simp; refine hWalk_take 3 (by kernel_rfl) rfl (by rfl) ?_; apply Exists.intro; refine ⟨fun w1 hS1 => ?_, ?_⟩
      · clear hS1
        go_simp
        try rfl
      go_simp; refine hWalk_take 5 (by kernel_rfl) rfl (by rfl) ?_; apply Exists.intro; refine ⟨fun w1 hS1 => ?_, ?_⟩
      · clear hS1
        go_simp
        try rfl
      go_simp; refine hWalk_take 6 (by kernel_rfl) rfl (by rfl) ?_; apply Exists.intro; refine ⟨fun w1 hS1 => ?_, ?_⟩
      · obtain ⟨s1, s2, s3, s4⟩ := hS1
        obtain ⟨m0, m1, m2⟩ := And.intro (s1.cell (j := 0) rfl) (And.intro (s1.cell (j := 1) rfl) (s1.cell (j := 2) rfl))
        have lm := s1.lt
        clear s1 s2 s3 s4; go_simp
        try rfl
      go_simp; refine hWalk_take 7 (by kernel_rfl) rfl (by rfl) ?_; apply Exists.intro; refine ⟨fun w1 hS1 => ?_, ?_⟩
      · clear hS1
        go_simp
        try rfl
      go_simp; refine hWalk_take 8 (by kernel_rfl) rfl (by rfl) ?_; apply Exists.intro; refine ⟨fun w1 hS1 => ?_, ?_⟩
      · obtain ⟨s1, s2, s3, s4⟩ := hS1
        have m3 := s1.cell (j := 3) rfl
        have lm := s1.lt
        clear s1 s2 s3 s4; go_simp
        try rfl
      go_simp; refine hWalk_take 11 (by kernel_rfl) rfl (by rfl) ?_; apply Exists.intro; refine ⟨fun w1 hS1 => ?_, ?_⟩
      · clear hS1
        go_simp
        try rfl
      go_simp; refine hWalk_take 12 (by kernel_rfl) rfl (by rfl) ?_; apply Exists.intro; refine ⟨fun w1 hS1 => ?_, ?_⟩
      · obtain ⟨s1, s2, s3, s4⟩ := hS1
        have m3 := s2.cell (j := 1) rfl
        have lm := s2.lt
        clear s1 s2 s3 s4; go_simp
        try rfl
      go_simp; refine hWalk_take 13 (by kernel_rfl) rfl (by rfl) ?_; apply Exists.intro; refine ⟨fun w1 hS1 => ?_, ?_⟩
      · clear hS1
        go_simp
        try rfl
      go_simp; refine hWalk_take 14 (by kernel_rfl) rfl (by rfl) ?_; apply Exists.intro; refine ⟨fun w1 hS1 => ?_, ?_⟩
      · clear hS1
        go_simp
        try rfl
      go_simp; refine hWalk_take 15 (by kernel_rfl) rfl (by rfl) ?_; apply Exists.intro; refine ⟨fun w1 hS1 => ?_, ?_⟩
      · obtain ⟨s1, s2, s3, s4⟩ := hS1
        clear s1 s2; go_simp
        try rfl
      go_simp; refine hWalk_cut (fun a wX => ∃ b37 b44 b47 A38 c38 A45 c45, a = { tmps := #[.agg #[.map (some mb), .int .i64 ni, .int .i64 til], .agg #[.slice (some ⟨b, off, none⟩) ni hc, .slice (some ⟨bl, ol, none⟩) ni lc], .pointer (some ⟨w.heap.size, 0, none⟩), .pointer (some ⟨b3, 0, none⟩), .pointer none, .pointer (some ⟨bX, 0, none⟩), .int .i64 q, .pointer (some ⟨bH, 0, none⟩), .agg #[.map (some mb), .int .i64 ni, .int .i64 til], .agg #[.map (some mb), .int .i64 ni, .int .i64 til, .slice none 0 0, .int .i64 0, .int .i64 0, .int .i64 0, .int .i64 0, .int .i64 0, .int .i64 0, .int .i64 0, .int .i64 0, .int .i64 0, .int .i64 0, .int .i64 0, .int .i64 0, .int .i64 0, .int .i64 0, .int .i64 0, .int .i64 0], .pointer (some ⟨bX, 0, none⟩), .pointer (some ⟨b3, 0, none⟩), .slice (some ⟨b, off, none⟩) ni hc, .int .i64 ni, .int .i64 q, .bool true, .int .i64 q, .pointer (some ⟨b, off + q * 5, none⟩), .agg #[.int .i64 z0, .int .i64 z1, .int .i64 z2, .slice Aw wt.length cw, .slice Ai ni ci], .pointer (some ⟨bX, 0, none⟩), .int .i64 q, .pointer (some ⟨bX, 0, none⟩), .pointer (some ⟨bX, 4, none⟩), .pointer (some ⟨bX, 4 + q * 4, none⟩), .slice (some ⟨bX, 4 + q * 4, none⟩) 4 4, .pointer (some ⟨bH, 4, none⟩), .slice Ai ni ci, .int .i64 ni, .pointer (some ⟨bX, 0, none⟩), .pointer (some ⟨bX, 0, none⟩), .pointer (some ⟨bX, 0, none⟩), .pointer (some ⟨bX, 3, none⟩), VW, .pointer (some ⟨bH, 0, none⟩), .agg #[.int .i64 z0, .int .i64 z1, .int .i64 z2], .pointer (some ⟨bH, 3, none⟩), .slice Aw wt.length cw, .slice (some ⟨b37, 0, none⟩) 1 1, .slice A38 wt.length c38, .pointer (some ⟨b3, 1, none⟩), .slice (some ⟨bl, ol, none⟩) ni lc, .int .i64 q, .pointer (some ⟨bl, ol + q, none⟩), .slice Al lg.length cl, .slice (some ⟨b44, 0, none⟩) 1 1, .slice A45 lg.length c45, .agg #[.int .i64 z0, .int .i64 z1, .int .i64 z2, .slice A38 wt.length c38, .slice A45 lg.length c45], .slice (some ⟨b47, 0, none⟩) 1 1, u48, u49, u50, u51, undef], defers := [] } ∧ Hid (Up W0 wX) ∧ Hid (wX.heap[b47]? = some (.cells (⟨z0, z1, z2, A38, wt.length, c38, A45, lg.length, c45⟩ : Cd).c5.toArray 208 (0, 0))) ∧ Hid (CdW wX W0.heap.size lg wt (⟨z0, z1, z2, A38, wt.length, c38, A45, lg.length, c45⟩ : Cd))) 4 #[true, true, true, true, true, true, true, true, true, true, true, true, true, true, true, true, true, true, true, true, false, false, false, false] ?_ (fun TAIL => ?_)
      · rintro a wX ⟨b37, b44, b47, A38, c38, A45, c45, rfl, HU, hB, hW⟩
        have hG := HU.out
        have hG1 := own_up HH.out.row hG
        have rd := readsC_blk hB.out wX.heap.size (Array.getElem?_eq_some_iff.1 hB.out).1
        have bh := BH.out.up hG
        have c3 := B3.out.up hG
        have cX := CB.out.up hG
        obtain ⟨arrX, bx⟩ := cX.blk
        generalize hx47 : (⟨z0, z1, z2, A38, wt.length, c38, A45, lg.length, c45⟩ : Cd) = x47 at rd hB hW
        refine hWalk_one (i := 20) (by kernel_rfl) (next_mk rfl (by rfl) (fun K hK => ?_)); refine wp_append_any (P := Try.prog) wX (.tmp 32) (.tmp 47) 209 rfl bX 208 i0 _ 5 72 Try.underlying209 INF.out.1 INF.out.2.1 INF.out.2.2.1 INF.out.2.2.2 rfl (by omega) VW q (flatC hl) (by go_simp) hG1 wX.heap.size (some ⟨b47, 0, none⟩) 1 1 (flatC [x47]) (by go_simp) rd (flatC_one _) HMX.out HBY.out (by have := LX.out; have := hG.size; omega) ?_; intro v' w' ho hg _
        obtain ⟨A9, c9, rfl⟩ : ∃ A9 c9, v' = .slice A9 (q + 1) c9 := by
          rcases ho.2 with ⟨_, h0⟩ | ⟨g, cap, cur, rfl, _⟩
          · omega
          · exact ⟨_, cap, rfl⟩
        have C2 := Lib.hid (show Blk w' bH 86 _ from (hg.block bH bh.lt (fun e => own_off hG1 bh (by decide) bH e.symm rfl)).trans bh)
        have C3 := Lib.hid (show Blk w' b3 41 _ from (hg.block b3 c3.lt (fun e => own_off hG1 c3 (by decide) b3 e.symm rfl)).trans c3)
        have CX := Lib.hid (cX.same (hg.block bX cX.lt (fun e => own_off hG1 bx (by decide) bX e.symm rfl)))
        have LC2 := Lib.hid ((cell_sameB (o := ol + q) (hg.block bl (Nat.lt_of_lt_of_le LBL.out hG.size) (fun e => by have h1 := (own_geB hG1 bl e.symm).1; have h2 := BLX.out; omega))).trans ((hG.cells _ _ LBL.out).trans LC.out))
        have LB2 := Lib.hid (show bl < w'.heap.size from by have := hG.size; have := hg.size; have := LBL.out; omega)
        refine hK _ _ ⟨C2.out, C3.out, LC2.out, LB2.out⟩ ?_; clear hK K
        have UN := Lib.hid ((UR0.out.trans hG).grown hg (fun k hk => by have := (own_geB hG1 k hk).1; have := HXB.out; omega))
        have HN := Lib.hid (HH.out.push hG (by rw [LG_.out, WT_.out]; exact hW.out) (by rw [← hx47]; exact NOW_.out) (by have := LX.out; omega) ho hg)
        obtain ⟨arrY, by_⟩ := CX.out.blk
        have HN4 := Lib.hid (HN.out.far (p := bX) (o := 3) (u := .slice A9 (q + 1) c9) by_ (by decide) (by decide) (by decide))
        have CXN := Lib.hid (CX.out.set3 (.slice A9 (q + 1) c9))
        have UNN := Lib.hid (UN.out.setCell (p := ⟨bX, 3, none⟩) (by have := HXB.out; dsimp only; omega) (.slice A9 (q + 1) c9))
        have B3N := Lib.hid (C3.out.far (b' := bX) 3 (.slice A9 (q + 1) c9) (Blk.neq C3.out by_ (by decide)))
        have o4 := CX.out.c3
        have f4 := by_.frozen 3
        have l4 := CX.out.lt
        clear ho hg hG hG1 rd hB hW c3 cX bh bx; go_simp; refine hWalk_take 21 (by kernel_rfl) rfl (by rfl) ?_; apply Exists.intro; refine ⟨fun w1 hS1 => ?_, ?_⟩
        · clear hS1
          go_simp
          try rfl
        go_simp; refine hWalk_take 22 (by kernel_rfl) rfl (by rfl) ?_; apply Exists.intro; refine ⟨fun w1 hS1 => ?_, ?_⟩
        · clear hS1
          go_simp
          try rfl
        go_simp; refine hWalk_one (i := 23) (by kernel_rfl) (next_mk rfl (by rfl) (fun K hK => ?_)); go_simp; refine hK _ _ ⟨C2.out.far (b' := bX) 3 (.slice A9 (q + 1) c9) (Blk.neq C2.out by_ (by decide)), B3N.out, (World.cell?_setCell_other _ _ _ _ (fun e => by have := BLX.out; injection e with e _ _; omega)).trans LC2.out, by simpa using LB2.out⟩ ?_; clear hK K; refine hWalk_nil (by kernel_rfl) ?_; clear o4 f4 l4 by_; go_wp2
        go_roundw
        case rel => exact ⟨⟨q + 1, _, hl ++ [x47], by omega, by go_num, CXN, HN4, B3N⟩, UNN.out⟩
        case measure => simp [intOf]; omega
      refine hWalk_three (i := 4) (j := 9) (m := 16) (by kernel_rfl) ?_ ?_ ?_
      · refine next_mk rfl (by rfl) (fun K hK => ?_)
        have y3 := (CB.out.up HU.out).c3
        have ly := (CB.out.up HU.out).lt
        go_simp; refine hK _ _ ⟨BH.out.up (HU.out), B3.out.up (HU.out), ((HU.out).cells _ _ LBL.out).trans LC.out, Nat.lt_of_lt_of_le LBL.out (HU.out).size⟩ ?_; clear hK K y3 ly; refine hWalk_two (i := 9) (j := 16) (by kernel_rfl) ?_ ?_
        · refine next_mk rfl (by rfl) (fun K hK => ?_)
          go_simp; refine hK _ _ ⟨BH.out.up (HU.out.alloc _), B3.out.up (HU.out.alloc _), ((HU.out.alloc _).cells _ _ LBL.out).trans LC.out, Nat.lt_of_lt_of_le LBL.out (HU.out.alloc _).size⟩ ?_; clear hK K
          have H37 := Lib.hid (Blk.new wd #[.slice Aw wt.length cw] 34)
          have ux := (Up.refl wd).alloc (.cells #[.slice Aw wt.length cw] 34)
          replace HU := Lib.hid (HU.out.trans ux)
          clear ux
          generalize wd.alloc (.cells #[.slice Aw wt.length cw] 34) = w9 at *
          generalize wd.heap.size = b37 at *
          refine hWalk_two (i := 10) (j := 16) (by kernel_rfl) ?_ ?_
          · refine next_mk rfl (by rfl) (fun K hK => ?_)
            go_simp; refine (concatE_one b37 Aw wt.length cw wt w9 H37.out (EW.out.up HU.out) (by omega)).mono ?_; rintro x w10 ⟨A38, c38, rfl, _, _, _, ho, ux⟩; refine hK _ _ ⟨BH.out.up (HU.out.trans ux), B3.out.up (HU.out.trans ux), ((HU.out.trans ux).cells _ _ LBL.out).trans LC.out, Nat.lt_of_lt_of_le LBL.out (HU.out.trans ux).size⟩ ?_; clear hK K H37
            have H38 := Lib.hid (own_mono ho HU.out.size)
            replace HU := Lib.hid (HU.out.trans ux)
            clear ux ho; refine hWalk_one (i := 16) (by kernel_rfl) ?_
            · refine next_mk rfl (by rfl) (fun K hK => ?_)
              go_simp; refine hK _ _ ⟨BH.out.up (HU.out.alloc _), B3.out.up (HU.out.alloc _), ((HU.out.alloc _).cells _ _ LBL.out).trans LC.out, Nat.lt_of_lt_of_le LBL.out (HU.out.alloc _).size⟩ ?_; clear hK K
              have H44 := Lib.hid (Blk.new w10 #[.slice Al lg.length cl] 60)
              have ux := (Up.refl w10).alloc (.cells #[.slice Al lg.length cl] 60)
              replace H38 := Lib.hid (own_up H38.out ux)
              replace HU := Lib.hid (HU.out.trans ux)
              clear ux
              generalize w10.alloc (.cells #[.slice Al lg.length cl] 60) = w16 at *
              generalize w10.heap.size = b44 at *
              refine hWalk_one (i := 17) (by kernel_rfl) ?_
              · refine next_mk rfl (by rfl) (fun K hK => ?_)
                go_simp; refine (concatQ_one b44 Al lg.length cl lg w16 H44.out (RW.out.up HU.out) (by omega)).mono ?_; rintro x w17 ⟨A45, c45, rfl, _, _, _, ho, ux⟩; refine hK _ _ ⟨BH.out.up (HU.out.trans ux), B3.out.up (HU.out.trans ux), ((HU.out.trans ux).cells _ _ LBL.out).trans LC.out, Nat.lt_of_lt_of_le LBL.out (HU.out.trans ux).size⟩ ?_; clear hK K H44
                have H45 := Lib.hid (own_mono ho HU.out.size)
                replace H38 := Lib.hid (own_up H38.out ux)
                replace HU := Lib.hid (HU.out.trans ux)
                clear ux ho; refine hWalk_take 18 (by kernel_rfl) rfl (by rfl) ?_; apply Exists.intro; refine ⟨fun w1 hS1 => ?_, ?_⟩
                · clear hS1
                  go_simp
                  try rfl
                go_simp; refine hWalk_one (i := 19) (by kernel_rfl) ?_
                · refine next_mk rfl (by rfl) (fun K hK => ?_)
                  go_simp; refine hK _ _ ⟨BH.out.up (HU.out.alloc _), B3.out.up (HU.out.alloc _), ((HU.out.alloc _).cells _ _ LBL.out).trans LC.out, Nat.lt_of_lt_of_le LBL.out (HU.out.alloc _).size⟩ ?_; clear hK K
                  have ux := (Up.refl w17).alloc (.cells #[.int .i64 z0, .int .i64 z1, .int .i64 z2, .slice A38 wt.length c38, .slice A45 lg.length c45] 208)
                  have hB := Lib.hid (show (w17.alloc (.cells #[.int .i64 z0, .int .i64 z1, .int .i64 z2, .slice A38 wt.length c38, .slice A45 lg.length c45] 208)).heap[w17.heap.size]? = some (.cells (⟨z0, z1, z2, A38, wt.length, c38, A45, lg.length, c45⟩ : Cd).c5.toArray 208 (0, 0)) from heap_alloc_new _ _)
                  have hW := Lib.hid (show CdW (w17.alloc (.cells #[.int .i64 z0, .int .i64 z1, .int .i64 z2, .slice A38 wt.length c38, .slice A45 lg.length c45] 208)) W0.heap.size lg wt (⟨z0, z1, z2, A38, wt.length, c38, A45, lg.length, c45⟩ : Cd) from CdW.up ⟨H38.out, H45.out⟩ ux)
                  replace HU := Lib.hid (HU.out.trans ux)
                  clear ux H38 H45
                  generalize w17.alloc (.cells #[.int .i64 z0, .int .i64 z1, .int .i64 z2, .slice A38 wt.length c38, .slice A45 lg.length c45] 208) = w19 at *
                  generalize w17.heap.size = b47 at *
                  refine hWalk_list #[true, true, true, true, true, true, true, true, true, true, true, true, true, true, true, true, true, true, true, true, false, false, false, false] (by kernel_rfl) ?_
                  exact TAIL _ _ ⟨b37, b44, b47, A38, c38, A45, c45, rfl, HU, hB, hW⟩
          · refine next_mk rfl (by rfl) (fun K hK => ?_)
            go_simp; refine hK _ _ ⟨BH.out.up (HU.out.alloc _), B3.out.up (HU.out.alloc _), ((HU.out.alloc _).cells _ _ LBL.out).trans LC.out, Nat.lt_of_lt_of_le LBL.out (HU.out.alloc _).size⟩ ?_; clear hK K
            have H44 := Lib.hid (Blk.new w9 #[.slice Al lg.length cl] 60)
            have ux := (Up.refl w9).alloc (.cells #[.slice Al lg.length cl] 60)
            replace H37 := Lib.hid (H37.out.up ux)
            replace HU := Lib.hid (HU.out.trans ux)
            clear ux
            generalize w9.alloc (.cells #[.slice Al lg.length cl] 60) = w16 at *
            generalize w9.heap.size = b44 at *
            refine hWalk_one (i := 10) (by kernel_rfl) ?_
            · refine next_mk rfl (by rfl) (fun K hK => ?_)
              go_simp; refine (concatE_one b37 Aw wt.length cw wt w16 H37.out (EW.out.up HU.out) (by omega)).mono ?_; rintro x w10 ⟨A38, c38, rfl, _, _, _, ho, ux⟩; refine hK _ _ ⟨BH.out.up (HU.out.trans ux), B3.out.up (HU.out.trans ux), ((HU.out.trans ux).cells _ _ LBL.out).trans LC.out, Nat.lt_of_lt_of_le LBL.out (HU.out.trans ux).size⟩ ?_; clear hK K H37
              have H38 := Lib.hid (own_mono ho HU.out.size)
              replace H44 := Lib.hid (H44.out.up ux)
              replace HU := Lib.hid (HU.out.trans ux)
              clear ux ho; refine hWalk_one (i := 17) (by kernel_rfl) ?_
              · refine next_mk rfl (by rfl) (fun K hK => ?_)
                go_simp; refine (concatQ_one b44 Al lg.length cl lg w10 H44.out (RW.out.up HU.out) (by omega)).mono ?_; rintro x w17 ⟨A45, c45, rfl, _, _, _, ho, ux⟩; refine hK _ _ ⟨BH.out.up (HU.out.trans ux), B3.out.up (HU.out.trans ux), ((HU.out.trans ux).cells _ _ LBL.out).trans LC.out, Nat.lt_of_lt_of_le LBL.out (HU.out.trans ux).size⟩ ?_; clear hK K H44
                have H45 := Lib.hid (own_mono ho HU.out.size)
                replace H38 := Lib.hid (own_up H38.out ux)
                replace HU := Lib.hid (HU.out.trans ux)
                clear ux ho; refine hWalk_take 18 (by kernel_rfl) rfl (by rfl) ?_; apply Exists.intro; refine ⟨fun w1 hS1 => ?_, ?_⟩
                · clear hS1
                  go_simp
                  try rfl
                go_simp; refine hWalk_one (i := 19) (by kernel_rfl) ?_
                · refine next_mk rfl (by rfl) (fun K hK => ?_)
                  go_simp; refine hK _ _ ⟨BH.out.up (HU.out.alloc _), B3.out.up (HU.out.alloc _), ((HU.out.alloc _).cells _ _ LBL.out).trans LC.out, Nat.lt_of_lt_of_le LBL.out (HU.out.alloc _).size⟩ ?_; clear hK K
                  have ux := (Up.refl w17).alloc (.cells #[.int .i64 z0, .int .i64 z1, .int .i64 z2, .slice A38 wt.length c38, .slice A45 lg.length c45] 208)
                  have hB := Lib.hid (show (w17.alloc (.cells #[.int .i64 z0, .int .i64 z1, .int .i64 z2, .slice A38 wt.length c38, .slice A45 lg.length c45] 208)).heap[w17.heap.size]? = some (.cells (⟨z0, z1, z2, A38, wt.length, c38, A45, lg.length, c45⟩ : Cd).c5.toArray 208 (0, 0)) from heap_alloc_new _ _)
                  have hW := Lib.hid (show CdW (w17.alloc (.cells #[.int .i64 z0, .int .i64 z1, .int .i64 z2, .slice A38 wt.length c38, .slice A45 lg.length c45] 208)) W0.heap.size lg wt (⟨z0, z1, z2, A38, wt.length, c38, A45, lg.length, c45⟩ : Cd) from CdW.up ⟨H38.out, H45.out⟩ ux)
                  replace HU := Lib.hid (HU.out.trans ux)
                  clear ux H38 H45
                  generalize w17.alloc (.cells #[.int .i64 z0, .int .i64 z1, .int .i64 z2, .slice A38 wt.length c38, .slice A45 lg.length c45] 208) = w19 at *
                  generalize w17.heap.size = b47 at *
                  refine hWalk_list #[true, true, true, true, true, true, true, true, true, true, true, true, true, true, true, true, true, true, true, true, false, false, false, false] (by kernel_rfl) ?_
                  exact TAIL _ _ ⟨b37, b44, b47, A38, c38, A45, c45, rfl, HU, hB, hW⟩
        · refine next_mk rfl (by rfl) (fun K hK => ?_)
          go_simp; refine hK _ _ ⟨BH.out.up (HU.out.alloc _), B3.out.up (HU.out.alloc _), ((HU.out.alloc _).cells _ _ LBL.out).trans LC.out, Nat.lt_of_lt_of_le LBL.out (HU.out.alloc _).size⟩ ?_; clear hK K
          have H44 := Lib.hid (Blk.new wd #[.slice Al lg.length cl] 60)
          have ux := (Up.refl wd).alloc (.cells #[.slice Al lg.length cl] 60)
          replace HU := Lib.hid (HU.out.trans ux)
          clear ux
          generalize wd.alloc (.cells #[.slice Al lg.length cl] 60) = w16 at *
          generalize wd.heap.size = b44 at *
          refine hWalk_one (i := 9) (by kernel_rfl) ?_
          · refine next_mk rfl (by rfl) (fun K hK => ?_)
            go_simp; refine hK _ _ ⟨BH.out.up (HU.out.alloc _), B3.out.up (HU.out.alloc _), ((HU.out.alloc _).cells _ _ LBL.out).trans LC.out, Nat.lt_of_lt_of_le LBL.out (HU.out.alloc _).size⟩ ?_; clear hK K
            have H37 := Lib.hid (Blk.new w16 #[.slice Aw wt.length cw] 34)
            have ux := (Up.refl w16).alloc (.cells #[.slice Aw wt.length cw] 34)
            replace H44 := Lib.hid (H44.out.up ux)
            replace HU := Lib.hid (HU.out.trans ux)
            clear ux
            generalize w16.alloc (.cells #[.slice Aw wt.length cw] 34) = w9 at *
            generalize w16.heap.size = b37 at *
            refine hWalk_one (i := 10) (by kernel_rfl) ?_
            · refine next_mk rfl (by rfl) (fun K hK => ?_)
              go_simp; refine (concatE_one b37 Aw wt.length cw wt w9 H37.out (EW.out.up HU.out) (by omega)).mono ?_; rintro x w10 ⟨A38, c38, rfl, _, _, _, ho, ux⟩; refine hK _ _ ⟨BH.out.up (HU.out.trans ux), B3.out.up (HU.out.trans ux), ((HU.out.trans ux).cells _ _ LBL.out).trans LC.out, Nat.lt_of_lt_of_le LBL.out (HU.out.trans ux).size⟩ ?_; clear hK K H37
              have H38 := Lib.hid (own_mono ho HU.out.size)
              replace H44 := Lib.hid (H44.out.up ux)
              replace HU := Lib.hid (HU.out.trans ux)
              clear ux ho; refine hWalk_one (i := 17) (by kernel_rfl) ?_
              · refine next_mk rfl (by rfl) (fun K hK => ?_)
                go_simp; refine (concatQ_one b44 Al lg.length cl lg w10 H44.out (RW.out.up HU.out) (by omega)).mono ?_; rintro x w17 ⟨A45, c45, rfl, _, _, _, ho, ux⟩; refine hK _ _ ⟨BH.out.up (HU.out.trans ux), B3.out.up (HU.out.trans ux), ((HU.out.trans ux).cells _ _ LBL.out).trans LC.out, Nat.lt_of_lt_of_le LBL.out (HU.out.trans ux).size⟩ ?_; clear hK K H44
                have H45 := Lib.hid (own_mono ho HU.out.size)
                replace H38 := Lib.hid (own_up H38.out ux)
                replace HU := Lib.hid (HU.out.trans ux)
                clear ux ho; refine hWalk_take 18 (by kernel_rfl) rfl (by rfl) ?_; apply Exists.intro; refine ⟨fun w1 hS1 => ?_, ?_⟩
                · clear hS1
                  go_simp
                  try rfl
                go_simp; refine hWalk_one (i := 19) (by kernel_rfl) ?_
                · refine next_mk rfl (by rfl) (fun K hK => ?_)
                  go_simp; refine hK _ _ ⟨BH.out.up (HU.out.alloc _), B3.out.up (HU.out.alloc _), ((HU.out.alloc _).cells _ _ LBL.out).trans LC.out, Nat.lt_of_lt_of_le LBL.out (HU.out.alloc _).size⟩ ?_; clear hK K
                  have ux := (Up.refl w17).alloc (.cells #[.int .i64 z0, .int .i64 z1, .int .i64 z2, .slice A38 wt.length c38, .slice A45 lg.length c45] 208)
                  have hB := Lib.hid (show (w17.alloc (.cells #[.int .i64 z0, .int .i64 z1, .int .i64 z2, .slice A38 wt.length c38, .slice A45 lg.length c45] 208)).heap[w17.heap.size]? = some (.cells (⟨z0, z1, z2, A38, wt.length, c38, A45, lg.length, c45⟩ : Cd).c5.toArray 208 (0, 0)) from heap_alloc_new _ _)
                  have hW := Lib.hid (show CdW (w17.alloc (.cells #[.int .i64 z0, .int .i64 z1, .int .i64 z2, .slice A38 wt.length c38, .slice A45 lg.length c45] 208)) W0.heap.size lg wt (⟨z0, z1, z2, A38, wt.length, c38, A45, lg.length, c45⟩ : Cd) from CdW.up ⟨H38.out, H45.out⟩ ux)
                  replace HU := Lib.hid (HU.out.trans ux)
                  clear ux H38 H45
                  generalize w17.alloc (.cells #[.int .i64 z0, .int .i64 z1, .int .i64 z2, .slice A38 wt.length c38, .slice A45 lg.length c45] 208) = w19 at *
                  generalize w17.heap.size = b47 at *
                  refine hWalk_list #[true, true, true, true, true, true, true, true, true, true, true, true, true, true, true, true, true, true, true, true, false, false, false, false] (by kernel_rfl) ?_
                  exact TAIL _ _ ⟨b37, b44, b47, A38, c38, A45, c45, rfl, HU, hB, hW⟩
      · refine next_mk rfl (by rfl) (fun K hK => ?_)
        go_simp; refine hK _ _ ⟨BH.out.up (HU.out.alloc _), B3.out.up (HU.out.alloc _), ((HU.out.alloc _).cells _ _ LBL.out).trans LC.out, Nat.lt_of_lt_of_le LBL.out (HU.out.alloc _).size⟩ ?_; clear hK K
        have H37 := Lib.hid (Blk.new wd #[.slice Aw wt.length cw] 34)
        have ux := (Up.refl wd).alloc (.cells #[.slice Aw wt.length cw] 34)
        replace HU := Lib.hid (HU.out.trans ux)
        clear ux
        generalize wd.alloc (.cells #[.slice Aw wt.length cw] 34) = w9 at *
        generalize wd.heap.size = b37 at *
        refine hWalk_three (i := 4) (j := 10) (m := 16) (by kernel_rfl) ?_ ?_ ?_
        · refine next_mk rfl (by rfl) (fun K hK => ?_)
          have y3 := (CB.out.up HU.out).c3
          have ly := (CB.out.up HU.out).lt
          go_simp; refine hK _ _ ⟨BH.out.up (HU.out), B3.out.up (HU.out), ((HU.out).cells _ _ LBL.out).trans LC.out, Nat.lt_of_lt_of_le LBL.out (HU.out).size⟩ ?_; clear hK K y3 ly; refine hWalk_two (i := 10) (j := 16) (by kernel_rfl) ?_ ?_
          · refine next_mk rfl (by rfl) (fun K hK => ?_)
            go_simp; refine (concatE_one b37 Aw wt.length cw wt w9 H37.out (EW.out.up HU.out) (by omega)).mono ?_; rintro x w10 ⟨A38, c38, rfl, _, _, _, ho, ux⟩; refine hK _ _ ⟨BH.out.up (HU.out.trans ux), B3.out.up (HU.out.trans ux), ((HU.out.trans ux).cells _ _ LBL.out).trans LC.out, Nat.lt_of_lt_of_le LBL.out (HU.out.trans ux).size⟩ ?_; clear hK K H37
            have H38 := Lib.hid (own_mono ho HU.out.size)
            replace HU := Lib.hid (HU.out.trans ux)
            clear ux ho; refine hWalk_one (i := 16) (by kernel_rfl) ?_
            · refine next_mk rfl (by rfl) (fun K hK => ?_)
              go_simp; refine hK _ _ ⟨BH.out.up (HU.out.alloc _), B3.out.up (HU.out.alloc _), ((HU.out.alloc _).cells _ _ LBL.out).trans LC.out, Nat.lt_of_lt_of_le LBL.out (HU.out.alloc _).size⟩ ?_; clear hK K
              have H44 := Lib.hid (Blk.new w10 #[.slice Al lg.length cl] 60)
              have ux := (Up.refl w10).alloc (.cells #[.slice Al lg.length cl] 60)
              replace H38 := Lib.hid (own_up H38.out ux)
              replace HU := Lib.hid (HU.out.trans ux)
              clear ux
              generalize w10.alloc (.cells #[.slice Al lg.length cl] 60) = w16 at *
              generalize w10.heap.size = b44 at *
              refine hWalk_one (i := 17) (by kernel_rfl) ?_
              · refine next_mk rfl (by rfl) (fun K hK => ?_)
                go_simp; refine (concatQ_one b44 Al lg.length cl lg w16 H44.out (RW.out.up HU.out) (by omega)).mono ?_; rintro x w17 ⟨A45, c45, rfl, _, _, _, ho, ux⟩; refine hK _ _ ⟨BH.out.up (HU.out.trans ux), B3.out.up (HU.out.trans ux), ((HU.out.trans ux).cells _ _ LBL.out).trans LC.out, Nat.lt_of_lt_of_le LBL.out (HU.out.trans ux).size⟩ ?_; clear hK K H44
                have H45 := Lib.hid (own_mono ho HU.out.size)
                replace H38 := Lib.hid (own_up H38.out ux)
                replace HU := Lib.hid (HU.out.trans ux)
                clear ux ho; refine hWalk_take 18 (by kernel_rfl) rfl (by rfl) ?_; apply Exists.intro; refine ⟨fun w1 hS1 => ?_, ?_⟩
                · clear hS1
                  go_simp
                  try rfl
                go_simp; refine hWalk_one (i := 19) (by kernel_rfl) ?_
                · refine next_mk rfl (by rfl) (fun K hK => ?_)
                  go_simp; refine hK _ _ ⟨BH.out.up (HU.out.alloc _), B3.out.up (HU.out.alloc _), ((HU.out.alloc _).cells _ _ LBL.out).trans LC.out, Nat.lt_of_lt_of_le LBL.out (HU.out.alloc _).size⟩ ?_; clear hK K
                  have ux := (Up.refl w17).alloc (.cells #[.int .i64 z0, .int .i64 z1, .int .i64 z2, .slice A38 wt.length c38, .slice A45 lg.length c45] 208)
                  have hB := Lib.hid (show (w17.alloc (.cells #[.int .i64 z0, .int .i64 z1, .int .i64 z2, .slice A38 wt.length c38, .slice A45 lg.length c45] 208)).heap[w17.heap.size]? = some (.cells (⟨z0, z1, z2, A38, wt.length, c38, A45, lg.length, c45⟩ : Cd).c5.toArray 208 (0, 0)) from heap_alloc_new _ _)
                  have hW := Lib.hid (show CdW (w17.alloc (.cells #[.int .i64 z0, .int .i64 z1, .int .i64 z2, .slice A38 wt.length c38, .slice A45 lg.length c45] 208)) W0.heap.size lg wt (⟨z0, z1, z2, A38, wt.length, c38, A45, lg.length, c45⟩ : Cd) from CdW.up ⟨H38.out, H45.out⟩ ux)
                  replace HU := Lib.hid (HU.out.trans ux)
                  clear ux H38 H45
                  generalize w17.alloc (.cells #[.int .i64 z0, .int .i64 z1, .int .i64 z2, .slice A38 wt.length c38, .slice A45 lg.length c45] 208) = w19 at *
                  generalize w17.heap.size = b47 at *
                  refine hWalk_list #[true, true, true, true, true, true, true, true, true, true, true, true, true, true, true, true, true, true, true, true, false, false, false, false] (by kernel_rfl) ?_
                  exact TAIL _ _ ⟨b37, b44, b47, A38, c38, A45, c45, rfl, HU, hB, hW⟩
          · refine next_mk rfl (by rfl) (fun K hK => ?_)
            go_simp; refine hK _ _ ⟨BH.out.up (HU.out.alloc _), B3.out.up (HU.out.alloc _), ((HU.out.alloc _).cells _ _ LBL.out).trans LC.out, Nat.lt_of_lt_of_le LBL.out (HU.out.alloc _).size⟩ ?_; clear hK K
            have H44 := Lib.hid (Blk.new w9 #[.slice Al lg.length cl] 60)
            have ux := (Up.refl w9).alloc (.cells #[.slice Al lg.length cl] 60)
            replace H37 := Lib.hid (H37.out.up ux)
            replace HU := Lib.hid (HU.out.trans ux)
            clear ux
            generalize w9.alloc (.cells #[.slice Al lg.length cl] 60) = w16 at *
            generalize w9.heap.size = b44 at *
            refine hWalk_one (i := 10) (by kernel_rfl) ?_
            · refine next_mk rfl (by rfl) (fun K hK => ?_)
              go_simp; refine (concatE_one b37 Aw wt.length cw wt w16 H37.out (EW.out.up HU.out) (by omega)).mono ?_; rintro x w10 ⟨A38, c38, rfl, _, _, _, ho, ux⟩; refine hK _ _ ⟨BH.out.up (HU.out.trans ux), B3.out.up (HU.out.trans ux), ((HU.out.trans ux).cells _ _ LBL.out).trans LC.out, Nat.lt_of_lt_of_le LBL.out (HU.out.trans ux).size⟩ ?_; clear hK K H37
              have H38 := Lib.hid (own_mono ho HU.out.size)
              replace H44 := Lib.hid (H44.out.up ux)
              replace HU := Lib.hid (HU.out.trans ux)
              clear ux ho; refine hWalk_one (i := 17) (by kernel_rfl) ?_
              · refine next_mk rfl (by rfl) (fun K hK => ?_)
                go_simp; refine (concatQ_one b44 Al lg.length cl lg w10 H44.out (RW.out.up HU.out) (by omega)).mono ?_; rintro x w17 ⟨A45, c45, rfl, _, _, _, ho, ux⟩; refine hK _ _ ⟨BH.out.up (HU.out.trans ux), B3.out.up (HU.out.trans ux), ((HU.out.trans ux).cells _ _ LBL.out).trans LC.out, Nat.lt_of_lt_of_le LBL.out (HU.out.trans ux).size⟩ ?_; clear hK K H44
                have H45 := Lib.hid (own_mono ho HU.out.size)
                replace H38 := Lib.hid (own_up H38.out ux)
                replace HU := Lib.hid (HU.out.trans ux)
                clear ux ho; refine hWalk_take 18 (by kernel_rfl) rfl (by rfl) ?_; apply Exists.intro; refine ⟨fun w1 hS1 => ?_, ?_⟩
                · clear hS1
                  go_simp
                  try rfl
                go_simp; refine hWalk_one (i := 19) (by kernel_rfl) ?_
                · refine next_mk rfl (by rfl) (fun K hK => ?_)
                  go_simp; refine hK _ _ ⟨BH.out.up (HU.out.alloc _), B3.out.up (HU.out.alloc _), ((HU.out.alloc _).cells _ _ LBL.out).trans LC.out, Nat.lt_of_lt_of_le LBL.out (HU.out.alloc _).size⟩ ?_; clear hK K
                  have ux := (Up.refl w17).alloc (.cells #[.int .i64 z0, .int .i64 z1, .int .i64 z2, .slice A38 wt.length c38, .slice A45 lg.length c45] 208)
                  have hB := Lib.hid (show (w17.alloc (.cells #[.int .i64 z0, .int .i64 z1, .int .i64 z2, .slice A38 wt.length c38, .slice A45 lg.length c45] 208)).heap[w17.heap.size]? = some (.cells (⟨z0, z1, z2, A38, wt.length, c38, A45, lg.length, c45⟩ : Cd).c5.toArray 208 (0, 0)) from heap_alloc_new _ _)
                  have hW := Lib.hid (show CdW (w17.alloc (.cells #[.int .i64 z0, .int .i64 z1, .int .i64 z2, .slice A38 wt.length c38, .slice A45 lg.length c45] 208)) W0.heap.size lg wt (⟨z0, z1, z2, A38, wt.length, c38, A45, lg.length, c45⟩ : Cd) from CdW.up ⟨H38.out, H45.out⟩ ux)
                  replace HU := Lib.hid (HU.out.trans ux)
                  clear ux H38 H45
                  generalize w17.alloc (.cells #[.int .i64 z0, .int .i64 z1, .int .i64 z2, .slice A38 wt.length c38, .slice A45 lg.length c45] 208) = w19 at *
                  generalize w17.heap.size = b47 at *
                  refine hWalk_list #[true, true, true, true, true, true, true, true, true, true, true, true, true, true, true, true, true, true, true, true, false, false, false, false] (by kernel_rfl) ?_
                  exact TAIL _ _ ⟨b37, b44, b47, A38, c38, A45, c45, rfl, HU, hB, hW⟩
        · refine next_mk rfl (by rfl) (fun K hK => ?_)
          go_simp; refine (concatE_one b37 Aw wt.length cw wt w9 H37.out (EW.out.up HU.out) (by omega)).mono ?_; rintro x w10 ⟨A38, c38, rfl, _, _, _, ho, ux⟩; refine hK _ _ ⟨BH.out.up (HU.out.trans ux), B3.out.up (HU.out.trans ux), ((HU.out.trans ux).cells _ _ LBL.out).trans LC.out, Nat.lt_of_lt_of_le LBL.out (HU.out.trans ux).size⟩ ?_; clear hK K H37
          have H38 := Lib.hid (own_mono ho HU.out.size)
          replace HU := Lib.hid (HU.out.trans ux)
          clear ux ho; refine hWalk_two (i := 4) (j := 16) (by kernel_rfl) ?_ ?_
          · refine next_mk rfl (by rfl) (fun K hK => ?_)
            have y3 := (CB.out.up HU.out).c3
            have ly := (CB.out.up HU.out).lt
            go_simp; refine hK _ _ ⟨BH.out.up (HU.out), B3.out.up (HU.out), ((HU.out).cells _ _ LBL.out).trans LC.out, Nat.lt_of_lt_of_le LBL.out (HU.out).size⟩ ?_; clear hK K y3 ly; refine hWalk_one (i := 16) (by kernel_rfl) ?_
            · refine next_mk rfl (by rfl) (fun K hK => ?_)
              go_simp; refine hK _ _ ⟨BH.out.up (HU.out.alloc _), B3.out.up (HU.out.alloc _), ((HU.out.alloc _).cells _ _ LBL.out).trans LC.out, Nat.lt_of_lt_of_le LBL.out (HU.out.alloc _).size⟩ ?_; clear hK K
              have H44 := Lib.hid (Blk.new w10 #[.slice Al lg.length cl] 60)
              have ux := (Up.refl w10).alloc (.cells #[.slice Al lg.length cl] 60)
              replace H38 := Lib.hid (own_up H38.out ux)
              replace HU := Lib.hid (HU.out.trans ux)
              clear ux
              generalize w10.alloc (.cells #[.slice Al lg.length cl] 60) = w16 at *
              generalize w10.heap.size = b44 at *
              refine hWalk_one (i := 17) (by kernel_rfl) ?_
              · refine next_mk rfl (by rfl) (fun K hK => ?_)
                go_simp; refine (concatQ_one b44 Al lg.length cl lg w16 H44.out (RW.out.up HU.out) (by omega)).mono ?_; rintro x w17 ⟨A45, c45, rfl, _, _, _, ho, ux⟩; refine hK _ _ ⟨BH.out.up (HU.out.trans ux), B3.out.up (HU.out.trans ux), ((HU.out.trans ux).cells _ _ LBL.out).trans LC.out, Nat.lt_of_lt_of_le LBL.out (HU.out.trans ux).size⟩ ?_; clear hK K H44
                have H45 := Lib.hid (own_mono ho HU.out.size)
                replace H38 := Lib.hid (own_up H38.out ux)
                replace HU := Lib.hid (HU.out.trans ux)
                clear ux ho; refine hWalk_take 18 (by kernel_rfl) rfl (by rfl) ?_; apply Exists.intro; refine ⟨fun w1 hS1 => ?_, ?_⟩
                · clear hS1
                  go_simp
                  try rfl
                go_simp; refine hWalk_one (i := 19) (by kernel_rfl) ?_
                · refine next_mk rfl (by rfl) (fun K hK => ?_)
                  go_simp; refine hK _ _ ⟨BH.out.up (HU.out.alloc _), B3.out.up (HU.out.alloc _), ((HU.out.alloc _).cells _ _ LBL.out).trans LC.out, Nat.lt_of_lt_of_le LBL.out (HU.out.alloc _).size⟩ ?_; clear hK K
                  have ux := (Up.refl w17).alloc (.cells #[.int .i64 z0, .int .i64 z1, .int .i64 z2, .slice A38 wt.length c38, .slice A45 lg.length c45] 208)
                  have hB := Lib.hid (show (w17.alloc (.cells #[.int .i64 z0, .int .i64 z1, .int .i64 z2, .slice A38 wt.length c38, .slice A45 lg.length c45] 208)).heap[w17.heap.size]? = some (.cells (⟨z0, z1, z2, A38, wt.length, c38, A45, lg.length, c45⟩ : Cd).c5.toArray 208 (0, 0)) from heap_alloc_new _ _)
                  have hW := Lib.hid (show CdW (w17.alloc (.cells #[.int .i64 z0, .int .i64 z1, .int .i64 z2, .slice A38 wt.length c38, .slice A45 lg.length c45] 208)) W0.heap.size lg wt (⟨z0, z1, z2, A38, wt.length, c38, A45, lg.length, c45⟩ : Cd) from CdW.up ⟨H38.out, H45.out⟩ ux)
                  replace HU := Lib.hid (HU.out.trans ux)
                  clear ux H38 H45
                  generalize w17.alloc (.cells #[.int .i64 z0, .int .i64 z1, .int .i64 z2, .slice A38 wt.length c38, .slice A45 lg.length c45] 208) = w19 at *
                  generalize w17.heap.size = b47 at *
                  refine hWalk_list #[true, true, true, true, true, true, true, true, true, true, true, true, true, true, true, true, true, true, true, true, false, false, false, false] (by kernel_rfl) ?_
                  exact TAIL _ _ ⟨b37, b44, b47, A38, c38, A45, c45, rfl, HU, hB, hW⟩
          · refine next_mk rfl (by rfl) (fun K hK => ?_)
            go_simp; refine hK _ _ ⟨BH.out.up (HU.out.alloc _), B3.out.up (HU.out.alloc _), ((HU.out.alloc _).cells _ _ LBL.out).trans LC.out, Nat.lt_of_lt_of_le LBL.out (HU.out.alloc _).size⟩ ?_; clear hK K
            have H44 := Lib.hid (Blk.new w10 #[.slice Al lg.length cl] 60)
            have ux := (Up.refl w10).alloc (.cells #[.slice Al lg.length cl] 60)
            replace H38 := Lib.hid (own_up H38.out ux)
            replace HU := Lib.hid (HU.out.trans ux)
            clear ux
            generalize w10.alloc (.cells #[.slice Al lg.length cl] 60) = w16 at *
            generalize w10.heap.size = b44 at *
            refine hWalk_two (i := 4) (j := 17) (by kernel_rfl) ?_ ?_
            · refine next_mk rfl (by rfl) (fun K hK => ?_)
              have y3 := (CB.out.up HU.out).c3
              have ly := (CB.out.up HU.out).lt
              go_simp; refine hK _ _ ⟨BH.out.up (HU.out), B3.out.up (HU.out), ((HU.out).cells _ _ LBL.out).trans LC.out, Nat.lt_of_lt_of_le LBL.out (HU.out).size⟩ ?_; clear hK K y3 ly; refine hWalk_one (i := 17) (by kernel_rfl) ?_
              · refine next_mk rfl (by rfl) (fun K hK => ?_)
                go_simp; refine (concatQ_one b44 Al lg.length cl lg w16 H44.out (RW.out.up HU.out) (by omega)).mono ?_; rintro x w17 ⟨A45, c45, rfl, _, _, _, ho, ux⟩; refine hK _ _ ⟨BH.out.up (HU.out.trans ux), B3.out.up (HU.out.trans ux), ((HU.out.trans ux).cells _ _ LBL.out).trans LC.out, Nat.lt_of_lt_of_le LBL.out (HU.out.trans ux).size⟩ ?_; clear hK K H44
                have H45 := Lib.hid (own_mono ho HU.out.size)
                replace H38 := Lib.hid (own_up H38.out ux)
                replace HU := Lib.hid (HU.out.trans ux)
                clear ux ho; refine hWalk_take 18 (by kernel_rfl) rfl (by rfl) ?_; apply Exists.intro; refine ⟨fun w1 hS1 => ?_, ?_⟩
                · clear hS1
                  go_simp
                  try rfl
                go_simp; refine hWalk_one (i := 19) (by kernel_rfl) ?_
                · refine next_mk rfl (by rfl) (fun K hK => ?_)
                  go_simp; refine hK _ _ ⟨BH.out.up (HU.out.alloc _), B3.out.up (HU.out.alloc _), ((HU.out.alloc _).cells _ _ LBL.out).trans LC.out, Nat.lt_of_lt_of_le LBL.out (HU.out.alloc _).size⟩ ?_; clear hK K
                  have ux := (Up.refl w17).alloc (.cells #[.int .i64 z0, .int .i64 z1, .int .i64 z2, .slice A38 wt.length c38, .slice A45 lg.length c45] 208)
                  have hB := Lib.hid (show (w17.alloc (.cells #[.int .i64 z0, .int .i64 z1, .int .i64 z2, .slice A38 wt.length c38, .slice A45 lg.length c45] 208)).heap[w17.heap.size]? = some (.cells (⟨z0, z1, z2, A38, wt.length, c38, A45, lg.length, c45⟩ : Cd).c5.toArray 208 (0, 0)) from heap_alloc_new _ _)
                  have hW := Lib.hid (show CdW (w17.alloc (.cells #[.int .i64 z0, .int .i64 z1, .int .i64 z2, .slice A38 wt.length c38, .slice A45 lg.length c45] 208)) W0.heap.size lg wt (⟨z0, z1, z2, A38, wt.length, c38, A45, lg.length, c45⟩ : Cd) from CdW.up ⟨H38.out, H45.out⟩ ux)
                  replace HU := Lib.hid (HU.out.trans ux)
                  clear ux H38 H45
                  generalize w17.alloc (.cells #[.int .i64 z0, .int .i64 z1, .int .i64 z2, .slice A38 wt.length c38, .slice A45 lg.length c45] 208) = w19 at *
                  generalize w17.heap.size = b47 at *
                  refine hWalk_list #[true, true, true, true, true, true, true, true, true, true, true, true, true, true, true, true, true, true, true, true, false, false, false, false] (by kernel_rfl) ?_
                  exact TAIL _ _ ⟨b37, b44, b47, A38, c38, A45, c45, rfl, HU, hB, hW⟩
            · refine next_mk rfl (by rfl) (fun K hK => ?_)
              go_simp; refine (concatQ_one b44 Al lg.length cl lg w16 H44.out (RW.out.up HU.out) (by omega)).mono ?_; rintro x w17 ⟨A45, c45, rfl, _, _, _, ho, ux⟩; refine hK _ _ ⟨BH.out.up (HU.out.trans ux), B3.out.up (HU.out.trans ux), ((HU.out.trans ux).cells _ _ LBL.out).trans LC.out, Nat.lt_of_lt_of_le LBL.out (HU.out.trans ux).size⟩ ?_; clear hK K H44
              have H45 := Lib.hid (own_mono ho HU.out.size)
              replace H38 := Lib.hid (own_up H38.out ux)
              replace HU := Lib.hid (HU.out.trans ux)
              clear ux ho; refine hWalk_take 18 (by kernel_rfl) rfl (by rfl) ?_; apply Exists.intro; refine ⟨fun w1 hS1 => ?_, ?_⟩
              · clear hS1
                go_simp
                try rfl
              go_simp; refine hWalk_two (i := 4) (j := 19) (by kernel_rfl) ?_ ?_
              · refine next_mk rfl (by rfl) (fun K hK => ?_)
                have y3 := (CB.out.up HU.out).c3
                have ly := (CB.out.up HU.out).lt
                go_simp; refine hK _ _ ⟨BH.out.up (HU.out), B3.out.up (HU.out), ((HU.out).cells _ _ LBL.out).trans LC.out, Nat.lt_of_lt_of_le LBL.out (HU.out).size⟩ ?_; clear hK K y3 ly; refine hWalk_one (i := 19) (by kernel_rfl) ?_
                · refine next_mk rfl (by rfl) (fun K hK => ?_)
                  go_simp; refine hK _ _ ⟨BH.out.up (HU.out.alloc _), B3.out.up (HU.out.alloc _), ((HU.out.alloc _).cells _ _ LBL.out).trans LC.out, Nat.lt_of_lt_of_le LBL.out (HU.out.alloc _).size⟩ ?_; clear hK K
                  have ux := (Up.refl w17).alloc (.cells #[.int .i64 z0, .int .i64 z1, .int .i64 z2, .slice A38 wt.length c38, .slice A45 lg.length c45] 208)
                  have hB := Lib.hid (show (w17.alloc (.cells #[.int .i64 z0, .int .i64 z1, .int .i64 z2, .slice A38 wt.length c38, .slice A45 lg.length c45] 208)).heap[w17.heap.size]? = some (.cells (⟨z0, z1, z2, A38, wt.length, c38, A45, lg.length, c45⟩ : Cd).c5.toArray 208 (0, 0)) from heap_alloc_new _ _)
                  have hW := Lib.hid (show CdW (w17.alloc (.cells #[.int .i64 z0, .int .i64 z1, .int .i64 z2, .slice A38 wt.length c38, .slice A45 lg.length c45] 208)) W0.heap.size lg wt (⟨z0, z1, z2, A38, wt.length, c38, A45, lg.length, c45⟩ : Cd) from CdW.up ⟨H38.out, H45.out⟩ ux)
                  replace HU := Lib.hid (HU.out.trans ux)
                  clear ux H38 H45
                  generalize w17.alloc (.cells #[.int .i64 z0, .int .i64 z1, .int .i64 z2, .slice A38 wt.length c38, .slice A45 lg.length c45] 208) = w19 at *
                  generalize w17.heap.size = b47 at *
                  refine hWalk_list #[true, true, true, true, true, true, true, true, true, true, true, true, true, true, true, true, true, true, true, true, false, false, false, false] (by kernel_rfl) ?_
                  exact TAIL _ _ ⟨b37, b44, b47, A38, c38, A45, c45, rfl, HU, hB, hW⟩
              · refine next_mk rfl (by rfl) (fun K hK => ?_)
                go_simp; refine hK _ _ ⟨BH.out.up (HU.out.alloc _), B3.out.up (HU.out.alloc _), ((HU.out.alloc _).cells _ _ LBL.out).trans LC.out, Nat.lt_of_lt_of_le LBL.out (HU.out.alloc _).size⟩ ?_; clear hK K
                have ux := (Up.refl w17).alloc (.cells #[.int .i64 z0, .int .i64 z1, .int .i64 z2, .slice A38 wt.length c38, .slice A45 lg.length c45] 208)
                have hB := Lib.hid (show (w17.alloc (.cells #[.int .i64 z0, .int .i64 z1, .int .i64 z2, .slice A38 wt.length c38, .slice A45 lg.length c45] 208)).heap[w17.heap.size]? = some (.cells (⟨z0, z1, z2, A38, wt.length, c38, A45, lg.length, c45⟩ : Cd).c5.toArray 208 (0, 0)) from heap_alloc_new _ _)
                have hW := Lib.hid (show CdW (w17.alloc (.cells #[.int .i64 z0, .int .i64 z1, .int .i64 z2, .slice A38 wt.length c38, .slice A45 lg.length c45] 208)) W0.heap.size lg wt (⟨z0, z1, z2, A38, wt.length, c38, A45, lg.length, c45⟩ : Cd) from CdW.up ⟨H38.out, H45.out⟩ ux)
                replace HU := Lib.hid (HU.out.trans ux)
                clear ux H38 H45
                generalize w17.alloc (.cells #[.int .i64 z0, .int .i64 z1, .int .i64 z2, .slice A38 wt.length c38, .slice A45 lg.length c45] 208) = w19 at *
                generalize w17.heap.size = b47 at *
                refine hWalk_one (i := 4) (by kernel_rfl) ?_
                · refine next_mk rfl (by rfl) (fun K hK => ?_)
                  have y3 := (CB.out.up HU.out).c3
                  have ly := (CB.out.up HU.out).lt
                  go_simp; refine hK _ _ ⟨BH.out.up (HU.out), B3.out.up (HU.out), ((HU.out).cells _ _ LBL.out).trans LC.out, Nat.lt_of_lt_of_le LBL.out (HU.out).size⟩ ?_; clear hK K y3 ly; refine hWalk_list #[true, true, true, true, true, true, true, true, true, true, true, true, true, true, true, true, true, true, true, true, false, false, false, false] (by kernel_rfl) ?_
                  exact TAIL _ _ ⟨b37, b44, b47, A38, c38, A45, c45, rfl, HU, hB, hW⟩
        · refine next_mk rfl (by rfl) (fun K hK => ?_)
          go_simp; refine hK _ _ ⟨BH.out.up (HU.out.alloc _), B3.out.up (HU.out.alloc _), ((HU.out.alloc _).cells _ _ LBL.out).trans LC.out, Nat.lt_of_lt_of_le LBL.out (HU.out.alloc _).size⟩ ?_; clear hK K
          have H44 := Lib.hid (Blk.new w9 #[.slice Al lg.length cl] 60)
          have ux := (Up.refl w9).alloc (.cells #[.slice Al lg.length cl] 60)
          replace H37 := Lib.hid (H37.out.up ux)
          replace HU := Lib.hid (HU.out.trans ux)
          clear ux
          generalize w9.alloc (.cells #[.slice Al lg.length cl] 60) = w16 at *
          generalize w9.heap.size = b44 at *
          refine hWalk_two (i := 4) (j := 10) (by kernel_rfl) ?_ ?_
          · refine next_mk rfl (by rfl) (fun K hK => ?_)
            have y3 := (CB.out.up HU.out).c3
            have ly := (CB.out.up HU.out).lt
            go_simp; refine hK _ _ ⟨BH.out.up (HU.out), B3.out.up (HU.out), ((HU.out).cells _ _ LBL.out).trans LC.out, Nat.lt_of_lt_of_le LBL.out (HU.out).size⟩ ?_; clear hK K y3 ly; refine hWalk_one (i := 10) (by kernel_rfl) ?_
            · refine next_mk rfl (by rfl) (fun K hK => ?_)
              go_simp; refine (concatE_one b37 Aw wt.length cw wt w16 H37.out (EW.out.up HU.out) (by omega)).mono ?_; rintro x w10 ⟨A38, c38, rfl, _, _, _, ho, ux⟩; refine hK _ _ ⟨BH.out.up (HU.out.trans ux), B3.out.up (HU.out.trans ux), ((HU.out.trans ux).cells _ _ LBL.out).trans LC.out, Nat.lt_of_lt_of_le LBL.out (HU.out.trans ux).size⟩ ?_; clear hK K H37
              have H38 := Lib.hid (own_mono ho HU.out.size)
              replace H44 := Lib.hid (H44.out.up ux)
              replace HU := Lib.hid (HU.out.trans ux)
              clear ux ho; refine hWalk_one (i := 17) (by kernel_rfl) ?_
              · refine next_mk rfl (by rfl) (fun K hK => ?_)
                go_simp; refine (concatQ_one b44 Al lg.length cl lg w10 H44.out (RW.out.up HU.out) (by omega)).mono ?_; rintro x w17 ⟨A45, c45, rfl, _, _, _, ho, ux⟩; refine hK _ _ ⟨BH.out.up (HU.out.trans ux), B3.out.up (HU.out.trans ux), ((HU.out.trans ux).cells _ _ LBL.out).trans LC.out, Nat.lt_of_lt_of_le LBL.out (HU.out.trans ux).size⟩ ?_; clear hK K H44
                have H45 := Lib.hid (own_mono ho HU.out.size)
                replace H38 := Lib.hid (own_up H38.out ux)
                replace HU := Lib.hid (HU.out.trans ux)
                clear ux ho; refine hWalk_take 18 (by kernel_rfl) rfl (by rfl) ?_; apply Exists.intro; refine ⟨fun w1 hS1 => ?_, ?_⟩
                · clear hS1
                  go_simp
                  try rfl
                go_simp; refine hWalk_one (i := 19) (by kernel_rfl) ?_
                · refine next_mk rfl (by rfl) (fun K hK => ?_)
                  go_simp; refine hK _ _ ⟨BH.out.up (HU.out.alloc _), B3.out.up (HU.out.alloc _), ((HU.out.alloc _).cells _ _ LBL.out).trans LC.out, Nat.lt_of_lt_of_le LBL.out (HU.out.alloc _).size⟩ ?_; clear hK K
                  have ux := (Up.refl w17).alloc (.cells #[.int .i64 z0, .int .i64 z1, .int .i64 z2, .slice A38 wt.length c38, .slice A45 lg.length c45] 208)
                  have hB := Lib.hid (show (w17.alloc (.cells #[.int .i64 z0, .int .i64 z1, .int .i64 z2, .slice A38 wt.length c38, .slice A45 lg.length c45] 208)).heap[w17.heap.size]? = some (.cells (⟨z0, z1, z2, A38, wt.length, c38, A45, lg.length, c45⟩ : Cd).c5.toArray 208 (0, 0)) from heap_alloc_new _ _)
                  have hW := Lib.hid (show CdW (w17.alloc (.cells #[.int .i64 z0, .int .i64 z1, .int .i64 z2, .slice A38 wt.length c38, .slice A45 lg.length c45] 208)) W0.heap.size lg wt (⟨z0, z1, z2, A38, wt.length, c38, A45, lg.length, c45⟩ : Cd) from CdW.up ⟨H38.out, H45.out⟩ ux)
                  replace HU := Lib.hid (HU.out.trans ux)
                  clear ux H38 H45
                  generalize w17.alloc (.cells #[.int .i64 z0, .int .i64 z1, .int .i64 z2, .slice A38 wt.length c38, .slice A45 lg.length c45] 208) = w19 at *
                  generalize w17.heap.size = b47 at *
                  refine hWalk_list #[true, true, true, true, true, true, true, true, true, true, true, true, true, true, true, true, true, true, true, true, false, false, false, false] (by kernel_rfl) ?_
                  exact TAIL _ _ ⟨b37, b44, b47, A38, c38, A45, c45, rfl, HU, hB, hW⟩
          · refine next_mk rfl (by rfl) (fun K hK => ?_)
            go_simp; refine (concatE_one b37 Aw wt.length cw wt w16 H37.out (EW.out.up HU.out) (by omega)).mono ?_; rintro x w10 ⟨A38, c38, rfl, _, _, _, ho, ux⟩; refine hK _ _ ⟨BH.out.up (HU.out.trans ux), B3.out.up (HU.out.trans ux), ((HU.out.trans ux).cells _ _ LBL.out).trans LC.out, Nat.lt_of_lt_of_le LBL.out (HU.out.trans ux).size⟩ ?_; clear hK K H37
            have H38 := Lib.hid (own_mono ho HU.out.size)
            replace H44 := Lib.hid (H44.out.up ux)
            replace HU := Lib.hid (HU.out.trans ux)
            clear ux ho; refine hWalk_two (i := 4) (j := 17) (by kernel_rfl) ?_ ?_
            · refine next_mk rfl (by rfl) (fun K hK => ?_)
              have y3 := (CB.out.up HU.out).c3
              have ly := (CB.out.up HU.out).lt
              go_simp; refine hK _ _ ⟨BH.out.up (HU.out), B3.out.up (HU.out), ((HU.out).cells _ _ LBL.out).trans LC.out, Nat.lt_of_lt_of_le LBL.out (HU.out).size⟩ ?_; clear hK K y3 ly; refine hWalk_one (i := 17) (by kernel_rfl) ?_
              · refine next_mk rfl (by rfl) (fun K hK => ?_)
                go_simp; refine (concatQ_one b44 Al lg.length cl lg w10 H44.out (RW.out.up HU.out) (by omega)).mono ?_; rintro x w17 ⟨A45, c45, rfl, _, _, _, ho, ux⟩; refine hK _ _ ⟨BH.out.up (HU.out.trans ux), B3.out.up (HU.out.trans ux), ((HU.out.trans ux).cells _ _ LBL.out).trans LC.out, Nat.lt_of_lt_of_le LBL.out (HU.out.trans ux).size⟩ ?_; clear hK K H44
                have H45 := Lib.hid (own_mono ho HU.out.size)
                replace H38 := Lib.hid (own_up H38.out ux)
                replace HU := Lib.hid (HU.out.trans ux)
                clear ux ho; refine hWalk_take 18 (by kernel_rfl) rfl (by rfl) ?_; apply Exists.intro; refine ⟨fun w1 hS1 => ?_, ?_⟩
                · clear hS1
                  go_simp
                  try rfl
                go_simp; refine hWalk_one (i := 19) (by kernel_rfl) ?_
                · refine next_mk rfl (by rfl) (fun K hK => ?_)
                  go_simp; refine hK _ _ ⟨BH.out.up (HU.out.alloc _), B3.out.up (HU.out.alloc _), ((HU.out.alloc _).cells _ _ LBL.out).trans LC.out, Nat.lt_of_lt_of_le LBL.out (HU.out.alloc _).size⟩ ?_; clear hK K
                  have ux := (Up.refl w17).alloc (.cells #[.int .i64 z0, .int .i64 z1, .int .i64 z2, .slice A38 wt.length c38, .slice A45 lg.length c45] 208)
                  have hB := Lib.hid (show (w17.alloc (.cells #[.int .i64 z0, .int .i64 z1, .int .i64 z2, .slice A38 wt.length c38, .slice A45 lg.length c45] 208)).heap[w17.heap.size]? = some (.cells (⟨z0, z1, z2, A38, wt.length, c38, A45, lg.length, c45⟩ : Cd).c5.toArray 208 (0, 0)) from heap_alloc_new _ _)
                  have hW := Lib.hid (show CdW (w17.alloc (.cells #[.int .i64 z0, .int .i64 z1, .int .i64 z2, .slice A38 wt.length c38, .slice A45 lg.length c45] 208)) W0.heap.size lg wt (⟨z0, z1, z2, A38, wt.length, c38, A45, lg.length, c45⟩ : Cd) from CdW.up ⟨H38.out, H45.out⟩ ux)
                  replace HU := Lib.hid (HU.out.trans ux)
                  clear ux H38 H45
                  generalize w17.alloc (.cells #[.int .i64 z0, .int .i64 z1, .int .i64 z2, .slice A38 wt.length c38, .slice A45 lg.length c45] 208) = w19 at *
                  generalize w17.heap.size = b47 at *
                  refine hWalk_list #[true, true, true, true, true, true, true, true, true, true, true, true, true, true, true, true, true, true, true, true, false, false, false, false] (by kernel_rfl) ?_
                  exact TAIL _ _ ⟨b37, b44, b47, A38, c38, A45, c45, rfl, HU, hB, hW⟩
            · refine next_mk rfl (by rfl) (fun K hK => ?_)
              go_simp; refine (concatQ_one b44 Al lg.length cl lg w10 H44.out (RW.out.up HU.out) (by omega)).mono ?_; rintro x w17 ⟨A45, c45, rfl, _, _, _, ho, ux⟩; refine hK _ _ ⟨BH.out.up (HU.out.trans ux), B3.out.up (HU.out.trans ux), ((HU.out.trans ux).cells _ _ LBL.out).trans LC.out, Nat.lt_of_lt_of_le LBL.out (HU.out.trans ux).size⟩ ?_; clear hK K H44
              have H45 := Lib.hid (own_mono ho HU.out.size)
              replace H38 := Lib.hid (own_up H38.out ux)
              replace HU := Lib.hid (HU.out.trans ux)
              clear ux ho; refine hWalk_take 18 (by kernel_rfl) rfl (by rfl) ?_; apply Exists.intro; refine ⟨fun w1 hS1 => ?_, ?_⟩
              · clear hS1
                go_simp
                try rfl
              go_simp; refine hWalk_two (i := 4) (j := 19) (by kernel_rfl) ?_ ?_
              · refine next_mk rfl (by rfl) (fun K hK => ?_)
                have y3 := (CB.out.up HU.out).c3
                have ly := (CB.out.up HU.out).lt
                go_simp; refine hK _ _ ⟨BH.out.up (HU.out), B3.out.up (HU.out), ((HU.out).cells _ _ LBL.out).trans LC.out, Nat.lt_of_lt_of_le LBL.out (HU.out).size⟩ ?_; clear hK K y3 ly; refine hWalk_one (i := 19) (by kernel_rfl) ?_
                · refine next_mk rfl (by rfl) (fun K hK => ?_)
                  go_simp; refine hK _ _ ⟨BH.out.up (HU.out.alloc _), B3.out.up (HU.out.alloc _), ((HU.out.alloc _).cells _ _ LBL.out).trans LC.out, Nat.lt_of_lt_of_le LBL.out (HU.out.alloc _).size⟩ ?_; clear hK K
                  have ux := (Up.refl w17).alloc (.cells #[.int .i64 z0, .int .i64 z1, .int .i64 z2, .slice A38 wt.length c38, .slice A45 lg.length c45] 208)
                  have hB := Lib.hid (show (w17.alloc (.cells #[.int .i64 z0, .int .i64 z1, .int .i64 z2, .slice A38 wt.length c38, .slice A45 lg.length c45] 208)).heap[w17.heap.size]? = some (.cells (⟨z0, z1, z2, A38, wt.length, c38, A45, lg.length, c45⟩ : Cd).c5.toArray 208 (0, 0)) from heap_alloc_new _ _)
                  have hW := Lib.hid (show CdW (w17.alloc (.cells #[.int .i64 z0, .int .i64 z1, .int .i64 z2, .slice A38 wt.length c38, .slice A45 lg.length c45] 208)) W0.heap.size lg wt (⟨z0, z1, z2, A38, wt.length, c38, A45, lg.length, c45⟩ : Cd) from CdW.up ⟨H38.out, H45.out⟩ ux)
                  replace HU := Lib.hid (HU.out.trans ux)
                  clear ux H38 H45
                  generalize w17.alloc (.cells #[.int .i64 z0, .int .i64 z1, .int .i64 z2, .slice A38 wt.length c38, .slice A45 lg.length c45] 208) = w19 at *
                  generalize w17.heap.size = b47 at *
                  refine hWalk_list #[true, true, true, true, true, true, true, true, true, true, true, true, true, true, true, true, true, true, true, true, false, false, false, false] (by kernel_rfl) ?_
                  exact TAIL _ _ ⟨b37, b44, b47, A38, c38, A45, c45, rfl, HU, hB, hW⟩
              · refine next_mk rfl (by rfl) (fun K hK => ?_)
                go_simp; refine hK _ _ ⟨BH.out.up (HU.out.alloc _), B3.out.up (HU.out.alloc _), ((HU.out.alloc _).cells _ _ LBL.out).trans LC.out, Nat.lt_of_lt_of_le LBL.out (HU.out.alloc _).size⟩ ?_; clear hK K
                have ux := (Up.refl w17).alloc (.cells #[.int .i64 z0, .int .i64 z1, .int .i64 z2, .slice A38 wt.length c38, .slice A45 lg.length c45] 208)
                have hB := Lib.hid (show (w17.alloc (.cells #[.int .i64 z0, .int .i64 z1, .int .i64 z2, .slice A38 wt.length c38, .slice A45 lg.length c45] 208)).heap[w17.heap.size]? = some (.cells (⟨z0, z1, z2, A38, wt.length, c38, A45, lg.length, c45⟩ : Cd).c5.toArray 208 (0, 0)) from heap_alloc_new _ _)
                have hW := Lib.hid (show CdW (w17.alloc (.cells #[.int .i64 z0, .int .i64 z1, .int .i64 z2, .slice A38 wt.length c38, .slice A45 lg.length c45] 208)) W0.heap.size lg wt (⟨z0, z1, z2, A38, wt.length, c38, A45, lg.length, c45⟩ : Cd) from CdW.up ⟨H38.out, H45.out⟩ ux)
                replace HU := Lib.hid (HU.out.trans ux)
                clear ux H38 H45
                generalize w17.alloc (.cells #[.int .i64 z0, .int .i64 z1, .int .i64 z2, .slice A38 wt.length c38, .slice A45 lg.length c45] 208) = w19 at *
                generalize w17.heap.size = b47 at *
                refine hWalk_one (i := 4) (by kernel_rfl) ?_
                · refine next_mk rfl (by rfl) (fun K hK => ?_)
                  have y3 := (CB.out.up HU.out).c3
                  have ly := (CB.out.up HU.out).lt
                  go_simp; refine hK _ _ ⟨BH.out.up (HU.out), B3.out.up (HU.out), ((HU.out).cells _ _ LBL.out).trans LC.out, Nat.lt_of_lt_of_le LBL.out (HU.out).size⟩ ?_; clear hK K y3 ly; refine hWalk_list #[true, true, true, true, true, true, true, true, true, true, true, true, true, true, true, true, true, true, true, true, false, false, false, false] (by kernel_rfl) ?_
                  exact TAIL _ _ ⟨b37, b44, b47, A38, c38, A45, c45, rfl, HU, hB, hW⟩
      · refine next_mk rfl (by rfl) (fun K hK => ?_)
        go_simp; refine hK _ _ ⟨BH.out.up (HU.out.alloc _), B3.out.up (HU.out.alloc _), ((HU.out.alloc _).cells _ _ LBL.out).trans LC.out, Nat.lt_of_lt_of_le LBL.out (HU.out.alloc _).size⟩ ?_; clear hK K
        have H44 := Lib.hid (Blk.new wd #[.slice Al lg.length cl] 60)
        have ux := (Up.refl wd).alloc (.cells #[.slice Al lg.length cl] 60)
        replace HU := Lib.hid (HU.out.trans ux)
        clear ux
        generalize wd.alloc (.cells #[.slice Al lg.length cl] 60) = w16 at *
        generalize wd.heap.size = b44 at *
        refine hWalk_two (i := 4) (j := 9) (by kernel_rfl) ?_ ?_
        · refine next_mk rfl (by rfl) (fun K hK => ?_)
          have y3 := (CB.out.up HU.out).c3
          have ly := (CB.out.up HU.out).lt
          go_simp; refine hK _ _ ⟨BH.out.up (HU.out), B3.out.up (HU.out), ((HU.out).cells _ _ LBL.out).trans LC.out, Nat.lt_of_lt_of_le LBL.out (HU.out).size⟩ ?_; clear hK K y3 ly; refine hWalk_one (i := 9) (by kernel_rfl) ?_
          · refine next_mk rfl (by rfl) (fun K hK => ?_)
            go_simp; refine hK _ _ ⟨BH.out.up (HU.out.alloc _), B3.out.up (HU.out.alloc _), ((HU.out.alloc _).cells _ _ LBL.out).trans LC.out, Nat.lt_of_lt_of_le LBL.out (HU.out.alloc _).size⟩ ?_; clear hK K
            have H37 := Lib.hid (Blk.new w16 #[.slice Aw wt.length cw] 34)
            have ux := (Up.refl w16).alloc (.cells #[.slice Aw wt.length cw] 34)
            replace H44 := Lib.hid (H44.out.up ux)
            replace HU := Lib.hid (HU.out.trans ux)
            clear ux
            generalize w16.alloc (.cells #[.slice Aw wt.length cw] 34) = w9 at *
            generalize w16.heap.size = b37 at *
            refine hWalk_one (i := 10) (by kernel_rfl) ?_
            · refine next_mk rfl (by rfl) (fun K hK => ?_)
              go_simp; refine (concatE_one b37 Aw wt.length cw wt w9 H37.out (EW.out.up HU.out) (by omega)).mono ?_; rintro x w10 ⟨A38, c38, rfl, _, _, _, ho, ux⟩; refine hK _ _ ⟨BH.out.up (HU.out.trans ux), B3.out.up (HU.out.trans ux), ((HU.out.trans ux).cells _ _ LBL.out).trans LC.out, Nat.lt_of_lt_of_le LBL.out (HU.out.trans ux).size⟩ ?_; clear hK K H37
              have H38 := Lib.hid (own_mono ho HU.out.size)
              replace H44 := Lib.hid (H44.out.up ux)
              replace HU := Lib.hid (HU.out.trans ux)
              clear ux ho; refine hWalk_one (i := 17) (by kernel_rfl) ?_
              · refine next_mk rfl (by rfl) (fun K hK => ?_)
                go_simp; refine (concatQ_one b44 Al lg.length cl lg w10 H44.out (RW.out.up HU.out) (by omega)).mono ?_; rintro x w17 ⟨A45, c45, rfl, _, _, _, ho, ux⟩; refine hK _ _ ⟨BH.out.up (HU.out.trans ux), B3.out.up (HU.out.trans ux), ((HU.out.trans ux).cells _ _ LBL.out).trans LC.out, Nat.lt_of_lt_of_le LBL.out (HU.out.trans ux).size⟩ ?_; clear hK K H44
                have H45 := Lib.hid (own_mono ho HU.out.size)
                replace H38 := Lib.hid (own_up H38.out ux)
                replace HU := Lib.hid (HU.out.trans ux)
                clear ux ho; refine hWalk_take 18 (by kernel_rfl) rfl (by rfl) ?_; apply Exists.intro; refine ⟨fun w1 hS1 => ?_, ?_⟩
                · clear hS1
                  go_simp
                  try rfl
                go_simp; refine hWalk_one (i := 19) (by kernel_rfl) ?_
                · refine next_mk rfl (by rfl) (fun K hK => ?_)
                  go_simp; refine hK _ _ ⟨BH.out.up (HU.out.alloc _), B3.out.up (HU.out.alloc _), ((HU.out.alloc _).cells _ _ LBL.out).trans LC.out, Nat.lt_of_lt_of_le LBL.out (HU.out.alloc _).size⟩ ?_; clear hK K
                  have ux := (Up.refl w17).alloc (.cells #[.int .i64 z0, .int .i64 z1, .int .i64 z2, .slice A38 wt.length c38, .slice A45 lg.length c45] 208)
                  have hB := Lib.hid (show (w17.alloc (.cells #[.int .i64 z0, .int .i64 z1, .int .i64 z2, .slice A38 wt.length c38, .slice A45 lg.length c45] 208)).heap[w17.heap.size]? = some (.cells (⟨z0, z1, z2, A38, wt.length, c38, A45, lg.length, c45⟩ : Cd).c5.toArray 208 (0, 0)) from heap_alloc_new _ _)
                  have hW := Lib.hid (show CdW (w17.alloc (.cells #[.int .i64 z0, .int .i64 z1, .int .i64 z2, .slice A38 wt.length c38, .slice A45 lg.length c45] 208)) W0.heap.size lg wt (⟨z0, z1, z2, A38, wt.length, c38, A45, lg.length, c45⟩ : Cd) from CdW.up ⟨H38.out, H45.out⟩ ux)
                  replace HU := Lib.hid (HU.out.trans ux)
                  clear ux H38 H45
                  generalize w17.alloc (.cells #[.int .i64 z0, .int .i64 z1, .int .i64 z2, .slice A38 wt.length c38, .slice A45 lg.length c45] 208) = w19 at *
                  generalize w17.heap.size = b47 at *
                  refine hWalk_list #[true, true, true, true, true, true, true, true, true, true, true, true, true, true, true, true, true, true, true, true, false, false, false, false] (by kernel_rfl) ?_
                  exact TAIL _ _ ⟨b37, b44, b47, A38, c38, A45, c45, rfl, HU, hB, hW⟩
        · refine next_mk rfl (by rfl) (fun K hK => ?_)
          go_simp; refine hK _ _ ⟨BH.out.up (HU.out.alloc _), B3.out.up (HU.out.alloc _), ((HU.out.alloc _).cells _ _ LBL.out).trans LC.out, Nat.lt_of_lt_of_le LBL.out (HU.out.alloc _).size⟩ ?_; clear hK K
          have H37 := Lib.hid (Blk.new w16 #[.slice Aw wt.length cw] 34)
          have ux := (Up.refl w16).alloc (.cells #[.slice Aw wt.length cw] 34)
          replace H44 := Lib.hid (H44.out.up ux)
          replace HU := Lib.hid (HU.out.trans ux)
          clear ux
          generalize w16.alloc (.cells #[.slice Aw wt.length cw] 34) = w9 at *
          generalize w16.heap.size = b37 at *
          refine hWalk_two (i := 4) (j := 10) (by kernel_rfl) ?_ ?_
          · refine next_mk rfl (by rfl) (fun K hK => ?_)
            have y3 := (CB.out.up HU.out).c3
            have ly := (CB.out.up HU.out).lt
            go_simp; refine hK _ _ ⟨BH.out.up (HU.out), B3.out.up (HU.out), ((HU.out).cells _ _ LBL.out).trans LC.out, Nat.lt_of_lt_of_le LBL.out (HU.out).size⟩ ?_; clear hK K y3 ly; refine hWalk_one (i := 10) (by kernel_rfl) ?_
            · refine next_mk rfl (by rfl) (fun K hK => ?_)
              go_simp; refine (concatE_one b37 Aw wt.length cw wt w9 H37.out (EW.out.up HU.out) (by omega)).mono ?_; rintro x w10 ⟨A38, c38, rfl, _, _, _, ho, ux⟩; refine hK _ _ ⟨BH.out.up (HU.out.trans ux), B3.out.up (HU.out.trans ux), ((HU.out.trans ux).cells _ _ LBL.out).trans LC.out, Nat.lt_of_lt_of_le LBL.out (HU.out.trans ux).size⟩ ?_; clear hK K H37
              have H38 := Lib.hid (own_mono ho HU.out.size)
              replace H44 := Lib.hid (H44.out.up ux)
              replace HU := Lib.hid (HU.out.trans ux)
              clear ux ho; refine hWalk_one (i := 17) (by kernel_rfl) ?_
              · refine next_mk rfl (by rfl) (fun K hK => ?_)
                go_simp; refine (concatQ_one b44 Al lg.length cl lg w10 H44.out (RW.out.up HU.out) (by omega)).mono ?_; rintro x w17 ⟨A45, c45, rfl, _, _, _, ho, ux⟩; refine hK _ _ ⟨BH.out.up (HU.out.trans ux), B3.out.up (HU.out.trans ux), ((HU.out.trans ux).cells _ _ LBL.out).trans LC.out, Nat.lt_of_lt_of_le LBL.out (HU.out.trans ux).size⟩ ?_; clear hK K H44
                have H45 := Lib.hid (own_mono ho HU.out.size)
                replace H38 := Lib.hid (own_up H38.out ux)
                replace HU := Lib.hid (HU.out.trans ux)
                clear ux ho; refine hWalk_take 18 (by kernel_rfl) rfl (by rfl) ?_; apply Exists.intro; refine ⟨fun w1 hS1 => ?_, ?_⟩
                · clear hS1
                  go_simp
                  try rfl
                go_simp; refine hWalk_one (i := 19) (by kernel_rfl) ?_
                · refine next_mk rfl (by rfl) (fun K hK => ?_)
                  go_simp; refine hK _ _ ⟨BH.out.up (HU.out.alloc _), B3.out.up (HU.out.alloc _), ((HU.out.alloc _).cells _ _ LBL.out).trans LC.out, Nat.lt_of_lt_of_le LBL.out (HU.out.alloc _).size⟩ ?_; clear hK K
                  have ux := (Up.refl w17).alloc (.cells #[.int .i64 z0, .int .i64 z1, .int .i64 z2, .slice A38 wt.length c38, .slice A45 lg.length c45] 208)
                  have hB := Lib.hid (show (w17.alloc (.cells #[.int .i64 z0, .int .i64 z1, .int .i64 z2, .slice A38 wt.length c38, .slice A45 lg.length c45] 208)).heap[w17.heap.size]? = some (.cells (⟨z0, z1, z2, A38, wt.length, c38, A45, lg.length, c45⟩ : Cd).c5.toArray 208 (0, 0)) from heap_alloc_new _ _)
                  have hW := Lib.hid (show CdW (w17.alloc (.cells #[.int .i64 z0, .int .i64 z1, .int .i64 z2, .slice A38 wt.length c38, .slice A45 lg.length c45] 208)) W0.heap.size lg wt (⟨z0, z1, z2, A38, wt.length, c38, A45, lg.length, c45⟩ : Cd) from CdW.up ⟨H38.out, H45.out⟩ ux)
                  replace HU := Lib.hid (HU.out.trans ux)
                  clear ux H38 H45
                  generalize w17.alloc (.cells #[.int .i64 z0, .int .i64 z1, .int .i64 z2, .slice A38 wt.length c38, .slice A45 lg.length c45] 208) = w19 at *
                  generalize w17.heap.size = b47 at *
                  refine hWalk_list #[true, true, true, true, true, true, true, true, true, true, true, true, true, true, true, true, true, true, true, true, false, false, false, false] (by kernel_rfl) ?_
                  exact TAIL _ _ ⟨b37, b44, b47, A38, c38, A45, c45, rfl, HU, hB, hW⟩
          · refine next_mk rfl (by rfl) (fun K hK => ?_)
            go_simp; refine (concatE_one b37 Aw wt.length cw wt w9 H37.out (EW.out.up HU.out) (by omega)).mono ?_; rintro x w10 ⟨A38, c38, rfl, _, _, _, ho, ux⟩; refine hK _ _ ⟨BH.out.up (HU.out.trans ux), B3.out.up (HU.out.trans ux), ((HU.out.trans ux).cells _ _ LBL.out).trans LC.out, Nat.lt_of_lt_of_le LBL.out (HU.out.trans ux).size⟩ ?_; clear hK K H37
            have H38 := Lib.hid (own_mono ho HU.out.size)
            replace H44 := Lib.hid (H44.out.up ux)
            replace HU := Lib.hid (HU.out.trans ux)
            clear ux ho; refine hWalk_two (i := 4) (j := 17) (by kernel_rfl) ?_ ?_
            · refine next_mk rfl (by rfl) (fun K hK => ?_)
              have y3 := (CB.out.up HU.out).c3
              have ly := (CB.out.up HU.out).lt
              go_simp; refine hK _ _ ⟨BH.out.up (HU.out), B3.out.up (HU.out), ((HU.out).cells _ _ LBL.out).trans LC.out, Nat.lt_of_lt_of_le LBL.out (HU.out).size⟩ ?_; clear hK K y3 ly; refine hWalk_one (i := 17) (by kernel_rfl) ?_
              · refine next_mk rfl (by rfl) (fun K hK => ?_)
                go_simp; refine (concatQ_one b44 Al lg.length cl lg w10 H44.out (RW.out.up HU.out) (by omega)).mono ?_; rintro x w17 ⟨A45, c45, rfl, _, _, _, ho, ux⟩; refine hK _ _ ⟨BH.out.up (HU.out.trans ux), B3.out.up (HU.out.trans ux), ((HU.out.trans ux).cells _ _ LBL.out).trans LC.out, Nat.lt_of_lt_of_le LBL.out (HU.out.trans ux).size⟩ ?_; clear hK K H44
                have H45 := Lib.hid (own_mono ho HU.out.size)
                replace H38 := Lib.hid (own_up H38.out ux)
                replace HU := Lib.hid (HU.out.trans ux)
                clear ux ho; refine hWalk_take 18 (by kernel_rfl) rfl (by rfl) ?_; apply Exists.intro; refine ⟨fun w1 hS1 => ?_, ?_⟩
                · clear hS1
                  go_simp
                  try rfl
                go_simp; refine hWalk_one (i := 19) (by kernel_rfl) ?_
                · refine next_mk rfl (by rfl) (fun K hK => ?_)
                  go_simp; refine hK _ _ ⟨BH.out.up (HU.out.alloc _), B3.out.up (HU.out.alloc _), ((HU.out.alloc _).cells _ _ LBL.out).trans LC.out, Nat.lt_of_lt_of_le LBL.out (HU.out.alloc _).size⟩ ?_; clear hK K
                  have ux := (Up.refl w17).alloc (.cells #[.int .i64 z0, .int .i64 z1, .int .i64 z2, .slice A38 wt.length c38, .slice A45 lg.length c45] 208)
                  have hB := Lib.hid (show (w17.alloc (.cells #[.int .i64 z0, .int .i64 z1, .int .i64 z2, .slice A38 wt.length c38, .slice A45 lg.length c45] 208)).heap[w17.heap.size]? = some (.cells (⟨z0, z1, z2, A38, wt.length, c38, A45, lg.length, c45⟩ : Cd).c5.toArray 208 (0, 0)) from heap_alloc_new _ _)
                  have hW := Lib.hid (show CdW (w17.alloc (.cells #[.int .i64 z0, .int .i64 z1, .int .i64 z2, .slice A38 wt.length c38, .slice A45 lg.length c45] 208)) W0.heap.size lg wt (⟨z0, z1, z2, A38, wt.length, c38, A45, lg.length, c45⟩ : Cd) from CdW.up ⟨H38.out, H45.out⟩ ux)
                  replace HU := Lib.hid (HU.out.trans ux)
                  clear ux H38 H45
                  generalize w17.alloc (.cells #[.int .i64 z0, .int .i64 z1, .int .i64 z2, .slice A38 wt.length c38, .slice A45 lg.length c45] 208) = w19 at *
                  generalize w17.heap.size = b47 at *
                  refine hWalk_list #[true, true, true, true, true, true, true, true, true, true, true, true, true, true, true, true, true, true, true, true, false, false, false, false] (by kernel_rfl) ?_
                  exact TAIL _ _ ⟨b37, b44, b47, A38, c38, A45, c45, rfl, HU, hB, hW⟩
            · refine next_mk rfl (by rfl) (fun K hK => ?_)
              go_simp; refine (concatQ_one b44 Al lg.length cl lg w10 H44.out (RW.out.up HU.out) (by omega)).mono ?_; rintro x w17 ⟨A45, c45, rfl, _, _, _, ho, ux⟩; refine hK _ _ ⟨BH.out.up (HU.out.trans ux), B3.out.up (HU.out.trans ux), ((HU.out.trans ux).cells _ _ LBL.out).trans LC.out, Nat.lt_of_lt_of_le LBL.out (HU.out.trans ux).size⟩ ?_; clear hK K H44
              have H45 := Lib.hid (own_mono ho HU.out.size)
              replace H38 := Lib.hid (own_up H38.out ux)
              replace HU := Lib.hid (HU.out.trans ux)
              clear ux ho; refine hWalk_take 18 (by kernel_rfl) rfl (by rfl) ?_; apply Exists.intro; refine ⟨fun w1 hS1 => ?_, ?_⟩
              · clear hS1
                go_simp
                try rfl
              go_simp; refine hWalk_two (i := 4) (j := 19) (by kernel_rfl) ?_ ?_
              · refine next_mk rfl (by rfl) (fun K hK => ?_)
                have y3 := (CB.out.up HU.out).c3
                have ly := (CB.out.up HU.out).lt
                go_simp; refine hK _ _ ⟨BH.out.up (HU.out), B3.out.up (HU.out), ((HU.out).cells _ _ LBL.out).trans LC.out, Nat.lt_of_lt_of_le LBL.out (HU.out).size⟩ ?_; clear hK K y3 ly; refine hWalk_one (i := 19) (by kernel_rfl) ?_
                · refine next_mk rfl (by rfl) (fun K hK => ?_)
                  go_simp; refine hK _ _ ⟨BH.out.up (HU.out.alloc _), B3.out.up (HU.out.alloc _), ((HU.out.alloc _).cells _ _ LBL.out).trans LC.out, Nat.lt_of_lt_of_le LBL.out (HU.out.alloc _).size⟩ ?_; clear hK K
                  have ux := (Up.refl w17).alloc (.cells #[.int .i64 z0, .int .i64 z1, .int .i64 z2, .slice A38 wt.length c38, .slice A45 lg.length c45] 208)
                  have hB := Lib.hid (show (w17.alloc (.cells #[.int .i64 z0, .int .i64 z1, .int .i64 z2, .slice A38 wt.length c38, .slice A45 lg.length c45] 208)).heap[w17.heap.size]? = some (.cells (⟨z0, z1, z2, A38, wt.length, c38, A45, lg.length, c45⟩ : Cd).c5.toArray 208 (0, 0)) from heap_alloc_new _ _)
                  have hW := Lib.hid (show CdW (w17.alloc (.cells #[.int .i64 z0, .int .i64 z1, .int .i64 z2, .slice A38 wt.length c38, .slice A45 lg.length c45] 208)) W0.heap.size lg wt (⟨z0, z1, z2, A38, wt.length, c38, A45, lg.length, c45⟩ : Cd) from CdW.up ⟨H38.out, H45.out⟩ ux)
                  replace HU := Lib.hid (HU.out.trans ux)
                  clear ux H38 H45
                  generalize w17.alloc (.cells #[.int .i64 z0, .int .i64 z1, .int .i64 z2, .slice A38 wt.length c38, .slice A45 lg.length c45] 208) = w19 at *
                  generalize w17.heap.size = b47 at *
                  refine hWalk_list #[true, true, true, true, true, true, true, true, true, true, true, true, true, true, true, true, true, true, true, true, false, false, false, false] (by kernel_rfl) ?_
                  exact TAIL _ _ ⟨b37, b44, b47, A38, c38, A45, c45, rfl, HU, hB, hW⟩
              · refine next_mk rfl (by rfl) (fun K hK => ?_)
                go_simp; refine hK _ _ ⟨BH.out.up (HU.out.alloc _), B3.out.up (HU.out.alloc _), ((HU.out.alloc _).cells _ _ LBL.out).trans LC.out, Nat.lt_of_lt_of_le LBL.out (HU.out.alloc _).size⟩ ?_; clear hK K
                have ux := (Up.refl w17).alloc (.cells #[.int .i64 z0, .int .i64 z1, .int .i64 z2, .slice A38 wt.length c38, .slice A45 lg.length c45] 208)
                have hB := Lib.hid (show (w17.alloc (.cells #[.int .i64 z0, .int .i64 z1, .int .i64 z2, .slice A38 wt.length c38, .slice A45 lg.length c45] 208)).heap[w17.heap.size]? = some (.cells (⟨z0, z1, z2, A38, wt.length, c38, A45, lg.length, c45⟩ : Cd).c5.toArray 208 (0, 0)) from heap_alloc_new _ _)
                have hW := Lib.hid (show CdW (w17.alloc (.cells #[.int .i64 z0, .int .i64 z1, .int .i64 z2, .slice A38 wt.length c38, .slice A45 lg.length c45] 208)) W0.heap.size lg wt (⟨z0, z1, z2, A38, wt.length, c38, A45, lg.length, c45⟩ : Cd) from CdW.up ⟨H38.out, H45.out⟩ ux)
                replace HU := Lib.hid (HU.out.trans ux)
                clear ux H38 H45
                generalize w17.alloc (.cells #[.int .i64 z0, .int .i64 z1, .int .i64 z2, .slice A38 wt.length c38, .slice A45 lg.length c45] 208) = w19 at *
                generalize w17.heap.size = b47 at *
                refine hWalk_one (i := 4) (by kernel_rfl) ?_
                · refine next_mk rfl (by rfl) (fun K hK => ?_)
                  have y3 := (CB.out.up HU.out).c3
                  have ly := (CB.out.up HU.out).lt
                  go_simp; refine hK _ _ ⟨BH.out.up (HU.out), B3.out.up (HU.out), ((HU.out).cells _ _ LBL.out).trans LC.out, Nat.lt_of_lt_of_le LBL.out (HU.out).size⟩ ?_; clear hK K y3 ly; refine hWalk_list #[true, true, true, true, true, true, true, true, true, true, true, true, true, true, true, true, true, true, true, true, false, false, false, false] (by kernel_rfl) ?_
                  exact TAIL _ _ ⟨b37, b44, b47, A38, c38, A45, c45, rfl, HU, hB, hW⟩
    · obtain rfl : q = N := by omega
      have i4 : ¬ (q : Int) < q := by omega
      go_wp2
      exact bodyPost_ret (v := .pointer (some ⟨bX, 0, none⟩)) (by simp [results, Try.results115, go_sem]) rfl ⟨bX, VW, hl, rfl, by omega, CB.out, HH.out, UB.out.trans UR.out⟩
theorem cauSays : CauSays := by
  intro mb many til HA n hc LB k lc hs ls w h4 e1 e2 hI hV; subst e1 e2; refine (cautious_any mb _ til HA hc LB lc hs ls w h4 hI hV).mono ?_; rintro x w' ⟨bX, v, hl, rfl, _, cb, _, u⟩
  exact ⟨bX, rfl, ⟨cb.lt, cb.c1, fun r hr => cb.rows r hr⟩, u⟩
end Go.Proofs.Ytklldniapombiaa

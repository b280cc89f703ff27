/-
  What tbCmb says of one conservative simulation that lies in memory twice, in one sentence: the same; for every simulation.
  What szSeqState and toSeqState return, in one sentence: -1 or what is left, and a copy in new memory; for every simulator that lies in memory.
  What times, plus and next return, in one sentence: the product, the sum and the next state modulo 97; for numbers in bounds.
  Which records and which pending events are valid, in one sentence: two functions on numbers; no condition is made.
-/
import Derived.Test.YtklldniapombiaaDLCbn03
import Derived.Test.YtklldniapombiaaDLCbn05
import Derived.Test.YtklldniapombiaaDLCbn08
import Derived.Test.YtklldniapombiaaDLCbn13
import Derived.Test.YtklldniapombiaaDLCbn14
import Derived.Test.YtklldniapombiaaDLCbn15
import Derived.Test.YtklldniapombiaaDLCbn17
import Derived.Test.YtklldniapombiaaDLCbn21
namespace Go.Proofs.Ytklldniapombiaa
set_option maxRecDepth 100000
open Go.RowKit
set_option maxHeartbeats 8000000 in
theorem tbCmb_same (A : Option Addr) (n c : Nat) (B : Option Addr) (k d : Nat) (A' : Option Addr) (c' : Nat) (B' : Option Addr) (d' : Nat) (hs : List Ch) (ls : List (List Rec)) (w : World) (h1 : CbV w A n B k hs ls) (h2 : CbV w A' n B' k hs ls) :
    Calls Try.prog 44 #[.agg #[.slice A n c, .slice B k d], .agg #[.slice A' n c', .slice B' k d']] w fun x w' => x = .returned (.bool true) ∧ Up w w' := by
  have hn := h1.few.1
  have hk := h1.few.2
  have HH := Lib.hid h1.hosts
  have HI := Lib.hid h2.hosts
  have HL := Lib.hid h1.logs
  have HM := Lib.hid h2.logs
  have CN := Lib.hid (fun p W => neq_cst p p W)
  have gd := guard_cst
  have q1 : ((n : Int) != (n : Int)) = false := by simp
  have q2 : ((k : Int) != (k : Int)) = false := by simp
  have X2 := Lib.hid ((Blk.new w #[.slice A n c, .slice B k d] 41).alloc (.cells #[.slice A' n c', .slice B' k d'] 41))
  have X3 := Lib.hid (Blk.new (w.alloc (.cells #[.slice A n c, .slice B k d] 41)) #[.slice A' n c', .slice B' k d'] 41)
  simp only [World.size_alloc] at X3
  have U := Lib.hid (((Up.refl w).alloc (.cells #[.slice A n c, .slice B k d] 41)).alloc (.cells #[.slice A' n c', .slice B' k d'] 41))
  obtain ⟨x0, x1⟩ := And.intro (X2.out.cell (j := 0) rfl) (X2.out.cell (j := 1) rfl)
  have lx := X2.out.lt
  obtain ⟨y0, y1⟩ := And.intro (X3.out.cell (j := 0) rfl) (X3.out.cell (j := 1) rfl)
  have ly := X3.out.lt
  clear h1 h2
  go_enter Try.func44, Try.ntmps44
  go_wp2
  generalize (w.alloc (.cells #[.slice A n c, .slice B k d] 41)).alloc (.cells #[.slice A' n c', .slice B' k d'] 41) = W at *
  generalize w.heap.size + 1 = bY at *
  generalize hbx : w.heap.size = bX at *
  clear hbx x0 x1 lx y0 y1 ly
  go_loopw [5] (fun i wr => (∃ q : Nat, q ≤ n ∧ i = .int .i64 q) ∧ Up W wr) (fun i _ => n - (intOf i).toNat)
  case atStart => exact ⟨⟨0, by omega, rfl⟩, Up.refl _⟩
  case round =>
    obtain ⟨⟨q, hq, rfl⟩, ur⟩ := hrel
    have UR := Lib.hid (U.out.trans ur)
    have URW := Lib.hid ur
    have Y2 := Lib.hid (X2.out.up ur)
    have Y3 := Lib.hid (X3.out.up ur)
    clear ur; obtain ⟨x0, x1⟩ := And.intro (Y2.out.cell (j := 0) rfl) (Y2.out.cell (j := 1) rfl)
    have lx := Y2.out.lt
    obtain ⟨y0, y1⟩ := And.intro (Y3.out.cell (j := 0) rfl) (Y3.out.cell (j := 1) rfl)
    have ly := Y3.out.lt
    by_cases hlt : q < n
    · obtain ⟨b, off, hA, hb, hc⟩ := (HH.out.up UR.out).2 (by omega)
      obtain ⟨b2, off2, hA2, hb2, hc2⟩ := (HI.out.up UR.out).2 (by omega); subst hA hA2
      have a0 := hc q hlt
      have a1 := hc2 q hlt
      clear hc hc2
      have cl := CN.out (hs.getD q default).now
      rw [eqD_refl] at cl
      generalize hs.getD q default = h at a0 a1 cl
      obtain ⟨⟨z0, z1, z2⟩, hw_, hi_⟩ := h; unfold Cst.v at cl; dsimp only at cl; obtain ⟨Aw, nw, cw, Ai, ni, ci, ⟨p0, p1, p2, p3, p4⟩, ⟨h5, h6⟩, h7, h8⟩ := a0; obtain ⟨Bw, mw, dw, Bi, mi, di, ⟨r0, r1, r2, r3, r4⟩, ⟨g5, g6⟩, g7, g8⟩ := a1; dsimp only at p0 p1 p2 h5 h7 r0 r1 r2 g5 g7; obtain rfl : nw = mw := h5.1.symm.trans g5.1; obtain rfl : ni = mi := h7.1.symm.trans g7.1
      have CE := Lib.hid (fun W1 (u : Up wr W1) => tbEvts_any Aw Bw nw nw cw dw hw_ hw_ W1 (by omega) (h5.up u) (g5.up u))
      rw [decide_eq_true (rfl : hw_ = hw_)] at CE
      have q3 : ((ni : Int) != (ni : Int)) = false := by simp
      have H7 := Lib.hid h7
      have G7 := Lib.hid g7
      have PP := Lib.hid (And.intro p4 (And.intro r4 (And.intro hb hb2)))
      clear h5 g5 h7 g7
      have i4 : (q : Int) < n := by omega
      have i5 : IntKind.i64.wrap ((q : Int) + 1) = (q : Int) + 1 := IntWalk.i64_in _ (by omega)
      go_wp2_with fail
      refine region_qw (by kernel_rfl) (by kernel_rfl) ?_; refine qWalk_step ?_; intro K hK; go_simp; apply Exists.intro; refine And.intro ?_ ?_
      · intro w1 hw1
        try go_simp
        try rfl
      try go_simp
      refine hK _ ?_; clear hK K; refine qWalk_step ?_; intro K hK; go_simp; apply Exists.intro; refine And.intro ?_ ?_
      · intro w1 hw1
        obtain ⟨hc, hf, hz⟩ := hw1.facts
        try simp at hz
        try go_simp
        try rfl
      try go_simp
      refine hK _ ?_; clear hK K; refine qWalk_step ?_; intro K hK; go_simp; apply Exists.intro; refine And.intro ?_ ?_
      · intro w1 hw1
        try go_simp
        try rfl
      try go_simp
      refine hK _ ?_; clear hK K; refine qWalk_step ?_; intro K hK; go_simp; apply Exists.intro; refine And.intro ?_ ?_
      · intro w1 hw1
        try go_simp
        try rfl
      try go_simp
      refine hK _ ?_; clear hK K; refine qWalk_step ?_; intro K hK; go_simp; apply Exists.intro; refine And.intro ?_ ?_
      · intro w1 hw1
        try go_simp
        try rfl
      try go_simp
      refine hK _ ?_; clear hK K; refine qWalk_step ?_; intro K hK; go_simp; apply Exists.intro; refine And.intro ?_ ?_
      · intro w1 hw1
        obtain ⟨hc, hf, hz⟩ := hw1.facts
        try simp at hz
        try go_simp
        try rfl
      try go_simp
      refine hK _ ?_; clear hK K; refine qWalk_step ?_; intro K hK; go_simp; apply Exists.intro; refine And.intro ?_ ?_
      · intro w1 hw1
        try go_simp
        try rfl
      try go_simp
      refine hK _ ?_; clear hK K; refine qWalk_step ?_; intro K hK; go_simp; apply Exists.intro; refine And.intro ?_ ?_
      · intro w1 hw1
        obtain ⟨hc, hf, hz⟩ := hw1.facts
        try simp at hz
        try go_simp
        try rfl
      try go_simp
      refine hK _ ?_; clear hK K; refine qWalk_step ?_; intro K hK; go_simp; apply Exists.intro; refine And.intro ?_ ?_
      · intro w1 hw1
        try go_simp
        try rfl
      try go_simp
      refine hK _ ?_; clear hK K; refine qWalk_step ?_; intro K hK; go_simp; apply Exists.intro; refine And.intro ?_ ?_
      · intro w1 hw1
        try go_simp
        try rfl
      try go_simp
      refine hK _ ?_; clear hK K; refine qWalk_step ?_; intro K hK; go_simp; apply Exists.intro; refine And.intro ?_ ?_
      · intro w1 hw1
        try go_simp
        try rfl
      try go_simp
      refine hK _ ?_; clear hK K; refine qWalk_step ?_; intro K hK; go_simp; apply Exists.intro; refine And.intro ?_ ?_
      · intro w1 hw1
        obtain ⟨hc, hf, hz⟩ := hw1.facts
        try simp at hz
        try go_simp
        try rfl
      try go_simp
      refine hK _ ?_; clear hK K; refine qWalk_step ?_; intro K hK; go_simp; apply Exists.intro; refine And.intro ?_ ?_
      · intro w1 hw1
        try go_simp
        try rfl
      try go_simp
      refine hK _ ?_; clear hK K; refine qWalk_step ?_; intro K hK; go_simp; apply Exists.intro; refine And.intro ?_ ?_
      · intro w1 hw1
        try go_simp
        try rfl
      try go_simp
      refine hK _ ?_; clear hK K; refine qWalk_step ?_; intro K hK; go_simp; apply Exists.intro; refine And.intro ?_ ?_
      · intro w1 hw1
        try go_simp
        try rfl
      try go_simp
      refine hK _ ?_; clear hK K; refine qWalk_step ?_; intro K hK; go_simp; apply Exists.intro; refine And.intro ?_ ?_
      · intro w1 hw1
        obtain ⟨hc, hf, hz⟩ := hw1.facts
        try simp at hz
        try go_simp
        try rfl
      try go_simp
      refine hK _ ?_; clear hK K; refine qWalk_step ?_; intro K hK; go_simp; apply Exists.intro; refine And.intro ?_ ?_
      · intro w1 hw1
        try go_simp
        try rfl
      try go_simp
      refine hK _ ?_; clear hK K; refine qWalk_step ?_; intro K hK; go_simp; apply Exists.intro; refine And.intro ?_ ?_
      · intro w1 hw1
        try go_simp
        try rfl
      try go_simp
      refine hK _ ?_; clear hK K; refine qWalk_step ?_; intro K hK; go_simp; apply Exists.intro; refine And.intro ?_ ?_
      · intro w1 hw1
        try go_simp
        try rfl
      try go_simp
      refine hK _ ?_; clear hK K; refine qWalk_step ?_; intro K hK; go_simp; apply Exists.intro; refine And.intro ?_ ?_
      · intro w1 hw1
        obtain ⟨hc, hf, hz⟩ := hw1.facts
        try simp at hz
        try go_simp
        try rfl
      try go_simp
      refine hK _ ?_; clear hK K; refine qWalk_step ?_; intro K hK; go_simp; apply Exists.intro; refine And.intro ?_ ?_
      · intro w1 hw1
        try go_simp
        try rfl
      try go_simp
      refine hK _ ?_; clear hK K; refine qWalk_step ?_; intro K hK; go_simp; apply Exists.intro; refine And.intro ?_ ?_
      · intro w1 hw1
        obtain ⟨hc, hf, hz⟩ := hw1.facts
        try simp at hz
        try go_simp
        try rfl
      try go_simp
      refine hK _ ?_; clear hK K; refine qWalk_step ?_; intro K hK; go_simp; apply Exists.intro; refine And.intro ?_ ?_
      · intro w1 hw1
        try go_simp
        try rfl
      try go_simp
      refine hK _ ?_; clear hK K; refine qWalk_step ?_; intro K hK; go_simp; apply Exists.intro; refine And.intro ?_ ?_
      · intro w1 hw1
        try go_simp
        try rfl
      try go_simp
      refine hK _ ?_; clear hK K; refine qWalk_step ?_; intro K hK; go_simp; apply Exists.intro; refine And.intro ?_ ?_
      · intro w1 hw1
        try go_simp
        try rfl
      try go_simp
      refine hK _ ?_; clear hK K; refine qWalk_step ?_; intro K hK; go_simp; apply Exists.intro; refine And.intro ?_ ?_
      · intro w1 hw1
        obtain ⟨hc, hf, hz⟩ := hw1.facts
        try simp at hz
        try go_simp
        try rfl
      try go_simp
      refine hK _ ?_; clear hK K; refine qWalk_step ?_; intro K hK; go_simp; apply Exists.intro; refine And.intro ?_ ?_
      · intro w1 hw1
        try go_simp
        exact up_call hw1 (CE.out _ hw1)
      try go_simp
      refine hK _ ?_; clear hK K; refine qWalk_step ?_; intro K hK; go_simp; apply Exists.intro; refine And.intro ?_ ?_
      · intro w1 hw1
        try go_simp
        try rfl
      try go_simp
      refine hK _ ?_; clear hK K; refine qWalk_step ?_; intro K hK; go_simp; apply Exists.intro; refine And.intro ?_ ?_
      · intro w1 hw1
        try go_simp
        try rfl
      try go_simp
      refine hK _ ?_; clear hK K; refine qWalk_step ?_; intro K hK; go_simp; apply Exists.intro; refine And.intro ?_ ?_
      · intro w1 hw1
        try go_simp
        try rfl
      try go_simp
      refine hK _ ?_; clear hK K; refine qWalk_step ?_; intro K hK; go_simp; apply Exists.intro; refine And.intro ?_ ?_
      · intro w1 hw1
        try go_simp
        try rfl
      try go_simp
      refine hK _ ?_; clear hK K; refine qWalk_step ?_; intro K hK; go_simp; apply Exists.intro; refine And.intro ?_ ?_
      · intro w1 hw1
        obtain ⟨hc, hf, hz⟩ := hw1.facts
        try simp at hz
        try go_simp
        try rfl
      try go_simp
      refine hK _ ?_; clear hK K; refine qWalk_step ?_; intro K hK; go_simp; apply Exists.intro; refine And.intro ?_ ?_
      · intro w1 hw1
        try go_simp
        try rfl
      try go_simp
      refine hK _ ?_; clear hK K; refine qWalk_step ?_; intro K hK; go_simp; apply Exists.intro; refine And.intro ?_ ?_
      · intro w1 hw1
        try go_simp
        try rfl
      try go_simp
      refine hK _ ?_; clear hK K; refine qWalk_step ?_; intro K hK; go_simp; apply Exists.intro; refine And.intro ?_ ?_
      · intro w1 hw1
        try go_simp
        try rfl
      try go_simp
      refine hK _ ?_; clear hK K; refine qWalk_step ?_; intro K hK; go_simp; apply Exists.intro; refine And.intro ?_ ?_
      · intro w1 hw1
        obtain ⟨hc, hf, hz⟩ := hw1.facts
        try simp at hz
        try go_simp
        try rfl
      try go_simp
      refine hK _ ?_; clear hK K; refine qWalk_step ?_; intro K hK; go_simp; apply Exists.intro; refine And.intro ?_ ?_
      · intro w1 hw1
        try go_simp
        try rfl
      try go_simp
      refine hK _ ?_; clear hK K; refine qWalk_step ?_; intro K hK; go_simp; apply Exists.intro; refine And.intro ?_ ?_
      · intro w1 hw1
        try go_simp
        try rfl
      try go_simp
      refine hK _ ?_; clear hK K; refine qWalk_step ?_; intro K hK; go_simp; apply Exists.intro; refine And.intro ?_ ?_
      · intro w1 hw1
        obtain ⟨hc, hf, hz⟩ := hw1.facts
        try simp at hz
        try go_simp
        try rfl
      try go_simp
      refine hK _ ?_; clear hK K; refine qWalk_step ?_; intro K hK; go_simp; apply Exists.intro; refine And.intro ?_ ?_
      · intro w1 hw1
        try go_simp
        try rfl
      try go_simp
      refine hK _ ?_; clear hK K; refine qWalk_step ?_; intro K hK; go_simp; apply Exists.intro; refine And.intro ?_ ?_
      · intro w1 hw1
        try go_simp
        try rfl
      try go_simp
      refine hK _ ?_; clear hK K; refine qWalk_step ?_; intro K hK; go_simp; apply Exists.intro; refine And.intro ?_ ?_
      · intro w1 hw1
        try go_simp
        try rfl
      try go_simp
      refine hK _ ?_; clear hK K; refine qWalk_step ?_; intro K hK; go_simp; apply Exists.intro; refine And.intro ?_ ?_
      · intro w1 hw1
        obtain ⟨hc, hf, hz⟩ := hw1.facts
        try simp at hz
        try go_simp
        try rfl
      try go_simp
      refine hK _ ?_; clear hK K; refine qWalk_step ?_; intro K hK; go_simp; apply Exists.intro; refine And.intro ?_ ?_
      · intro w1 hw1
        try go_simp
        try rfl
      try go_simp
      refine hK _ ?_; clear hK K; refine qWalk_step ?_; intro K hK; go_simp; apply Exists.intro; refine And.intro ?_ ?_
      · intro w1 hw1
        try go_simp
        try rfl
      try go_simp
      refine hK _ ?_; clear hK K; refine qWalk_step ?_; intro K hK; go_simp; apply Exists.intro; refine And.intro ?_ ?_
      · intro w1 hw1
        try go_simp
        try rfl
      try go_simp
      refine hK _ ?_; clear hK K; refine qWalk_nil ?_; intro wA uA
      have UA := Lib.hid (URW.out.trans uA)
      have UW := Lib.hid uA
      clear uA x0 x1 lx y0 y1 ly p0 p1 p2 p3 p4 r0 r1 r2 r3 r4 hb hb2 cl CE; go_wp2
      go_loopw [6] (fun i ws => (∃ p : Nat, p ≤ ni ∧ i = .int .i64 p) ∧ Up wA ws) (fun i _ => ni - (intOf i).toNat)
      case atStart => exact ⟨⟨0, by omega, rfl⟩, Up.refl _⟩
      case round =>
        obtain ⟨⟨p, hp, rfl⟩, us⟩ := hrel
        have US := Lib.hid (UA.out.trans us)
        have UT := Lib.hid (UW.out.trans us)
        have USW := Lib.hid us
        clear us
        have Z2 := Lib.hid (Y2.out.up UT.out)
        have Z3 := Lib.hid (Y3.out.up UT.out)
        obtain ⟨x0, x1⟩ := And.intro (Z2.out.cell (j := 0) rfl) (Z2.out.cell (j := 1) rfl)
        have lx := Z2.out.lt
        obtain ⟨y0, y1⟩ := And.intro (Z3.out.cell (j := 0) rfl) (Z3.out.cell (j := 1) rfl)
        have ly := Z3.out.lt
        obtain ⟨p4, r4, hb, hb2⟩ := PP.out
        replace p4 := (UT.out.cells _ _ hb).trans p4
        replace r4 := (UT.out.cells _ _ hb2).trans r4
        replace hb := Nat.lt_of_lt_of_le hb UT.out.size
        replace hb2 := Nat.lt_of_lt_of_le hb2 UT.out.size
        by_cases hlp : p < ni
        · obtain ⟨b3, off3, hA3, hb3, hc3⟩ := (H7.out.up UT.out).2 (by omega)
          obtain ⟨b4, off4, hA4, hb4, hc4⟩ := (G7.out.up UT.out).2 (by omega); subst hA3 hA4
          have e0 := hc3 p hlp
          have e1 := hc4 p hlp
          clear hc3 hc4
          generalize hi_.getD p 0 = z at e0 e1
          have q4 : (z != z) = false := by simp
          have i6 : (p : Int) < ni := by omega
          have i7 : IntKind.i64.wrap ((p : Int) + 1) = (p : Int) + 1 := IntWalk.i64_in _ (by omega)
          go_wp2_with fail
          refine region_qw (by kernel_rfl) (by kernel_rfl) ?_; refine qWalk_step ?_; intro K hK; go_simp; apply Exists.intro; refine And.intro ?_ ?_
          · intro w1 hw1
            try go_simp
            try rfl
          try go_simp
          refine hK _ ?_; clear hK K; refine qWalk_step ?_; intro K hK; go_simp; apply Exists.intro; refine And.intro ?_ ?_
          · intro w1 hw1
            obtain ⟨hc, hf, hz⟩ := hw1.facts
            try simp at hz
            try go_simp
            try rfl
          try go_simp
          refine hK _ ?_; clear hK K; refine qWalk_step ?_; intro K hK; go_simp; apply Exists.intro; refine And.intro ?_ ?_
          · intro w1 hw1
            try go_simp
            try rfl
          try go_simp
          refine hK _ ?_; clear hK K; refine qWalk_step ?_; intro K hK; go_simp; apply Exists.intro; refine And.intro ?_ ?_
          · intro w1 hw1
            try go_simp
            try rfl
          try go_simp
          refine hK _ ?_; clear hK K; refine qWalk_step ?_; intro K hK; go_simp; apply Exists.intro; refine And.intro ?_ ?_
          · intro w1 hw1
            try go_simp
            try rfl
          try go_simp
          refine hK _ ?_; clear hK K; refine qWalk_step ?_; intro K hK; go_simp; apply Exists.intro; refine And.intro ?_ ?_
          · intro w1 hw1
            obtain ⟨hc, hf, hz⟩ := hw1.facts
            try simp at hz
            try go_simp
            try rfl
          try go_simp
          refine hK _ ?_; clear hK K; refine qWalk_step ?_; intro K hK; go_simp; apply Exists.intro; refine And.intro ?_ ?_
          · intro w1 hw1
            try go_simp
            try rfl
          try go_simp
          refine hK _ ?_; clear hK K; refine qWalk_step ?_; intro K hK; go_simp; apply Exists.intro; refine And.intro ?_ ?_
          · intro w1 hw1
            try go_simp
            try rfl
          try go_simp
          refine hK _ ?_; clear hK K; refine qWalk_step ?_; intro K hK; go_simp; apply Exists.intro; refine And.intro ?_ ?_
          · intro w1 hw1
            obtain ⟨hc, hf, hz⟩ := hw1.facts
            try simp at hz
            try go_simp
            try rfl
          try go_simp
          refine hK _ ?_; clear hK K; refine qWalk_step ?_; intro K hK; go_simp; apply Exists.intro; refine And.intro ?_ ?_
          · intro w1 hw1
            try go_simp
            try rfl
          try go_simp
          refine hK _ ?_; clear hK K; refine qWalk_step ?_; intro K hK; go_simp; apply Exists.intro; refine And.intro ?_ ?_
          · intro w1 hw1
            obtain ⟨hc, hf, hz⟩ := hw1.facts
            try simp at hz
            try go_simp
            try rfl
          try go_simp
          refine hK _ ?_; clear hK K; refine qWalk_step ?_; intro K hK; go_simp; apply Exists.intro; refine And.intro ?_ ?_
          · intro w1 hw1
            try go_simp
            try rfl
          try go_simp
          refine hK _ ?_; clear hK K; refine qWalk_step ?_; intro K hK; go_simp; apply Exists.intro; refine And.intro ?_ ?_
          · intro w1 hw1
            try go_simp
            try rfl
          try go_simp
          refine hK _ ?_; clear hK K; refine qWalk_step ?_; intro K hK; go_simp; apply Exists.intro; refine And.intro ?_ ?_
          · intro w1 hw1
            try go_simp
            try rfl
          try go_simp
          refine hK _ ?_; clear hK K; refine qWalk_step ?_; intro K hK; go_simp; apply Exists.intro; refine And.intro ?_ ?_
          · intro w1 hw1
            obtain ⟨hc, hf, hz⟩ := hw1.facts
            try simp at hz
            try go_simp
            try rfl
          try go_simp
          refine hK _ ?_; clear hK K; refine qWalk_step ?_; intro K hK; go_simp; apply Exists.intro; refine And.intro ?_ ?_
          · intro w1 hw1
            try go_simp
            try rfl
          try go_simp
          refine hK _ ?_; clear hK K; refine qWalk_step ?_; intro K hK; go_simp; apply Exists.intro; refine And.intro ?_ ?_
          · intro w1 hw1
            try go_simp
            try rfl
          try go_simp
          refine hK _ ?_; clear hK K; refine qWalk_step ?_; intro K hK; go_simp; apply Exists.intro; refine And.intro ?_ ?_
          · intro w1 hw1
            obtain ⟨hc, hf, hz⟩ := hw1.facts
            try simp at hz
            try go_simp
            try rfl
          try go_simp
          refine hK _ ?_; clear hK K; refine qWalk_step ?_; intro K hK; go_simp; apply Exists.intro; refine And.intro ?_ ?_
          · intro w1 hw1
            try go_simp
            try rfl
          try go_simp
          refine hK _ ?_; clear hK K; refine qWalk_nil ?_; intro wB uB
          have UB := Lib.hid (USW.out.trans uB)
          clear uB x0 x1 lx y0 y1 ly p4 r4 hb hb2; go_wp2
          go_roundw
          case rel => exact ⟨⟨p + 1, by omega, by first | rfl | go_num⟩, UB.out⟩
          case measure => (simp [intOf]; try omega)
        · obtain rfl : p = ni := by omega
          have i6 : ¬ (p : Int) < p := by omega
          go_wp2
          go_roundw
          case rel => exact ⟨⟨q + 1, by omega, by first | rfl | go_num⟩, US.out⟩
          case measure => (simp [intOf]; try omega)
    · obtain rfl : q = n := by omega
      have i4 : ¬ (q : Int) < q := by omega
      go_wp2; clear x0 x1 lx y0 y1 ly
      go_loopw [7] (fun i ws => (∃ p : Nat, p ≤ k ∧ i = .int .i64 p) ∧ Up wr ws) (fun i _ => k - (intOf i).toNat)
      case atStart => exact ⟨⟨0, by omega, rfl⟩, Up.refl _⟩
      case round =>
        obtain ⟨⟨p, hp, rfl⟩, us⟩ := hrel
        have US := Lib.hid (UR.out.trans us)
        have USW := Lib.hid us
        have Z2 := Lib.hid (Y2.out.up us)
        have Z3 := Lib.hid (Y3.out.up us)
        clear us; obtain ⟨x0, x1⟩ := And.intro (Z2.out.cell (j := 0) rfl) (Z2.out.cell (j := 1) rfl)
        have lx := Z2.out.lt
        obtain ⟨y0, y1⟩ := And.intro (Z3.out.cell (j := 0) rfl) (Z3.out.cell (j := 1) rfl)
        have ly := Z3.out.lt
        by_cases hlp : p < k
        · obtain ⟨b, off, hA, hb, hc⟩ := (HL.out.up US.out).2 (by omega)
          obtain ⟨b2, off2, hA2, hb2, hc2⟩ := (HM.out.up US.out).2 (by omega); subst hA hA2; obtain ⟨Ar, nr, cr, e0, he, hnr⟩ := hc p hlp; obtain ⟨Br, mr, dr, e1, hf, hmr⟩ := hc2 p hlp; obtain rfl : nr = mr := he.1.symm.trans hf.1
          have CR := Lib.hid (fun W1 (u : Up _ W1) => tbRecs_same Ar Br nr cr dr (ls.getD p []) W1 (by omega) (he.up u) (hf.up u))
          clear hc hc2 he hf
          have i6 : (p : Int) < k := by omega
          have i7 : IntKind.i64.wrap ((p : Int) + 1) = (p : Int) + 1 := IntWalk.i64_in _ (by omega)
          go_wp2_with fail
          refine region_qw (by kernel_rfl) (by kernel_rfl) ?_; refine qWalk_step ?_; intro K hK; go_simp; apply Exists.intro; refine And.intro ?_ ?_
          · intro w1 hw1
            try go_simp
            try rfl
          try go_simp
          refine hK _ ?_; clear hK K; refine qWalk_step ?_; intro K hK; go_simp; apply Exists.intro; refine And.intro ?_ ?_
          · intro w1 hw1
            obtain ⟨hc, hf, hz⟩ := hw1.facts
            try simp at hz
            try go_simp
            try rfl
          try go_simp
          refine hK _ ?_; clear hK K; refine qWalk_step ?_; intro K hK; go_simp; apply Exists.intro; refine And.intro ?_ ?_
          · intro w1 hw1
            try go_simp
            try rfl
          try go_simp
          refine hK _ ?_; clear hK K; refine qWalk_step ?_; intro K hK; go_simp; apply Exists.intro; refine And.intro ?_ ?_
          · intro w1 hw1
            try go_simp
            try rfl
          try go_simp
          refine hK _ ?_; clear hK K; refine qWalk_step ?_; intro K hK; go_simp; apply Exists.intro; refine And.intro ?_ ?_
          · intro w1 hw1
            obtain ⟨hc, hf, hz⟩ := hw1.facts
            try simp at hz
            try go_simp
            try rfl
          try go_simp
          refine hK _ ?_; clear hK K; refine qWalk_step ?_; intro K hK; go_simp; apply Exists.intro; refine And.intro ?_ ?_
          · intro w1 hw1
            try go_simp
            try rfl
          try go_simp
          refine hK _ ?_; clear hK K; refine qWalk_step ?_; intro K hK; go_simp; apply Exists.intro; refine And.intro ?_ ?_
          · intro w1 hw1
            obtain ⟨hc, hf, hz⟩ := hw1.facts
            try simp at hz
            try go_simp
            try rfl
          try go_simp
          refine hK _ ?_; clear hK K; refine qWalk_step ?_; intro K hK; go_simp; apply Exists.intro; refine And.intro ?_ ?_
          · intro w1 hw1
            try go_simp
            try rfl
          try go_simp
          refine hK _ ?_; clear hK K; refine qWalk_step ?_; intro K hK; go_simp; apply Exists.intro; refine And.intro ?_ ?_
          · intro w1 hw1
            try go_simp
            try rfl
          try go_simp
          refine hK _ ?_; clear hK K; refine qWalk_step ?_; intro K hK; go_simp; apply Exists.intro; refine And.intro ?_ ?_
          · intro w1 hw1
            obtain ⟨hc, hf, hz⟩ := hw1.facts
            try simp at hz
            try go_simp
            try rfl
          try go_simp
          refine hK _ ?_; clear hK K; refine qWalk_step ?_; intro K hK; go_simp; apply Exists.intro; refine And.intro ?_ ?_
          · intro w1 hw1
            try go_simp
            exact up_call hw1 (CR.out _ hw1)
          try go_simp
          refine hK _ ?_; clear hK K; refine qWalk_step ?_; intro K hK; go_simp; apply Exists.intro; refine And.intro ?_ ?_
          · intro w1 hw1
            try go_simp
            try rfl
          try go_simp
          refine hK _ ?_; clear hK K; refine qWalk_nil ?_; intro wB uB
          have UB := Lib.hid (USW.out.trans uB)
          clear uB x0 x1 lx y0 y1 ly; go_wp2
          go_roundw
          case rel => exact ⟨⟨p + 1, by omega, by first | rfl | go_num⟩, UB.out⟩
          case measure => (simp [intOf]; try omega)
        · obtain rfl : p = k := by omega
          have i6 : ¬ (p : Int) < p := by omega
          go_wp2; go_ret
          exact ⟨rfl, US.out⟩
end Go.Proofs.Ytklldniapombiaa

namespace Go.Proofs.Ytklldniapombiaa
set_option maxRecDepth 100000
open Go.RowKit
/-- The world with numbers laid one behind the other. -/
def putF (w : World) (g o : Nat) (f : Nat → Int) : Nat → World
  | 0 => w
  | j + 1 => (putF w g o f j).setCell ⟨g, o + j, none⟩ (.int .i64 (f j))
theorem putF_other (w : World) (g o : Nat) (f : Nat → Int) (b p : Nat) : ∀ s : Nat, (b ≠ g ∨ p < o ∨ o + s ≤ p) → (putF w g o f s).cell? ⟨b, p, none⟩ = w.cell? ⟨b, p, none⟩
  | 0, _ => rfl
  | s + 1, h => by rw [putF, World.cell?_setCell_other _ _ _ _ (addr_ne (by omega)), putF_other w g o f b p s (by omega)]
theorem putF_frozen (w : World) (g o : Nat) (f : Nat → Int) (a : Addr) : ∀ s : Nat, (putF w g o f s).frozen? a = w.frozen? a
  | 0 => rfl
  | s + 1 => by
    have := putF_frozen w g o f a s
    simpa [putF, go_sem] using this
theorem putF_size (w : World) (g o : Nat) (f : Nat → Int) : ∀ s : Nat, (putF w g o f s).heap.size = w.heap.size
  | 0 => rfl
  | s + 1 => by
    have := putF_size w g o f s
    simpa [putF] using this
theorem putF_at (w : World) (g o : Nat) (f : Nat → Int) : ∀ s : Nat, (∀ j, j < s → ∃ v, w.cell? ⟨g, o + j, none⟩ = some v) → ∀ j, j < s → (putF w g o f s).cell? ⟨g, o + j, none⟩ = some (.int .i64 (f j))
  | 0, _, j, hj => absurd hj (by omega)
  | s + 1, h, j, hj => by
    rw [putF]
    by_cases e : j = s
    · subst e
      obtain ⟨v, hv⟩ := h j (by omega)
      exact World.cell?_setCell_same _ _ _ ((putF_other w g o f g (o + j) j (by omega)).trans hv)
    · rw [World.cell?_setCell_other _ _ _ _ (addr_ne (by omega))]
      exact putF_at w g o f s (fun i hi => h i (by omega)) j (by omega)
theorem Up.putF {a w : World} {g : Nat} (h : Up a w) (hg : a.heap.size ≤ g) (o : Nat) (f : Nat → Int) : ∀ s : Nat, Up a (Go.Proofs.Ytklldniapombiaa.putF w g o f s)
  | 0 => h
  | s + 1 => (Up.putF h hg o f s).setCell hg _
theorem IntsOwn.putF {w : World} {g N o s : Nat} {f : Nat → Int} (h : IntsOwn w g N) : IntsOwn (Go.Proofs.Ytklldniapombiaa.putF w g o f s) g N := by
  refine ⟨by rw [putF_size]; exact h.1, fun j hj => ?_⟩; obtain ⟨⟨z, hz⟩, hf⟩ := h.2 j hj; refine ⟨?_, (putF_frozen _ _ _ _ _ _).trans hf⟩
  induction s with
  | zero => exact ⟨z, hz⟩
  | succ s ih =>
    obtain ⟨z', hz'⟩ := ih; rw [Go.Proofs.Ytklldniapombiaa.putF]
    by_cases e : o + s = j
    · subst e
      exact ⟨_, World.cell?_setCell_same _ _ _ hz'⟩
    · exact ⟨z', (World.cell?_setCell_other _ _ _ _ (addr_ne (by omega))).trans hz'⟩
/-- On the way: k rows of s numbers are laid. -/
def RowsTo (w : World) (g n s k : Nat) (F : Nat → Nat → Int) : Prop := IntsOwn w g (n * s) ∧ ∀ i, i < k → ∀ j, j < s → w.cell? ⟨g, i * s + j, none⟩ = some (.int .i64 (F i j))
theorem RowsTo.up {w w' : World} {g n s k : Nat} {F : Nat → Nat → Int} (h : RowsTo w g n s k F) (u : Up w w') : RowsTo w' g n s k F := ⟨h.1.up u, fun i hi j hj => (u.cells _ _ h.1.1).trans (h.2 i hi j hj)⟩
theorem RowsTo.step {w : World} {g n s k : Nat} {F : Nat → Nat → Int} (h : RowsTo w g n s k F) (hk : k < n) (f : Nat → Int) (hf : ∀ j, j < s → f j = F k j) : RowsTo (putF w g (k * s) f s) g n s (k + 1) F := by
  have le1 : (k + 1) * s ≤ n * s := Nat.mul_le_mul_right s (by omega)
  have e1 : (k + 1) * s = k * s + s := by rw [Nat.add_mul, Nat.one_mul]
  refine ⟨h.1.putF, fun i hi j hj => ?_⟩
  by_cases hik : i = k
  · subst hik
    rw [← hf j hj]
    exact putF_at w g (i * s) _ s (fun j hj => by
      obtain ⟨⟨z, hz⟩, _⟩ := h.1.2 (i * s + j) (by omega)
      exact ⟨_, hz⟩) j hj
  · have le2 : (i + 1) * s ≤ k * s := Nat.mul_le_mul_right s (by omega)
    have e2 : (i + 1) * s = i * s + s := by rw [Nat.add_mul, Nat.one_mul]
    exact (putF_other w g (k * s) _ g (i * s + j) s (by omega)).trans (h.2 i (by omega) j hj)
theorem zeros_get (zs : Array Value) (N : Nat) (hz : ∀ j, j < zs.size → zs[j]! = .int .i64 0) (j : Nat) (hj : j < N) (hs : 0 < zs.size) : (madeCells zs N)[j]? = some (.int .i64 0) := by
  have hsz : j < (madeCells zs N).size := by rw [size_madeCells]; exact hj
  rw [Array.getElem?_eq_getElem hsz]; simp only [madeCells, Array.getElem_map, Array.getElem_range]; rw [hz _ (Nat.mod_lt _ hs)]
theorem RowsTo.start (w : World) (n s : Nat) (zs : Array Value) (t : TypeId) (F : Nat → Nat → Int) (hz : ∀ j, j < zs.size → zs[j]! = .int .i64 0) (hs : 0 < zs.size) : RowsTo (w.alloc (.cells (madeCells zs (n * s)) t)) w.heap.size n s 0 F := by
  have hh := heap_alloc_new w (.cells (madeCells zs (n * s)) t)
  refine ⟨⟨by simp, fun j hj => ⟨⟨0, ?_⟩, ?_⟩⟩, fun i hi => absurd hi (by omega)⟩
  · rw [cell_of_row _ _ j _ _ _ hh]
    exact zeros_get zs _ hz j hj hs
  · unfold World.frozen?
    rw [hh]; simp
theorem info180 : (Try.prog.info? 180).map (fun i => (i.zero, i.size, i.bytes)) = some (some (.agg #[.int .i64 0, .int .i64 0, .int .i64 0, .int .i64 0, .int .i64 0, .int .i64 0, .int .i64 0]), 7, 56) := by kernel_rfl
end Go.Proofs.Ytklldniapombiaa

namespace Go.Proofs.Ytklldniapombiaa
set_option maxRecDepth 100000
open Go.RowKit
/-- What takes says of an event, in a machine of so many components and that end. -/
theorem takes_any (M : Value) (many til : Int) (e : Evt) (mp : Option Nat) (hM : M = .agg #[.map mp, .int .i64 many, .int .i64 til]) (w : World) :
    Calls Try.prog 93 #[M, e.v] w fun z w' => z = .returned (.bool (okB e many && decide (e.t ≤ til))) ∧ Up w w' := by
  subst hM
  have OC := Lib.hid (fun W => implOk_any e many W)
  generalize okB e many = b at OC ⊢
  obtain ⟨et, eto, efr, esq, ekd, edt⟩ := e
  have X3 := Lib.hid ((Box3.new w (.map mp) (.int .i64 many) (.int .i64 til) 109).up ((Up.refl _).alloc (.cells #[.int .i64 et, .int .i64 eto, .int .i64 efr, .int .i64 esq, .int .i64 ekd, .int .i64 edt] 74)))
  unfold Evt.v at OC ⊢; dsimp only at OC ⊢
  go_enter Try.func93, Try.ntmps93
  go_wp2_with fail
  refine (OC.out _).mono ?_; rintro v w1 ⟨rfl, u1⟩
  have x3 := X3.out.up u1
  have x5 := (Box.new (w.alloc (.cells #[.map mp, .int .i64 many, .int .i64 til] 109)) ⟨et, eto, efr, esq, ekd, edt⟩ 74).up u1
  simp only [World.size_alloc] at x5; obtain ⟨b0, b1, b2⟩ := And.intro x3.c0 (And.intro x3.c1 x3.c2); obtain ⟨⟨y0, y1, y2, y3, y4, y5⟩, -⟩ := x5.mk6
  have U := Lib.hid ((((Up.refl w).alloc (.cells #[.map mp, .int .i64 many, .int .i64 til] 109)).alloc (.cells #[.int .i64 et, .int .i64 eto, .int .i64 efr, .int .i64 esq, .int .i64 ekd, .int .i64 edt] 74)).trans u1)
  clear x3 x5 u1
  cases b
  · go_wp2
    go_ret
    exact ⟨rfl, U.out⟩
  · go_wp2
    go_ret
    exact ⟨by simp, U.out⟩
end Go.Proofs.Ytklldniapombiaa

namespace Go.Proofs.Ytklldniapombiaa
set_option maxRecDepth 100000
open Go.RowKit
/-- Is a record one, among so many components? -/
def recB (many : Int) (r : Rec) : Bool := okB r.ev many && inB r.s 0 96
end Go.Proofs.Ytklldniapombiaa

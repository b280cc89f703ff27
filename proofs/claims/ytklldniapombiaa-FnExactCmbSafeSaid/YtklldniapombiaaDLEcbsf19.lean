/-
  What impl.CmbOk returns, in one sentence: whether a conservative simulation is one of a model; for every model and every simulation that lie in memory.
  What slices.Min returns, in one sentence: the least of a row of numbers; for every row that lies in memory and is not empty.
  What the methods row and safe of impl.cautious return, in one sentence: a row of its matrix, its least number; for every block of it in memory.
  What impl.newCautious and impl.CmbSafe return, in one sentence: the simulation at work or nothing, the least bound of a host or -1; for every model, simulation and number in memory, where machine.cautious does what it should.
-/
import Derived.Test.YtklldniapombiaaDLEcbsf04
import Derived.Test.YtklldniapombiaaDLEcbsf09
import Derived.Test.YtklldniapombiaaDLEcbsf16
import Derived.Test.YtklldniapombiaaDLEcbsf18
namespace Go.Proofs.Ytklldniapombiaa
set_option maxRecDepth 100000
open Go.RowKit
set_option maxHeartbeats 8000000 in
theorem conserves_any (mp : Option Nat) (many : Nat) (til : Int) (HA : Option Addr) (n hc : Nat) (LB : Option Addr) (k lc : Nat) (hs : List Ch) (ls : List (List Rec)) (w : World) (ht : 0 ≤ til ∧ til ≤ 99) (hV : CbV w HA n LB k hs ls) :
    Calls Try.prog 104 #[.agg #[.map mp, .int .i64 (many : Int), .int .i64 til], .agg #[.slice HA n hc, .slice LB k lc]] w fun x w' => x = .returned (.bool (decide (hs.length = many) && decide (ls.length = many) && chsB many til 0 hs ls)) ∧ Up w w' := by
  have hn := hV.few.1
  have hk := hV.few.2
  have HH := Lib.hid hV.hosts
  have HL := Lib.hid hV.logs
  have LH := Lib.hid hV.hosts.1
  have LL := Lib.hid hV.logs.1
  rw [hV.hosts.1, hV.logs.1]
  have DR := Lib.hid (fun q h => chsB_drop many til hs ls q h)
  have DE := Lib.hid (fun q h => chsB_end many til hs ls q h)
  have H0 := Lib.hid (show chsB many til ((0 : Nat) : Int) (hs.drop 0) (ls.drop 0) = chsB many til 0 hs ls from rfl)
  generalize chsB many til 0 hs ls = res at H0 ⊢
  have X2 := Lib.hid ((Blk.new w #[.map mp, .int .i64 (many : Int), .int .i64 til] 109).alloc (.cells #[.slice HA n hc, .slice LB k lc] 41))
  have X3 := Lib.hid (Blk.new (w.alloc (.cells #[.map mp, .int .i64 (many : Int), .int .i64 til] 109)) #[.slice HA n hc, .slice LB k lc] 41)
  simp only [World.size_alloc] at X3
  have U := Lib.hid (((Up.refl w).alloc (.cells #[.map mp, .int .i64 (many : Int), .int .i64 til] 109)).alloc (.cells #[.slice HA n hc, .slice LB k lc] 41))
  obtain ⟨m0, m1, m2⟩ := And.intro (X2.out.cell (j := 0) rfl) (And.intro (X2.out.cell (j := 1) rfl) (X2.out.cell (j := 2) rfl))
  have lm := X2.out.lt
  obtain ⟨y0, y1⟩ := And.intro (X3.out.cell (j := 0) rfl) (X3.out.cell (j := 1) rfl)
  have ly := X3.out.lt
  clear hV
  go_enter Try.func104, Try.ntmps104
  by_cases e1 : n = many
  · subst e1
    have q1 : ((n : Int) != (n : Int)) = false := by simp
    by_cases e2 : k = n
    · subst e2
      go_wp2; clear m0 m1 m2 lm y0 y1 ly
      generalize (w.alloc (.cells #[.map mp, .int .i64 (k : Int), .int .i64 til] 109)).alloc (.cells #[.slice HA k hc, .slice LB k lc] 41) = W at *
      go_loopw [24] (fun i wr => (∃ q : Nat, q ≤ k ∧ i = .int .i64 q ∧ Hid (chsB k til (q : Int) (hs.drop q) (ls.drop q) = res)) ∧ Up W wr) (fun i _ => k - (intOf i).toNat)
      case atStart => exact ⟨⟨0, by omega, rfl, H0⟩, Up.refl _⟩
      case round =>
        obtain ⟨⟨q, hq, rfl, HR⟩, ur⟩ := hrel
        have UR := Lib.hid (U.out.trans ur)
        have URW := Lib.hid ur
        by_cases hlt : q < k
        · obtain ⟨b, off, hA, hb, hcc⟩ := (HH.out.up UR.out).2 (by omega)
          obtain ⟨b2, off2, hB, hb2, hcl⟩ := (HL.out.up UR.out).2 (by omega); subst hA hB
          have a0 := hcc q hlt
          obtain ⟨A4, n4, c4, p4, hl4, hn4⟩ := hcl q hlt
          have S := DR.out q (by rw [LH.out]; exact hlt)
          rw [HR.out] at S
          generalize hs.getD q default = h at a0 S
          generalize ls.getD q [] = l at hl4 S
          obtain ⟨Aw, nw, cw, Ai, ni, ci, ⟨p0, p1, p2, p3, p5⟩, ⟨h5, h6⟩, h7, h8⟩ := a0
          have ua := (Up.refl wr).alloc (.cells #[.int .i64 h.now.s, .int .i64 h.now.sq, .int .i64 h.now.ct, .slice Aw nw cw, .slice Ai ni ci] 86)
          have C := Lib.hid (fun W1 (u : Up (wr.alloc (.cells #[.int .i64 h.now.s, .int .i64 h.now.sq, .int .i64 h.now.ct, .slice Aw nw cw, .slice Ai ni ci] 86)) W1) => cbFits_any mp k til (q : Int) h Aw nw cw Ai ni ci A4 n4 c4 l W1 ht (h5.up (ua.trans u)) (h7.up (ua.trans u)) (hl4.up (ua.trans u)) ⟨h6, h8, hn4⟩)
          have Z2 := Lib.hid ((X2.out.up ur).up ua)
          have Z3 := Lib.hid ((X3.out.up ur).up ua)
          have Z4 := Lib.hid (Blk.new wr #[.int .i64 h.now.s, .int .i64 h.now.sq, .int .i64 h.now.ct, .slice Aw nw cw, .slice Ai ni ci] 86)
          have p4' := (ua.cells _ _ hb2).trans p4
          have hb2' : b2 < (wr.alloc (.cells #[.int .i64 h.now.s, .int .i64 h.now.sq, .int .i64 h.now.ct, .slice Aw nw cw, .slice Ai ni ci] 86)).heap.size := by have := ua.size; omega
          have UA := Lib.hid (URW.out.trans ua)
          generalize chB k til (q : Int) h l = r at S C
          have S' := Lib.hid S
          generalize h.now.s = z0 at *
          generalize h.now.sq = z1 at *
          generalize h.now.ct = z2 at *
          clear S hcc hcl h5 h6 h7 h8 hl4 hn4 ur ua p4
          have i4 : (q : Int) < k := by omega
          go_wp2_with fail
          generalize hb6 : wr.heap.size = b6 at *
          generalize wr.alloc (.cells #[.int .i64 z0, .int .i64 z1, .int .i64 z2, .slice Aw nw cw, .slice Ai ni ci] 86) = WR at *
          clear p0 p1 p2 p3 p5 hb hb2 hb6; obtain ⟨m0, m1, m2⟩ := And.intro (Z2.out.cell (j := 0) rfl) (And.intro (Z2.out.cell (j := 1) rfl) (Z2.out.cell (j := 2) rfl))
          have lm := Z2.out.lt
          obtain ⟨y0, y1⟩ := And.intro (Z3.out.cell (j := 0) rfl) (Z3.out.cell (j := 1) rfl)
          have ly := Z3.out.lt
          obtain ⟨x0, x1, x2⟩ := And.intro (Z4.out.cell (j := 0) rfl) (And.intro (Z4.out.cell (j := 1) rfl) (Z4.out.cell (j := 2) rfl)); obtain ⟨x3, x4⟩ := And.intro (Z4.out.cell (j := 3) rfl) (Z4.out.cell (j := 4) rfl)
          have lx := Z4.out.lt
          refine region_qw (by kernel_rfl) (by kernel_rfl) ?_; refine qWalk_step ?_; intro K hK; go_simp; apply Exists.intro; refine And.intro ?_ ?_
          · intro w1 hw1
            obtain ⟨hc, hf, hz⟩ := hw1.facts
            try simp at hz
            try go_simp
            try rfl
          try go_simp
          refine hK _ ?_; clear hK K; refine qWalk_step ?_; intro K hK; go_simp; apply Exists.intro; refine And.intro ?_ ?_
          · intro w1 hw1
            obtain ⟨hc, hf, hz⟩ := hw1.facts
            try simp at hz
            try go_simp
            try rfl
          try go_simp
          refine hK _ ?_; clear hK K; refine qWalk_step ?_; intro K hK; go_simp; apply Exists.intro; refine And.intro ?_ ?_
          · intro w1 hw1
            try go_simp
            try rfl
          try go_simp
          refine hK _ ?_; clear hK K; refine qWalk_step ?_; intro K hK; go_simp; apply Exists.intro; refine And.intro ?_ ?_
          · intro w1 hw1
            try go_simp
            try rfl
          try go_simp
          refine hK _ ?_; clear hK K; refine qWalk_step ?_; intro K hK; go_simp; apply Exists.intro; refine And.intro ?_ ?_
          · intro w1 hw1
            obtain ⟨hc, hf, hz⟩ := hw1.facts
            try simp at hz
            try go_simp
            try rfl
          try go_simp
          refine hK _ ?_; clear hK K; refine qWalk_step ?_; intro K hK; go_simp; apply Exists.intro; refine And.intro ?_ ?_
          · intro w1 hw1
            try go_simp
            try rfl
          try go_simp
          refine hK _ ?_; clear hK K; refine qWalk_step ?_; intro K hK; go_simp; apply Exists.intro; refine And.intro ?_ ?_
          · intro w1 hw1
            try go_simp
            try rfl
          try go_simp
          refine hK _ ?_; clear hK K; refine qWalk_step ?_; intro K hK; go_simp; apply Exists.intro; refine And.intro ?_ ?_
          · intro w1 hw1
            obtain ⟨hc, hf, hz⟩ := hw1.facts
            try simp at hz
            try go_simp
            try rfl
          try go_simp
          refine hK _ ?_; clear hK K; refine qWalk_step ?_; intro K hK; go_simp; apply Exists.intro; refine And.intro ?_ ?_
          · intro w1 hw1
            try go_simp
            exact up_call hw1 (C.out _ hw1)
          try go_simp
          refine hK _ ?_; clear hK K; refine qWalk_step ?_; intro K hK; go_simp; apply Exists.intro; refine And.intro ?_ ?_
          · intro w1 hw1
            try go_simp
            try rfl
          try go_simp
          refine hK _ ?_; clear hK K; refine qWalk_nil ?_; intro wA uA
          have UN := Lib.hid (UA.out.trans uA)
          clear uA m0 m1 m2 lm y0 y1 ly x0 x1 x2 x3 x4 lx
          cases r
          · have HF := Lib.hid (show res = false by rw [S'.out]; rfl)
            go_wp2; go_ret
            exact ⟨ret_bool (by rw [HF.out]), U.out.trans UN.out⟩
          · have HN := Lib.hid (show chsB k til ((q + 1 : Nat) : Int) (hs.drop (q + 1)) (ls.drop (q + 1)) = res by rw [S'.out]; rfl)
            go_wp2
            go_roundw
            case rel => exact ⟨⟨q + 1, by omega, by go_num, HN⟩, UN.out⟩
            case measure => simp [intOf]; omega
        · obtain rfl : q = k := by omega
          have i4 : ¬ (q : Int) < q := by omega
          have HT := Lib.hid (show res = true by rw [← HR.out]; exact DE.out q (by rw [LH.out]; omega))
          go_wp2; go_ret
          exact ⟨ret_bool (by rw [HT.out]), UR.out⟩
    · have q2 : ((k : Int) != (n : Int)) = true := by simp; omega
      have q3 : ¬ (k : Int) = (n : Int) := by omega
      go_wp2; go_ret
      exact ⟨ret_bool (by simp), U.out⟩
  · have q2 : ((n : Int) != (many : Int)) = true := by simp; omega
    have q3 : ¬ (n : Int) = (many : Int) := by omega
    go_wp2; go_ret
    exact ⟨ret_bool (by simp [e1]), U.out⟩
end Go.Proofs.Ytklldniapombiaa

namespace Go.Proofs.Ytklldniapombiaa
set_option maxRecDepth 100000
open Go.RowKit
set_option maxHeartbeats 2000000 in
theorem min_any (A : Option Addr) (ni ci : Nat) (zs : List Int) (w : World) (hN : Nms w A ni zs) (h0 : 0 < ni) (h1 : ni ≤ 1048576) :
    Calls Try.prog 116 #[.slice A ni ci] w fun x w' => x = .returned (.int .i64 (mnL (zs.getD 0 0) (zs.drop 1))) ∧ Up w w' := by
  obtain ⟨b, off, hA, hb, hc⟩ := hN.2 h0; subst hA
  have HN := Lib.hid hN
  have LN := Lib.hid hN.1
  have DR := Lib.hid (fun a q h => mnL_drop a zs q h)
  have DE := Lib.hid (fun a q h => mnL_end a zs q h)
  generalize hres : mnL (zs.getD 0 0) (zs.drop 1) = res
  have H0 := Lib.hid hres
  clear hres
  have p0 := hc 0 h0
  rw [Nat.add_zero] at p0
  generalize zs.getD 0 0 = z0 at p0 H0
  have i0 : ¬ (ni : Int) < 1 := by omega
  clear hN hc
  go_enter Try.func116, Try.ntmps116
  go_wp2; clear p0 hb
  go_loopw [3, 4] (fun s i wr => (∃ (a : Int) (q : Nat), 1 ≤ q ∧ q ≤ ni ∧ s = .int .i64 a ∧ i = .int .i64 q ∧ Hid (mnL a (zs.drop q) = res)) ∧ Up w wr) (fun _ i _ => ni - (intOf i).toNat)
  case atStart => exact ⟨⟨z0, 1, by omega, by omega, rfl, rfl, H0⟩, Up.refl _⟩
  case round =>
    obtain ⟨⟨a, q, hq1, hq, rfl, rfl, HR⟩, ur⟩ := hrel
    have UR := Lib.hid ur
    clear ur
    by_cases hlt : q < ni
    · obtain ⟨b2, off2, hA, hb2, hc⟩ := (HN.out.up UR.out).2 h0
      have p := hc q hlt
      have S := DR.out a q (by rw [LN.out]; exact hlt)
      rw [HR.out] at S
      generalize zs.getD q 0 = z at p S
      obtain ⟨rfl, rfl⟩ : b2 = b ∧ off2 = off := by
        injection hA with e
        injection e with e1 e2 _
        exact ⟨e1.symm, e2.symm⟩
      clear hc hA
      have i4 : (q : Int) < ni := by omega
      have i5 : IntKind.i64.wrap ((q : Int) + 1) = (q : Int) + 1 := IntWalk.i64_in _ (by omega)
      by_cases hm : z < a
      · have HZ := Lib.hid (show mnL z (zs.drop (q + 1)) = res by rw [S, show min a z = z by omega])
        clear S; go_wp2
        go_roundw
        case rel => exact ⟨⟨z, q + 1, by omega, by omega, rfl, by first | rfl | go_num, HZ⟩, UR.out⟩
        case measure => (simp [intOf]; try omega)
      · have HZ := Lib.hid (show mnL a (zs.drop (q + 1)) = res by rw [S, show min a z = a by omega])
        clear S; go_wp2
        go_roundw
        case rel => exact ⟨⟨a, q + 1, by omega, by omega, rfl, by first | rfl | go_num, HZ⟩, UR.out⟩
        case measure => (simp [intOf]; try omega)
    · obtain rfl : q = ni := by omega
      have i4 : ¬ (q : Int) < q := by omega
      have HE := Lib.hid (show res = a by rw [← HR.out]; exact DE.out a q (by rw [LN.out]; omega))
      go_wp2; go_ret
      exact ⟨congrArg (fun z => Ending.returned (.int .i64 z)) HE.out.symm, UR.out⟩
end Go.Proofs.Ytklldniapombiaa

namespace Go.Proofs.Ytklldniapombiaa
set_option maxRecDepth 100000
open Go.RowKit
set_option maxHeartbeats 2000000 in
theorem row_any (bX at_ many : Nat) (w : World) (hb : bX < w.heap.size) (hm : w.cell? ⟨bX, 1, none⟩ = some (.int .i64 many)) (ha : at_ < 4) (h4 : many ≤ 4) :
    Calls Try.prog 117 #[.pointer (some ⟨bX, 0, none⟩), .int .i64 at_] w fun x w' => x = .returned (.slice (some ⟨bX, 4 + at_ * 4, none⟩) many 4) ∧ Up w w' := by
  have i4 : (at_ : Int) < 4 := by omega
  have i5 : (many : Int) ≤ 4 := by omega
  go_enter Try.func117, Try.ntmps117
  go_wp2_with fail
  refine region_qw (by kernel_rfl) (by kernel_rfl) ?_; refine qWalk_step ?_; intro K hK; go_simp; apply Exists.intro; refine And.intro ?_ ?_
  · intro w1 hw1
    try go_simp
    try rfl
  try go_simp
  refine hK _ ?_; clear hK K; refine qWalk_step ?_; intro K hK; go_simp; apply Exists.intro; refine And.intro ?_ ?_
  · intro w1 hw1
    try go_simp
    try rfl
  try go_simp
  refine hK _ ?_; clear hK K; refine qWalk_step ?_; intro K hK; go_simp; apply Exists.intro; refine And.intro ?_ ?_
  · intro w1 hw1
    try go_simp
    try rfl
  try go_simp
  refine hK _ ?_; clear hK K; refine qWalk_step ?_; intro K hK; go_simp; apply Exists.intro; refine And.intro ?_ ?_
  · intro w1 hw1
    try go_simp
    try rfl
  try go_simp
  refine hK _ ?_; clear hK K; refine qWalk_step ?_; intro K hK; go_simp; apply Exists.intro; refine And.intro ?_ ?_
  · intro w1 hw1
    try go_simp
    try rfl
  try go_simp
  refine hK _ ?_; clear hK K; refine qWalk_step ?_; intro K hK; go_simp; apply Exists.intro; refine And.intro ?_ ?_
  · intro w1 hw1
    try go_simp
    try rfl
  try go_simp
  refine hK _ ?_; clear hK K; refine qWalk_step ?_; intro K hK; go_simp; apply Exists.intro; refine And.intro ?_ ?_
  · intro w1 hw1
    try go_simp
    try rfl
  try go_simp
  refine hK _ ?_; clear hK K; refine qWalk_step ?_; intro K hK; go_simp; apply Exists.intro; refine And.intro ?_ ?_
  · intro w1 hw1
    try go_simp
    try rfl
  try go_simp
  refine hK _ ?_; clear hK K; refine qWalk_step ?_; intro K hK; go_simp; apply Exists.intro; refine And.intro ?_ ?_
  · intro w1 hw1
    try go_simp
    try rfl
  try go_simp
  refine hK _ ?_; clear hK K; refine qWalk_step ?_; intro K hK; go_simp; apply Exists.intro; refine And.intro ?_ ?_
  · intro w1 hw1
    obtain ⟨hc, hf, hz⟩ := hw1.facts
    try simp at hz
    try go_simp
    try rfl
  try go_simp
  refine hK _ ?_; clear hK K; refine qWalk_step ?_; intro K hK; go_simp; apply Exists.intro; refine And.intro ?_ ?_
  · intro w1 hw1
    try go_simp
    try rfl
  try go_simp
  refine hK _ ?_; clear hK K; refine qWalk_step ?_; intro K hK; go_simp; apply Exists.intro; refine And.intro ?_ ?_
  · intro w1 hw1
    try go_simp
    try rfl
  try go_simp
  refine hK _ ?_; clear hK K; refine qWalk_nil ?_; intro wA uA; go_wp2; go_ret
  exact ⟨rfl, uA⟩
theorem safe_any (bX at_ many : Nat) (zs : List Int) (w : World) (hb : bX < w.heap.size) (hm : w.cell? ⟨bX, 1, none⟩ = some (.int .i64 many)) (ha : at_ < 4) (h0 : 0 < many) (h4 : many ≤ 4) (hN : Nms w (some ⟨bX, 4 + at_ * 4, none⟩) many zs) :
    Calls Try.prog 61 #[.pointer (some ⟨bX, 0, none⟩), .int .i64 at_] w fun x w' => x = .returned (.int .i64 (mnL (zs.getD 0 0) (zs.drop 1))) ∧ Up w w' := by
  have CR := Lib.hid (row_any bX at_ many w hb hm ha h4)
  have CM := Lib.hid (fun W (u : Up w W) => min_any (some ⟨bX, 4 + at_ * 4, none⟩) many 4 zs W (hN.up u) h0 (by omega))
  generalize mnL (zs.getD 0 0) (zs.drop 1) = R at CM ⊢
  clear hN hm
  go_enter Try.func61, Try.ntmps61
  go_wp2_with fail
  refine CR.out.mono ?_; rintro x w1 ⟨rfl, u1⟩
  go_wp2_with fail
  refine (CM.out _ u1).mono ?_; rintro x w2 ⟨rfl, u2⟩; go_wp2; go_ret
  exact ⟨rfl, u1.trans u2⟩
end Go.Proofs.Ytklldniapombiaa

namespace Go.Proofs.Ytklldniapombiaa
set_option maxRecDepth 100000
open Go.RowKit
/-- A block of impl.cautious: so many components, and each host's bounds. -/
def CauAt (bX many : Nat) (hs : List Ch) (w : World) : Prop := bX < w.heap.size ∧ w.cell? ⟨bX, 1, none⟩ = some (.int .i64 many) ∧ ∀ r, r < many → Nms w (some ⟨bX, 4 + r * 4, none⟩) many (hs.getD r default).ins
theorem CauAt.up {bX many : Nat} {hs : List Ch} {w w' : World} (h : CauAt bX many hs w) (u : Up w w') : CauAt bX many hs w' :=
  ⟨Nat.lt_of_lt_of_le h.1 u.size, (u.cells _ _ h.1).trans h.2.1, fun r hr => (h.2.2 r hr).up u⟩
/-- What machine.cautious should do. -/
def CauSays : Prop := ∀ (mb many : Nat) (til : Int) (HA : Option Addr) (n hc : Nat) (LB : Option Addr) (k lc : Nat) (hs : List Ch) (ls : List (List Rec)) (w : World), many ≤ 4 → n = many → k = many → (∀ i, i < n → (hs.getD i default).ins.length = many) → CbV w HA n LB k hs ls →
  Calls Try.prog 115 #[.agg #[.map (some mb), .int .i64 many, .int .i64 til], .agg #[.slice HA n hc, .slice LB k lc]] w fun x w' => ∃ bX, x = .returned (.pointer (some ⟨bX, 0, none⟩)) ∧ CauAt bX many hs w' ∧ Up w w'
def NewCau (m : Mdl) (hs : List Ch) (ls : List (List Rec)) (at_ : Int) (w : World) (x : Ending) (w' : World) : Prop :=
  Up w w' ∧ (((cbB m hs ls && inB at_ 0 ((m.rules.length : Int) - 1)) = false ∧ x = .returned (.tuple #[.pointer none, .bool false])) ∨
    ((cbB m hs ls && inB at_ 0 ((m.rules.length : Int) - 1)) = true ∧ ∃ bX, x = .returned (.tuple #[.pointer (some ⟨bX, 0, none⟩), .bool true]) ∧ CauAt bX m.rules.length hs w'))
set_option maxHeartbeats 4000000 in
theorem newCautious_of (HC : CauSays) (A : Option Addr) (n c : Nat) (B : Option Addr) (k d : Nat) (m : Mdl) (HA : Option Addr) (nh hc : Nat) (LB : Option Addr) (nl lc : Nat) (hs : List Ch) (ls : List (List Rec)) (at_ : Int) (w : World) (hM : MdlV w A n B k m) (hV : CbV w HA nh LB nl hs ls) :
    Calls Try.prog 60 #[.agg #[.slice A n c, .slice B k d, .int .i64 m.til], .agg #[.slice HA nh hc, .slice LB nl lc], .int .i64 at_] w (NewCau m hs ls at_ w) := by
  have CM := Lib.hid (fun W (u : Up w W) => newMachine_any A n c B k d m W (hM.up u))
  have CV := Lib.hid (fun W (u : Up w W) mb ht => conserves_any (some mb) m.rules.length m.til HA nh hc LB nl lc hs ls W ht (hV.up u))
  have LV := Lib.hid (show cbB m hs ls = (mdlB m && (decide (hs.length = m.rules.length) && decide (ls.length = m.rules.length) && chsB m.rules.length m.til 0 hs ls)) from rfl)
  have CC := Lib.hid (fun W (u : Up w W) mb h4 e1 e2 e3 => HC mb m.rules.length m.til HA nh hc LB nl lc hs ls W h4 e1 e2 e3 (hV.up u))
  have LH := Lib.hid hV.hosts.1
  have LL := Lib.hid hV.logs.1
  have CHS := Lib.hid (fun e i hi => chsB_at m.rules.length m.til hs ls 0 e i hi)
  have X3 := Lib.hid (Blk.new (w.alloc (.cells #[.slice A n c, .slice B k d, .int .i64 m.til] 36)) #[.slice HA nh hc, .slice LB nl lc] 41)
  simp only [World.size_alloc] at X3
  have U := Lib.hid (((Up.refl w).alloc (.cells #[.slice A n c, .slice B k d, .int .i64 m.til] 36)).alloc (.cells #[.slice HA nh hc, .slice LB nl lc] 41))
  clear hM hV; unfold NewCau
  generalize hcb : cbB m hs ls = cb at LV ⊢
  clear hcb; unfold MachPost at CM
  generalize hr : (decide (hs.length = m.rules.length) && decide (ls.length = m.rules.length) && chsB m.rules.length m.til 0 hs ls) = r at CV LV
  have HR := Lib.hid hr
  clear hr
  go_enter Try.func60, Try.ntmps60
  go_wp2_with fail
  generalize (w.alloc (.cells #[.slice A n c, .slice B k d, .int .i64 m.til] 36)).alloc (.cells #[.slice HA nh hc, .slice LB nl lc] 41) = W0 at *
  generalize hbm : w.heap.size + 1 = bS at *
  generalize hbx : w.heap.size = bM at *
  clear hbm hbx; refine (CM.out _ U.out).mono ?_; rintro x w1 ⟨u1, ⟨hm, rfl⟩ | ⟨hm, mb, rfl, hb, _⟩⟩
  · have HF := Lib.hid (show cb = false by rw [LV.out, hm]; rfl)
    have UE := Lib.hid ((U.out.trans u1).alloc (.cells #[.map none, .int .i64 0, .int .i64 0] 109))
    go_wp2
    exact bodyPost_ret (v := .tuple #[.pointer none, .bool false]) (by simp [results, Try.results60, go_sem]) rfl ⟨UE.out, .inl ⟨by rw [HF.out]; rfl, rfl⟩⟩
  · have HF := Lib.hid (show cb = r by rw [LV.out, hm]; rfl)
    have TL := mdlB_til hm
    have FEW := (mdlB_few hm).2
    have UE := Lib.hid ((U.out.trans u1).alloc (.cells #[.map (some mb), .int .i64 m.rules.length, .int .i64 m.til] 109))
    have Y2 := Lib.hid (Blk.new w1 #[.map (some mb), .int .i64 m.rules.length, .int .i64 m.til] 109)
    have Y3 := Lib.hid ((X3.out.up u1).alloc (.cells #[.map (some mb), .int .i64 m.rules.length, .int .i64 m.til] 109))
    obtain ⟨m0, m1, m2⟩ := And.intro (Y2.out.cell (j := 0) rfl) (And.intro (Y2.out.cell (j := 1) rfl) (Y2.out.cell (j := 2) rfl))
    have lm := Y2.out.lt
    obtain ⟨y0, y1⟩ := And.intro (Y3.out.cell (j := 0) rfl) (Y3.out.cell (j := 1) rfl)
    have ly := Y3.out.lt
    clear u1 hb
    go_wp2_with fail
    generalize w1.alloc (.cells #[.map (some mb), .int .i64 m.rules.length, .int .i64 m.til] 109) = W1 at *
    generalize hbk : w1.heap.size = bK at *
    clear hbk m0 m1 m2 lm y0 y1 ly; refine (CV.out _ UE.out mb TL).mono ?_; rintro x w2 ⟨rfl, u2⟩
    replace UE := Lib.hid (UE.out.trans u2)
    replace Y2 := Lib.hid (Y2.out.up u2)
    replace Y3 := Lib.hid (Y3.out.up u2)
    clear u2; obtain ⟨m0, m1, m2⟩ := And.intro (Y2.out.cell (j := 0) rfl) (And.intro (Y2.out.cell (j := 1) rfl) (Y2.out.cell (j := 2) rfl))
    have lm := Y2.out.lt
    obtain ⟨y0, y1⟩ := And.intro (Y3.out.cell (j := 0) rfl) (Y3.out.cell (j := 1) rfl)
    have ly := Y3.out.lt
    cases r
    · go_wp2
      exact bodyPost_ret (v := .tuple #[.pointer none, .bool false]) (by simp [results, Try.results60, go_sem]) rfl ⟨UE.out, .inl ⟨by rw [HF.out]; rfl, rfl⟩⟩
    · have i1 : IntKind.i64.wrap ((m.rules.length : Int) - 1) = (m.rules.length : Int) - 1 := IntWalk.i64_in _ (by omega)
      have CF := Lib.hid (fun W => within_any at_ 0 ((m.rules.length : Int) - 1) W)
      generalize hin : inB at_ 0 ((m.rules.length : Int) - 1) = b1 at CF
      have HIN := Lib.hid hin
      clear hin
      cases b1
      · go_wp2_with fail
        refine (CF.out _).mono ?_; rintro x w3 ⟨rfl, rfl⟩; go_wp2
        exact bodyPost_ret (v := .tuple #[.pointer none, .bool false]) (by simp [results, Try.results60, go_sem]) rfl ⟨UE.out, .inl ⟨by rw [HF.out, HIN.out]; rfl, rfl⟩⟩
      · have E := HR.out
        simp only [Bool.and_eq_true, decide_eq_true_eq] at E
        have C := Lib.hid (fun W u => CC.out W u mb FEW (LH.out.symm.trans E.1.1) (LL.out.symm.trans E.1.2) (fun i hi => CHS.out E.2 i (by rw [LH.out]; exact hi)))
        clear E
        go_wp2_with fail
        refine (CF.out _).mono ?_; rintro x w3 ⟨rfl, rfl⟩
        go_wp2_with fail
        refine (C.out _ UE.out).mono ?_; rintro x w4 ⟨bX, rfl, ca, u4⟩
        have CA := Lib.hid ca
        have UF := Lib.hid (UE.out.trans u4)
        clear ca u4 m0 m1 m2 lm y0 y1 ly; go_wp2
        exact bodyPost_ret (v := .tuple #[.pointer (some ⟨bX, 0, none⟩), .bool true]) (by simp [results, Try.results60, go_sem]) rfl ⟨UF.out, .inr ⟨by rw [HF.out, HIN.out]; rfl, bX, rfl, CA.out⟩⟩
set_option maxHeartbeats 2000000 in
theorem implCbSafe_of (HC : CauSays) (A : Option Addr) (n c : Nat) (B : Option Addr) (k d : Nat) (m : Mdl) (HA : Option Addr) (nh hc : Nat) (LB : Option Addr) (nl lc : Nat) (hs : List Ch) (ls : List (List Rec)) (at_ : Int) (w : World) (hM : MdlV w A n B k m) (hV : CbV w HA nh LB nl hs ls) :
    Calls Try.prog 16 #[.agg #[.slice A n c, .slice B k d, .int .i64 m.til], .agg #[.slice HA nh hc, .slice LB nl lc], .int .i64 at_] w fun x w' => x = .returned (.int .i64 (safV m hs ls at_)) ∧ Up w w' := by
  have CN := Lib.hid (fun W (u : Up w W) => newCautious_of HC A n c B k d m HA nh hc LB nl lc hs ls at_ W (hM.up u) (hV.up u))
  have LEN := Lib.hid (fun (e : cbB m hs ls = true) => show hs.length = m.rules.length from by
    unfold cbB at e; simp only [Bool.and_eq_true, decide_eq_true_eq] at e
    exact e.2.1.1)
  have FEW := Lib.hid (fun (e : cbB m hs ls = true) => show m.rules.length ≤ 4 from by
    unfold cbB at e; simp only [Bool.and_eq_true] at e
    exact (mdlB_few e.1).2)
  have U := Lib.hid (((Up.refl w).alloc (.cells #[.slice A n c, .slice B k d, .int .i64 m.til] 36)).alloc (.cells #[.slice HA nh hc, .slice LB nl lc] 41))
  unfold NewCau at CN; clear hM hV
  go_enter Try.func16, Try.ntmps16
  go_wp2_with fail
  refine (CN.out _ (by first | exact U.out | exact Up.refl _)).mono ?_; rintro x w1 ⟨u1, ⟨hf, rfl⟩ | ⟨ht, bX, rfl, ca⟩⟩
  · have HF := Lib.hid (show safV m hs ls at_ = -1 by
      unfold safV
      by_cases e : cbB m hs ls = true
      · rw [LEN.out e, hf]; rfl
      · rw [show cbB m hs ls = false by simpa using e]; rfl)
    have UE := Lib.hid (show Up w w1 from by first | exact U.out.trans u1 | exact u1)
    go_wp2; go_ret
    exact ⟨congrArg (fun z => Ending.returned (.int .i64 z)) HF.out.symm, UE.out⟩
  · have UE := Lib.hid (show Up w w1 from by first | exact U.out.trans u1 | exact u1)
    rw [Bool.and_eq_true] at ht
    have i0 := inB_iff.1 ht.2
    obtain ⟨q, rfl⟩ : ∃ q : Nat, at_ = q := ⟨at_.toNat, by omega⟩
    have hq : q < m.rules.length := by omega
    have h4 := FEW.out ht.1
    have HF := Lib.hid (show safV m hs ls q = mnL ((hs.getD q default).ins.getD 0 0) ((hs.getD q default).ins.drop 1) by
      unfold safV
      rw [LEN.out ht.1, ht.1, ht.2]; rfl)
    have C := Lib.hid (fun W (u : Up w1 W) => safe_any bX q m.rules.length (hs.getD q default).ins W (ca.up u).1 (ca.up u).2.1 (by omega) (by omega) h4 ((ca.up u).2.2 q hq))
    generalize mnL ((hs.getD q default).ins.getD 0 0) ((hs.getD q default).ins.drop 1) = R at C HF
    clear u1 ca i0
    go_wp2_with fail
    refine (C.out _ (Up.refl _)).mono ?_; rintro x w2 ⟨rfl, u2⟩; go_wp2; go_ret
    exact ⟨congrArg (fun z => Ending.returned (.int .i64 z)) HF.out.symm, UE.out.trans u2⟩
end Go.Proofs.Ytklldniapombiaa

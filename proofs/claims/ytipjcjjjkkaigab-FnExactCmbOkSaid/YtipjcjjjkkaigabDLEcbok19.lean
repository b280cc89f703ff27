/-
  What impl.CmbOk returns, in one sentence: whether a conservative simulation is one of a model; for every model and every simulation that lie in memory.
  What toIntS and toCmbHost return, in one sentence: the same over new rows; for all that lie in memory.
-/
import Derived.Test.YtipjcjjjkkaigabDLEcbok02
import Derived.Test.YtipjcjjjkkaigabDLEcbok03
import Derived.Test.YtipjcjjjkkaigabDLEcbok06
import Derived.Test.YtipjcjjjkkaigabDLEcbok09
import Derived.Test.YtipjcjjjkkaigabDLEcbok12
import Derived.Test.YtipjcjjjkkaigabDLEcbok16
import Derived.Test.YtipjcjjjkkaigabDLEcbok18
namespace Go.Proofs.Ytipjcjjjkkaigab
set_option maxRecDepth 100000
open Go.RowKit
set_option maxHeartbeats 8000000 in
theorem conserves_any (mp : Option Nat) (many : Nat) (til : Int) (HA : Option Addr) (n hc : Nat) (LB : Option Addr) (k lc : Nat) (hs : List Ch) (ls : List (List Rec)) (w : World) (ht : 0 ≤ til ∧ til ≤ 99) (hV : CbV w HA n LB k hs ls) :
    Calls Try.prog 31 #[.agg #[.map mp, .int .i64 (many : Int), .int .i64 til], .agg #[.slice HA n hc, .slice LB k lc]] w fun x w' => x = .returned (.bool (decide (hs.length = many) && decide (ls.length = many) && chsB many til 0 hs ls)) ∧ Up w w' := by
  have hn := hV.few.1
  have hk := hV.few.2
  have HH := Lib.hid hV.hosts
  have HL := Lib.hid hV.logs
  have LH := Lib.hid hV.hosts.1
  have LL := Lib.hid hV.logs.1
  rw [hV.hosts.1, hV.logs.1]
  have DR := Lib.hid (fun q h => chsB_drop many til hs ls q h)
  have DE := Lib.hid (fun q h => chsB_end many til hs ls q h)
  have H0 := Lib.hid (show chsB many til ((0 : Nat) : Int) (hs.drop 0) (ls.drop 0) = chsB many til 0 hs ls from rfl)
  generalize chsB many til 0 hs ls = res at H0 ⊢
  have X2 := Lib.hid ((Blk.new w #[.map mp, .int .i64 (many : Int), .int .i64 til] 70).alloc (.cells #[.slice HA n hc, .slice LB k lc] 41))
  have X3 := Lib.hid (Blk.new (w.alloc (.cells #[.map mp, .int .i64 (many : Int), .int .i64 til] 70)) #[.slice HA n hc, .slice LB k lc] 41)
  simp only [World.size_alloc] at X3
  have U := Lib.hid (((Up.refl w).alloc (.cells #[.map mp, .int .i64 (many : Int), .int .i64 til] 70)).alloc (.cells #[.slice HA n hc, .slice LB k lc] 41))
  obtain ⟨m0, m1, m2⟩ := And.intro (X2.out.cell (j := 0) rfl) (And.intro (X2.out.cell (j := 1) rfl) (X2.out.cell (j := 2) rfl))
  have lm := X2.out.lt
  obtain ⟨y0, y1⟩ := And.intro (X3.out.cell (j := 0) rfl) (X3.out.cell (j := 1) rfl)
  have ly := X3.out.lt
  clear hV
  go_enter Try.func31, Try.ntmps31
  by_cases e1 : n = many
  · subst e1
    have q1 : ((n : Int) != (n : Int)) = false := by simp
    by_cases e2 : k = n
    · subst e2
      go_wp2; clear m0 m1 m2 lm y0 y1 ly
      generalize (w.alloc (.cells #[.map mp, .int .i64 (k : Int), .int .i64 til] 70)).alloc (.cells #[.slice HA k hc, .slice LB k lc] 41) = W at *
      go_loopw [24] (fun i wr => (∃ q : Nat, q ≤ k ∧ i = .int .i64 q ∧ Hid (chsB k til (q : Int) (hs.drop q) (ls.drop q) = res)) ∧ Up W wr) (fun i _ => k - (intOf i).toNat)
      case atStart => exact ⟨⟨0, by omega, rfl, H0⟩, Up.refl _⟩
      case round =>
        obtain ⟨⟨q, hq, rfl, HR⟩, ur⟩ := hrel
        have UR := Lib.hid (U.out.trans ur)
        have URW := Lib.hid ur
        by_cases hlt : q < k
        · obtain ⟨b, off, hA, hb, hcc⟩ := (HH.out.up UR.out).2 (by omega)
          obtain ⟨b2, off2, hB, hb2, hcl⟩ := (HL.out.up UR.out).2 (by omega); subst hA hB
          have a0 := hcc q hlt
          obtain ⟨A4, n4, c4, p4, hl4, hn4⟩ := hcl q hlt
          have S := DR.out q (by rw [LH.out]; exact hlt)
          rw [HR.out] at S
          generalize hs.getD q default = h at a0 S
          generalize ls.getD q [] = l at hl4 S
          obtain ⟨Aw, nw, cw, Ai, ni, ci, ⟨p0, p1, p2, p3, p5⟩, ⟨h5, h6⟩, h7, h8⟩ := a0
          have ua := (Up.refl wr).alloc (.cells #[.int .i64 h.now.s, .int .i64 h.now.sq, .int .i64 h.now.ct, .slice Aw nw cw, .slice Ai ni ci] 56)
          have C := Lib.hid (fun W1 (u : Up (wr.alloc (.cells #[.int .i64 h.now.s, .int .i64 h.now.sq, .int .i64 h.now.ct, .slice Aw nw cw, .slice Ai ni ci] 56)) W1) => cbFits_any mp k til (q : Int) h Aw nw cw Ai ni ci A4 n4 c4 l W1 ht (h5.up (ua.trans u)) (h7.up (ua.trans u)) (hl4.up (ua.trans u)) ⟨h6, h8, hn4⟩)
          have Z2 := Lib.hid ((X2.out.up ur).up ua)
          have Z3 := Lib.hid ((X3.out.up ur).up ua)
          have Z4 := Lib.hid (Blk.new wr #[.int .i64 h.now.s, .int .i64 h.now.sq, .int .i64 h.now.ct, .slice Aw nw cw, .slice Ai ni ci] 56)
          have p4' := (ua.cells _ _ hb2).trans p4
          have hb2' : b2 < (wr.alloc (.cells #[.int .i64 h.now.s, .int .i64 h.now.sq, .int .i64 h.now.ct, .slice Aw nw cw, .slice Ai ni ci] 56)).heap.size := by have := ua.size; omega
          have UA := Lib.hid (URW.out.trans ua)
          generalize chB k til (q : Int) h l = r at S C
          have S' := Lib.hid S
          generalize h.now.s = z0 at *
          generalize h.now.sq = z1 at *
          generalize h.now.ct = z2 at *
          clear S hcc hcl h5 h6 h7 h8 hl4 hn4 ur ua p4
          have i4 : (q : Int) < k := by omega
          go_wp2_with fail
          generalize hb6 : wr.heap.size = b6 at *
          generalize wr.alloc (.cells #[.int .i64 z0, .int .i64 z1, .int .i64 z2, .slice Aw nw cw, .slice Ai ni ci] 56) = WR at *
          clear p0 p1 p2 p3 p5 hb hb2 hb6; obtain ⟨m0, m1, m2⟩ := And.intro (Z2.out.cell (j := 0) rfl) (And.intro (Z2.out.cell (j := 1) rfl) (Z2.out.cell (j := 2) rfl))
          have lm := Z2.out.lt
          obtain ⟨y0, y1⟩ := And.intro (Z3.out.cell (j := 0) rfl) (Z3.out.cell (j := 1) rfl)
          have ly := Z3.out.lt
          obtain ⟨x0, x1, x2⟩ := And.intro (Z4.out.cell (j := 0) rfl) (And.intro (Z4.out.cell (j := 1) rfl) (Z4.out.cell (j := 2) rfl)); obtain ⟨x3, x4⟩ := And.intro (Z4.out.cell (j := 3) rfl) (Z4.out.cell (j := 4) rfl)
          have lx := Z4.out.lt
          refine region_qw (by kernel_rfl) (by kernel_rfl) ?_; refine qWalk_step ?_; intro K hK; go_simp; apply Exists.intro; refine And.intro ?_ ?_
          · intro w1 hw1
            obtain ⟨hc, hf, hz⟩ := hw1.facts
            try simp at hz
            try go_simp
            try rfl
          try go_simp
          refine hK _ ?_; clear hK K; refine qWalk_step ?_; intro K hK; go_simp; apply Exists.intro; refine And.intro ?_ ?_
          · intro w1 hw1
            obtain ⟨hc, hf, hz⟩ := hw1.facts
            try simp at hz
            try go_simp
            try rfl
          try go_simp
          refine hK _ ?_; clear hK K; refine qWalk_step ?_; intro K hK; go_simp; apply Exists.intro; refine And.intro ?_ ?_
          · intro w1 hw1
            try go_simp
            try rfl
          try go_simp
          refine hK _ ?_; clear hK K; refine qWalk_step ?_; intro K hK; go_simp; apply Exists.intro; refine And.intro ?_ ?_
          · intro w1 hw1
            try go_simp
            try rfl
          try go_simp
          refine hK _ ?_; clear hK K; refine qWalk_step ?_; intro K hK; go_simp; apply Exists.intro; refine And.intro ?_ ?_
          · intro w1 hw1
            obtain ⟨hc, hf, hz⟩ := hw1.facts
            try simp at hz
            try go_simp
            try rfl
          try go_simp
          refine hK _ ?_; clear hK K; refine qWalk_step ?_; intro K hK; go_simp; apply Exists.intro; refine And.intro ?_ ?_
          · intro w1 hw1
            try go_simp
            try rfl
          try go_simp
          refine hK _ ?_; clear hK K; refine qWalk_step ?_; intro K hK; go_simp; apply Exists.intro; refine And.intro ?_ ?_
          · intro w1 hw1
            try go_simp
            try rfl
          try go_simp
          refine hK _ ?_; clear hK K; refine qWalk_step ?_; intro K hK; go_simp; apply Exists.intro; refine And.intro ?_ ?_
          · intro w1 hw1
            obtain ⟨hc, hf, hz⟩ := hw1.facts
            try simp at hz
            try go_simp
            try rfl
          try go_simp
          refine hK _ ?_; clear hK K; refine qWalk_step ?_; intro K hK; go_simp; apply Exists.intro; refine And.intro ?_ ?_
          · intro w1 hw1
            try go_simp
            exact up_call hw1 (C.out _ hw1)
          try go_simp
          refine hK _ ?_; clear hK K; refine qWalk_step ?_; intro K hK; go_simp; apply Exists.intro; refine And.intro ?_ ?_
          · intro w1 hw1
            try go_simp
            try rfl
          try go_simp
          refine hK _ ?_; clear hK K; refine qWalk_nil ?_; intro wA uA
          have UN := Lib.hid (UA.out.trans uA)
          clear uA m0 m1 m2 lm y0 y1 ly x0 x1 x2 x3 x4 lx
          cases r
          · have HF := Lib.hid (show res = false by rw [S'.out]; rfl)
            go_wp2; go_ret
            exact ⟨ret_bool (by rw [HF.out]), U.out.trans UN.out⟩
          · have HN := Lib.hid (show chsB k til ((q + 1 : Nat) : Int) (hs.drop (q + 1)) (ls.drop (q + 1)) = res by rw [S'.out]; rfl)
            go_wp2
            go_roundw
            case rel => exact ⟨⟨q + 1, by omega, by go_num, HN⟩, UN.out⟩
            case measure => simp [intOf]; omega
        · obtain rfl : q = k := by omega
          have i4 : ¬ (q : Int) < q := by omega
          have HT := Lib.hid (show res = true by rw [← HR.out]; exact DE.out q (by rw [LH.out]; omega))
          go_wp2; go_ret
          exact ⟨ret_bool (by rw [HT.out]), UR.out⟩
    · have q2 : ((k : Int) != (n : Int)) = true := by simp; omega
      have q3 : ¬ (k : Int) = (n : Int) := by omega
      go_wp2; go_ret
      exact ⟨ret_bool (by simp), U.out⟩
  · have q2 : ((n : Int) != (many : Int)) = true := by simp; omega
    have q3 : ¬ (n : Int) = (many : Int) := by omega
    go_wp2; go_ret
    exact ⟨ret_bool (by simp [e1]), U.out⟩
set_option maxHeartbeats 4000000 in
theorem implCbOk_any (A : Option Addr) (n c : Nat) (B : Option Addr) (k d : Nat) (m : Mdl) (HA : Option Addr) (nh hc : Nat) (LB : Option Addr) (nl lc : Nat) (hs : List Ch) (ls : List (List Rec)) (w : World) (hM : MdlV w A n B k m) (hV : CbV w HA nh LB nl hs ls) :
    Calls Try.prog 11 #[.agg #[.slice A n c, .slice B k d, .int .i64 m.til], .agg #[.slice HA nh hc, .slice LB nl lc]] w fun x w' => x = .returned (.bool (cbB m hs ls)) ∧ Up w w' := by
  have CM := Lib.hid (fun W (u : Up w W) => newMachine_any A n c B k d m W (hM.up u))
  have CV := Lib.hid (fun W (u : Up w W) mb ht => conserves_any (some mb) m.rules.length m.til HA nh hc LB nl lc hs ls W ht (hV.up u))
  have LV := Lib.hid (show cbB m hs ls = (mdlB m && (decide (hs.length = m.rules.length) && decide (ls.length = m.rules.length) && chsB m.rules.length m.til 0 hs ls)) from rfl)
  generalize (decide (hs.length = m.rules.length) && decide (ls.length = m.rules.length) && chsB m.rules.length m.til 0 hs ls) = r at CV LV
  have X3 := Lib.hid (Blk.new (w.alloc (.cells #[.slice A n c, .slice B k d, .int .i64 m.til] 36)) #[.slice HA nh hc, .slice LB nl lc] 41)
  simp only [World.size_alloc] at X3
  have U := Lib.hid (((Up.refl w).alloc (.cells #[.slice A n c, .slice B k d, .int .i64 m.til] 36)).alloc (.cells #[.slice HA nh hc, .slice LB nl lc] 41))
  clear hM hV; unfold MachPost at CM
  go_enter Try.func11, Try.ntmps11
  go_wp2_with fail
  refine (CM.out _ U.out).mono ?_; rintro x w1 ⟨u1, ⟨hm, rfl⟩ | ⟨hm, mb, rfl, hb, _⟩⟩
  · have HF := Lib.hid (show cbB m hs ls = false by rw [LV.out, hm]; rfl)
    have UE := Lib.hid ((U.out.trans u1).alloc (.cells #[.map none, .int .i64 0, .int .i64 0] 70))
    go_wp2; go_ret
    exact ⟨ret_bool HF.out.symm, UE.out⟩
  · have HF := Lib.hid (show cbB m hs ls = r by rw [LV.out, hm]; rfl)
    have TL := mdlB_til hm
    have UE := Lib.hid ((U.out.trans u1).alloc (.cells #[.map (some mb), .int .i64 m.rules.length, .int .i64 m.til] 70))
    have Y3 := Lib.hid ((X3.out.up u1).alloc (.cells #[.map (some mb), .int .i64 m.rules.length, .int .i64 m.til] 70))
    obtain ⟨y0, y1⟩ := And.intro (Y3.out.cell (j := 0) rfl) (Y3.out.cell (j := 1) rfl)
    have ly := Y3.out.lt
    clear u1 hb
    go_wp2_with fail
    refine (CV.out _ UE.out mb TL).mono ?_; rintro x w2 ⟨rfl, u2⟩; go_wp2; go_ret
    exact ⟨ret_bool HF.out.symm, UE.out.trans u2⟩
end Go.Proofs.Ytipjcjjjkkaigab

namespace Go.Proofs.Ytipjcjjjkkaigab
set_option maxRecDepth 100000
open Go.RowKit
/-- Blocks from lo on stay as they are. -/
structure Hib (lo : Nat) (w w2 : World) : Prop where
  size : w.heap.size ≤ w2.heap.size
  block : ∀ k, lo ≤ k → k < w.heap.size → w2.heap[k]? = w.heap[k]?
theorem Hib.refl (lo : Nat) (w : World) : Hib lo w w := ⟨Nat.le_refl _, fun _ _ _ => rfl⟩
theorem Hib.set {lo b o : Nat} {a w : World} {u : Value} (h : Hib lo a w) (hb : b < lo) : Hib lo a (w.setCell ⟨b, o, none⟩ u) :=
  ⟨by simpa using h.size, fun k h1 h2 => (Below.heap_setCell w ⟨b, o, none⟩ u k (by dsimp only; omega)).trans (h.block k h1 h2)⟩
theorem Hib.cell {lo b o : Nat} {a w : World} (h : Hib lo a w) (h1 : lo ≤ b) (h2 : b < a.heap.size) : w.cell? ⟨b, o, none⟩ = a.cell? ⟨b, o, none⟩ := World.cell?_of_block (w := a) (a := ⟨b, o, none⟩) (h.block b h1 h2)
theorem Hib.frozen {lo b o : Nat} {a w : World} (h : Hib lo a w) (h1 : lo ≤ b) (h2 : b < a.heap.size) : w.frozen? ⟨b, o, none⟩ = a.frozen? ⟨b, o, none⟩ := by
  unfold World.frozen?; dsimp only; rw [h.block b h1 h2]
theorem IntsOwn.hib {lo g N : Nat} {w w2 : World} (h : IntsOwn w g N) (k : Hib lo w w2) (hg : lo ≤ g) : IntsOwn w2 g N :=
  ⟨Nat.lt_of_lt_of_le h.1 k.size, fun j hj => by
    obtain ⟨⟨z, hz⟩, hf⟩ := h.2 j hj
    exact ⟨⟨z, (k.cell hg h.1).trans hz⟩, (k.frozen hg h.1).trans hf⟩⟩
theorem Blk.castb {w : World} {b e : Nat} {arr arr2 : Array Value} (h : Blk w b e arr) (k : arr = arr2) : Blk w b e arr2 := k ▸ h
/-- A list of items in a row of the call's own. -/
structure NwR (w : World) (lo g n : Nat) (xs : List Rec) : Prop where
  lo_ : lo ≤ g
  v : Recs w (some ⟨g, 0, none⟩) n xs
  own : IntsOwn w g (n * 7)
theorem NwR.up {w w2 : World} {lo g n : Nat} {xs : List Rec} (h : NwR w lo g n xs) (u : Up w w2) : NwR w2 lo g n xs := ⟨h.lo_, h.v.up u, h.own.up u⟩
theorem NwR.hib {w w2 : World} {lo g n : Nat} {xs : List Rec} (h : NwR w lo g n xs) (k : Hib lo w w2) : NwR w2 lo g n xs :=
  ⟨h.lo_, ⟨h.v.1, fun hn => by
    obtain ⟨b, off, hA, hb, hc⟩ := h.v.2 hn
    have : b = g := by injection hA with e; injection e with e; exact e.symm
    subst this
    exact ⟨b, off, hA, Nat.lt_of_lt_of_le hb k.size, fun i hi => (hc i hi).keep fun j => k.cell h.lo_ hb⟩⟩, h.own.hib k h.lo_⟩
theorem Hib.mono {lo hi : Nat} {a b : World} (h : Hib lo a b) (k : lo ≤ hi) : Hib hi a b := ⟨h.size, fun j h1 h2 => h.block j (Nat.le_trans k h1) h2⟩
/-- A row of numbers of the call's own. -/
structure NwN (w : World) (lo g n : Nat) (xs : List Int) : Prop where
  lo_ : lo ≤ g
  v : Nms w (some ⟨g, 0, none⟩) n xs
  own : IntsOwn w g (n * 1)
theorem NwN.up {w w2 : World} {lo g n : Nat} {xs : List Int} (h : NwN w lo g n xs) (u : Up w w2) : NwN w2 lo g n xs := ⟨h.lo_, h.v.up u, h.own.up u⟩
theorem NwN.hib {w w2 : World} {lo g n : Nat} {xs : List Int} (h : NwN w lo g n xs) (k : Hib lo w w2) : NwN w2 lo g n xs :=
  ⟨h.lo_, ⟨h.v.1, fun hn => by
    obtain ⟨b, off, hA, hb, hc⟩ := h.v.2 hn
    have : b = g := by injection hA with e; injection e with e; exact e.symm
    subst this
    exact ⟨b, off, hA, Nat.lt_of_lt_of_le hb k.size, fun i hi => (k.cell h.lo_ hb).trans (hc i hi)⟩⟩, h.own.hib k h.lo_⟩
/-- Events of the call's own. -/
structure NwE (w : World) (lo g n : Nat) (xs : List Evt) : Prop where
  lo_ : lo ≤ g
  own : Own w g n xs
theorem NwE.up {w w2 : World} {lo g n : Nat} {xs : List Evt} (h : NwE w lo g n xs) (u : Up w w2) : NwE w2 lo g n xs := ⟨h.lo_, h.own.up' u⟩
theorem NwE.hib {w w2 : World} {lo g n : Nat} {xs : List Evt} (h : NwE w lo g n xs) (k : Hib lo w w2) : NwE w2 lo g n xs :=
  ⟨h.lo_, h.own.1, Nat.lt_of_lt_of_le h.own.2.1 k.size, fun i hi => by
    obtain ⟨h0, h1, h2, h3, h4, h5⟩ := h.own.2.2.1 i hi
    have c := fun o => k.cell (o := o) h.lo_ h.own.2.1
    exact ⟨(c _).trans h0, (c _).trans h1, (c _).trans h2, (c _).trans h3, (c _).trans h4, (c _).trans h5⟩, fun j hj => (k.frozen h.lo_ h.own.2.1).trans (h.own.2.2.2 j hj)⟩
theorem NwE.evs {w : World} {lo g n : Nat} {xs : List Evt} (h : NwE w lo g n xs) : Evs w (some ⟨g, 0, none⟩) n xs := h.own.evs'
theorem info3 : (Try.prog.info? 3).map (fun i => (i.zero, i.size, i.bytes)) = some (some (.int .i64 0), 1, 8) := by kernel_rfl
set_option maxHeartbeats 2000000 in
theorem toN_any (A : Option Addr) (n cap : Nat) (xs : List Int) (w : World) (hn : n ≤ 1048576) (hE : Nms w A n xs) :
    Calls Try.prog 80 #[.slice A n cap] w fun x w' => ∃ g, x = .returned (.slice (some ⟨g, 0, none⟩) n n) ∧ NwN w' w.heap.size g n xs ∧ Up w w' := by
  obtain ⟨i0, hi, hz0, hz1, hz2⟩ := info_parts info3
  have hmk := fun W => run_make_rowN (P := Try.prog) 54 3 i0 _ Try.underlying54 hi hz0 .i64 .i64 n n (Nat.le_refl _) (by rw [hz2]; omega) (by omega) W
  rw [hz1] at hmk
  have HE := Lib.hid hE
  have LE := Lib.hid hE.1
  clear hE hi hz0 hz1 hz2
  go_enter Try.func80, Try.ntmps80
  go_wp2
  generalize hg : w.heap.size = g
  have HG := Lib.hid (Nat.le_of_eq hg)
  go_loopw [4] (fun i wr => (∃ k : Nat, k ≤ n ∧ i = .int .i64 k ∧ RowsTo wr g n 1 k (fun i _ => xs.getD i 0)) ∧ Up w wr) (fun i _ => n - (intOf i).toNat)
  case atStart =>
    refine ⟨⟨0, by omega, rfl, ?_⟩, by first | exact (Up.refl _).alloc _ | (simpa using (Up.refl w).alloc _)⟩; subst hg
    have := RowsTo.start w n 1 #[.int .i64 0] 3 (fun i _ => xs.getD i 0) (fun j hj => by
      obtain rfl : j = 0 := by simp at hj; omega
      rfl) (by simp)
    first | exact this | simpa using this
  case round =>
    obtain ⟨⟨k, hk, rfl, hp⟩, ur⟩ := hrel
    have UR := Lib.hid ur
    by_cases hlt : k < n
    · obtain ⟨b, off, hA, hb, hc⟩ := (HE.out.up ur).2 (by omega)
      subst hA
      have a0 := hc k hlt
      clear hc ur
      have SX := Lib.hid (hp.step hlt (fun _ => xs.getD k 0) (fun j _ => rfl))
      have UX := Lib.hid ((UR.out.putF HG.out (k * 1) (fun _ => xs.getD k 0) 1))
      obtain ⟨⟨v0, c0⟩, f0⟩ := hp.1.2 k (by omega)
      have hgl := hp.1.1
      clear hp
      have i4 : (k : Int) < n := by omega
      have i5 : IntKind.i64.wrap ((k : Int) + 1) = (k : Int) + 1 := IntWalk.i64_in _ (by omega)
      generalize xs.getD k 0 = p at a0 SX UX
      simp only [putF, Nat.add_zero, Nat.mul_one] at SX UX; go_wp2
      go_roundw
      case rel => exact ⟨⟨k + 1, by omega, by first | rfl | go_num, SX.out⟩, UX.out⟩
      case measure => (simp [intOf]; try omega)
    · obtain rfl : k = n := by omega
      have i4 : ¬ (k : Int) < k := by omega
      have HP := Lib.hid hp
      clear hp ur; go_wp2; go_ret
      exact ⟨g, rfl, ⟨by have := HG.out; omega, ⟨LE.out, fun _ => ⟨g, 0, rfl, HP.out.1.1, fun i hi => by
        have h := HP.out.2 i hi 0 (by omega)
        rw [Nat.zero_add]
        simpa using h⟩⟩, HP.out.1⟩, UR.out⟩
/-- A host over new rows. -/
def NewCh (h : Ch) (n k : Nat) (w : World) (x : Ending) (w' : World) : Prop :=
  ∃ g g2, x = .returned (.agg #[.int .i64 h.now.s, .int .i64 h.now.sq, .int .i64 h.now.ct, .slice (some ⟨g, 0, none⟩) n n, .slice (some ⟨g2, 0, none⟩) k k]) ∧ NwE w' w.heap.size g n h.wait ∧ NwN w' w.heap.size g2 k h.ins ∧ Up w w'
set_option maxHeartbeats 800000 in
theorem toCh_any (h : Ch) (A : Option Addr) (n c : Nat) (B : Option Addr) (k d : Nat) (w : World) (hn : n ≤ 1048576) (hk : k ≤ 1048576) (hE : Evs w A n h.wait) (hN : Nms w B k h.ins) : Calls Try.prog 56 #[.agg #[.int .i64 h.now.s, .int .i64 h.now.sq, .int .i64 h.now.ct, .slice A n c, .slice B k d]] w (NewCh h n k w) := by
  have c0 := fun W => toCst_any h.now W
  have C1 := Lib.hid (fun W (u : Up w W) => toS_any A n c h.wait W (by omega) (hE.up u))
  have C2 := Lib.hid (fun W (u : Up w W) => toN_any B k d h.ins W hk (hN.up u))
  unfold NewCh; unfold NewEvs at C1; obtain ⟨⟨a0, a1, a2⟩, hw_, hi_⟩ := h; unfold Cst.v at c0; dsimp only at c0 C1 C2 ⊢
  have C0 := Lib.hid c0
  clear c0 hE hN
  have X := Lib.hid (((Blk.new w #[.int .i64 a0, .int .i64 a1, .int .i64 a2, .slice A n c, .slice B k d] 100).alloc (.cells #[.int .i64 0, .int .i64 0, .int .i64 0, .slice none 0 0, .slice none 0 0] 56)).alloc (.cells #[.int .i64 0, .int .i64 0, .int .i64 0, .slice none 0 0, .slice none 0 0] 56))
  have R := Lib.hid ((Blk.new (w.alloc (.cells #[.int .i64 a0, .int .i64 a1, .int .i64 a2, .slice A n c, .slice B k d] 100)) #[.int .i64 0, .int .i64 0, .int .i64 0, .slice none 0 0, .slice none 0 0] 56).alloc (.cells #[.int .i64 0, .int .i64 0, .int .i64 0, .slice none 0 0, .slice none 0 0] 56))
  have O := Lib.hid (Blk.new ((w.alloc (.cells #[.int .i64 a0, .int .i64 a1, .int .i64 a2, .slice A n c, .slice B k d] 100)).alloc (.cells #[.int .i64 0, .int .i64 0, .int .i64 0, .slice none 0 0, .slice none 0 0] 56)) #[.int .i64 0, .int .i64 0, .int .i64 0, .slice none 0 0, .slice none 0 0] 56)
  simp only [World.size_alloc] at R O
  have U := Lib.hid ((((Up.refl w).alloc (.cells #[.int .i64 a0, .int .i64 a1, .int .i64 a2, .slice A n c, .slice B k d] 100)).alloc (.cells #[.int .i64 0, .int .i64 0, .int .i64 0, .slice none 0 0, .slice none 0 0] 56)).alloc (.cells #[.int .i64 0, .int .i64 0, .int .i64 0, .slice none 0 0, .slice none 0 0] 56))
  have le_ : w.heap.size + 3 ≤ (((w.alloc (.cells #[.int .i64 a0, .int .i64 a1, .int .i64 a2, .slice A n c, .slice B k d] 100)).alloc (.cells #[.int .i64 0, .int .i64 0, .int .i64 0, .slice none 0 0, .slice none 0 0] 56)).alloc (.cells #[.int .i64 0, .int .i64 0, .int .i64 0, .slice none 0 0, .slice none 0 0] 56)).heap.size := by simp
  go_enter Try.func56, Try.ntmps56
  go_wp2_with fail
  generalize ((w.alloc (.cells #[.int .i64 a0, .int .i64 a1, .int .i64 a2, .slice A n c, .slice B k d] 100)).alloc (.cells #[.int .i64 0, .int .i64 0, .int .i64 0, .slice none 0 0, .slice none 0 0] 56)).alloc (.cells #[.int .i64 0, .int .i64 0, .int .i64 0, .slice none 0 0, .slice none 0 0] 56) = W at *
  generalize hbO : w.heap.size + 1 + 1 = bO at *
  generalize hbR : w.heap.size + 1 = bR at *
  generalize hbX : w.heap.size = bX at *
  have n1 : bX ≠ bR := by omega
  have n2 : bX ≠ bO := by omega
  have n3 : bR ≠ bO := by omega
  have n4 : bO ≠ bX := by omega
  have n5 : bO ≠ bR := by omega
  have n6 : bR ≠ bX := by omega
  have LT := Lib.hid (show w.heap.size ≤ bR ∧ w.heap.size ≤ bO ∧ bR < bX + 3 ∧ bO < bX + 3 by omega)
  clear hbO hbR; refine (C0.out _).mono ?_; rintro x w1_ ⟨rfl, u⟩
  have U := Lib.hid (U.out.trans u)
  have X := Lib.hid (X.out.up u)
  have R := Lib.hid (R.out.up u)
  have O := Lib.hid (O.out.up u)
  have le_ : bX + 3 ≤ w1_.heap.size := Nat.le_trans le_ u.size
  clear u
  have O2 := Lib.hid (Blk.castb (arr2 := #[.int .i64 a0, .int .i64 a1, .int .i64 a2, .slice none 0 0, .slice none 0 0]) (((O.out.set 0 (.int .i64 a0)).set 1 (.int .i64 a1)).set 2 (.int .i64 a2)) (by simp))
  have R2 := Lib.hid (((R.out.far (b' := bO) 0 (.int .i64 a0) n3).far (b' := bO) 1 (.int .i64 a1) n3).far (b' := bO) 2 (.int .i64 a2) n3)
  have X2 := Lib.hid (((X.out.far (b' := bO) 0 (.int .i64 a0) n2).far (b' := bO) 1 (.int .i64 a1) n2).far (b' := bO) 2 (.int .i64 a2) n2)
  have U2 := Lib.hid (((U.out.setCell (p := ⟨bO, 0, none⟩) (LT.out.2.1) (.int .i64 a0)).setCell (p := ⟨bO, 1, none⟩) (LT.out.2.1) (.int .i64 a1)).setCell (p := ⟨bO, 2, none⟩) (LT.out.2.1) (.int .i64 a2))
  have HS2 := Lib.hid ((((Hib.refl (bX + 3) w1_).set (b := bO) (o := 0) (u := .int .i64 a0) LT.out.2.2.2).set (b := bO) (o := 1) (u := .int .i64 a1) LT.out.2.2.2).set (b := bO) (o := 2) (u := .int .i64 a2) LT.out.2.2.2)
  have o0 := O.out.cell (j := 0) rfl
  have o1 := O.out.cell (j := 1) rfl
  have o2 := O.out.cell (j := 2) rfl
  have o3 := O.out.cell (j := 3) rfl
  have o4 := O.out.cell (j := 4) rfl
  have fO := O.out.frozen
  have lo_ := O.out.lt
  have x3 := X.out.cell (j := 3) rfl
  have lx := X.out.lt
  have le2 : bX + 3 ≤ ((((w1_.setCell ⟨bO, 0, none⟩ (.int .i64 a0)).setCell ⟨bO, 1, none⟩ (.int .i64 a1)).setCell ⟨bO, 2, none⟩ (.int .i64 a2))).heap.size := by simpa using le_
  clear le_
  go_wp2_with fail
  generalize (((w1_.setCell ⟨bO, 0, none⟩ (.int .i64 a0)).setCell ⟨bO, 1, none⟩ (.int .i64 a1)).setCell ⟨bO, 2, none⟩ (.int .i64 a2)) = V0 at *
  have le_ := le2
  have O := O2
  have R := R2
  have X := X2
  have U := U2
  clear le2 O2 R2 X2 U2 HS2 fO lo_ lx x3 o0 o1 o2 o3 o4
  have le_pre := le_
  refine (C1.out _ U.out).mono ?_; rintro x w2_ ⟨g, rfl, hg, ho, u⟩
  have U := Lib.hid (U.out.trans u)
  have X := Lib.hid (X.out.up u)
  have R := Lib.hid (R.out.up u)
  have O := Lib.hid (O.out.up u)
  have le_ : bX + 3 ≤ w2_.heap.size := Nat.le_trans le_ u.size
  have N1 := Lib.hid (show NwE w2_ (bX + 3) g n hw_ from ⟨Nat.le_trans le_pre hg, ho⟩)
  clear hg ho le_pre; clear u
  have O2 := Lib.hid (Blk.castb (arr2 := #[.int .i64 a0, .int .i64 a1, .int .i64 a2, .slice (some ⟨g, 0, none⟩) n n, .slice none 0 0]) (O.out.set 3 (.slice (some ⟨g, 0, none⟩) n n)) (by simp))
  have R2 := Lib.hid (R.out.far (b' := bO) 3 (.slice (some ⟨g, 0, none⟩) n n) n3)
  have X2 := Lib.hid (X.out.far (b' := bO) 3 (.slice (some ⟨g, 0, none⟩) n n) n2)
  have U2 := Lib.hid (U.out.setCell (p := ⟨bO, 3, none⟩) (LT.out.2.1) (.slice (some ⟨g, 0, none⟩) n n))
  have HS2 := Lib.hid ((Hib.refl (bX + 3) w2_).set (b := bO) (o := 3) (u := .slice (some ⟨g, 0, none⟩) n n) LT.out.2.2.2)
  have N12 := Lib.hid (N1.out.hib HS2.out)
  have o0 := O.out.cell (j := 0) rfl
  have o1 := O.out.cell (j := 1) rfl
  have o2 := O.out.cell (j := 2) rfl
  have o3 := O.out.cell (j := 3) rfl
  have o4 := O.out.cell (j := 4) rfl
  have fO := O.out.frozen
  have lo_ := O.out.lt
  have x4 := X.out.cell (j := 4) rfl
  have lx := X.out.lt
  have le2 : bX + 3 ≤ ((w2_.setCell ⟨bO, 3, none⟩ (.slice (some ⟨g, 0, none⟩) n n))).heap.size := by simpa using le_
  clear le_
  go_wp2_with fail
  generalize (w2_.setCell ⟨bO, 3, none⟩ (.slice (some ⟨g, 0, none⟩) n n)) = V1 at *
  have le_ := le2
  have O := O2
  have R := R2
  have X := X2
  have U := U2
  have N1 := N12
  clear le2 O2 R2 X2 U2 HS2 fO lo_ lx x4 o0 o1 o2 o3 o4 N12
  have le_pre := le_
  refine (C2.out _ U.out).mono ?_; rintro x w3_ ⟨g2, rfl, hv, u⟩
  have U := Lib.hid (U.out.trans u)
  have X := Lib.hid (X.out.up u)
  have R := Lib.hid (R.out.up u)
  have O := Lib.hid (O.out.up u)
  have le_ : bX + 3 ≤ w3_.heap.size := Nat.le_trans le_ u.size
  have N1 := Lib.hid (N1.out.up u)
  have N2 := Lib.hid (show NwN w3_ (bX + 3) g2 k hi_ from ⟨Nat.le_trans le_pre hv.lo_, hv.v, hv.own⟩)
  clear hv le_pre; clear u
  have O2 := Lib.hid (Blk.castb (arr2 := #[.int .i64 a0, .int .i64 a1, .int .i64 a2, .slice (some ⟨g, 0, none⟩) n n, .slice (some ⟨g2, 0, none⟩) k k]) (O.out.set 4 (.slice (some ⟨g2, 0, none⟩) k k)) (by simp))
  have R2 := Lib.hid (R.out.far (b' := bO) 4 (.slice (some ⟨g2, 0, none⟩) k k) n3)
  have X2 := Lib.hid (X.out.far (b' := bO) 4 (.slice (some ⟨g2, 0, none⟩) k k) n2)
  have U2 := Lib.hid (U.out.setCell (p := ⟨bO, 4, none⟩) (LT.out.2.1) (.slice (some ⟨g2, 0, none⟩) k k))
  have HS2 := Lib.hid ((Hib.refl (bX + 3) w3_).set (b := bO) (o := 4) (u := .slice (some ⟨g2, 0, none⟩) k k) LT.out.2.2.2)
  have N12 := Lib.hid (N1.out.hib HS2.out)
  have N22 := Lib.hid (N2.out.hib HS2.out)
  have R3 := Lib.hid (Blk.castb (arr2 := #[.int .i64 a0, .int .i64 a1, .int .i64 a2, .slice (some ⟨g, 0, none⟩) n n, .slice (some ⟨g2, 0, none⟩) k k]) (((((R2.out.set 0 (.int .i64 a0)).set 1 (.int .i64 a1)).set 2 (.int .i64 a2)).set 3 (.slice (some ⟨g, 0, none⟩) n n)).set 4 (.slice (some ⟨g2, 0, none⟩) k k)) (by simp))
  have U3 := Lib.hid (((((U2.out.setCell (p := ⟨bR, 0, none⟩) (LT.out.1) (.int .i64 a0)).setCell (p := ⟨bR, 1, none⟩) (LT.out.1) (.int .i64 a1)).setCell (p := ⟨bR, 2, none⟩) (LT.out.1) (.int .i64 a2)).setCell (p := ⟨bR, 3, none⟩) (LT.out.1) (.slice (some ⟨g, 0, none⟩) n n)).setCell (p := ⟨bR, 4, none⟩) (LT.out.1) (.slice (some ⟨g2, 0, none⟩) k k))
  have HS3 := Lib.hid ((((((Hib.refl (bX + 3) (w3_.setCell ⟨bO, 4, none⟩ (.slice (some ⟨g2, 0, none⟩) k k))).set (b := bR) (o := 0) (u := .int .i64 a0) LT.out.2.2.1).set (b := bR) (o := 1) (u := .int .i64 a1) LT.out.2.2.1).set (b := bR) (o := 2) (u := .int .i64 a2) LT.out.2.2.1).set (b := bR) (o := 3) (u := .slice (some ⟨g, 0, none⟩) n n) LT.out.2.2.1).set (b := bR) (o := 4) (u := .slice (some ⟨g2, 0, none⟩) k k) LT.out.2.2.1)
  have N13 := Lib.hid (N12.out.hib HS3.out)
  have N23 := Lib.hid (N22.out.hib HS3.out)
  have o0 := O.out.cell (j := 0) rfl
  have o1 := O.out.cell (j := 1) rfl
  have o2 := O.out.cell (j := 2) rfl
  have o3 := O.out.cell (j := 3) rfl
  have o4 := O.out.cell (j := 4) rfl
  have fO := O.out.frozen
  have lo_ := O.out.lt
  have r0 := R.out.cell (j := 0) rfl
  have r1 := R.out.cell (j := 1) rfl
  have r2 := R.out.cell (j := 2) rfl
  have r3 := R.out.cell (j := 3) rfl
  have r4 := R.out.cell (j := 4) rfl
  have fR := R.out.frozen
  have lr := R.out.lt
  go_wp2; clear o0 r0 o1 r1 o2 r2 o3 r3 o4 r4 fO fR lo_ lr
  generalize ((((((w3_.setCell ⟨bO, 4, none⟩ (.slice (some ⟨g2, 0, none⟩) k k)).setCell ⟨bR, 0, none⟩ (.int .i64 a0)).setCell ⟨bR, 1, none⟩ (.int .i64 a1)).setCell ⟨bR, 2, none⟩ (.int .i64 a2)).setCell ⟨bR, 3, none⟩ (.slice (some ⟨g, 0, none⟩) n n)).setCell ⟨bR, 4, none⟩ (.slice (some ⟨g2, 0, none⟩) k k)) = WF at *
  obtain ⟨k0, k1, k2, k3, k4⟩ := And.intro (R3.out.cell (j := 0) rfl) (And.intro (R3.out.cell (j := 1) rfl) (And.intro (R3.out.cell (j := 2) rfl) (And.intro (R3.out.cell (j := 3) rfl) (R3.out.cell (j := 4) rfl))))
  exact bodyPost_ret (v := .agg #[.int .i64 a0, .int .i64 a1, .int .i64 a2, .slice (some ⟨g, 0, none⟩) n n, .slice (some ⟨g2, 0, none⟩) k k]) (by simp [results, Try.results56, go_sem, k0, k1, k2, k3, k4]) rfl ⟨g, g2, rfl, ⟨by have := N13.out.lo_; omega, N13.out.own⟩, ⟨by have := N23.out.lo_; omega, N23.out.v, N23.out.own⟩, U3.out⟩
end Go.Proofs.Ytipjcjjjkkaigab

/-
  What l1Put returns, in one sentence: a new slice of the list with the event ahead of the first that is greater; for every list that lies in memory.
  Slices of events given back, in one sentence: a slice of these events; a list in a block of the call's own as a row; no condition is made.
  Rows of events as functions, in one sentence: changed within a stretch, none lost; sorted stretches; a swap; no condition is made.
  Sorted permutations of events, in one sentence: there is but one; and a slice of these events in a block of the call's own; no condition is made.
  Heaps of events as rows, in one sentence: the first is least, a sorted row is one, and moving up or down mends what one event disturbs; no condition is made.
-/
import Derived.Test.YtlikekmhccnilaaGreatDLEsup02
import Derived.Test.YtlikekmhccnilaaGreatDLEsup03
namespace Go.Proofs.YtlikekmhccnilaaGreat
set_option maxRecDepth 100000
open Go.RowKit
/-- What the loop keeps. -/
def PutRel (es : List Evt) (lt : Evt → Bool) (ac : List Evt → List Evt) (n base : Nat) (v d i : Value) (wr : World) : Prop :=
  ∃ (k : Nat) (b : Bool) (l : List Evt), k ≤ n ∧ i = .int .i64 k ∧ d = .bool b ∧ (es.take k).any lt = b ∧ l = ac (es.take k) ∧ (l.length ≤ k ∨ (b = true ∧ l.length ≤ k + 1)) ∧ wr.ownsRow base 130 6 v l.length (flat l)
theorem flat_snoc (l : List Evt) (x : Evt) : flat l ++ flat [x] = flat (l ++ [x]) := (flat_app _ _).symm
theorem own_snoc {w : World} {b e n : Nat} {v : Value} {l : List Evt} {x : Evt} (h : w.ownsRow b e 6 v n (flat l ++ flat [x])) (hn : n = l.length + 1) : w.ownsRow b e 6 v (l ++ [x]).length (flat (l ++ [x])) := by
  rw [flat_snoc] at h; subst hn
  simpa using h
theorem Box.grown {w w' : World} {b : Nat} {e : Evt} {row : Option Nat} (h : Box w b e) (hg : w.grownBy w' row) (hb : some b ≠ row) : Box w' b e :=
  h.keep hg.size (fun _ => World.cell?_of_block (hg.block b h.lt hb)) (fun _ => World.frozen?_of_block (hg.block b h.lt hb))
theorem own_ne {w : World} {base e n b : Nat} {v : Value} {xs : List Value} (h : w.ownsRow base e 6 v n xs) (hb : b < base) : some b ≠ v.ownBlock := fun he => by
  have := (h.lt b he.symm).1
  omega
theorem EvAt.grown {w w' : World} {b o : Nat} {e : Evt} {row : Option Nat} (h : EvAt w b o e) (hg : w.grownBy w' row) (hb : some b ≠ row) : EvAt w' b o e := by
  obtain ⟨h0, h1, h2, h3, h4, h5⟩ := h
  exact ⟨hg.cell h0 hb, hg.cell h1 hb, hg.cell h2 hb, hg.cell h3 hb, hg.cell h4 hb, hg.cell h5 hb⟩
theorem bs_alloc {w w' : World} {b : Nat} {o : Obj} (h : b ≤ w.heap.size) (hs : w.heap.size ≤ w'.heap.size) : b ≤ (w'.alloc o).heap.size := by
  simp
  omega
set_option maxHeartbeats 8000000 in
theorem l1Put_any (A : Option Addr) (n cap : Nat) (es : List Evt) (e : Evt) (w : World) (hn : n ≤ 1000000000) (hE : Evs w A n es) :
    Calls Tryz.prog 149 #[.slice A n cap, e.v] w (NewSl (ins e es) w) := by
  obtain ⟨i0, hi0, hz0, hz1, hz2⟩ := info_parts info130
  have HE := Lib.hid hE
  have LE := Lib.hid hE.1
  have TS := Lib.hid (take_snoc es)
  have AT := Lib.hid (acc_true e)
  have AH := Lib.hid (acc_here e)
  have AN := Lib.hid (acc_no e)
  have AE := Lib.hid (acc_end e es)
  have CL := Lib.hid (fun x W => specLess_any e x W)
  have INF := Lib.hid (And.intro hi0 (And.intro hz0 (And.intro hz1 hz2)))
  have SIX := Lib.hid (show 0 < 6 by omega)
  clear hE hi0 hz0 hz1 hz2
  generalize hins : ins e es = res at AE
  have HI := Lib.hid hins
  clear hins
  generalize hlt : ltE e = lt at AT AH AN AE CL
  generalize hac : acc e = ac at AT AH AN AE
  have ac0 : ac [] = [] := by rw [← hac]; rfl
  have AC0 := Lib.hid ac0
  clear hlt hac ac0; obtain ⟨et, eto, efr, esq, ekd, edt⟩ := e; unfold Evt.v at CL ⊢; dsimp only at CL ⊢
  go_enter Tryz.func149, Tryz.ntmps149
  go_wp2
  go_loopw [5, 6, 7] (fun v d i wr => PutRel es lt ac n (w.heap.size + 1) v d i wr ∧ Up w wr ∧ Box wr w.heap.size ⟨et, eto, efr, esq, ekd, edt⟩) (fun _ _ i _ => n - (intOf i).toNat)
  case atStart =>
    refine ⟨⟨0, false, [], by omega, rfl, rfl, rfl, AC0.out.symm, .inl (by simp), ?_⟩, ((Up.refl w).alloc _).alloc _, (Box.new w ⟨et, eto, efr, esq, ekd, edt⟩ 130).alloc _⟩
    have := World.ownsRow_lit (base := w.heap.size + 1) (e := 130) (size := 6) (w.alloc (.cells #[.int .i64 et, .int .i64 eto, .int .i64 efr, .int .i64 esq, .int .i64 ekd, .int .i64 edt] 130)) #[] 0 (by simp) (by simp only [maxLen]; omega) (by simp)
    simpa [flat] using this
  case round =>
    obtain ⟨⟨k, b, l, hk, rfl, rfl, hb, hl, hlx, ho⟩, ur, bx⟩ := hrel
    have hll : l.length ≤ k + 1 := by rcases hlx with h | h <;> omega
    have HLX := Lib.hid (show b = false → l.length ≤ k from fun h => by rcases hlx with h2 | ⟨h2, _⟩; exact h2; rw [h] at h2; cases h2)
    clear hlx
    have HBB := Lib.hid hb
    have HL := Lib.hid hl
    have HO := Lib.hid ho
    have BX := Lib.hid bx
    have hs := ur.size
    have hsx := bx.lt
    clear hb hl ho bx
    by_cases hlt : k < n
    · obtain ⟨bb, off, hA, hbb, hc⟩ := HE.out.2 (by omega)
      subst hA
      have a0 := (hc k hlt).up ur hbb
      have hbb' : bb < wr.heap.size := by omega
      clear hc
      have ts := TS.out k (by rw [LE.out]; exact hlt)
      have cl := CL.out (es.getD k default)
      have lx1 := AT.out (es.getD k default) (es.take k)
      have lx2 := AH.out (es.getD k default) (es.take k)
      have lx3 := AN.out (es.getD k default) (es.take k)
      generalize es.getD k default = x at a0 ts cl lx1 lx2 lx3
      rw [← ts, HBB.out, ← HL.out] at lx1 lx2 lx3
      have LX1 := Lib.hid lx1
      generalize hltx : lt x = lx at cl lx2 lx3
      have LX2 := Lib.hid lx2
      have LX3 := Lib.hid lx3
      clear ts hltx lx1 lx2 lx3; obtain ⟨xt, xto, xfr, xsq, xkd, xdt⟩ := x
      have AX := Lib.hid a0
      unfold EvAt at a0; dsimp only at a0 cl
      have C := Lib.hid cl
      clear cl
      have i4 : (k : Int) < n := by omega
      have HMX := Lib.hid (show l.length + 1 ≤ maxLen by simp only [maxLen]; omega)
      have HBY := Lib.hid (show (l.length + 1) * 48 ≤ 140737488355328 by omega)
      have HMX2 := Lib.hid (show (l ++ [(⟨et, eto, efr, esq, ekd, edt⟩ : Evt)]).length + 1 ≤ maxLen by simp only [maxLen, List.length_append, List.length_singleton]; omega)
      have HBY2 := Lib.hid (show ((l ++ [(⟨et, eto, efr, esq, ekd, edt⟩ : Evt)]).length + 1) * 48 ≤ 140737488355328 by simp only [List.length_append, List.length_singleton]; omega)
      obtain ⟨⟨e0, e1, e2, e3, e4, e5⟩, -⟩ := BX.out.mk6; obtain ⟨p0, p1, p2, p3, p4, p5⟩ := a0
      cases b
      · cases lx
        · go_wp2
          refine region_up (by kernel_rfl) (by kernel_rfl) ?_; refine up_step rfl ?_; apply Exists.intro; refine ⟨fun w1 hw1 => ?_, ?_⟩
          · go_simp
            try rfl
          go_simp; refine up_step rfl ?_; apply Exists.intro; refine ⟨fun w1 hw1 => ?_, ?_⟩
          · go_simp
            try rfl
          go_simp; refine up_step rfl ?_; apply Exists.intro; refine ⟨fun w1 hw1 => ?_, ?_⟩
          · go_simp
            try rfl
          go_simp; refine up_want (by rfl) ?_; apply Exists.intro; refine ⟨fun w1 hw1 => ?_, ?_⟩
          · obtain ⟨hc, hf, hz⟩ := hw1.facts
            try simp at hz
            go_simp
            try rfl
          go_simp; refine up_want (by rfl) ?_; apply Exists.intro; refine ⟨fun w1 hw1 => ?_, ?_⟩
          · go_simp
            try rfl
          go_simp; refine up_want (by rfl) ?_; apply Exists.intro; refine ⟨fun w1 hw1 => ?_, ?_⟩
          · go_simp
            try rfl
          go_simp; refine up_want (by rfl) ?_; apply Exists.intro; refine ⟨fun w1 hw1 => ?_, ?_⟩
          · go_simp
            try rfl
          go_simp; refine up_want (by rfl) ?_; apply Exists.intro; refine ⟨fun w1 hw1 => ?_, ?_⟩
          · obtain ⟨hc, hf, hz⟩ := hw1.facts
            try simp at hz
            go_simp
            try rfl
          go_simp; refine up_want (by rfl) ?_; apply Exists.intro; refine ⟨fun w1 hw1 => ?_, ?_⟩
          · go_simp
            exact up_call hw1 (C.out _)
          go_simp; refine up_step rfl ?_; apply Exists.intro; refine ⟨fun w1 hw1 => ?_, ?_⟩
          · go_simp
            try rfl
          go_simp; refine wpQuiet_nil ?_; intro wA uA
          have UA := Lib.hid uA
          have HOA := Lib.hid (own_up (own_up HO.out UA.out) ((Up.refl wA).alloc (.cells #[.int .i64 xt, .int .i64 xto, .int .i64 xfr, .int .i64 xsq, .int .i64 xkd, .int .i64 xdt] 130)))
          have HR := Lib.hid (Evs.new wA ⟨xt, xto, xfr, xsq, xkd, xdt⟩ 130).reads
          have HBS := Lib.hid (show w.heap.size + 1 ≤ (wA.alloc (.cells #[.int .i64 xt, .int .i64 xto, .int .i64 xfr, .int .i64 xsq, .int .i64 xkd, .int .i64 xdt] 130)).heap.size by have := UA.out.size; simp; omega)
          have UG := Lib.hid (ur.trans UA.out)
          have BG := Lib.hid ((BX.out.up UA.out).alloc (.cells #[.int .i64 xt, .int .i64 xto, .int .i64 xfr, .int .i64 xsq, .int .i64 xkd, .int .i64 xdt] 130))
          obtain ⟨hc, hf, hz⟩ := uA.facts; clear uA
          go_wp2_with (at_builtin; refine wpList_append_any _ rfl (.tmp 29) (.tmp 34) 33 rfl (w.heap.size + 1) 130 i0 _ 6 48 Tryz.underlying33 INF.out.1 INF.out.2.1 INF.out.2.2.1 INF.out.2.2.2 rfl SIX.out _ _ (flat l) rfl HOA.out _ _ 1 1 (flat [⟨xt, xto, xfr, xsq, xkd, xdt⟩]) rfl HR.out (flat_one _) HMX.out HBY.out HBS.out ?_; intro v2 w2 ho2 hg2 _)
          have HO2 := Lib.hid ho2
          have HG2 := Lib.hid hg2
          clear ho2 hg2
          go_roundw
          case rel =>
            have hlk := HLX.out (by first | trivial | rfl)
            obtain ⟨q1, q2⟩ := LX3.out (by first | trivial | rfl) (by first | trivial | rfl)
            exact ⟨⟨k + 1, false, l ++ [⟨xt, xto, xfr, xsq, xkd, xdt⟩], by omega, by go_num, rfl, q2, q1.symm, .inl (by simp; omega), own_snoc HO2.out rfl⟩, (UG.out.alloc _).grown HG2.out (fun j hj => by have := (HOA.out.lt j hj).1; omega), BG.out.grown HG2.out (own_ne HOA.out (by omega))⟩
          case measure => simp [intOf]; omega
        · go_wp2
          refine region_up (by kernel_rfl) (by kernel_rfl) ?_; refine up_step rfl ?_; apply Exists.intro; refine ⟨fun w1 hw1 => ?_, ?_⟩
          · go_simp
            try rfl
          go_simp; refine up_step rfl ?_; apply Exists.intro; refine ⟨fun w1 hw1 => ?_, ?_⟩
          · go_simp
            try rfl
          go_simp; refine up_step rfl ?_; apply Exists.intro; refine ⟨fun w1 hw1 => ?_, ?_⟩
          · go_simp
            try rfl
          go_simp; refine up_want (by rfl) ?_; apply Exists.intro; refine ⟨fun w1 hw1 => ?_, ?_⟩
          · obtain ⟨hc, hf, hz⟩ := hw1.facts
            try simp at hz
            go_simp
            try rfl
          go_simp; refine up_want (by rfl) ?_; apply Exists.intro; refine ⟨fun w1 hw1 => ?_, ?_⟩
          · go_simp
            try rfl
          go_simp; refine up_want (by rfl) ?_; apply Exists.intro; refine ⟨fun w1 hw1 => ?_, ?_⟩
          · go_simp
            try rfl
          go_simp; refine up_want (by rfl) ?_; apply Exists.intro; refine ⟨fun w1 hw1 => ?_, ?_⟩
          · go_simp
            try rfl
          go_simp; refine up_want (by rfl) ?_; apply Exists.intro; refine ⟨fun w1 hw1 => ?_, ?_⟩
          · obtain ⟨hc, hf, hz⟩ := hw1.facts
            try simp at hz
            go_simp
            try rfl
          go_simp; refine up_want (by rfl) ?_; apply Exists.intro; refine ⟨fun w1 hw1 => ?_, ?_⟩
          · go_simp
            exact up_call hw1 (C.out _)
          go_simp; refine up_step rfl ?_; apply Exists.intro; refine ⟨fun w1 hw1 => ?_, ?_⟩
          · go_simp
            try rfl
          go_simp; refine wpQuiet_nil ?_; intro wA uA
          have HOA := Lib.hid (own_up (own_up HO.out uA) ((Up.refl wA).alloc (.cells #[.int .i64 et, .int .i64 eto, .int .i64 efr, .int .i64 esq, .int .i64 ekd, .int .i64 edt] 130)))
          have HR := Lib.hid (Evs.new wA ⟨et, eto, efr, esq, ekd, edt⟩ 130).reads
          have HBS := Lib.hid (show w.heap.size + 1 ≤ (wA.alloc (.cells #[.int .i64 et, .int .i64 eto, .int .i64 efr, .int .i64 esq, .int .i64 ekd, .int .i64 edt] 130)).heap.size by have := uA.size; simp; omega)
          have UG := Lib.hid (ur.trans uA)
          have BG := Lib.hid ((BX.out.up uA).alloc (.cells #[.int .i64 et, .int .i64 eto, .int .i64 efr, .int .i64 esq, .int .i64 ekd, .int .i64 edt] 130))
          obtain ⟨hc, hf, hz⟩ := uA.facts
          have hwb : w.heap.size < wA.heap.size := by omega
          have HBX := Lib.hid (show bb < w.heap.size + 1 by omega)
          have AXA := Lib.hid ((AX.out.up uA hbb').up ((Up.refl wA).alloc (.cells #[.int .i64 et, .int .i64 eto, .int .i64 efr, .int .i64 esq, .int .i64 ekd, .int .i64 edt] 130)) (Nat.lt_of_lt_of_le hbb' uA.size))
          clear uA
          go_wp2_with (first | (at_builtin; refine wpList_append_any _ rfl (.tmp 25) (.tmp 27) 33 rfl (w.heap.size + 1) 130 i0 _ 6 48 Tryz.underlying33 INF.out.1 INF.out.2.1 INF.out.2.2.1 INF.out.2.2.2 rfl SIX.out _ _ (flat l) rfl HOA.out _ _ 1 1 (flat [⟨et, eto, efr, esq, ekd, edt⟩]) rfl HR.out (flat_one _) HMX.out HBY.out HBS.out ?_; intro v2 w2 ho2 hg2 _; have HO2 := Lib.hid (own_snoc ho2 rfl); have HG2 := Lib.hid hg2; have HS2 := Lib.hid hg2.size; have AX2 := AXA.out.grown hg2 (own_ne HOA.out HBX.out); unfold EvAt at AX2; dsimp only at AX2; obtain ⟨z0, z1, z2, z3, z4, z5⟩ := AX2; have HOA2 := Lib.hid (own_up HO2.out ((Up.refl w2).alloc (.cells #[.int .i64 xt, .int .i64 xto, .int .i64 xfr, .int .i64 xsq, .int .i64 xkd, .int .i64 xdt] 130))); have HR2 := Lib.hid (Evs.new w2 ⟨xt, xto, xfr, xsq, xkd, xdt⟩ 130).reads; have HBS2 := Lib.hid (bs_alloc (o := (.cells #[.int .i64 xt, .int .i64 xto, .int .i64 xfr, .int .i64 xsq, .int .i64 xkd, .int .i64 xdt] 130)) HBS.out HS2.out); clear ho2 hg2) | (at_builtin; refine wpList_append_any _ rfl (.tmp 29) (.tmp 34) 33 rfl (w.heap.size + 1) 130 i0 _ 6 48 Tryz.underlying33 INF.out.1 INF.out.2.1 INF.out.2.2.1 INF.out.2.2.2 rfl SIX.out _ _ (flat (l ++ [(⟨et, eto, efr, esq, ekd, edt⟩ : Evt)])) rfl HOA2.out _ _ 1 1 (flat [⟨xt, xto, xfr, xsq, xkd, xdt⟩]) rfl HR2.out (flat_one _) HMX2.out HBY2.out HBS2.out ?_; intro v3 w3 ho3 hg3 _))
          have HO3 := Lib.hid ho3
          have HG3 := Lib.hid hg3
          clear ho3 hg3
          go_roundw
          case rel =>
            have hlk := HLX.out (by first | trivial | rfl)
            obtain ⟨q1, q2⟩ := LX2.out (by first | trivial | rfl) (by first | trivial | rfl)
            have g1 := (UG.out.alloc (.cells #[.int .i64 et, .int .i64 eto, .int .i64 efr, .int .i64 esq, .int .i64 ekd, .int .i64 edt] 130)).grown HG2.out (fun j hj => by have := (HOA.out.lt j hj).1; omega)
            exact ⟨⟨k + 1, true, l ++ [⟨et, eto, efr, esq, ekd, edt⟩] ++ [⟨xt, xto, xfr, xsq, xkd, xdt⟩], by omega, by go_num, rfl, q2, q1.symm, .inr ⟨rfl, by simp; omega⟩, own_snoc HO3.out rfl⟩, (g1.alloc _).grown HG3.out (fun j hj => by have := (HOA2.out.lt j hj).1; omega), ((BG.out.grown HG2.out (own_ne HOA.out (by omega))).alloc _).grown HG3.out (own_ne HOA2.out (by omega))⟩
          case measure => simp [intOf]; omega
      · go_wp2
        refine region_up (by kernel_rfl) (by kernel_rfl) ?_; refine up_step rfl ?_; apply Exists.intro; refine ⟨fun w1 hw1 => ?_, ?_⟩
        · go_simp
          try rfl
        go_simp; refine up_step rfl ?_; apply Exists.intro; refine ⟨fun w1 hw1 => ?_, ?_⟩
        · go_simp
          try rfl
        go_simp; refine up_step rfl ?_; apply Exists.intro; refine ⟨fun w1 hw1 => ?_, ?_⟩
        · go_simp
          try rfl
        go_simp; refine up_skip (by rfl) ?_; go_simp; refine up_skip (by rfl) ?_; go_simp; refine up_skip (by rfl) ?_; go_simp; refine up_skip (by rfl) ?_; go_simp; refine up_skip (by rfl) ?_; go_simp; refine up_skip (by rfl) ?_; go_simp; refine up_step rfl ?_; apply Exists.intro; refine ⟨fun w1 hw1 => ?_, ?_⟩
        · go_simp
          try rfl
        go_simp; refine wpQuiet_nil ?_; intro wA uA
        have UA := Lib.hid uA
        have HOA := Lib.hid (own_up (own_up HO.out UA.out) ((Up.refl wA).alloc (.cells #[.int .i64 xt, .int .i64 xto, .int .i64 xfr, .int .i64 xsq, .int .i64 xkd, .int .i64 xdt] 130)))
        have HR := Lib.hid (Evs.new wA ⟨xt, xto, xfr, xsq, xkd, xdt⟩ 130).reads
        have HBS := Lib.hid (show w.heap.size + 1 ≤ (wA.alloc (.cells #[.int .i64 xt, .int .i64 xto, .int .i64 xfr, .int .i64 xsq, .int .i64 xkd, .int .i64 xdt] 130)).heap.size by have := UA.out.size; simp; omega)
        have UG := Lib.hid (ur.trans UA.out)
        have BG := Lib.hid ((BX.out.up UA.out).alloc (.cells #[.int .i64 xt, .int .i64 xto, .int .i64 xfr, .int .i64 xsq, .int .i64 xkd, .int .i64 xdt] 130))
        obtain ⟨hc, hf, hz⟩ := uA.facts; clear uA
        go_wp2_with (at_builtin; refine wpList_append_any _ rfl (.tmp 29) (.tmp 34) 33 rfl (w.heap.size + 1) 130 i0 _ 6 48 Tryz.underlying33 INF.out.1 INF.out.2.1 INF.out.2.2.1 INF.out.2.2.2 rfl SIX.out _ _ (flat l) rfl HOA.out _ _ 1 1 (flat [⟨xt, xto, xfr, xsq, xkd, xdt⟩]) rfl HR.out (flat_one _) HMX.out HBY.out HBS.out ?_; intro v2 w2 ho2 hg2 _)
        have HO2 := Lib.hid ho2
        have HG2 := Lib.hid hg2
        clear ho2 hg2
        go_roundw
        case rel =>
          obtain ⟨q1, q2⟩ := LX1.out (by first | trivial | rfl)
          exact ⟨⟨k + 1, true, l ++ [⟨xt, xto, xfr, xsq, xkd, xdt⟩], by omega, by go_num, rfl, q2, q1.symm, .inr ⟨rfl, by simp; omega⟩, own_snoc HO2.out rfl⟩, (UG.out.alloc _).grown HG2.out (fun j hj => by have := (HOA.out.lt j hj).1; omega), BG.out.grown HG2.out (own_ne HOA.out (by omega))⟩
        case measure => simp [intOf]; omega
    · have hkn : k = n := by omega
      have TK := Lib.hid (show es.take k = es by rw [hkn, ← LE.out, List.take_length])
      have HLE := Lib.hid hll
      clear hkn hll; obtain ⟨⟨e0, e1, e2, e3, e4, e5⟩, -⟩ := BX.out.mk6
      cases b
      · have HOA := Lib.hid (own_up HO.out ((Up.refl wr).alloc (.cells #[.int .i64 et, .int .i64 eto, .int .i64 efr, .int .i64 esq, .int .i64 ekd, .int .i64 edt] 130)))
        have HR := Lib.hid (Evs.new wr ⟨et, eto, efr, esq, ekd, edt⟩ 130).reads
        have HMX := Lib.hid (show l.length + 1 ≤ maxLen by have := HLE.out; simp only [maxLen]; omega)
        have HBY := Lib.hid (show (l.length + 1) * 48 ≤ 140737488355328 by have := HLE.out; omega)
        have HBS := Lib.hid (show w.heap.size + 1 ≤ (wr.alloc (.cells #[.int .i64 et, .int .i64 eto, .int .i64 efr, .int .i64 esq, .int .i64 ekd, .int .i64 edt] 130)).heap.size by simp; omega)
        go_wp2_with (at_builtin; refine wpList_append_any _ rfl (.tmp 38) (.tmp 40) 33 rfl (w.heap.size + 1) 130 i0 _ 6 48 Tryz.underlying33 INF.out.1 INF.out.2.1 INF.out.2.2.1 INF.out.2.2.2 rfl SIX.out _ _ (flat l) rfl HOA.out _ _ 1 1 (flat [⟨et, eto, efr, esq, ekd, edt⟩]) rfl HR.out (flat_one _) HMX.out HBY.out HBS.out ?_; intro v2 w2 ho2 hg2 _)
        have HO2 := Lib.hid ho2
        have HG2 := Lib.hid hg2
        clear ho2 hg2; go_ret
        have hres : l ++ [⟨et, eto, efr, esq, ekd, edt⟩] = res := by
          have h1 := HBB.out
          have h2 := HL.out
          rw [TK.out] at h1 h2; rw [h2]
          exact AE.out.2 h1
        rw [← hres]
        exact NewSl.of_own (own_mono (own_snoc HO2.out rfl) (by omega)) ((ur.alloc _).grown HG2.out (fun j hj => by have := (HOA.out.lt j hj).1; omega))
      · go_wp2
        go_ret
        have hres : l = res := by
          have h1 := HBB.out
          have h2 := HL.out
          rw [TK.out] at h1 h2; rw [h2]
          exact AE.out.1 h1
        rw [← hres]
        exact NewSl.of_own (own_mono HO.out (by omega)) ur
end Go.Proofs.YtlikekmhccnilaaGreat

namespace Go.Proofs.YtlikekmhccnilaaGreat
set_option maxRecDepth 100000
open Go.RowKit
theorem Row.of_own {w : World} {base g n c : Nat} {es : List Evt} (h : w.ownsRow base 130 6 (.slice (some ⟨g, 0, none⟩) n c) n (flat es)) (hn : 0 < n) : Row w g n (fun i => es.getD i default) := by
  obtain ⟨b, off, hA, hb, hc⟩ := (own_evs h).2 hn
  injection hA with hA
  injection hA with h1 h2 _
  subst h1 h2
  exact ⟨hb, fun i hi => by have := hc i hi; rwa [Nat.zero_add] at this, fun j _ => h.frozenAt j⟩
end Go.Proofs.YtlikekmhccnilaaGreat

namespace Go.Proofs.YtlikekmhccnilaaGreat
set_option maxRecDepth 100000
open Go.RowKit
/-- b is not less than a. -/
def leE (a b : Evt) : Prop := ltE b a = false
theorem leE_refl (a : Evt) : leE a a := ltE_irr a
theorem ltE_le {a b : Evt} (h : ltE a b = true) : leE a b := ltE_asym a b h
theorem eqB_eq {a b : Evt} (h : eqB a b = true) : a = b := by
  obtain ⟨a0, a1, a2, a3, a4, a5⟩ := a; obtain ⟨b0, b1, b2, b3, b4, b5⟩ := b; rw [eqB_iff] at h; simp only at h; obtain ⟨rfl, rfl, rfl, rfl, rfl, rfl⟩ := h
  rfl
theorem leE_trans {a b c : Evt} (h1 : leE a b) (h2 : leE b c) : leE a c := by
  unfold leE at *
  cases h : ltE c a with
  | false => rfl
  | true =>
    cases hab : ltE a b with
    | true =>
      have := ltE_trans c a b h hab
      rw [this] at h2
      cases h2
    | false =>
      have e := eqB_eq (ltE_total a b hab h1)
      subst e; rw [h] at h2
      cases h2
theorem leE_antisymm {a b : Evt} (h1 : leE a b) (h2 : leE b a) : a = b := (eqB_eq (ltE_total b a h1 h2)).symm
/-- The stretch from a up to b rises, or stays. -/
def SortF (f : Nat → Evt) (a b : Nat) : Prop := ∀ k, a ≤ k → k + 1 < b → leE (f k) (f (k + 1))
theorem SortF.le {f : Nat → Evt} {a b : Nat} (h : SortF f a b) : ∀ d i, a ≤ i → i + d < b → leE (f i) (f (i + d))
  | 0, i, _, _ => leE_refl _
  | d + 1, i, h1, h2 => leE_trans (SortF.le h d i h1 (by omega)) (h (i + d) (by omega) (by omega))
theorem SortF.le' {f : Nat → Evt} {a b i j : Nat} (h : SortF f a b) (h1 : a ≤ i) (h2 : i ≤ j) (h3 : j < b) : leE (f i) (f j) := by
  have := h.le (j - i) i h1 (by omega)
  rwa [show i + (j - i) = j by omega] at this
theorem SortF.join {f : Nat → Evt} {a m b : Nat} (h1 : SortF f a m) (h2 : SortF f m b) (hx : ∀ i j, a ≤ i → i < m → m ≤ j → j < b → leE (f i) (f j)) : SortF f a b := fun k hk hb => by
  by_cases hm : k + 1 < m
  · exact h1 k hk hm
  · by_cases hm2 : m ≤ k
    · exact h2 k hm2 hb
    · exact hx k (k + 1) hk (by omega) (by omega) hb
/-- Changed in the stretch from a up to b alone, none lost. -/
structure Arr (f f' : Nat → Evt) (a b N : Nat) : Prop where
  perm : ((List.range N).map f).Perm ((List.range N).map f')
  out : ∀ i, i < a ∨ b ≤ i → f' i = f i
  mem : ∀ i, a ≤ i → i < b → ∃ j, a ≤ j ∧ j < b ∧ f' i = f j
theorem Arr.refl (f : Nat → Evt) (a b N : Nat) : Arr f f a b N := ⟨List.Perm.refl _, fun _ _ => rfl, fun i h1 h2 => ⟨i, h1, h2, rfl⟩⟩
theorem Arr.trans {f f' f'' : Nat → Evt} {a b N : Nat} (h : Arr f f' a b N) (k : Arr f' f'' a b N) : Arr f f'' a b N :=
  ⟨h.perm.trans k.perm, fun i hi => (k.out i hi).trans (h.out i hi), fun i h1 h2 => by
    obtain ⟨j, j1, j2, e⟩ := k.mem i h1 h2; obtain ⟨l, l1, l2, e'⟩ := h.mem j j1 j2
    exact ⟨l, l1, l2, e.trans e'⟩⟩
theorem Arr.widen {f f' : Nat → Evt} {a b a' b' N : Nat} (h : Arr f f' a b N) (ha : a' ≤ a) (hb : b ≤ b') : Arr f f' a' b' N :=
  ⟨h.perm, fun i hi => h.out i (by omega), fun i h1 h2 => by
    by_cases hi : a ≤ i ∧ i < b
    · obtain ⟨j, j1, j2, e⟩ := h.mem i hi.1 hi.2
      exact ⟨j, by omega, by omega, e⟩
    · exact ⟨i, h1, h2, h.out i (by omega)⟩⟩
/-- Two change places. -/
def swp (f : Nat → Evt) (i j : Nat) : Nat → Evt := fun k => if k = i then f j else if k = j then f i else f k
theorem swp_perm (f : Nat → Evt) {i j : Nat} (hij : i < j) : ∀ N, j < N → ((List.range N).map f).Perm ((List.range N).map (swp f i j)) := by
  intro N hj
  have cong : ∀ (f' : Nat → Evt) (l : List Nat), (∀ x ∈ l, f x = f' x) → l.map f = l.map f' := fun f' l h => List.map_congr_left h
  have split : List.range N = List.range i ++ ([i] ++ (List.range' (i + 1) (j - (i + 1)) ++ ([j] ++ List.range' (j + 1) (N - (j + 1))))) := by
    rw [List.range_eq_range', List.range_eq_range']; rw [show [i] = List.range' i 1 from rfl, show [j] = List.range' j 1 from rfl]
    have e1 := @List.range'_append_1 j 1 (N - (j + 1))
    have e2 := @List.range'_append_1 (i + 1) (j - (i + 1)) (1 + (N - (j + 1)))
    have e3 := @List.range'_append_1 i 1 ((j - (i + 1)) + (1 + (N - (j + 1))))
    have e4 := @List.range'_append_1 0 i (1 + ((j - (i + 1)) + (1 + (N - (j + 1)))))
    rw [show i + 1 + (j - (i + 1)) = j by omega] at e2; rw [Nat.zero_add] at e4; rw [e1, e2, e3, e4]
    congr 1
    omega
  rw [split]; simp only [List.map_append, List.map_cons, List.map_nil]
  rw [← cong (swp f i j) (List.range i) (fun x hx => by have := List.mem_range.1 hx; unfold swp; rw [if_neg (by omega), if_neg (by omega)]),
    ← cong (swp f i j) (List.range' (i + 1) (j - (i + 1))) (fun x hx => by have := List.mem_range'_1.1 hx; unfold swp; rw [if_neg (by omega), if_neg (by omega)]),
    ← cong (swp f i j) (List.range' (j + 1) (N - (j + 1))) (fun x hx => by have := List.mem_range'_1.1 hx; unfold swp; rw [if_neg (by omega), if_neg (by omega)])]
  rw [show swp f i j i = f j by simp [swp], show swp f i j j = f i by unfold swp; rw [if_neg (by omega), if_pos rfl]]; refine List.Perm.append_left _ ?_
  generalize (List.range' (i + 1) (j - (i + 1))).map f = l
  generalize (List.range' (j + 1) (N - (j + 1))).map f = r
  generalize f i = x
  generalize f j = y
  show (x :: (l ++ y :: r)).Perm (y :: (l ++ x :: r))
  refine ((List.perm_middle (a := y) (l₁ := l) (l₂ := r)).cons x).trans ?_; refine (List.Perm.swap y x _).trans ?_
  exact ((List.perm_middle (a := x) (l₁ := l) (l₂ := r)).symm).cons y
theorem swp_arr (f : Nat → Evt) {i j a b N : Nat} (hij : i < j) (ha : a ≤ i) (hb : j < b) (hN : j < N) : Arr f (swp f i j) a b N :=
  ⟨swp_perm f hij N hN, fun k hk => by unfold swp; rw [if_neg (by omega), if_neg (by omega)], fun k h1 h2 => by
    unfold swp
    by_cases e : k = i
    · exact ⟨j, by omega, by omega, by rw [if_pos e]⟩
    · rw [if_neg e]
      by_cases e2 : k = j
      · exact ⟨i, by omega, by omega, by rw [if_pos e2]⟩
      · exact ⟨k, h1, h2, by rw [if_neg e2]⟩⟩
/-- Sorted but for the pair at j, on the way down. -/
structure NearF (f : Nat → Evt) (a j i : Nat) : Prop where
  pairs : ∀ k, a ≤ k → k + 1 ≤ i → k + 1 ≠ j → leE (f k) (f (k + 1))
  over : a < j → j < i → leE (f (j - 1)) (f (j + 1))
theorem NearF.start {f : Nat → Evt} {a i : Nat} (h : SortF f a i) : NearF f a i i := ⟨fun k h1 h2 h3 => h k h1 (by omega), fun _ h => absurd h (by omega)⟩
theorem NearF.stop {f : Nat → Evt} {a j i : Nat} (h : NearF f a j i) (hs : a < j → leE (f (j - 1)) (f j)) : SortF f a (i + 1) := fun k h1 h2 => by
  by_cases e : k + 1 = j
  · have := hs (by omega)
    rw [show j - 1 = k by omega, ← e] at this
    exact this
  · exact h.pairs k h1 (by omega) e
theorem NearF.step {f : Nat → Evt} {a k i : Nat} (h : NearF f a (k + 1) i) (ha : a ≤ k) (hk : k + 1 ≤ i) (hl : ltE (f (k + 1)) (f k) = true) : NearF (swp f k (k + 1)) a k i := by
  have s0 : swp f k (k + 1) k = f (k + 1) := by simp [swp]
  have s1 : swp f k (k + 1) (k + 1) = f k := by simp [swp]
  have s2 : ∀ l, l ≠ k → l ≠ k + 1 → swp f k (k + 1) l = f l := fun l h1 h2 => by unfold swp; rw [if_neg h1, if_neg h2]
  refine ⟨fun l h1 h2 h3 => ?_, fun h1 _ => ?_⟩
  · by_cases e : l = k
    · subst e
      rw [s0, s1]
      exact ltE_le hl
    · by_cases e2 : l = k + 1
      · subst e2
        rw [s1, s2 (k + 1 + 1) (by omega) (by omega)]
        exact h.over (by omega) (by omega)
      · rw [s2 l e e2, s2 (l + 1) (by omega) (by omega)]
        exact h.pairs l h1 h2 (by omega)
  · rw [s1, s2 (k - 1) (by omega) (by omega)]
    have := h.pairs (k - 1) (by omega) (by omega) (by omega)
    rwa [show k - 1 + 1 = k by omega] at this
end Go.Proofs.YtlikekmhccnilaaGreat

namespace Go.Proofs.YtlikekmhccnilaaGreat
set_option maxRecDepth 100000
open Go.RowKit
theorem ins_perm (e : Evt) : ∀ l : List Evt, (ins e l).Perm (e :: l)
  | [] => List.Perm.refl _
  | x :: r => by
    rw [ins]
    split
    · exact List.Perm.refl _
    · exact ((ins_perm e r).cons x).trans (List.Perm.swap e x r)
theorem rise_pairwise : ∀ l : List Evt, riseB l = true → l.Pairwise leE
  | [], _ => List.Pairwise.nil
  | [a], _ => List.pairwise_singleton _ _
  | a :: b :: r, h => by
    rw [riseB, Bool.and_eq_true] at h
    have ih := rise_pairwise (b :: r) h.2
    refine List.Pairwise.cons (fun x hx => ?_) ih
    rcases List.mem_cons.1 hx with rfl | hx
    · exact ltE_le h.1
    · exact leE_trans (ltE_le h.1) ((List.pairwise_cons.1 ih).1 x hx)
theorem ins_pairwise (e : Evt) : ∀ l : List Evt, l.Pairwise leE → (ins e l).Pairwise leE
  | [], _ => List.pairwise_singleton _ _
  | x :: r, h => by
    have h2 := List.pairwise_cons.1 h
    rw [ins]
    split
    · rename_i hl
      refine List.Pairwise.cons (fun y hy => ?_) h
      rcases List.mem_cons.1 hy with rfl | hy
      · exact ltE_le hl
      · exact leE_trans (ltE_le hl) (h2.1 y hy)
    · rename_i hl
      refine List.Pairwise.cons (fun y hy => ?_) (ins_pairwise e r h2.2)
      rcases List.mem_cons.1 ((ins_perm e r).mem_iff.1 hy) with rfl | hy
      · exact Bool.eq_false_iff.2 hl
      · exact h2.1 y hy
theorem sortF_pairwise {F : Nat → Evt} {N : Nat} (h : SortF F 0 N) : ((List.range N).map F).Pairwise leE := by
  rw [List.pairwise_iff_getElem]; intro i j hi hj hij; simp only [List.length_map, List.length_range] at hi hj; simp only [List.getElem_map, List.getElem_range]
  exact h.le' (Nat.zero_le _) (by omega) hj
theorem range_getD (es : List Evt) : (List.range es.length).map (fun i => es.getD i default) = es := by
  apply List.ext_getElem
  · simp
  · intro i h1 h2
    simp [h2]
end Go.Proofs.YtlikekmhccnilaaGreat

namespace Go.Proofs.YtlikekmhccnilaaGreat
set_option maxRecDepth 100000
open Go.RowKit
/-- No event is less than the one at half its place. -/
def HeapF (F : Nat → Evt) (n : Nat) : Prop := ∀ i, 0 < i → i < n → leE (F ((i - 1) / 2)) (F i)
theorem HeapF.min {F : Nat → Evt} {n : Nat} (h : HeapF F n) : ∀ d i, i ≤ d → i < n → leE (F 0) (F i)
  | 0, i, hd, _ => by
    obtain rfl : i = 0 := by omega
    exact leE_refl _
  | d + 1, i, hd, hi => by
    by_cases h0 : i = 0
    · subst h0
      exact leE_refl _
    · exact leE_trans (HeapF.min h d ((i - 1) / 2) (by omega) (by omega)) (h i (by omega) hi)
theorem swp_l (f : Nat → Evt) (i j : Nat) : swp f i j i = f j := by simp [swp]
theorem swp_r (f : Nat → Evt) (i j : Nat) : swp f i j j = f i := by
  unfold swp
  split
  · rename_i h; rw [h]
  · rw [if_pos rfl]
theorem swp_o (f : Nat → Evt) {i j k : Nat} (h1 : k ≠ i) (h2 : k ≠ j) : swp f i j k = f k := by
  unfold swp; rw [if_neg h1, if_neg h2]
/-- A heap but for the event at j, which may be too small. -/
structure UpF (F : Nat → Evt) (n j : Nat) : Prop where
  pairs : ∀ i, 0 < i → i < n → i ≠ j → leE (F ((i - 1) / 2)) (F i)
  over : 0 < j → ∀ i, 0 < i → i < n → (i - 1) / 2 = j → leE (F ((j - 1) / 2)) (F i)
theorem UpF.start {F : Nat → Evt} {n : Nat} (h : HeapF F n) : UpF F (n + 1) n := ⟨fun i h0 hi hne => h i h0 (by omega), fun _ i _ hi hp => by omega⟩
theorem UpF.stop {F : Nat → Evt} {n j : Nat} (h : UpF F n j) (hs : 0 < j → leE (F ((j - 1) / 2)) (F j)) : HeapF F n := fun i h0 hi => by
  by_cases e : i = j
  · subst e
    exact hs h0
  · exact h.pairs i h0 hi e
theorem UpF.step {F : Nat → Evt} {n j p : Nat} (h : UpF F n j) (hp : p = (j - 1) / 2) (hj : 0 < j) (hn : j < n) (hl : ltE (F j) (F p) = true) : UpF (swp F p j) n p := by
  have hlt : p < j := by omega
  refine ⟨fun i h0 hi hne => ?_, fun h0 i hi0 hi hpi => ?_⟩
  · by_cases e : i = j
    · subst e
      rw [← hp, swp_l, swp_r]
      exact ltE_le hl
    · rw [swp_o F hne e]
      by_cases e1 : (i - 1) / 2 = j
      · rw [e1, swp_r]
        have := h.over hj i h0 hi e1
        rwa [← hp] at this
      · by_cases e2 : (i - 1) / 2 = p
        · rw [e2, swp_l]
          have := h.pairs i h0 hi e
          rw [e2] at this
          exact leE_trans (ltE_le hl) this
        · rw [swp_o F e2 e1]
          exact h.pairs i h0 hi e
  · have hpp : leE (F ((p - 1) / 2)) (F p) := h.pairs p h0 (by omega) (by omega)
    rw [swp_o F (show (p - 1) / 2 ≠ p by omega) (show (p - 1) / 2 ≠ j by omega)]
    by_cases e : i = j
    · subst e
      rw [swp_r]
      exact hpp
    · rw [swp_o F (show i ≠ p by omega) e]
      have := h.pairs i hi0 hi e
      rw [hpi] at this
      exact leE_trans hpp this
/-- A heap but for the event at i, which may be too great. -/
structure DownF (F : Nat → Evt) (n i : Nat) : Prop where
  pairs : ∀ k, 0 < k → k < n → (k - 1) / 2 ≠ i → leE (F ((k - 1) / 2)) (F k)
  over : 0 < i → ∀ k, 0 < k → k < n → (k - 1) / 2 = i → leE (F ((i - 1) / 2)) (F k)
theorem DownF.start {F : Nat → Evt} {n : Nat} (h : HeapF F (n + 1)) : DownF (swp F 0 n) n 0 :=
  ⟨fun k h0 hk hne => by
    rw [swp_o F hne (show (k - 1) / 2 ≠ n by omega), swp_o F (show k ≠ 0 by omega) (show k ≠ n by omega)]
    exact h k h0 (by omega), fun h => absurd h (by omega)⟩
theorem DownF.stop {F : Nat → Evt} {n i : Nat} (h : DownF F n i) (hs : ∀ k, 0 < k → k < n → (k - 1) / 2 = i → leE (F i) (F k)) : HeapF F n := fun k h0 hk => by
  by_cases e : (k - 1) / 2 = i
  · rw [e]
    exact hs k h0 hk e
  · exact h.pairs k h0 hk e
theorem DownF.step {F : Nat → Evt} {n i j : Nat} (h : DownF F n i) (h0 : 0 < j) (hn : j < n) (hp : (j - 1) / 2 = i) (hl : ltE (F j) (F i) = true) (hm : ∀ k, 0 < k → k < n → (k - 1) / 2 = i → leE (F j) (F k)) : DownF (swp F i j) n j := by
  have hlt : i < j := by omega
  refine ⟨fun k k0 hk hne => ?_, fun _ k k0 hk hpk => ?_⟩
  · by_cases e : (k - 1) / 2 = i
    · rw [e, swp_l]
      by_cases e1 : k = j
      · subst e1
        rw [swp_r]
        exact ltE_le hl
      · rw [swp_o F (show k ≠ i by omega) e1]
        exact hm k k0 hk e
    · rw [swp_o F e hne]
      by_cases e2 : k = i
      · subst e2
        rw [swp_l]
        exact h.over k0 j h0 hn hp
      · have e3 : k ≠ j := fun e3 => e (by rw [e3]; exact hp)
        rw [swp_o F e2 e3]
        exact h.pairs k k0 hk e
  · rw [hp, swp_l, swp_o F (show k ≠ i by omega) (show k ≠ j by omega)]
    have := h.pairs k k0 hk (by omega)
    rwa [hpk] at this
end Go.Proofs.YtlikekmhccnilaaGreat

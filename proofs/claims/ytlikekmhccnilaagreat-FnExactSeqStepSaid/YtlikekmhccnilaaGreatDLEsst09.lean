/-
  What l1Put returns, in one sentence: a new slice of the list with the event ahead of the first that is greater; for every list that lies in memory.
  What a component does, in one sentence: its new state and what it sends, as lists and numbers; no condition is made.
-/
import Derived.Test.YtlikekmhccnilaaGreatDLEsst02
import Derived.Test.YtlikekmhccnilaaGreatDLEsst03
import Derived.Test.YtlikekmhccnilaaGreatDLEsst04
import Derived.Test.YtlikekmhccnilaaGreatDLEsst07
import Derived.Test.YtlikekmhccnilaaGreatDLEsst08
namespace Go.Proofs.YtlikekmhccnilaaGreat
set_option maxRecDepth 100000
open Go.RowKit
/-- What the loop keeps. -/
def PutRel (es : List Evt) (lt : Evt → Bool) (ac : List Evt → List Evt) (n base : Nat) (v d i : Value) (wr : World) : Prop :=
  ∃ (k : Nat) (b : Bool) (l : List Evt), k ≤ n ∧ i = .int .i64 k ∧ d = .bool b ∧ (es.take k).any lt = b ∧ l = ac (es.take k) ∧ (l.length ≤ k ∨ (b = true ∧ l.length ≤ k + 1)) ∧ wr.ownsRow base 130 6 v l.length (flat l)
theorem flat_snoc (l : List Evt) (x : Evt) : flat l ++ flat [x] = flat (l ++ [x]) := (flat_app _ _).symm
theorem own_snoc {w : World} {b e n : Nat} {v : Value} {l : List Evt} {x : Evt} (h : w.ownsRow b e 6 v n (flat l ++ flat [x])) (hn : n = l.length + 1) : w.ownsRow b e 6 v (l ++ [x]).length (flat (l ++ [x])) := by
  rw [flat_snoc] at h; subst hn
  simpa using h
theorem Box.grown {w w' : World} {b : Nat} {e : Evt} {row : Option Nat} (h : Box w b e) (hg : w.grownBy w' row) (hb : some b ≠ row) : Box w' b e :=
  h.keep hg.size (fun _ => World.cell?_of_block (hg.block b h.lt hb)) (fun _ => World.frozen?_of_block (hg.block b h.lt hb))
theorem own_ne {w : World} {base e n b : Nat} {v : Value} {xs : List Value} (h : w.ownsRow base e 6 v n xs) (hb : b < base) : some b ≠ v.ownBlock := fun he => by
  have := (h.lt b he.symm).1
  omega
theorem EvAt.grown {w w' : World} {b o : Nat} {e : Evt} {row : Option Nat} (h : EvAt w b o e) (hg : w.grownBy w' row) (hb : some b ≠ row) : EvAt w' b o e := by
  obtain ⟨h0, h1, h2, h3, h4, h5⟩ := h
  exact ⟨hg.cell h0 hb, hg.cell h1 hb, hg.cell h2 hb, hg.cell h3 hb, hg.cell h4 hb, hg.cell h5 hb⟩
theorem bs_alloc {w w' : World} {b : Nat} {o : Obj} (h : b ≤ w.heap.size) (hs : w.heap.size ≤ w'.heap.size) : b ≤ (w'.alloc o).heap.size := by
  simp
  omega
set_option maxHeartbeats 8000000 in
theorem l1Put_any (A : Option Addr) (n cap : Nat) (es : List Evt) (e : Evt) (w : World) (hn : n ≤ 1000000000) (hE : Evs w A n es) :
    Calls Tryz.prog 149 #[.slice A n cap, e.v] w (NewSl (ins e es) w) := by
  obtain ⟨i0, hi0, hz0, hz1, hz2⟩ := info_parts info130
  have HE := Lib.hid hE
  have LE := Lib.hid hE.1
  have TS := Lib.hid (take_snoc es)
  have AT := Lib.hid (acc_true e)
  have AH := Lib.hid (acc_here e)
  have AN := Lib.hid (acc_no e)
  have AE := Lib.hid (acc_end e es)
  have CL := Lib.hid (fun x W => specLess_any e x W)
  have INF := Lib.hid (And.intro hi0 (And.intro hz0 (And.intro hz1 hz2)))
  have SIX := Lib.hid (show 0 < 6 by omega)
  clear hE hi0 hz0 hz1 hz2
  generalize hins : ins e es = res at AE
  have HI := Lib.hid hins
  clear hins
  generalize hlt : ltE e = lt at AT AH AN AE CL
  generalize hac : acc e = ac at AT AH AN AE
  have ac0 : ac [] = [] := by rw [← hac]; rfl
  have AC0 := Lib.hid ac0
  clear hlt hac ac0; obtain ⟨et, eto, efr, esq, ekd, edt⟩ := e; unfold Evt.v at CL ⊢; dsimp only at CL ⊢
  go_enter Tryz.func149, Tryz.ntmps149
  go_wp2
  go_loopw [5, 6, 7] (fun v d i wr => PutRel es lt ac n (w.heap.size + 1) v d i wr ∧ Up w wr ∧ Box wr w.heap.size ⟨et, eto, efr, esq, ekd, edt⟩) (fun _ _ i _ => n - (intOf i).toNat)
  case atStart =>
    refine ⟨⟨0, false, [], by omega, rfl, rfl, rfl, AC0.out.symm, .inl (by simp), ?_⟩, ((Up.refl w).alloc _).alloc _, (Box.new w ⟨et, eto, efr, esq, ekd, edt⟩ 130).alloc _⟩
    have := World.ownsRow_lit (base := w.heap.size + 1) (e := 130) (size := 6) (w.alloc (.cells #[.int .i64 et, .int .i64 eto, .int .i64 efr, .int .i64 esq, .int .i64 ekd, .int .i64 edt] 130)) #[] 0 (by simp) (by simp only [maxLen]; omega) (by simp)
    simpa [flat] using this
  case round =>
    obtain ⟨⟨k, b, l, hk, rfl, rfl, hb, hl, hlx, ho⟩, ur, bx⟩ := hrel
    have hll : l.length ≤ k + 1 := by rcases hlx with h | h <;> omega
    have HLX := Lib.hid (show b = false → l.length ≤ k from fun h => by rcases hlx with h2 | ⟨h2, _⟩; exact h2; rw [h] at h2; cases h2)
    clear hlx
    have HBB := Lib.hid hb
    have HL := Lib.hid hl
    have HO := Lib.hid ho
    have BX := Lib.hid bx
    have hs := ur.size
    have hsx := bx.lt
    clear hb hl ho bx
    by_cases hlt : k < n
    · obtain ⟨bb, off, hA, hbb, hc⟩ := HE.out.2 (by omega)
      subst hA
      have a0 := (hc k hlt).up ur hbb
      have hbb' : bb < wr.heap.size := by omega
      clear hc
      have ts := TS.out k (by rw [LE.out]; exact hlt)
      have cl := CL.out (es.getD k default)
      have lx1 := AT.out (es.getD k default) (es.take k)
      have lx2 := AH.out (es.getD k default) (es.take k)
      have lx3 := AN.out (es.getD k default) (es.take k)
      generalize es.getD k default = x at a0 ts cl lx1 lx2 lx3
      rw [← ts, HBB.out, ← HL.out] at lx1 lx2 lx3
      have LX1 := Lib.hid lx1
      generalize hltx : lt x = lx at cl lx2 lx3
      have LX2 := Lib.hid lx2
      have LX3 := Lib.hid lx3
      clear ts hltx lx1 lx2 lx3; obtain ⟨xt, xto, xfr, xsq, xkd, xdt⟩ := x
      have AX := Lib.hid a0
      unfold EvAt at a0; dsimp only at a0 cl
      have C := Lib.hid cl
      clear cl
      have i4 : (k : Int) < n := by omega
      have HMX := Lib.hid (show l.length + 1 ≤ maxLen by simp only [maxLen]; omega)
      have HBY := Lib.hid (show (l.length + 1) * 48 ≤ 140737488355328 by omega)
      have HMX2 := Lib.hid (show (l ++ [(⟨et, eto, efr, esq, ekd, edt⟩ : Evt)]).length + 1 ≤ maxLen by simp only [maxLen, List.length_append, List.length_singleton]; omega)
      have HBY2 := Lib.hid (show ((l ++ [(⟨et, eto, efr, esq, ekd, edt⟩ : Evt)]).length + 1) * 48 ≤ 140737488355328 by simp only [List.length_append, List.length_singleton]; omega)
      obtain ⟨⟨e0, e1, e2, e3, e4, e5⟩, -⟩ := BX.out.mk6; obtain ⟨p0, p1, p2, p3, p4, p5⟩ := a0
      cases b
      · cases lx
        · go_wp2
          refine region_up (by kernel_rfl) (by kernel_rfl) ?_; refine up_step rfl ?_; apply Exists.intro; refine ⟨fun w1 hw1 => ?_, ?_⟩
          · go_simp
            try rfl
          go_simp; refine up_step rfl ?_; apply Exists.intro; refine ⟨fun w1 hw1 => ?_, ?_⟩
          · go_simp
            try rfl
          go_simp; refine up_step rfl ?_; apply Exists.intro; refine ⟨fun w1 hw1 => ?_, ?_⟩
          · go_simp
            try rfl
          go_simp; refine up_want (by rfl) ?_; apply Exists.intro; refine ⟨fun w1 hw1 => ?_, ?_⟩
          · obtain ⟨hc, hf, hz⟩ := hw1.facts
            try simp at hz
            go_simp
            try rfl
          go_simp; refine up_want (by rfl) ?_; apply Exists.intro; refine ⟨fun w1 hw1 => ?_, ?_⟩
          · go_simp
            try rfl
          go_simp; refine up_want (by rfl) ?_; apply Exists.intro; refine ⟨fun w1 hw1 => ?_, ?_⟩
          · go_simp
            try rfl
          go_simp; refine up_want (by rfl) ?_; apply Exists.intro; refine ⟨fun w1 hw1 => ?_, ?_⟩
          · go_simp
            try rfl
          go_simp; refine up_want (by rfl) ?_; apply Exists.intro; refine ⟨fun w1 hw1 => ?_, ?_⟩
          · obtain ⟨hc, hf, hz⟩ := hw1.facts
            try simp at hz
            go_simp
            try rfl
          go_simp; refine up_want (by rfl) ?_; apply Exists.intro; refine ⟨fun w1 hw1 => ?_, ?_⟩
          · go_simp
            exact up_call hw1 (C.out _)
          go_simp; refine up_step rfl ?_; apply Exists.intro; refine ⟨fun w1 hw1 => ?_, ?_⟩
          · go_simp
            try rfl
          go_simp; refine wpQuiet_nil ?_; intro wA uA
          have UA := Lib.hid uA
          have HOA := Lib.hid (own_up (own_up HO.out UA.out) ((Up.refl wA).alloc (.cells #[.int .i64 xt, .int .i64 xto, .int .i64 xfr, .int .i64 xsq, .int .i64 xkd, .int .i64 xdt] 130)))
          have HR := Lib.hid (Evs.new wA ⟨xt, xto, xfr, xsq, xkd, xdt⟩ 130).reads
          have HBS := Lib.hid (show w.heap.size + 1 ≤ (wA.alloc (.cells #[.int .i64 xt, .int .i64 xto, .int .i64 xfr, .int .i64 xsq, .int .i64 xkd, .int .i64 xdt] 130)).heap.size by have := UA.out.size; simp; omega)
          have UG := Lib.hid (ur.trans UA.out)
          have BG := Lib.hid ((BX.out.up UA.out).alloc (.cells #[.int .i64 xt, .int .i64 xto, .int .i64 xfr, .int .i64 xsq, .int .i64 xkd, .int .i64 xdt] 130))
          obtain ⟨hc, hf, hz⟩ := uA.facts; clear uA
          go_wp2_with (at_builtin; refine wpList_append_any _ rfl (.tmp 29) (.tmp 34) 33 rfl (w.heap.size + 1) 130 i0 _ 6 48 Tryz.underlying33 INF.out.1 INF.out.2.1 INF.out.2.2.1 INF.out.2.2.2 rfl SIX.out _ _ (flat l) rfl HOA.out _ _ 1 1 (flat [⟨xt, xto, xfr, xsq, xkd, xdt⟩]) rfl HR.out (flat_one _) HMX.out HBY.out HBS.out ?_; intro v2 w2 ho2 hg2 _)
          have HO2 := Lib.hid ho2
          have HG2 := Lib.hid hg2
          clear ho2 hg2
          go_roundw
          case rel =>
            have hlk := HLX.out (by first | trivial | rfl)
            obtain ⟨q1, q2⟩ := LX3.out (by first | trivial | rfl) (by first | trivial | rfl)
            exact ⟨⟨k + 1, false, l ++ [⟨xt, xto, xfr, xsq, xkd, xdt⟩], by omega, by go_num, rfl, q2, q1.symm, .inl (by simp; omega), own_snoc HO2.out rfl⟩, (UG.out.alloc _).grown HG2.out (fun j hj => by have := (HOA.out.lt j hj).1; omega), BG.out.grown HG2.out (own_ne HOA.out (by omega))⟩
          case measure => simp [intOf]; omega
        · go_wp2
          refine region_up (by kernel_rfl) (by kernel_rfl) ?_; refine up_step rfl ?_; apply Exists.intro; refine ⟨fun w1 hw1 => ?_, ?_⟩
          · go_simp
            try rfl
          go_simp; refine up_step rfl ?_; apply Exists.intro; refine ⟨fun w1 hw1 => ?_, ?_⟩
          · go_simp
            try rfl
          go_simp; refine up_step rfl ?_; apply Exists.intro; refine ⟨fun w1 hw1 => ?_, ?_⟩
          · go_simp
            try rfl
          go_simp; refine up_want (by rfl) ?_; apply Exists.intro; refine ⟨fun w1 hw1 => ?_, ?_⟩
          · obtain ⟨hc, hf, hz⟩ := hw1.facts
            try simp at hz
            go_simp
            try rfl
          go_simp; refine up_want (by rfl) ?_; apply Exists.intro; refine ⟨fun w1 hw1 => ?_, ?_⟩
          · go_simp
            try rfl
          go_simp; refine up_want (by rfl) ?_; apply Exists.intro; refine ⟨fun w1 hw1 => ?_, ?_⟩
          · go_simp
            try rfl
          go_simp; refine up_want (by rfl) ?_; apply Exists.intro; refine ⟨fun w1 hw1 => ?_, ?_⟩
          · go_simp
            try rfl
          go_simp; refine up_want (by rfl) ?_; apply Exists.intro; refine ⟨fun w1 hw1 => ?_, ?_⟩
          · obtain ⟨hc, hf, hz⟩ := hw1.facts
            try simp at hz
            go_simp
            try rfl
          go_simp; refine up_want (by rfl) ?_; apply Exists.intro; refine ⟨fun w1 hw1 => ?_, ?_⟩
          · go_simp
            exact up_call hw1 (C.out _)
          go_simp; refine up_step rfl ?_; apply Exists.intro; refine ⟨fun w1 hw1 => ?_, ?_⟩
          · go_simp
            try rfl
          go_simp; refine wpQuiet_nil ?_; intro wA uA
          have HOA := Lib.hid (own_up (own_up HO.out uA) ((Up.refl wA).alloc (.cells #[.int .i64 et, .int .i64 eto, .int .i64 efr, .int .i64 esq, .int .i64 ekd, .int .i64 edt] 130)))
          have HR := Lib.hid (Evs.new wA ⟨et, eto, efr, esq, ekd, edt⟩ 130).reads
          have HBS := Lib.hid (show w.heap.size + 1 ≤ (wA.alloc (.cells #[.int .i64 et, .int .i64 eto, .int .i64 efr, .int .i64 esq, .int .i64 ekd, .int .i64 edt] 130)).heap.size by have := uA.size; simp; omega)
          have UG := Lib.hid (ur.trans uA)
          have BG := Lib.hid ((BX.out.up uA).alloc (.cells #[.int .i64 et, .int .i64 eto, .int .i64 efr, .int .i64 esq, .int .i64 ekd, .int .i64 edt] 130))
          obtain ⟨hc, hf, hz⟩ := uA.facts
          have hwb : w.heap.size < wA.heap.size := by omega
          have HBX := Lib.hid (show bb < w.heap.size + 1 by omega)
          have AXA := Lib.hid ((AX.out.up uA hbb').up ((Up.refl wA).alloc (.cells #[.int .i64 et, .int .i64 eto, .int .i64 efr, .int .i64 esq, .int .i64 ekd, .int .i64 edt] 130)) (Nat.lt_of_lt_of_le hbb' uA.size))
          clear uA
          go_wp2_with (first | (at_builtin; refine wpList_append_any _ rfl (.tmp 25) (.tmp 27) 33 rfl (w.heap.size + 1) 130 i0 _ 6 48 Tryz.underlying33 INF.out.1 INF.out.2.1 INF.out.2.2.1 INF.out.2.2.2 rfl SIX.out _ _ (flat l) rfl HOA.out _ _ 1 1 (flat [⟨et, eto, efr, esq, ekd, edt⟩]) rfl HR.out (flat_one _) HMX.out HBY.out HBS.out ?_; intro v2 w2 ho2 hg2 _; have HO2 := Lib.hid (own_snoc ho2 rfl); have HG2 := Lib.hid hg2; have HS2 := Lib.hid hg2.size; have AX2 := AXA.out.grown hg2 (own_ne HOA.out HBX.out); unfold EvAt at AX2; dsimp only at AX2; obtain ⟨z0, z1, z2, z3, z4, z5⟩ := AX2; have HOA2 := Lib.hid (own_up HO2.out ((Up.refl w2).alloc (.cells #[.int .i64 xt, .int .i64 xto, .int .i64 xfr, .int .i64 xsq, .int .i64 xkd, .int .i64 xdt] 130))); have HR2 := Lib.hid (Evs.new w2 ⟨xt, xto, xfr, xsq, xkd, xdt⟩ 130).reads; have HBS2 := Lib.hid (bs_alloc (o := (.cells #[.int .i64 xt, .int .i64 xto, .int .i64 xfr, .int .i64 xsq, .int .i64 xkd, .int .i64 xdt] 130)) HBS.out HS2.out); clear ho2 hg2) | (at_builtin; refine wpList_append_any _ rfl (.tmp 29) (.tmp 34) 33 rfl (w.heap.size + 1) 130 i0 _ 6 48 Tryz.underlying33 INF.out.1 INF.out.2.1 INF.out.2.2.1 INF.out.2.2.2 rfl SIX.out _ _ (flat (l ++ [(⟨et, eto, efr, esq, ekd, edt⟩ : Evt)])) rfl HOA2.out _ _ 1 1 (flat [⟨xt, xto, xfr, xsq, xkd, xdt⟩]) rfl HR2.out (flat_one _) HMX2.out HBY2.out HBS2.out ?_; intro v3 w3 ho3 hg3 _))
          have HO3 := Lib.hid ho3
          have HG3 := Lib.hid hg3
          clear ho3 hg3
          go_roundw
          case rel =>
            have hlk := HLX.out (by first | trivial | rfl)
            obtain ⟨q1, q2⟩ := LX2.out (by first | trivial | rfl) (by first | trivial | rfl)
            have g1 := (UG.out.alloc (.cells #[.int .i64 et, .int .i64 eto, .int .i64 efr, .int .i64 esq, .int .i64 ekd, .int .i64 edt] 130)).grown HG2.out (fun j hj => by have := (HOA.out.lt j hj).1; omega)
            exact ⟨⟨k + 1, true, l ++ [⟨et, eto, efr, esq, ekd, edt⟩] ++ [⟨xt, xto, xfr, xsq, xkd, xdt⟩], by omega, by go_num, rfl, q2, q1.symm, .inr ⟨rfl, by simp; omega⟩, own_snoc HO3.out rfl⟩, (g1.alloc _).grown HG3.out (fun j hj => by have := (HOA2.out.lt j hj).1; omega), ((BG.out.grown HG2.out (own_ne HOA.out (by omega))).alloc _).grown HG3.out (own_ne HOA2.out (by omega))⟩
          case measure => simp [intOf]; omega
      · go_wp2
        refine region_up (by kernel_rfl) (by kernel_rfl) ?_; refine up_step rfl ?_; apply Exists.intro; refine ⟨fun w1 hw1 => ?_, ?_⟩
        · go_simp
          try rfl
        go_simp; refine up_step rfl ?_; apply Exists.intro; refine ⟨fun w1 hw1 => ?_, ?_⟩
        · go_simp
          try rfl
        go_simp; refine up_step rfl ?_; apply Exists.intro; refine ⟨fun w1 hw1 => ?_, ?_⟩
        · go_simp
          try rfl
        go_simp; refine up_skip (by rfl) ?_; go_simp; refine up_skip (by rfl) ?_; go_simp; refine up_skip (by rfl) ?_; go_simp; refine up_skip (by rfl) ?_; go_simp; refine up_skip (by rfl) ?_; go_simp; refine up_skip (by rfl) ?_; go_simp; refine up_step rfl ?_; apply Exists.intro; refine ⟨fun w1 hw1 => ?_, ?_⟩
        · go_simp
          try rfl
        go_simp; refine wpQuiet_nil ?_; intro wA uA
        have UA := Lib.hid uA
        have HOA := Lib.hid (own_up (own_up HO.out UA.out) ((Up.refl wA).alloc (.cells #[.int .i64 xt, .int .i64 xto, .int .i64 xfr, .int .i64 xsq, .int .i64 xkd, .int .i64 xdt] 130)))
        have HR := Lib.hid (Evs.new wA ⟨xt, xto, xfr, xsq, xkd, xdt⟩ 130).reads
        have HBS := Lib.hid (show w.heap.size + 1 ≤ (wA.alloc (.cells #[.int .i64 xt, .int .i64 xto, .int .i64 xfr, .int .i64 xsq, .int .i64 xkd, .int .i64 xdt] 130)).heap.size by have := UA.out.size; simp; omega)
        have UG := Lib.hid (ur.trans UA.out)
        have BG := Lib.hid ((BX.out.up UA.out).alloc (.cells #[.int .i64 xt, .int .i64 xto, .int .i64 xfr, .int .i64 xsq, .int .i64 xkd, .int .i64 xdt] 130))
        obtain ⟨hc, hf, hz⟩ := uA.facts; clear uA
        go_wp2_with (at_builtin; refine wpList_append_any _ rfl (.tmp 29) (.tmp 34) 33 rfl (w.heap.size + 1) 130 i0 _ 6 48 Tryz.underlying33 INF.out.1 INF.out.2.1 INF.out.2.2.1 INF.out.2.2.2 rfl SIX.out _ _ (flat l) rfl HOA.out _ _ 1 1 (flat [⟨xt, xto, xfr, xsq, xkd, xdt⟩]) rfl HR.out (flat_one _) HMX.out HBY.out HBS.out ?_; intro v2 w2 ho2 hg2 _)
        have HO2 := Lib.hid ho2
        have HG2 := Lib.hid hg2
        clear ho2 hg2
        go_roundw
        case rel =>
          obtain ⟨q1, q2⟩ := LX1.out (by first | trivial | rfl)
          exact ⟨⟨k + 1, true, l ++ [⟨xt, xto, xfr, xsq, xkd, xdt⟩], by omega, by go_num, rfl, q2, q1.symm, .inr ⟨rfl, by simp; omega⟩, own_snoc HO2.out rfl⟩, (UG.out.alloc _).grown HG2.out (fun j hj => by have := (HOA.out.lt j hj).1; omega), BG.out.grown HG2.out (own_ne HOA.out (by omega))⟩
        case measure => simp [intOf]; omega
    · have hkn : k = n := by omega
      have TK := Lib.hid (show es.take k = es by rw [hkn, ← LE.out, List.take_length])
      have HLE := Lib.hid hll
      clear hkn hll; obtain ⟨⟨e0, e1, e2, e3, e4, e5⟩, -⟩ := BX.out.mk6
      cases b
      · have HOA := Lib.hid (own_up HO.out ((Up.refl wr).alloc (.cells #[.int .i64 et, .int .i64 eto, .int .i64 efr, .int .i64 esq, .int .i64 ekd, .int .i64 edt] 130)))
        have HR := Lib.hid (Evs.new wr ⟨et, eto, efr, esq, ekd, edt⟩ 130).reads
        have HMX := Lib.hid (show l.length + 1 ≤ maxLen by have := HLE.out; simp only [maxLen]; omega)
        have HBY := Lib.hid (show (l.length + 1) * 48 ≤ 140737488355328 by have := HLE.out; omega)
        have HBS := Lib.hid (show w.heap.size + 1 ≤ (wr.alloc (.cells #[.int .i64 et, .int .i64 eto, .int .i64 efr, .int .i64 esq, .int .i64 ekd, .int .i64 edt] 130)).heap.size by simp; omega)
        go_wp2_with (at_builtin; refine wpList_append_any _ rfl (.tmp 38) (.tmp 40) 33 rfl (w.heap.size + 1) 130 i0 _ 6 48 Tryz.underlying33 INF.out.1 INF.out.2.1 INF.out.2.2.1 INF.out.2.2.2 rfl SIX.out _ _ (flat l) rfl HOA.out _ _ 1 1 (flat [⟨et, eto, efr, esq, ekd, edt⟩]) rfl HR.out (flat_one _) HMX.out HBY.out HBS.out ?_; intro v2 w2 ho2 hg2 _)
        have HO2 := Lib.hid ho2
        have HG2 := Lib.hid hg2
        clear ho2 hg2; go_ret
        have hres : l ++ [⟨et, eto, efr, esq, ekd, edt⟩] = res := by
          have h1 := HBB.out
          have h2 := HL.out
          rw [TK.out] at h1 h2; rw [h2]
          exact AE.out.2 h1
        rw [← hres]
        exact NewSl.of_own (own_mono (own_snoc HO2.out rfl) (by omega)) ((ur.alloc _).grown HG2.out (fun j hj => by have := (HOA.out.lt j hj).1; omega))
      · go_wp2
        go_ret
        have hres : l = res := by
          have h1 := HBB.out
          have h2 := HL.out
          rw [TK.out] at h1 h2; rw [h2]
          exact AE.out.1 h1
        rw [← hres]
        exact NewSl.of_own (own_mono HO.out (by omega)) ur
end Go.Proofs.YtlikekmhccnilaaGreat

namespace Go.Proofs.YtlikekmhccnilaaGreat
set_option maxRecDepth 100000
open Go.RowKit
/-- What is sent, and the number behind it. -/
def sendsE (til s : Int) (e : Evt) : List Evt → Int → List Evt × Int
  | [], q => ([], q)
  | x :: xs, q =>
    if s % x.kd ≠ x.dt ∨ q = 12 then sendsE til s e xs q
    else if e.t + x.to ≤ til then (⟨e.t + x.to, x.t, e.to, q, x.fr, (s + x.sq) % 97⟩ :: (sendsE til s e xs (q + 1)).1, (sendsE til s e xs (q + 1)).2)
    else sendsE til s e xs (q + 1)
/-- A component behind an event, in a model that is one. -/
def doE (m : Mdl) (c : Cst) (e : Evt) : Cst × List Evt :=
  match ruleOf e.kd (m.rules.getD e.to.toNat []) with
  | none => (⟨c.s, c.sq, IntKind.i64.wrap (c.ct + 1)⟩, [])
  | some r => (⟨(r.a * c.s + r.b * e.dt + r.c) % 97, (sendsE m.til ((r.a * c.s + r.b * e.dt + r.c) % 97) e r.sends c.sq).2, IntKind.i64.wrap (c.ct + 1)⟩, (sendsE m.til ((r.a * c.s + r.b * e.dt + r.c) % 97) e r.sends c.sq).1)
/-- May it? -/
def mayB (m : Mdl) (c : Cst) (e : Evt) : Bool := mdlB m && cstB c && okB e m.rules.length && decide (e.t ≤ m.til)
theorem Found.some_ {A0 : Option Addr} {kd : Int} {rs : List Rule} {r : Rule} {w w' : World} {x : Ending} (h : Found A0 kd rs w x w') (hr : ruleOf kd rs = some r) : ∃ A n c, x = .returned (.tuple #[r.v (.slice A n c), .bool true]) ∧ n ≤ 9223372036854775807 ∧ Evs w' A n r.sends ∧ Up w w' ∧ ∀ b off, A0 = some ⟨b, off, none⟩ → w.cell? ⟨b, off + ixOf kd rs * 5 + 4, none⟩ = some (.slice A n c) := by
  obtain ⟨u, ⟨r', A, n, c, h1, rfl, h3, h4, h5⟩ | ⟨h1, rfl⟩⟩ := h
  · rw [hr] at h1
    injection h1 with h1
    subst h1
    exact ⟨A, n, c, rfl, h3, h4, u, h5⟩
  · rw [hr] at h1; cases h1
theorem Found.none_ {A0 : Option Addr} {kd : Int} {rs : List Rule} {w w' : World} {x : Ending} (h : Found A0 kd rs w x w') (hr : ruleOf kd rs = none) : x = .returned (.tuple #[.agg #[.int .i64 0, .int .i64 0, .int .i64 0, .int .i64 0, .slice none 0 0], .bool false]) ∧ Up w w' := by
  obtain ⟨u, ⟨r', A, n, c, h1, rfl, h3, h4, h5⟩ | ⟨h1, rfl⟩⟩ := h
  · rw [hr] at h1; cases h1
  · exact ⟨rfl, u⟩
/-- A new block of a rule's cells. -/
def IsNew5 (B : Nat) (v : Value) (w : World) : Prop :=
  ∃ b : Nat, v = .pointer (some ⟨b, 0, none⟩) ∧ B ≤ b ∧ b < w.heap.size ∧ (∀ j, j < 5 → ∃ u, w.cell? ⟨b, j, none⟩ = some u) ∧ ∀ j, w.frozen? ⟨b, j, none⟩ = false
theorem IsNew5.new {B : Nat} (w : World) (x y z u v : Value) (t : TypeId) (hB : B ≤ w.heap.size) : IsNew5 B (.pointer (some ⟨w.heap.size, 0, none⟩)) (w.alloc (.cells #[x, y, z, u, v] t)) := by
  have hh := heap_alloc_new w (.cells #[x, y, z, u, v] t)
  refine ⟨w.heap.size, rfl, hB, by simp, fun j hj => somes_new w #[x, y, z, u, v] t j (by simpa using hj), fun j => ?_⟩; unfold World.frozen?; rw [hh]; simp
/-- The cells of a rule, laid. -/
def Laid5 (w : World) (b : Nat) (x y z u v : Value) : Prop :=
  b < w.heap.size ∧ w.cell? ⟨b, 0, none⟩ = some x ∧ w.cell? ⟨b, 1, none⟩ = some y ∧ w.cell? ⟨b, 2, none⟩ = some z ∧ w.cell? ⟨b, 3, none⟩ = some u ∧ w.cell? ⟨b, 4, none⟩ = some v
/-- Steps that make blocks, or lay these five values in a block. -/
structure Lays (x y z u v : Value) (w w' : World) : Prop where
  size : w.heap.size ≤ w'.heap.size
  ex : ∀ b j, b < w.heap.size → (∃ t, w.cell? ⟨b, j, none⟩ = some t) → ∃ t, w'.cell? ⟨b, j, none⟩ = some t
  fr : ∀ b j, b < w.heap.size → w'.frozen? ⟨b, j, none⟩ = w.frozen? ⟨b, j, none⟩
  laid : ∀ b, Laid5 w b x y z u v → Laid5 w' b x y z u v
theorem Up.lays {w w' : World} (h : Up w w') (x y z u v : Value) : Lays x y z u v w w' :=
  ⟨h.size, fun _ _ hb ⟨t, ht⟩ => ⟨t, (h.cells _ _ hb).trans ht⟩, fun _ _ hb => h.frozens _ _ hb, fun _ ⟨hb, h0, h1, h2, h3, h4⟩ => ⟨Nat.lt_of_lt_of_le hb h.size, (h.cells _ _ hb).trans h0, (h.cells _ _ hb).trans h1, (h.cells _ _ hb).trans h2, (h.cells _ _ hb).trans h3, (h.cells _ _ hb).trans h4⟩⟩
theorem IsNew5.lays {B : Nat} {t : Value} {x y z u v : Value} {w w' : World} (h : IsNew5 B t w) (m : Lays x y z u v w w') : IsNew5 B t w' := by
  obtain ⟨b, hv, h2, h3, h4, h5⟩ := h
  exact ⟨b, hv, h2, Nat.lt_of_lt_of_le h3 m.size, fun j hj => m.ex b j h3 (h4 j hj), fun j => (m.fr b j h3).trans (h5 j)⟩
/-- The laying. -/
theorem lays_put {w : World} {b : Nat} (r : Rule) (s : Value) (hl : b < w.heap.size) (hs : ∀ j, j < 5 → ∃ u, w.cell? ⟨b, j, none⟩ = some u) :
    Lays (.int .i64 r.kd) (.int .i64 r.a) (.int .i64 r.b) (.int .i64 r.c) s w (putR w b 0 r s) ∧ Laid5 (putR w b 0 r s) b (.int .i64 r.kd) (.int .i64 r.a) (.int .i64 r.b) (.int .i64 r.c) s := by
  obtain ⟨k0, k1, k2, k3, k4⟩ := putR_at (r := r) (s := s) (o := 0) (fun k hk => by rw [Nat.zero_add]; exact hs k hk); simp only [Nat.zero_add] at k0 k1 k2 k3 k4
  have hL : Laid5 (putR w b 0 r s) b (.int .i64 r.kd) (.int .i64 r.a) (.int .i64 r.b) (.int .i64 r.c) s := ⟨by rw [putR_size]; exact hl, k0, k1, k2, k3, k4⟩
  refine ⟨⟨by rw [putR_size]; exact Nat.le_refl _, fun b' j _ ⟨t, ht⟩ => ?_, fun b' j _ => putR_frozen _ _ _ _ _ _, fun b' h' => ?_⟩, hL⟩
  · unfold putR
    obtain ⟨v1, h1⟩ := setCell_some (p := ⟨b, 0, none⟩) (u := .int .i64 r.kd) ht; obtain ⟨v2, h2⟩ := setCell_some (p := ⟨b, 0 + 1, none⟩) (u := .int .i64 r.a) h1; obtain ⟨v3, h3⟩ := setCell_some (p := ⟨b, 0 + 2, none⟩) (u := .int .i64 r.b) h2; obtain ⟨v4, h4⟩ := setCell_some (p := ⟨b, 0 + 3, none⟩) (u := .int .i64 r.c) h3
    exact setCell_some h4
  · by_cases hbb : b = b'
    · subst hbb
      exact hL
    · obtain ⟨h0, h1, h2, h3, h4, h5⟩ := h'
      have f : ∀ j, (putR w b 0 r s).cell? ⟨b', j, none⟩ = w.cell? ⟨b', j, none⟩ := fun j => putR_other _ _ _ _ _ _ _ (.inl hbb)
      exact ⟨by rw [putR_size]; exact h0, (f 0).trans h1, (f 1).trans h2, (f 2).trans h3, (f 3).trans h4, (f 4).trans h5⟩
theorem rulesB_of {many kd : Int} : ∀ {bf : Int} {rs : List Rule} {r : Rule}, rulesB many bf rs = true → ruleOf kd rs = some r → ruleB r many = true
  | _, [], _, _, h => by cases h
  | bf, x :: rs, r, hb, h => by
    rw [rulesB, Bool.and_eq_true, Bool.and_eq_true] at hb; rw [ruleOf] at h
    by_cases hk : x.kd = kd
    · rw [if_pos hk] at h
      injection h with h
      subst h
      exact hb.1.2
    · rw [if_neg hk] at h
      exact rulesB_of hb.2 h
theorem mdlB_rule {m : Mdl} {i : Nat} {kd : Int} {r : Rule} (hm : mdlB m = true) (hi : i < m.rules.length) (h : ruleOf kd (m.rules.getD i []) = some r) : ruleB r m.rules.length = true := by
  simp only [mdlB, Bool.and_eq_true, List.all_eq_true] at hm; refine rulesB_of (hm.2 (m.rules.getD i []) ?_) h; rw [List.getD, List.getElem?_eq_getElem hi]
  exact List.getElem_mem hi
theorem mdlB_til {m : Mdl} (hm : mdlB m = true) : 0 ≤ m.til ∧ m.til ≤ 99 := by
  simp only [mdlB, Bool.and_eq_true] at hm
  exact inB_iff.1 hm.1.1.2
theorem ruleB_parts {r : Rule} {many : Int} (h : ruleB r many = true) : (∀ i, i < r.sends.length → sndB (r.sends.getD i default) many = true) ∧ r.sends.length ≤ 2 ∧ (0 ≤ r.a ∧ r.a ≤ 96) ∧ (0 ≤ r.b ∧ r.b ≤ 96) ∧ (0 ≤ r.c ∧ r.c ≤ 96) := by
  simp only [ruleB, Bool.and_eq_true, decide_eq_true_eq, inB_iff, List.all_eq_true] at h; obtain ⟨⟨⟨⟨⟨h1, h2⟩, _⟩, h4⟩, h5⟩, h6⟩ := h; refine ⟨fun i hi => h1 _ ?_, by omega, h4, h5, h6⟩; rw [List.getD, List.getElem?_eq_getElem hi]
  exact List.getElem_mem hi
theorem sndB_parts {x : Evt} {many : Int} (h : sndB x many = true) : (1 ≤ x.to ∧ x.to ≤ 9) ∧ (0 ≤ x.sq ∧ x.sq ≤ 96) ∧ (1 ≤ x.kd ∧ x.kd ≤ 9) := by
  simp only [sndB, Bool.and_eq_true, inB_iff] at h; obtain ⟨⟨⟨⟨⟨_, h1⟩, _⟩, h2⟩, h3⟩, _⟩ := h
  exact ⟨h1, h2, h3⟩
theorem sendsE_drop (til s : Int) (e : Evt) (xs : List Evt) (k : Nat) (q : Int) (h : k < xs.length) :
    sendsE til s e (xs.drop k) q = if s % (xs.getD k default).kd ≠ (xs.getD k default).dt ∨ q = 12 then sendsE til s e (xs.drop (k + 1)) q
      else if e.t + (xs.getD k default).to ≤ til then (⟨e.t + (xs.getD k default).to, (xs.getD k default).t, e.to, q, (xs.getD k default).fr, (s + (xs.getD k default).sq) % 97⟩ :: (sendsE til s e (xs.drop (k + 1)) (q + 1)).1, (sendsE til s e (xs.drop (k + 1)) (q + 1)).2)
      else sendsE til s e (xs.drop (k + 1)) (q + 1) := by
  rw [List.drop_eq_getElem_cons h, sendsE]; simp [h]
/-- What the loop over the sends keeps. -/
structure Kept (w : World) (b3 b4 b5 b6 b9 : Nat) (x y z : Value) (S q ct : Int) (e : Evt) (u0 u1 u2 u3 u4 : Value) : Prop where
  k3 : Box3 w b3 x y z
  k4 : Cell3 w b4 S q ct
  k5 : Box w b5 e
  k6 : Cell3 w b6 0 0 0
  k9 : Laid5 w b9 u0 u1 u2 u3 u4
section
variable {w w' : World} {b3 b4 b5 b6 b9 : Nat} {x y z : Value} {S q ct : Int} {e : Evt} {u0 u1 u2 u3 u4 : Value}
theorem Laid5.keep {b : Nat} (h : Laid5 w b u0 u1 u2 u3 u4) (hs : w.heap.size ≤ w'.heap.size) (hc : ∀ o, w'.cell? ⟨b, o, none⟩ = w.cell? ⟨b, o, none⟩) : Laid5 w' b u0 u1 u2 u3 u4 :=
  ⟨Nat.lt_of_lt_of_le h.1 hs, (hc 0).trans h.2.1, (hc 1).trans h.2.2.1, (hc 2).trans h.2.2.2.1, (hc 3).trans h.2.2.2.2.1, (hc 4).trans h.2.2.2.2.2⟩
theorem Box3.keep {b : Nat} (h : Box3 w b x y z) (hs : w.heap.size ≤ w'.heap.size) (hc : ∀ o, w'.cell? ⟨b, o, none⟩ = w.cell? ⟨b, o, none⟩) : Box3 w' b x y z :=
  ⟨Nat.lt_of_lt_of_le h.lt hs, (hc 0).trans h.c0, (hc 1).trans h.c1, (hc 2).trans h.c2⟩
theorem Cell3.keep {b : Nat} {i j l : Int} (h : Cell3 w b i j l) (hs : w.heap.size ≤ w'.heap.size) (hc : ∀ o, w'.cell? ⟨b, o, none⟩ = w.cell? ⟨b, o, none⟩) (hf : ∀ o, w'.frozen? ⟨b, o, none⟩ = w.frozen? ⟨b, o, none⟩) : Cell3 w' b i j l :=
  ⟨Nat.lt_of_lt_of_le h.lt hs, (hc 0).trans h.c0, (hc 1).trans h.c1, (hc 2).trans h.c2, fun o => (hf o).trans (h.f o)⟩
theorem Kept.up (h : Kept w b3 b4 b5 b6 b9 x y z S q ct e u0 u1 u2 u3 u4) (u : Up w w') : Kept w' b3 b4 b5 b6 b9 x y z S q ct e u0 u1 u2 u3 u4 :=
  ⟨h.k3.up u, h.k4.keep u.size (fun _ => u.cells _ _ h.k4.lt) (fun _ => u.frozens _ _ h.k4.lt), h.k5.up u, h.k6.keep u.size (fun _ => u.cells _ _ h.k6.lt) (fun _ => u.frozens _ _ h.k6.lt), h.k9.keep u.size (fun _ => u.cells _ _ h.k9.1)⟩
theorem Kept.grown {row : Option Nat} (h : Kept w b3 b4 b5 b6 b9 x y z S q ct e u0 u1 u2 u3 u4) (hg : w.grownBy w' row) (h3 : some b3 ≠ row) (h4 : some b4 ≠ row) (h5 : some b5 ≠ row) (h6 : some b6 ≠ row) (h9 : some b9 ≠ row) : Kept w' b3 b4 b5 b6 b9 x y z S q ct e u0 u1 u2 u3 u4 :=
  ⟨h.k3.keep hg.size (fun _ => World.cell?_of_block (hg.block b3 h.k3.lt h3)), h.k4.keep hg.size (fun _ => World.cell?_of_block (hg.block b4 h.k4.lt h4)) (fun _ => World.frozen?_of_block (hg.block b4 h.k4.lt h4)), h.k5.grown hg h5, h.k6.keep hg.size (fun _ => World.cell?_of_block (hg.block b6 h.k6.lt h6)) (fun _ => World.frozen?_of_block (hg.block b6 h.k6.lt h6)), h.k9.keep hg.size (fun _ => World.cell?_of_block (hg.block b9 h.k9.1 h9))⟩
theorem Kept.set4 (h : Kept w b3 b4 b5 b6 b9 x y z S q ct e u0 u1 u2 u3 u4) (n3 : b4 ≠ b3) (n5 : b4 ≠ b5) (n6 : b4 ≠ b6) (n9 : b4 ≠ b9) {j : Nat} {t : Value} {S' q' : Int} (hc : Cell3 (w.setCell ⟨b4, j, none⟩ t) b4 S' q' ct) : Kept (w.setCell ⟨b4, j, none⟩ t) b3 b4 b5 b6 b9 x y z S' q' ct e u0 u1 u2 u3 u4 :=
  ⟨h.k3.keep (by simp) (fun _ => World.cell?_setCell_other _ _ _ _ (addr_ne (.inl n3))), hc, h.k5.setFar n5 _, h.k6.far n6 _, h.k9.keep (by simp) (fun _ => World.cell?_setCell_other _ _ _ _ (addr_ne (.inl n9)))⟩
end
/-- The operations of the region that finds the rule. -/
def dP (b3 b5 : Nat) (A : Option Addr) (n c : Nat) (bA off : Nat) (e : Evt) (A' : Option Addr) (n' c' : Nat) (U : Value) (ok : Bool) (i : Nat) (v : Value) : Prop :=
  if i = 0 then v = .pointer (some ⟨b3, 0, none⟩) else if i = 1 then v = .slice A n c else if i = 2 then v = .pointer (some ⟨b5, 1, none⟩) else if i = 3 then v = .int .i64 e.to
  else if i = 4 then v = .pointer (some ⟨bA, off + e.to.toNat, none⟩) else if i = 5 then v = .slice A' n' c' else if i = 6 then v = .pointer (some ⟨b5, 4, none⟩) else if i = 7 then v = .int .i64 e.kd
  else if i = 8 ∨ i = 9 then v = .tuple #[U, .bool ok] else if i = 10 then v = U else v = .bool ok
def dR (b3 b5 : Nat) (A : Option Addr) (n c : Nat) (bA off : Nat) (e : Evt) (A' : Option Addr) (n' c' : Nat) (r : Rule) (s : Value) (ok : Bool) (B : Nat) (i : Nat) (v : Value) (w : World) : Prop :=
  if i = 12 then IsNew5 B v w else if i = 13 then (∃ b, v = .pointer (some ⟨b, 0, none⟩) ∧ Laid5 w b (.int .i64 r.kd) (.int .i64 r.a) (.int .i64 r.b) (.int .i64 r.c) s) else dP b3 b5 A n c bA off e A' n' c' (r.v s) ok i v
theorem Cell3.up {w w' : World} {b : Nat} {i j l : Int} (h : Cell3 w b i j l) (u : Up w w') : Cell3 w' b i j l := h.keep u.size (fun _ => u.cells _ _ h.lt) (fun _ => u.frozens _ _ h.lt)
end Go.Proofs.YtlikekmhccnilaaGreat

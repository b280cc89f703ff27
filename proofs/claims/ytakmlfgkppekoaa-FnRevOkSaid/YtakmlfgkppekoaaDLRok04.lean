/-
  What l1Put returns, in one sentence: a new slice of the list with the event ahead of the first that is greater; for every list that lies in memory.
  What is kept where one block alone is written, in one sentence: lists of events elsewhere, their blocks, the reader; no condition is made.
-/
import Derived.Test.YtakmlfgkppekoaaDLRok01
import Derived.Test.YtakmlfgkppekoaaDLRok03
namespace Go.Proofs.Ytakmlfgkppekoaa
set_option maxRecDepth 100000
open Go.RowKit
/-- What the loop keeps. -/
def PutRel (es : List Evt) (lt : Evt → Bool) (ac : List Evt → List Evt) (n base : Nat) (v d i : Value) (wr : World) : Prop :=
  ∃ (k : Nat) (b : Bool) (l : List Evt), k ≤ n ∧ i = .int .i64 k ∧ d = .bool b ∧ (es.take k).any lt = b ∧ l = ac (es.take k) ∧ (l.length ≤ k ∨ (b = true ∧ l.length ≤ k + 1)) ∧ wr.ownsRow base 45 6 v l.length (flat l)
theorem flat_snoc (l : List Evt) (x : Evt) : flat l ++ flat [x] = flat (l ++ [x]) := (flat_app _ _).symm
theorem own_snoc {w : World} {b e n : Nat} {v : Value} {l : List Evt} {x : Evt} (h : w.ownsRow b e 6 v n (flat l ++ flat [x])) (hn : n = l.length + 1) : w.ownsRow b e 6 v (l ++ [x]).length (flat (l ++ [x])) := by
  rw [flat_snoc] at h; subst hn
  simpa using h
theorem Box.grown {w w' : World} {b : Nat} {e : Evt} {row : Option Nat} (h : Box w b e) (hg : w.grownBy w' row) (hb : some b ≠ row) : Box w' b e :=
  h.keep hg.size (fun _ => World.cell?_of_block (hg.block b h.lt hb)) (fun _ => World.frozen?_of_block (hg.block b h.lt hb))
theorem own_ne {w : World} {base e n b : Nat} {v : Value} {xs : List Value} (h : w.ownsRow base e 6 v n xs) (hb : b < base) : some b ≠ v.ownBlock := fun he => by
  have := (h.lt b he.symm).1
  omega
theorem EvAt.grown {w w' : World} {b o : Nat} {e : Evt} {row : Option Nat} (h : EvAt w b o e) (hg : w.grownBy w' row) (hb : some b ≠ row) : EvAt w' b o e := by
  obtain ⟨h0, h1, h2, h3, h4, h5⟩ := h
  exact ⟨hg.cell h0 hb, hg.cell h1 hb, hg.cell h2 hb, hg.cell h3 hb, hg.cell h4 hb, hg.cell h5 hb⟩
theorem bs_alloc {w w' : World} {b : Nat} {o : Obj} (h : b ≤ w.heap.size) (hs : w.heap.size ≤ w'.heap.size) : b ≤ (w'.alloc o).heap.size := by
  simp
  omega
set_option maxHeartbeats 8000000 in
theorem l1Put_any (A : Option Addr) (n cap : Nat) (es : List Evt) (e : Evt) (w : World) (hn : n ≤ 1000000000) (hE : Evs w A n es) :
    Calls Try.prog 117 #[.slice A n cap, e.v] w (NewSl (ins e es) w) := by
  obtain ⟨i0, hi0, hz0, hz1, hz2⟩ := info_parts info45
  have HE := Lib.hid hE
  have LE := Lib.hid hE.1
  have TS := Lib.hid (take_snoc es)
  have AT := Lib.hid (acc_true e)
  have AH := Lib.hid (acc_here e)
  have AN := Lib.hid (acc_no e)
  have AE := Lib.hid (acc_end e es)
  have CL := Lib.hid (fun x W => specLess_any e x W)
  have INF := Lib.hid (And.intro hi0 (And.intro hz0 (And.intro hz1 hz2)))
  have SIX := Lib.hid (show 0 < 6 by omega)
  clear hE hi0 hz0 hz1 hz2
  generalize hins : ins e es = res at AE
  have HI := Lib.hid hins
  clear hins
  generalize hlt : ltE e = lt at AT AH AN AE CL
  generalize hac : acc e = ac at AT AH AN AE
  have ac0 : ac [] = [] := by rw [← hac]; rfl
  have AC0 := Lib.hid ac0
  clear hlt hac ac0; obtain ⟨et, eto, efr, esq, ekd, edt⟩ := e; unfold Evt.v at CL ⊢; dsimp only at CL ⊢
  go_enter Try.func117, Try.ntmps117
  go_wp2
  go_loopw [5, 6, 7] (fun v d i wr => PutRel es lt ac n (w.heap.size + 1) v d i wr ∧ Up w wr ∧ Box wr w.heap.size ⟨et, eto, efr, esq, ekd, edt⟩) (fun _ _ i _ => n - (intOf i).toNat)
  case atStart =>
    refine ⟨⟨0, false, [], by omega, rfl, rfl, rfl, AC0.out.symm, .inl (by simp), ?_⟩, ((Up.refl w).alloc _).alloc _, (Box.new w ⟨et, eto, efr, esq, ekd, edt⟩ 45).alloc _⟩
    have := World.ownsRow_lit (base := w.heap.size + 1) (e := 45) (size := 6) (w.alloc (.cells #[.int .i64 et, .int .i64 eto, .int .i64 efr, .int .i64 esq, .int .i64 ekd, .int .i64 edt] 45)) #[] 0 (by simp) (by simp only [maxLen]; omega) (by simp)
    simpa [flat] using this
  case round =>
    obtain ⟨⟨k, b, l, hk, rfl, rfl, hb, hl, hlx, ho⟩, ur, bx⟩ := hrel
    have hll : l.length ≤ k + 1 := by rcases hlx with h | h <;> omega
    have HLX := Lib.hid (show b = false → l.length ≤ k from fun h => by rcases hlx with h2 | ⟨h2, _⟩; exact h2; rw [h] at h2; cases h2)
    clear hlx
    have HBB := Lib.hid hb
    have HL := Lib.hid hl
    have HO := Lib.hid ho
    have BX := Lib.hid bx
    have hs := ur.size
    have hsx := bx.lt
    clear hb hl ho bx
    by_cases hlt : k < n
    · obtain ⟨bb, off, hA, hbb, hc⟩ := HE.out.2 (by omega)
      subst hA
      have a0 := (hc k hlt).up ur hbb
      have hbb' : bb < wr.heap.size := by omega
      clear hc
      have ts := TS.out k (by rw [LE.out]; exact hlt)
      have cl := CL.out (es.getD k default)
      have lx1 := AT.out (es.getD k default) (es.take k)
      have lx2 := AH.out (es.getD k default) (es.take k)
      have lx3 := AN.out (es.getD k default) (es.take k)
      generalize es.getD k default = x at a0 ts cl lx1 lx2 lx3
      rw [← ts, HBB.out, ← HL.out] at lx1 lx2 lx3
      have LX1 := Lib.hid lx1
      generalize hltx : lt x = lx at cl lx2 lx3
      have LX2 := Lib.hid lx2
      have LX3 := Lib.hid lx3
      clear ts hltx lx1 lx2 lx3; obtain ⟨xt, xto, xfr, xsq, xkd, xdt⟩ := x
      have AX := Lib.hid a0
      unfold EvAt at a0; dsimp only at a0 cl
      have C := Lib.hid cl
      clear cl
      have i4 : (k : Int) < n := by omega
      have HMX := Lib.hid (show l.length + 1 ≤ maxLen by simp only [maxLen]; omega)
      have HBY := Lib.hid (show (l.length + 1) * 48 ≤ 140737488355328 by omega)
      have HMX2 := Lib.hid (show (l ++ [(⟨et, eto, efr, esq, ekd, edt⟩ : Evt)]).length + 1 ≤ maxLen by simp only [maxLen, List.length_append, List.length_singleton]; omega)
      have HBY2 := Lib.hid (show ((l ++ [(⟨et, eto, efr, esq, ekd, edt⟩ : Evt)]).length + 1) * 48 ≤ 140737488355328 by simp only [List.length_append, List.length_singleton]; omega)
      obtain ⟨⟨e0, e1, e2, e3, e4, e5⟩, -⟩ := BX.out.mk6; obtain ⟨p0, p1, p2, p3, p4, p5⟩ := a0
      cases b
      · cases lx
        · go_wp2
          refine region_up (by kernel_rfl) (by kernel_rfl) ?_; refine up_step rfl ?_; apply Exists.intro; refine ⟨fun w1 hw1 => ?_, ?_⟩
          · go_simp
            try rfl
          go_simp; refine up_step rfl ?_; apply Exists.intro; refine ⟨fun w1 hw1 => ?_, ?_⟩
          · go_simp
            try rfl
          go_simp; refine up_step rfl ?_; apply Exists.intro; refine ⟨fun w1 hw1 => ?_, ?_⟩
          · go_simp
            try rfl
          go_simp; refine up_want (by rfl) ?_; apply Exists.intro; refine ⟨fun w1 hw1 => ?_, ?_⟩
          · obtain ⟨hc, hf, hz⟩ := hw1.facts
            try simp at hz
            go_simp
            try rfl
          go_simp; refine up_want (by rfl) ?_; apply Exists.intro; refine ⟨fun w1 hw1 => ?_, ?_⟩
          · go_simp
            try rfl
          go_simp; refine up_want (by rfl) ?_; apply Exists.intro; refine ⟨fun w1 hw1 => ?_, ?_⟩
          · go_simp
            try rfl
          go_simp; refine up_want (by rfl) ?_; apply Exists.intro; refine ⟨fun w1 hw1 => ?_, ?_⟩
          · go_simp
            try rfl
          go_simp; refine up_want (by rfl) ?_; apply Exists.intro; refine ⟨fun w1 hw1 => ?_, ?_⟩
          · obtain ⟨hc, hf, hz⟩ := hw1.facts
            try simp at hz
            go_simp
            try rfl
          go_simp; refine up_want (by rfl) ?_; apply Exists.intro; refine ⟨fun w1 hw1 => ?_, ?_⟩
          · go_simp
            exact up_call hw1 (C.out _)
          go_simp; refine up_step rfl ?_; apply Exists.intro; refine ⟨fun w1 hw1 => ?_, ?_⟩
          · go_simp
            try rfl
          go_simp; refine wpQuiet_nil ?_; intro wA uA
          have UA := Lib.hid uA
          have HOA := Lib.hid (own_up (own_up HO.out UA.out) ((Up.refl wA).alloc (.cells #[.int .i64 xt, .int .i64 xto, .int .i64 xfr, .int .i64 xsq, .int .i64 xkd, .int .i64 xdt] 45)))
          have HR := Lib.hid (Evs.new wA ⟨xt, xto, xfr, xsq, xkd, xdt⟩ 45).reads
          have HBS := Lib.hid (show w.heap.size + 1 ≤ (wA.alloc (.cells #[.int .i64 xt, .int .i64 xto, .int .i64 xfr, .int .i64 xsq, .int .i64 xkd, .int .i64 xdt] 45)).heap.size by have := UA.out.size; simp; omega)
          have UG := Lib.hid (ur.trans UA.out)
          have BG := Lib.hid ((BX.out.up UA.out).alloc (.cells #[.int .i64 xt, .int .i64 xto, .int .i64 xfr, .int .i64 xsq, .int .i64 xkd, .int .i64 xdt] 45))
          obtain ⟨hc, hf, hz⟩ := uA.facts; clear uA
          go_wp2_with (at_builtin; refine wpList_append_any _ rfl (.tmp 29) (.tmp 34) 31 rfl (w.heap.size + 1) 45 i0 _ 6 48 Try.underlying31 INF.out.1 INF.out.2.1 INF.out.2.2.1 INF.out.2.2.2 rfl SIX.out _ _ (flat l) rfl HOA.out _ _ 1 1 (flat [⟨xt, xto, xfr, xsq, xkd, xdt⟩]) rfl HR.out (flat_one _) HMX.out HBY.out HBS.out ?_; intro v2 w2 ho2 hg2 _)
          have HO2 := Lib.hid ho2
          have HG2 := Lib.hid hg2
          clear ho2 hg2
          go_roundw
          case rel =>
            have hlk := HLX.out (by first | trivial | rfl)
            obtain ⟨q1, q2⟩ := LX3.out (by first | trivial | rfl) (by first | trivial | rfl)
            exact ⟨⟨k + 1, false, l ++ [⟨xt, xto, xfr, xsq, xkd, xdt⟩], by omega, by go_num, rfl, q2, q1.symm, .inl (by simp; omega), own_snoc HO2.out rfl⟩, (UG.out.alloc _).grown HG2.out (fun j hj => by have := (HOA.out.lt j hj).1; omega), BG.out.grown HG2.out (own_ne HOA.out (by omega))⟩
          case measure => simp [intOf]; omega
        · go_wp2
          refine region_up (by kernel_rfl) (by kernel_rfl) ?_; refine up_step rfl ?_; apply Exists.intro; refine ⟨fun w1 hw1 => ?_, ?_⟩
          · go_simp
            try rfl
          go_simp; refine up_step rfl ?_; apply Exists.intro; refine ⟨fun w1 hw1 => ?_, ?_⟩
          · go_simp
            try rfl
          go_simp; refine up_step rfl ?_; apply Exists.intro; refine ⟨fun w1 hw1 => ?_, ?_⟩
          · go_simp
            try rfl
          go_simp; refine up_want (by rfl) ?_; apply Exists.intro; refine ⟨fun w1 hw1 => ?_, ?_⟩
          · obtain ⟨hc, hf, hz⟩ := hw1.facts
            try simp at hz
            go_simp
            try rfl
          go_simp; refine up_want (by rfl) ?_; apply Exists.intro; refine ⟨fun w1 hw1 => ?_, ?_⟩
          · go_simp
            try rfl
          go_simp; refine up_want (by rfl) ?_; apply Exists.intro; refine ⟨fun w1 hw1 => ?_, ?_⟩
          · go_simp
            try rfl
          go_simp; refine up_want (by rfl) ?_; apply Exists.intro; refine ⟨fun w1 hw1 => ?_, ?_⟩
          · go_simp
            try rfl
          go_simp; refine up_want (by rfl) ?_; apply Exists.intro; refine ⟨fun w1 hw1 => ?_, ?_⟩
          · obtain ⟨hc, hf, hz⟩ := hw1.facts
            try simp at hz
            go_simp
            try rfl
          go_simp; refine up_want (by rfl) ?_; apply Exists.intro; refine ⟨fun w1 hw1 => ?_, ?_⟩
          · go_simp
            exact up_call hw1 (C.out _)
          go_simp; refine up_step rfl ?_; apply Exists.intro; refine ⟨fun w1 hw1 => ?_, ?_⟩
          · go_simp
            try rfl
          go_simp; refine wpQuiet_nil ?_; intro wA uA
          have HOA := Lib.hid (own_up (own_up HO.out uA) ((Up.refl wA).alloc (.cells #[.int .i64 et, .int .i64 eto, .int .i64 efr, .int .i64 esq, .int .i64 ekd, .int .i64 edt] 45)))
          have HR := Lib.hid (Evs.new wA ⟨et, eto, efr, esq, ekd, edt⟩ 45).reads
          have HBS := Lib.hid (show w.heap.size + 1 ≤ (wA.alloc (.cells #[.int .i64 et, .int .i64 eto, .int .i64 efr, .int .i64 esq, .int .i64 ekd, .int .i64 edt] 45)).heap.size by have := uA.size; simp; omega)
          have UG := Lib.hid (ur.trans uA)
          have BG := Lib.hid ((BX.out.up uA).alloc (.cells #[.int .i64 et, .int .i64 eto, .int .i64 efr, .int .i64 esq, .int .i64 ekd, .int .i64 edt] 45))
          obtain ⟨hc, hf, hz⟩ := uA.facts
          have hwb : w.heap.size < wA.heap.size := by omega
          have HBX := Lib.hid (show bb < w.heap.size + 1 by omega)
          have AXA := Lib.hid ((AX.out.up uA hbb').up ((Up.refl wA).alloc (.cells #[.int .i64 et, .int .i64 eto, .int .i64 efr, .int .i64 esq, .int .i64 ekd, .int .i64 edt] 45)) (Nat.lt_of_lt_of_le hbb' uA.size))
          clear uA
          go_wp2_with (first | (at_builtin; refine wpList_append_any _ rfl (.tmp 25) (.tmp 27) 31 rfl (w.heap.size + 1) 45 i0 _ 6 48 Try.underlying31 INF.out.1 INF.out.2.1 INF.out.2.2.1 INF.out.2.2.2 rfl SIX.out _ _ (flat l) rfl HOA.out _ _ 1 1 (flat [⟨et, eto, efr, esq, ekd, edt⟩]) rfl HR.out (flat_one _) HMX.out HBY.out HBS.out ?_; intro v2 w2 ho2 hg2 _; have HO2 := Lib.hid (own_snoc ho2 rfl); have HG2 := Lib.hid hg2; have HS2 := Lib.hid hg2.size; have AX2 := AXA.out.grown hg2 (own_ne HOA.out HBX.out); unfold EvAt at AX2; dsimp only at AX2; obtain ⟨z0, z1, z2, z3, z4, z5⟩ := AX2; have HOA2 := Lib.hid (own_up HO2.out ((Up.refl w2).alloc (.cells #[.int .i64 xt, .int .i64 xto, .int .i64 xfr, .int .i64 xsq, .int .i64 xkd, .int .i64 xdt] 45))); have HR2 := Lib.hid (Evs.new w2 ⟨xt, xto, xfr, xsq, xkd, xdt⟩ 45).reads; have HBS2 := Lib.hid (bs_alloc (o := (.cells #[.int .i64 xt, .int .i64 xto, .int .i64 xfr, .int .i64 xsq, .int .i64 xkd, .int .i64 xdt] 45)) HBS.out HS2.out); clear ho2 hg2) | (at_builtin; refine wpList_append_any _ rfl (.tmp 29) (.tmp 34) 31 rfl (w.heap.size + 1) 45 i0 _ 6 48 Try.underlying31 INF.out.1 INF.out.2.1 INF.out.2.2.1 INF.out.2.2.2 rfl SIX.out _ _ (flat (l ++ [(⟨et, eto, efr, esq, ekd, edt⟩ : Evt)])) rfl HOA2.out _ _ 1 1 (flat [⟨xt, xto, xfr, xsq, xkd, xdt⟩]) rfl HR2.out (flat_one _) HMX2.out HBY2.out HBS2.out ?_; intro v3 w3 ho3 hg3 _))
          have HO3 := Lib.hid ho3
          have HG3 := Lib.hid hg3
          clear ho3 hg3
          go_roundw
          case rel =>
            have hlk := HLX.out (by first | trivial | rfl)
            obtain ⟨q1, q2⟩ := LX2.out (by first | trivial | rfl) (by first | trivial | rfl)
            have g1 := (UG.out.alloc (.cells #[.int .i64 et, .int .i64 eto, .int .i64 efr, .int .i64 esq, .int .i64 ekd, .int .i64 edt] 45)).grown HG2.out (fun j hj => by have := (HOA.out.lt j hj).1; omega)
            exact ⟨⟨k + 1, true, l ++ [⟨et, eto, efr, esq, ekd, edt⟩] ++ [⟨xt, xto, xfr, xsq, xkd, xdt⟩], by omega, by go_num, rfl, q2, q1.symm, .inr ⟨rfl, by simp; omega⟩, own_snoc HO3.out rfl⟩, (g1.alloc _).grown HG3.out (fun j hj => by have := (HOA2.out.lt j hj).1; omega), ((BG.out.grown HG2.out (own_ne HOA.out (by omega))).alloc _).grown HG3.out (own_ne HOA2.out (by omega))⟩
          case measure => simp [intOf]; omega
      · go_wp2
        refine region_up (by kernel_rfl) (by kernel_rfl) ?_; refine up_step rfl ?_; apply Exists.intro; refine ⟨fun w1 hw1 => ?_, ?_⟩
        · go_simp
          try rfl
        go_simp; refine up_step rfl ?_; apply Exists.intro; refine ⟨fun w1 hw1 => ?_, ?_⟩
        · go_simp
          try rfl
        go_simp; refine up_step rfl ?_; apply Exists.intro; refine ⟨fun w1 hw1 => ?_, ?_⟩
        · go_simp
          try rfl
        go_simp; refine up_skip (by rfl) ?_; go_simp; refine up_skip (by rfl) ?_; go_simp; refine up_skip (by rfl) ?_; go_simp; refine up_skip (by rfl) ?_; go_simp; refine up_skip (by rfl) ?_; go_simp; refine up_skip (by rfl) ?_; go_simp; refine up_step rfl ?_; apply Exists.intro; refine ⟨fun w1 hw1 => ?_, ?_⟩
        · go_simp
          try rfl
        go_simp; refine wpQuiet_nil ?_; intro wA uA
        have UA := Lib.hid uA
        have HOA := Lib.hid (own_up (own_up HO.out UA.out) ((Up.refl wA).alloc (.cells #[.int .i64 xt, .int .i64 xto, .int .i64 xfr, .int .i64 xsq, .int .i64 xkd, .int .i64 xdt] 45)))
        have HR := Lib.hid (Evs.new wA ⟨xt, xto, xfr, xsq, xkd, xdt⟩ 45).reads
        have HBS := Lib.hid (show w.heap.size + 1 ≤ (wA.alloc (.cells #[.int .i64 xt, .int .i64 xto, .int .i64 xfr, .int .i64 xsq, .int .i64 xkd, .int .i64 xdt] 45)).heap.size by have := UA.out.size; simp; omega)
        have UG := Lib.hid (ur.trans UA.out)
        have BG := Lib.hid ((BX.out.up UA.out).alloc (.cells #[.int .i64 xt, .int .i64 xto, .int .i64 xfr, .int .i64 xsq, .int .i64 xkd, .int .i64 xdt] 45))
        obtain ⟨hc, hf, hz⟩ := uA.facts; clear uA
        go_wp2_with (at_builtin; refine wpList_append_any _ rfl (.tmp 29) (.tmp 34) 31 rfl (w.heap.size + 1) 45 i0 _ 6 48 Try.underlying31 INF.out.1 INF.out.2.1 INF.out.2.2.1 INF.out.2.2.2 rfl SIX.out _ _ (flat l) rfl HOA.out _ _ 1 1 (flat [⟨xt, xto, xfr, xsq, xkd, xdt⟩]) rfl HR.out (flat_one _) HMX.out HBY.out HBS.out ?_; intro v2 w2 ho2 hg2 _)
        have HO2 := Lib.hid ho2
        have HG2 := Lib.hid hg2
        clear ho2 hg2
        go_roundw
        case rel =>
          obtain ⟨q1, q2⟩ := LX1.out (by first | trivial | rfl)
          exact ⟨⟨k + 1, true, l ++ [⟨xt, xto, xfr, xsq, xkd, xdt⟩], by omega, by go_num, rfl, q2, q1.symm, .inr ⟨rfl, by simp; omega⟩, own_snoc HO2.out rfl⟩, (UG.out.alloc _).grown HG2.out (fun j hj => by have := (HOA.out.lt j hj).1; omega), BG.out.grown HG2.out (own_ne HOA.out (by omega))⟩
        case measure => simp [intOf]; omega
    · have hkn : k = n := by omega
      have TK := Lib.hid (show es.take k = es by rw [hkn, ← LE.out, List.take_length])
      have HLE := Lib.hid hll
      clear hkn hll; obtain ⟨⟨e0, e1, e2, e3, e4, e5⟩, -⟩ := BX.out.mk6
      cases b
      · have HOA := Lib.hid (own_up HO.out ((Up.refl wr).alloc (.cells #[.int .i64 et, .int .i64 eto, .int .i64 efr, .int .i64 esq, .int .i64 ekd, .int .i64 edt] 45)))
        have HR := Lib.hid (Evs.new wr ⟨et, eto, efr, esq, ekd, edt⟩ 45).reads
        have HMX := Lib.hid (show l.length + 1 ≤ maxLen by have := HLE.out; simp only [maxLen]; omega)
        have HBY := Lib.hid (show (l.length + 1) * 48 ≤ 140737488355328 by have := HLE.out; omega)
        have HBS := Lib.hid (show w.heap.size + 1 ≤ (wr.alloc (.cells #[.int .i64 et, .int .i64 eto, .int .i64 efr, .int .i64 esq, .int .i64 ekd, .int .i64 edt] 45)).heap.size by simp; omega)
        go_wp2_with (at_builtin; refine wpList_append_any _ rfl (.tmp 38) (.tmp 40) 31 rfl (w.heap.size + 1) 45 i0 _ 6 48 Try.underlying31 INF.out.1 INF.out.2.1 INF.out.2.2.1 INF.out.2.2.2 rfl SIX.out _ _ (flat l) rfl HOA.out _ _ 1 1 (flat [⟨et, eto, efr, esq, ekd, edt⟩]) rfl HR.out (flat_one _) HMX.out HBY.out HBS.out ?_; intro v2 w2 ho2 hg2 _)
        have HO2 := Lib.hid ho2
        have HG2 := Lib.hid hg2
        clear ho2 hg2; go_ret
        have hres : l ++ [⟨et, eto, efr, esq, ekd, edt⟩] = res := by
          have h1 := HBB.out
          have h2 := HL.out
          rw [TK.out] at h1 h2; rw [h2]
          exact AE.out.2 h1
        rw [← hres]
        exact NewSl.of_own (own_mono (own_snoc HO2.out rfl) (by omega)) ((ur.alloc _).grown HG2.out (fun j hj => by have := (HOA.out.lt j hj).1; omega))
      · go_wp2
        go_ret
        have hres : l = res := by
          have h1 := HBB.out
          have h2 := HL.out
          rw [TK.out] at h1 h2; rw [h2]
          exact AE.out.1 h1
        rw [← hres]
        exact NewSl.of_own (own_mono HO.out (by omega)) ur
end Go.Proofs.Ytakmlfgkppekoaa

namespace Go.Proofs.Ytakmlfgkppekoaa
set_option maxRecDepth 100000
open Go.RowKit
theorem Evs.mv {w w' : World} {A : Option Addr} {n g : Nat} {es : List Evt} (h : Evs w A n es) (m : Mv g w w') (hne : ∀ b off, A = some ⟨b, off, none⟩ → b ≠ g) : Evs w' A n es :=
  ⟨h.1, fun hn => by
    obtain ⟨b, off, hA, hb, hc⟩ := h.2 hn
    have hbg := hne b off hA
    refine ⟨b, off, hA, Nat.lt_of_lt_of_le hb m.size, fun i hi => ?_⟩; obtain ⟨h0, h1, h2, h3, h4, h5⟩ := hc i hi
    exact ⟨(m.cells _ _ hb hbg).trans h0, (m.cells _ _ hb hbg).trans h1, (m.cells _ _ hb hbg).trans h2, (m.cells _ _ hb hbg).trans h3, (m.cells _ _ hb hbg).trans h4, (m.cells _ _ hb hbg).trans h5⟩⟩
theorem own_mv {w w' : World} {b e size n g : Nat} {v : Value} {xs : List Value} (h : w.ownsRow b e size v n xs) (m : Mv g w w') (hg : g < b) : w'.ownsRow b e size v n xs :=
  h.kept (row := some g) ⟨m.os, m.tape, m.output, m.size, fun k hk hne => m.block k hk (fun e => hne (by rw [e]))⟩ (.inr (fun he => by have := (h.lt g he).1; omega))
theorem own_addr {w : World} {base e n c b off : Nat} {A : Option Addr} {xs : List Value} (h : w.ownsRow base e 6 (.slice A n c) n xs) (hA : A = some ⟨b, off, none⟩) : base ≤ b := by
  subst hA
  exact (h.lt b rfl).1
theorem Rd.lt {w : World} {g N : Nat} (h : Rd w g N) : g < w.heap.size := by
  obtain ⟨_, _, _, _, _, _, _, _, hg, _⟩ := h
  exact hg
end Go.Proofs.Ytakmlfgkppekoaa

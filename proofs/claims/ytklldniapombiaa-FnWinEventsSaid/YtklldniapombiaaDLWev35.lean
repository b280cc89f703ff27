/-
  What the drawer of simulators gives, in one sentence: some simulator in rows of its own, over new blocks; for every reader and model in memory.
-/
import Derived.Test.YtklldniapombiaaDLWev05
import Derived.Test.YtklldniapombiaaDLWev06
import Derived.Test.YtklldniapombiaaDLWev07
import Derived.Test.YtklldniapombiaaDLWev09
import Derived.Test.YtklldniapombiaaDLWev33
import Derived.Test.YtklldniapombiaaDLWev34
namespace Go.Proofs.Ytklldniapombiaa
set_option maxRecDepth 100000
open Go.RowKit
/-- What l20Seq gives. -/
def DrawnSq (g N : Nat) (w : World) (x : Ending) (w' : World) : Prop :=
  ∃ Ac nc cc Aw nw cw Al nl cl s, x = .returned (.agg #[.slice Ac nc cc, .slice Aw nw cw, .slice Al nl cl]) ∧ SqRw w' w.heap.size Ac nc cc Aw nw cw Al nl cl s ∧ (nc ≤ 40 ∧ nw ≤ 600 ∧ nl ≤ 60) ∧ Rd w' g N ∧ Mv g w w'
theorem Mv.far {g : Nat} {a w : World} (h : Mv g a w) {b o : Nat} (u : Value) (hb : a.heap.size ≤ b) : Mv g a (w.setCell ⟨b, o, none⟩ u) :=
  ⟨h.os, h.tape, h.output, by simpa using h.size, fun k hk hne => (Below.heap_setCell w ⟨b, o, none⟩ u k (by dsimp only; omega)).trans (h.block k hk hne)⟩
theorem Mv.grownR {g : Nat} {a w w' : World} {row : Option Nat} (h : Mv g a w) (k : w.grownBy w' row) (hr : ∀ j, row = some j → a.heap.size ≤ j) : Mv g a w' :=
  ⟨k.os.trans h.os, k.tape.trans h.tape, k.output.trans h.output, Nat.le_trans h.size k.size, fun j hj hne => (k.block j (Nat.lt_of_lt_of_le hj h.size) (fun e => by have := hr j e.symm; omega)).trans (h.block j hj hne)⟩
theorem Rd.grownR {g N : Nat} {w w' : World} {row : Option Nat} (h : Rd w g N) (k : w.grownBy w' row) (hr : ∀ j, row = some j → g < j) : Rd w' g N :=
  Rd.st h (fun j hj => k.block j (Nat.lt_of_le_of_lt hj h.lt) (fun e => by have := hr j e.symm; omega)) k.size
/-- The second event of a row of the call's own: its block, its cells. -/
theorem own_second {w : World} {lo n c : Nat} {A : Option Addr} {es : List Evt} (h : w.ownsRow lo 74 6 (.slice A n c) n (flat es)) (hn : 1 < n) :
    ∃ g arr xt xto xfr xsq xkd xdt, A = some ⟨g, 0, none⟩ ∧ lo ≤ g ∧ Blk w g 74 arr ∧ arr[6]? = some (.int .i64 xt) ∧ arr[7]? = some (.int .i64 xto) ∧ arr[8]? = some (.int .i64 xfr) ∧ arr[9]? = some (.int .i64 xsq) ∧ arr[10]? = some (.int .i64 xkd) ∧ arr[11]? = some (.int .i64 xdt) := by
  have hl := h.1
  rw [flat_len] at hl
  rcases h.2 with ⟨_, h0⟩ | ⟨g, cap, cur, hv, hg, hb, hnc, _, hsz, ht⟩
  · omega
  · injection hv with hA _ _
    have key : ∀ k, k < 6 → cur[6 + k]? = (es.getD 1 default).c6[k]? := fun k hk => by
      rw [← flat_get es 1 k (by omega) hk, ← ht, List.getElem?_take_of_lt (by omega), Array.getElem?_toList, Nat.one_mul]
    generalize es.getD 1 default = y at key
    obtain ⟨xt, xto, xfr, xsq, xkd, xdt⟩ := y
    exact ⟨g, cur, xt, xto, xfr, xsq, xkd, xdt, hA, hg, hb, key 0 (by omega), key 1 (by omega), key 2 (by omega), key 3 (by omega), key 4 (by omega), key 5 (by omega)⟩
set_option maxHeartbeats 16000000 in
theorem l20Seq_any (g N : Nat) (n0 : Int) (A : Option Addr) (n c : Nat) (B : Option Addr) (k d : Nat) (m : Mdl) (w : World) (hn0 : I64 n0) (hN : N ≤ 800000) (hR : Rd w g N) (hM : ∀ w', Mv g w w' → MdlV w' A n B k m) (hcap : n ≤ 32) :
    Calls Try.prog 141 #[.pointer (some ⟨g, 0, none⟩), .agg #[.slice A n c, .slice B k d, .int .i64 m.til], .int .i64 n0] w (DrawnSq g (N + 100) w) := by
  obtain ⟨iC, ha0, ha1, ha2, ha3⟩ := info_parts info76
  have INF3 := Lib.hid (And.intro ha0 (And.intro ha1 (And.intro ha2 ha3)))
  obtain ⟨iE, hb0, hb1, hb2, hb3⟩ := info_parts info74
  have INF6 := Lib.hid (And.intro hb0 (And.intro hb1 (And.intro hb2 hb3)))
  obtain ⟨iR, hc0, hc1, hc2, hc3⟩ := info_parts info180
  have INF7 := Lib.hid (And.intro hc0 (And.intro hc1 (And.intro hc2 hc3)))
  clear ha0 ha1 ha2 ha3 hb0 hb1 hb2 hb3 hc0 hc1 hc2 hc3
  have hgw : g < w.heap.size := hR.lt
  have HM := Lib.hid hM
  have FEW := Lib.hid (fun h => mdlB_few (m := m) h)
  have ST6 := Lib.hid (fun h => mdlB_starts (m := m) h)
  have HLN := Lib.hid (hM w (Mv.refl _ _)).rules.1
  have B4 := Lib.hid ((Blk.new w #[.slice A n c, .slice B k d, .int .i64 m.til] 36).alloc (.cells #[.slice none 0 0, .slice none 0 0, .slice none 0 0] 62))
  have B6 := Lib.hid (Blk.new (w.alloc (.cells #[.slice A n c, .slice B k d, .int .i64 m.til] 36)) #[.slice none 0 0, .slice none 0 0, .slice none 0 0] 62)
  have R0 := Lib.hid ((hR.alloc (.cells #[.slice A n c, .slice B k d, .int .i64 m.til] 36)).alloc (.cells #[.slice none 0 0, .slice none 0 0, .slice none 0 0] 62))
  have M0 := Lib.hid (((Mv.refl g w).alloc (.cells #[.slice A n c, .slice B k d, .int .i64 m.til] 36)).alloc (.cells #[.slice none 0 0, .slice none 0 0, .slice none 0 0] 62))
  simp only [World.size_alloc] at B6
  have CN := Lib.hid (fun W (u : Mv g w W) => specSeqNew_any A n c B k d m W (hM W u))
  have CS := Lib.hid (fun W (u : Mv g w W) Ac nc cc Aw nw cw Al nl cl s (hS : ShortSq nc nw nl) hV hs => specSeqStep_own A n c B k d m Ac nc cc Aw nw cw Al nl cl s W (hM W u) hS hV hs)
  have GR := Lib.hid (fun nc nw nl (s : Sq) h => stpR_grow (m := m) (n := n) (nc := nc) (nw := nw) (nl := nl) (s := s) h)
  clear hM hR
  go_enter Try.func141, Try.ntmps141
  go_wp2_with fail
  refine (CN.out _ M0.out).mono ?_; rintro x w1 ⟨v, rfl, ⟨vc, vw, rfl, zc, ow⟩, u1⟩
  have zo := zc.own (by
    split
    · rename_i h
      have := FEW.out h
      omega
    · omega)
  obtain ⟨_, Ac, cc, rfl, _, _⟩ := own3_slice zo; unfold IsOwnL at ow; obtain ⟨_, Aw, cw, rfl, _, _⟩ := own_slice ow; clear zc
  have HC := Lib.hid (show (if mdlB m = true then m.rules.length else 0) ≤ 4 by
    split
    · rename_i h
      have := FEW.out h
      omega
    · omega)
  have HW := Lib.hid (show (if mdlB m = true then m.starts else []).length ≤ 6 by
    split
    · rename_i h
      exact ST6.out h
    · simp)
  generalize (if mdlB m = true then m.rules.length else 0) = nc at zo HC
  generalize (if mdlB m = true then m.starts else []) = es at ow HW
  have ua := (Up.refl w1).alloc (.cells #[.slice Ac nc cc, .slice Aw es.length cw, .slice none 0 0] 62)
  have SQ := Lib.hid (show SqRw _ w.heap.size Ac nc cc Aw es.length cw none 0 0 ⟨List.replicate nc ⟨0, 0, 0⟩, es, []⟩ from (SqRw.mono ⟨zo, ow, World.ownsRow_nil _ _ _ _⟩ (by simp; omega)).up ua)
  have B7 := Lib.hid (Blk.new w1 #[.slice Ac nc cc, .slice Aw es.length cw, .slice none 0 0] 62)
  have MX := Lib.hid ((M0.out.trans (u1.mv g)).alloc (.cells #[.slice Ac nc cc, .slice Aw es.length cw, .slice none 0 0] 62))
  have RX := Lib.hid ((R0.out.up u1).alloc (.cells #[.slice Ac nc cc, .slice Aw es.length cw, .slice none 0 0] 62))
  replace B4 := Lib.hid ((B4.out.up u1).alloc (.cells #[.slice Ac nc cc, .slice Aw es.length cw, .slice none 0 0] 62))
  replace B6 := Lib.hid ((B6.out.up u1).alloc (.cells #[.slice Ac nc cc, .slice Aw es.length cw, .slice none 0 0] 62))
  have L7 := Lib.hid (show w.heap.size + 1 < w1.heap.size by have := u1.size; simp at this; omega)
  clear zo ow ua u1 R0 M0 CN
  go_wp2_with fail
  generalize w1.alloc (.cells #[.slice Ac nc cc, .slice Aw es.length cw, .slice none 0 0] 62) = W1 at *
  generalize w1.heap.size = b7 at *
  refine (pick_any g N 20 W1 ⟨by omega, by omega⟩ (by omega) RX.out).mono ?_; rintro x w2 ⟨z, rfl, z0, z1, r2, m2⟩; obtain ⟨z, rfl⟩ : ∃ z' : Nat, z = z' := ⟨z.toNat, by omega⟩
  have Z20 := Lib.hid (show z ≤ 20 by omega)
  have RX := Lib.hid r2
  have MX := Lib.hid (MX.out.trans m2)
  replace B4 := Lib.hid (B4.out.mv m2 (by omega))
  replace B6 := Lib.hid (B6.out.mv m2 (by omega))
  replace B7 := Lib.hid (B7.out.mv m2 (by have := L7.out; omega))
  replace SQ := Lib.hid (SQ.out.mv m2 hgw)
  clear r2 m2 z0 z1; go_wp2
  go_loopw [8] (fun vi wr => (∃ (z : Nat) (Ac : Option Addr) (nc cc : Nat) (Aw : Option Addr) (nw cw : Nat) (Al : Option Addr) (nl cl : Nat) (s : Sq), z ≤ 20 ∧ vi = .int .i64 z ∧ Hid (SqRw wr w.heap.size Ac nc cc Aw nw cw Al nl cl s) ∧ Hid (Blk wr b7 62 #[.slice Ac nc cc, .slice Aw nw cw, .slice Al nl cl]) ∧ Hid (nc ≤ 4 ∧ nw ≤ 6 + 12 * (20 - z) ∧ nl ≤ 20 - z)) ∧ Hid (Rd wr g (N + 1)) ∧ Hid (Blk wr w.heap.size 36 #[.slice A n c, .slice B k d, .int .i64 m.til]) ∧ Hid (Blk wr (w.heap.size + 1) 62 #[.slice none 0 0, .slice none 0 0, .slice none 0 0]) ∧ Mv g w wr) (fun vi _ => (intOf vi).toNat)
  case atStart => exact ⟨⟨z, _, _, _, _, _, _, _, _, _, _, Z20.out, rfl, SQ, B7, Lib.hid ⟨HC.out, by have := HW.out; omega, by omega⟩⟩, RX, B4, B6, MX.out⟩
  case round =>
    clear B4 B6 B7 SQ RX MX Z20 HC HW; obtain ⟨⟨z, Ac, nc, cc, Aw, nw, cw, Al, nl, cl, s, hz, rfl, SQ, B7, HL⟩, RX, B4, B6, mx⟩ := hrel
    have MX := Lib.hid mx
    clear mx
    by_cases hz0 : 0 < z
    · have i3 : (0 : Int) < z := by omega
      have i4 : IntKind.i64.wrap ((z : Int) - 1) = (z : Int) - 1 := IntWalk.i64_in _ (by omega)
      obtain ⟨q0, q1, q2⟩ := And.intro (B4.out.cell (j := 0) rfl) (And.intro (B4.out.cell (j := 1) rfl) (B4.out.cell (j := 2) rfl)); obtain ⟨c0, c1, c2⟩ := And.intro (B7.out.cell (j := 0) rfl) (And.intro (B7.out.cell (j := 1) rfl) (B7.out.cell (j := 2) rfl))
      have l4 := B4.out.lt
      have l7 := B7.out.lt
      have hl := HL.out
      have SL := Lib.hid (And.intro SQ.out.v.comps.1 (And.intro SQ.out.v.wait.1 SQ.out.v.log.1))
      go_wp2_with fail
      refine (CS.out _ MX.out Ac nc cc Aw nw cw Al nl cl s ⟨by omega, by omega, by omega⟩ SQ.out.v (by omega)).mono ?_; rintro x w3 ⟨⟨Ac', cc', Aw', cw', Al', cl', rfl, o1, o2, o3⟩, u3⟩
      have GW := GR.out nc nw nl s SL.out
      generalize (stpR m n nc s).2 = rb at *
      generalize (stpR m n nc s).1 = S at *
      have B7c := Lib.hid (B7.out.up u3)
      have SQ3 := Lib.hid (show SqRw w3 w.heap.size Ac' S.comps.length cc' Aw' S.wait.length cw' Al' S.log.length cl' S from SqRw.mono ⟨o1, o2, o3⟩ MX.out.size)
      have U3 := Lib.hid u3
      clear o1 o2 o3 u3 q0 q1 q2 c0 c1 c2 l4 l7
      have f7 := B7c.out.frozen
      have l7 := B7c.out.lt
      obtain ⟨c0, c1, c2⟩ := And.intro (B7c.out.cell (j := 0) rfl) (And.intro (B7c.out.cell (j := 1) rfl) (B7c.out.cell (j := 2) rfl))
      have S1 := SQ3.out.far (o := 0) (u := .slice Ac' S.comps.length cc') B7c.out (by decide)
      have S2 := S1.far (o := 1) (u := .slice Aw' S.wait.length cw') (B7c.out.set 0 _) (by decide)
      have S3 := Lib.hid (S2.far (o := 2) (u := .slice Al' S.log.length cl') ((B7c.out.set 0 _).set 1 _) (by decide))
      have B73 := Lib.hid (((B7c.out.set 0 (.slice Ac' S.comps.length cc')).set 1 (.slice Aw' S.wait.length cw')).set 2 (.slice Al' S.log.length cl'))
      have B43 := Lib.hid ((((B4.out.up U3.out).far (b' := b7) 0 (.slice Ac' S.comps.length cc') (by have := L7.out; omega)).far (b' := b7) 1 (.slice Aw' S.wait.length cw') (by have := L7.out; omega)).far (b' := b7) 2 (.slice Al' S.log.length cl') (by have := L7.out; omega))
      have B63 := Lib.hid ((((B6.out.up U3.out).far (b' := b7) 0 (.slice Ac' S.comps.length cc') (by have := L7.out; omega)).far (b' := b7) 1 (.slice Aw' S.wait.length cw') (by have := L7.out; omega)).far (b' := b7) 2 (.slice Al' S.log.length cl') (by have := L7.out; omega))
      have RX3 := Lib.hid ((((RX.out.up U3.out).setCell (p := ⟨b7, 0, none⟩) (by have := L7.out; dsimp only; omega) (.slice Ac' S.comps.length cc')).setCell (p := ⟨b7, 1, none⟩) (by have := L7.out; dsimp only; omega) (.slice Aw' S.wait.length cw')).setCell (p := ⟨b7, 2, none⟩) (by have := L7.out; dsimp only; omega) (.slice Al' S.log.length cl'))
      have MX3 := Lib.hid ((((MX.out.trans (U3.out.mv g)).far (b := b7) (o := 0) (.slice Ac' S.comps.length cc') (by have := L7.out; omega)).far (b := b7) (o := 1) (.slice Aw' S.wait.length cw') (by have := L7.out; omega)).far (b := b7) (o := 2) (.slice Al' S.log.length cl') (by have := L7.out; omega))
      clear S1 S2; go_wp2
      go_roundw
      case rel => exact ⟨⟨z - 1, Ac', _, cc', Aw', _, cw', Al', _, cl', S, by omega, by go_num, S3, B73, Lib.hid ⟨by omega, by omega, by omega⟩⟩, RX3, B43, B63, MX3.out⟩
      case measure => simp [intOf]; omega
    · obtain rfl : z = 0 := by omega
      have i3 : ¬ (0 : Int) < ((0 : Nat) : Int) := by omega
      have hl := HL.out
      go_wp2_with fail
      refine (odd_any g (N + 1) n0 _ hn0 (by omega) RX.out).mono ?_; rintro x w4 ⟨ob, rfl, r4, m4⟩
      replace RX := Lib.hid r4
      replace MX := Lib.hid (MX.out.trans m4)
      replace B4 := Lib.hid (B4.out.mv m4 (by omega))
      replace B6 := Lib.hid (B6.out.mv m4 (by omega))
      replace B7 := Lib.hid (B7.out.mv m4 (by have := L7.out; omega))
      replace SQ := Lib.hid (SQ.out.mv m4 hgw)
      clear r4 m4
      cases ob
      · obtain ⟨f0, f1, f2⟩ := And.intro (B7.out.cell (j := 0) rfl) (And.intro (B7.out.cell (j := 1) rfl) (B7.out.cell (j := 2) rfl))
        have g7 := B7.out.lt
        obtain ⟨d0, d1, d2⟩ := And.intro (B6.out.cell (j := 0) rfl) (And.intro (B6.out.cell (j := 1) rfl) (B6.out.cell (j := 2) rfl))
        have g6 := B6.out.lt
        have fr6 := B6.out.frozen
        have Q6 := Lib.hid (((B6.out.set 0 (.slice Ac nc cc)).set 1 (.slice Aw nw cw)).set 2 (.slice Al nl cl))
        have S1 := SQ.out.far (o := 0) (u := .slice Ac nc cc) B6.out (by decide)
        have S2 := S1.far (o := 1) (u := .slice Aw nw cw) (B6.out.set 0 _) (by decide)
        have S3 := Lib.hid (S2.far (o := 2) (u := .slice Al nl cl) ((B6.out.set 0 _).set 1 _) (by decide))
        have RX3 := Lib.hid (((RX.out.setCell (p := ⟨w.heap.size + 1, 0, none⟩) (by dsimp only; omega) (.slice Ac nc cc)).setCell (p := ⟨w.heap.size + 1, 1, none⟩) (by dsimp only; omega) (.slice Aw nw cw)).setCell (p := ⟨w.heap.size + 1, 2, none⟩) (by dsimp only; omega) (.slice Al nl cl))
        have MX3 := Lib.hid (((MX.out.far (b := w.heap.size + 1) (o := 0) (.slice Ac nc cc) (by omega)).far (b := w.heap.size + 1) (o := 1) (.slice Aw nw cw) (by omega)).far (b := w.heap.size + 1) (o := 2) (.slice Al nl cl) (by omega))
        have k0 := Q6.out.cell (j := 0) rfl
        have k1 := Q6.out.cell (j := 1) rfl
        have k2 := Q6.out.cell (j := 2) rfl
        clear S1 S2; go_wp2
        exact bodyPost_ret (v := .agg #[.slice Ac nc cc, .slice Aw nw cw, .slice Al nl cl]) (by simp [results, Try.results141, go_sem, k0, k1, k2]) rfl ⟨Ac, nc, cc, Aw, nw, cw, Al, nl, cl, s, rfl, S3.out, by omega, RX3.out.mono (by omega), MX3.out⟩
      · go_wp2_with fail
        refine (pick_any g (N + 2) 5 _ ⟨by omega, by omega⟩ (by omega) RX.out).mono ?_; rintro x w5 ⟨y, rfl, y0, y1, r5, m5⟩
        replace RX := Lib.hid r5
        replace MX := Lib.hid (MX.out.trans m5)
        replace B4 := Lib.hid (B4.out.mv m5 (by omega))
        replace B6 := Lib.hid (B6.out.mv m5 (by omega))
        replace B7 := Lib.hid (B7.out.mv m5 (by have := L7.out; omega))
        replace SQ := Lib.hid (SQ.out.mv m5 hgw)
        clear r5 m5
        by_cases h0 : y = 0
        · subst h0
          obtain ⟨c0, c1, c2⟩ := And.intro (B7.out.cell (j := 0) rfl) (And.intro (B7.out.cell (j := 1) rfl) (B7.out.cell (j := 2) rfl))
          have l7 := B7.out.lt
          have UA := Lib.hid ((Up.refl w5).alloc (.cells #[.int .i64 0, .int .i64 0, .int .i64 0] 76))
          have B7a := Lib.hid (B7.out.up UA.out)
          have B6a := Lib.hid (B6.out.up UA.out)
          have RXa := Lib.hid (RX.out.up UA.out)
          have MXa := Lib.hid (MX.out.trans (UA.out.mv g))
          have OW := Lib.hid (own_up SQ.out.o1 UA.out)
          have RD := Lib.hid (cst_new w5 0 0 0)
          have HMX := Lib.hid (show nc + 1 ≤ maxLen by simp only [maxLen]; omega)
          have HBY := Lib.hid (show (nc + 1) * 24 ≤ 140737488355328 by omega)
          have HBS := Lib.hid (show w.heap.size ≤ (w5.alloc (.cells #[.int .i64 0, .int .i64 0, .int .i64 0] 76)).heap.size from MXa.out.size)
          go_wp2_with (at_builtin; refine wpList_append_any (P := Try.prog) _ rfl (.tmp 44) (.tmp 46) 59 rfl w.heap.size 76 iC _ 3 24 Try.underlying59 INF3.out.1 INF3.out.2.1 INF3.out.2.2.1 INF3.out.2.2.2 rfl (by omega) (.slice Ac nc cc) nc (flat3 s.comps) rfl OW.out _ (some ⟨w5.heap.size, 0, none⟩) 1 1 (flat3 [⟨0, 0, 0⟩]) rfl RD.out (flat3_one _) HMX.out HBY.out HBS.out ?_; intro v6 w6 ho6 hg6 _; clear c0 c1 c2 l7; obtain ⟨A9, c9, rfl⟩ := own_form ho6; have X7 := Lib.hid (blk_grown B7a.out OW.out hg6 (by decide)); have X6 := Lib.hid (blk_grown B6a.out OW.out hg6 (by decide)); have PU := SQ.out.push1 UA.out ho6 hg6; have SQn := Lib.hid (PU.far (o := 0) (u := .slice A9 (nc + 1) c9) X7.out (by decide)); have B7n := Lib.hid (X7.out.set 0 (.slice A9 (nc + 1) c9)); have B6n := Lib.hid (X6.out.far (b' := b7) 0 (.slice A9 (nc + 1) c9) (by have := L7.out; omega)); have RXn := Lib.hid ((RXa.out.grownR hg6 (fun x hx => by have := own_geR OW.out x hx; omega)).setCell (p := ⟨b7, 0, none⟩) (by have := L7.out; dsimp only; omega) (.slice A9 (nc + 1) c9)); have MXn := Lib.hid ((MXa.out.grownR hg6 (fun x hx => own_geR OW.out x hx)).far (b := b7) (o := 0) (.slice A9 (nc + 1) c9) (by have := L7.out; omega)); clear PU ho6 hg6; obtain ⟨c0, c1, c2⟩ := And.intro (X7.out.cell (j := 0) rfl) (And.intro (X7.out.cell (j := 1) rfl) (X7.out.cell (j := 2) rfl)); have l7 := X7.out.lt; have f7 := X7.out.frozen; replace B7 := B7n; replace B6 := B6n; replace SQ := SQn; replace RX := RXn; replace MX := MXn; obtain ⟨f0, f1, f2⟩ := And.intro (B7.out.cell (j := 0) rfl) (And.intro (B7.out.cell (j := 1) rfl) (B7.out.cell (j := 2) rfl)); have g7 := B7.out.lt; obtain ⟨d0, d1, d2⟩ := And.intro (B6.out.cell (j := 0) rfl) (And.intro (B6.out.cell (j := 1) rfl) (B6.out.cell (j := 2) rfl)); have g6 := B6.out.lt; have fr6 := B6.out.frozen; have Q6 := Lib.hid (((B6.out.set 0 (.slice A9 (nc + 1) c9)).set 1 (.slice Aw nw cw)).set 2 (.slice Al nl cl)); have S1 := SQ.out.far (o := 0) (u := .slice A9 (nc + 1) c9) B6.out (by decide); have S2 := S1.far (o := 1) (u := .slice Aw nw cw) (B6.out.set 0 _) (by decide); have S3 := Lib.hid (S2.far (o := 2) (u := .slice Al nl cl) ((B6.out.set 0 _).set 1 _) (by decide)); have RX3 := Lib.hid (((RX.out.setCell (p := ⟨w.heap.size + 1, 0, none⟩) (by dsimp only; omega) (.slice A9 (nc + 1) c9)).setCell (p := ⟨w.heap.size + 1, 1, none⟩) (by dsimp only; omega) (.slice Aw nw cw)).setCell (p := ⟨w.heap.size + 1, 2, none⟩) (by dsimp only; omega) (.slice Al nl cl)); have MX3 := Lib.hid (((MX.out.far (b := w.heap.size + 1) (o := 0) (.slice A9 (nc + 1) c9) (by omega)).far (b := w.heap.size + 1) (o := 1) (.slice Aw nw cw) (by omega)).far (b := w.heap.size + 1) (o := 2) (.slice Al nl cl) (by omega)); have k0 := Q6.out.cell (j := 0) rfl; have k1 := Q6.out.cell (j := 1) rfl; have k2 := Q6.out.cell (j := 2) rfl; clear S1 S2)
          exact bodyPost_ret (v := .agg #[.slice A9 (nc + 1) c9, .slice Aw nw cw, .slice Al nl cl]) (by simp [results, Try.results141, go_sem, k0, k1, k2]) rfl ⟨_, _, _, _, _, _, _, _, _, _, rfl, S3.out, by omega, RX3.out.mono (by omega), MX3.out⟩
        · by_cases h1 : y = 1
          · subst h1
            obtain ⟨mn, hmn⟩ : ∃ q : Int, (if (n : Int) < 4 then (n : Int) else 4) = q := ⟨_, rfl⟩; obtain ⟨mx, hmx⟩ : ∃ q : Int, (if 1 < mn then mn else 1) = q := ⟨_, rfl⟩
            have hmn4 : mn ≤ 4 := by rw [← hmn]; split <;> omega
            have hmx1 : 1 ≤ mx ∧ mx ≤ 4 := by rw [← hmx]; split <;> omega
            go_wp2_with fail
            refine region_hWalk (fun w1 => Blk w1 w.heap.size 36 #[.slice A n c, .slice B k d, .int .i64 m.til]) 13 (by kernel_rfl) rfl (by kernel_rfl) (B4.out.up (Up.refl _).drew) ?_
            have ud := (Up.refl w5).drew
            replace B7 := Lib.hid (B7.out.up ud)
            replace B4 := Lib.hid (B4.out.up ud)
            replace B6 := Lib.hid (B6.out.up ud)
            replace SQ := Lib.hid (SQ.out.up ud)
            replace RX := Lib.hid (RX.out.up ud)
            replace MX := Lib.hid (MX.out.trans (ud.mv g))
            clear ud
            generalize w5.drew = wd at *
            refine hWalk_take 0 (by kernel_rfl) rfl (by rfl) ?_; apply Exists.intro; refine ⟨fun w1 hS1 => ?_, ?_⟩
            · clear hS1
              go_simp
              try rfl
            go_simp; refine hWalk_take 2 (by kernel_rfl) rfl (by rfl) ?_; apply Exists.intro; refine ⟨fun w1 hS1 => ?_, ?_⟩
            · clear hS1
              go_simp
              try rfl
            go_simp; refine hWalk_take 3 (by kernel_rfl) rfl (by rfl) ?_; apply Exists.intro; refine ⟨fun w1 hS1 => ?_, ?_⟩
            · clear hS1
              go_simp
              try rfl
            go_simp; refine hWalk_take 4 (by kernel_rfl) rfl (by rfl) ?_; apply Exists.intro; refine ⟨fun w1 hS1 => ?_, ?_⟩
            · obtain ⟨m0, m1, m2⟩ := And.intro (hS1.cell (j := 0) rfl) (And.intro (hS1.cell (j := 1) rfl) (hS1.cell (j := 2) rfl))
              have lm := hS1.lt
              clear hS1; go_simp
              try rfl
            go_simp; refine hWalk_take 5 (by kernel_rfl) rfl (by rfl) ?_; apply Exists.intro; refine ⟨fun w1 hS1 => ?_, ?_⟩
            · clear hS1
              go_simp
              try rfl
            go_simp; refine hWalk_take 6 (by kernel_rfl) rfl (by rfl) ?_; apply Exists.intro; refine ⟨fun w1 hS1 => ?_, ?_⟩
            · clear hS1
              go_simp
              try rfl
            go_simp
            try rw [hmn]
            refine hWalk_take 7 (by kernel_rfl) rfl (by rfl) ?_; apply Exists.intro; refine ⟨fun w1 hS1 => ?_, ?_⟩
            · clear hS1
              go_simp
              try rfl
            go_simp
            try rw [hmx]
            refine hWalk_two (i := 1) (j := 8) (by kernel_rfl) ?_ ?_
            · refine next_mk rfl (by rfl) (fun K hK => ?_)
              obtain ⟨c0, c1, c2⟩ := And.intro (B7.out.cell (j := 0) rfl) (And.intro (B7.out.cell (j := 1) rfl) (B7.out.cell (j := 2) rfl))
              have l7 := B7.out.lt
              go_simp; refine hK _ _ B4.out ?_; clear hK K c0 c1 c2 l7; refine hWalk_one (i := 8) (by kernel_rfl) ?_
              · refine next_mk rfl (by rfl) (fun K hK => ?_)
                go_simp; refine (evt_any g (N + 3) mx 2 _ (by omega) (by omega) ⟨by omega, by omega⟩ (by omega) RX.out).mono ?_; rintro x wE ⟨⟨xt, xto, xfr, xsq, xkd, xdt⟩, rfl, _, rE, mE⟩; unfold Evt.v; dsimp only
                replace B7 := Lib.hid (B7.out.mv mE (by have := L7.out; omega))
                replace B4 := Lib.hid (B4.out.mv mE (by omega))
                replace B6 := Lib.hid (B6.out.mv mE (by omega))
                replace SQ := Lib.hid (SQ.out.mv mE hgw)
                replace MX := Lib.hid (MX.out.trans mE)
                replace RX := Lib.hid rE
                refine hK _ _ B4.out ?_; clear hK K mE rE; refine hWalk_one (i := 9) (by kernel_rfl) ?_
                · refine next_mk rfl (by rfl) (fun K hK => ?_)
                  have ux := (Up.refl wE).alloc (.cells #[.int .i64 xt, .int .i64 xto, .int .i64 xfr, .int .i64 xsq, .int .i64 xkd, .int .i64 xdt] 74)
                  have H60 := Lib.hid (Blk.new wE #[.int .i64 xt, .int .i64 xto, .int .i64 xfr, .int .i64 xsq, .int .i64 xkd, .int .i64 xdt] 74)
                  go_simp
                  replace B7 := Lib.hid (B7.out.up ux)
                  replace B4 := Lib.hid (B4.out.up ux)
                  replace B6 := Lib.hid (B6.out.up ux)
                  replace SQ := Lib.hid (SQ.out.up ux)
                  replace RX := Lib.hid (RX.out.up ux)
                  replace MX := Lib.hid (MX.out.trans (ux.mv g))
                  refine hK _ _ B4.out ?_; clear hK K ux
                  generalize wE.alloc (.cells #[.int .i64 xt, .int .i64 xto, .int .i64 xfr, .int .i64 xsq, .int .i64 xkd, .int .i64 xdt] 74) = wB at *
                  generalize wE.heap.size = b60 at *
                  have UA := Lib.hid (Up.refl wB)
                  have OW := Lib.hid SQ.out.o2
                  have B7a := B7
                  have B6a := B6
                  have RXa := RX
                  have MXa := MX
                  have RD := Lib.hid (evt_new1 wB b60 ⟨xt, xto, xfr, xsq, xkd, xdt⟩ H60.out)
                  refine hWalk_one (i := 10) (by kernel_rfl) (next_mk rfl (by rfl) (fun K hK => ?_)); refine wp_append_any (P := Try.prog) wB (.tmp 52) (.tmp 60) 34 rfl w.heap.size 74 iE _ 6 48 Try.underlying34 INF6.out.1 INF6.out.2.1 INF6.out.2.2.1 INF6.out.2.2.2 rfl (by omega) (.slice Aw nw cw) nw (flat s.wait) (by go_simp) OW.out wB.heap.size (some ⟨b60, 0, none⟩) 1 1 (flat [⟨xt, xto, xfr, xsq, xkd, xdt⟩]) (by go_simp) RD.out (flat_one _) (by simp only [maxLen]; omega) (by omega) MXa.out.size ?_; intro v6 w6 ho6 hg6 _
                  have X4 := Lib.hid (blk_grown B4.out OW.out hg6 (by decide))
                  obtain ⟨A9, c9, rfl⟩ := own_form ho6
                  have X7 := Lib.hid (blk_grown B7a.out OW.out hg6 (by decide))
                  have X6 := Lib.hid (blk_grown B6a.out OW.out hg6 (by decide))
                  have PU := SQ.out.push2 UA.out ho6 hg6
                  have SQn := Lib.hid (PU.far (o := 1) (u := .slice A9 (nw + 1) c9) X7.out (by decide))
                  have B7n := Lib.hid (X7.out.set 1 (.slice A9 (nw + 1) c9))
                  have B6n := Lib.hid (X6.out.far (b' := b7) 1 (.slice A9 (nw + 1) c9) (by have := L7.out; omega))
                  have RXn := Lib.hid ((RXa.out.grownR hg6 (fun x hx => by have := own_geR OW.out x hx; omega)).setCell (p := ⟨b7, 1, none⟩) (by have := L7.out; dsimp only; omega) (.slice A9 (nw + 1) c9))
                  have MXn := Lib.hid ((MXa.out.grownR hg6 (fun x hx => own_geR OW.out x hx)).far (b := b7) (o := 1) (.slice A9 (nw + 1) c9) (by have := L7.out; omega))
                  clear PU ho6 hg6; refine hK _ _ X4.out ?_; clear hK K; refine hWalk_take 11 (by kernel_rfl) rfl (by rfl) ?_; apply Exists.intro; refine ⟨fun w1 hS1 => ?_, ?_⟩
                  · clear hS1
                    go_simp
                    try rfl
                  go_simp; obtain ⟨c0, c1, c2⟩ := And.intro (X7.out.cell (j := 0) rfl) (And.intro (X7.out.cell (j := 1) rfl) (X7.out.cell (j := 2) rfl))
                  have l7 := X7.out.lt
                  have f7 := X7.out.frozen
                  refine hWalk_one (i := 12) (by kernel_rfl) (next_mk rfl (by rfl) (fun K hK => ?_)); go_simp; refine hK _ _ (X4.out.far (b' := b7) 1 (.slice A9 (nw + 1) c9) (by have := L7.out; omega)) ?_; clear hK K c0 c1 c2 l7 f7; refine hWalk_nil (by kernel_rfl) ?_
                  replace B7 := B7n
                  replace B6 := B6n
                  replace SQ := SQn
                  replace RX := RXn
                  replace MX := MXn
                  obtain ⟨f0, f1, f2⟩ := And.intro (B7.out.cell (j := 0) rfl) (And.intro (B7.out.cell (j := 1) rfl) (B7.out.cell (j := 2) rfl))
                  have g7 := B7.out.lt
                  obtain ⟨d0, d1, d2⟩ := And.intro (B6.out.cell (j := 0) rfl) (And.intro (B6.out.cell (j := 1) rfl) (B6.out.cell (j := 2) rfl))
                  have g6 := B6.out.lt
                  have fr6 := B6.out.frozen
                  have Q6 := Lib.hid (((B6.out.set 0 (.slice Ac nc cc)).set 1 (.slice A9 (nw + 1) c9)).set 2 (.slice Al nl cl))
                  have S1 := SQ.out.far (o := 0) (u := .slice Ac nc cc) B6.out (by decide)
                  have S2 := S1.far (o := 1) (u := .slice A9 (nw + 1) c9) (B6.out.set 0 _) (by decide)
                  have S3 := Lib.hid (S2.far (o := 2) (u := .slice Al nl cl) ((B6.out.set 0 _).set 1 _) (by decide))
                  have RX3 := Lib.hid (((RX.out.setCell (p := ⟨w.heap.size + 1, 0, none⟩) (by dsimp only; omega) (.slice Ac nc cc)).setCell (p := ⟨w.heap.size + 1, 1, none⟩) (by dsimp only; omega) (.slice A9 (nw + 1) c9)).setCell (p := ⟨w.heap.size + 1, 2, none⟩) (by dsimp only; omega) (.slice Al nl cl))
                  have MX3 := Lib.hid (((MX.out.far (b := w.heap.size + 1) (o := 0) (.slice Ac nc cc) (by omega)).far (b := w.heap.size + 1) (o := 1) (.slice A9 (nw + 1) c9) (by omega)).far (b := w.heap.size + 1) (o := 2) (.slice Al nl cl) (by omega))
                  have k0 := Q6.out.cell (j := 0) rfl
                  have k1 := Q6.out.cell (j := 1) rfl
                  have k2 := Q6.out.cell (j := 2) rfl
                  clear S1 S2; go_wp2
                  exact bodyPost_ret (v := .agg #[.slice Ac nc cc, .slice A9 (nw + 1) c9, .slice Al nl cl]) (by simp [results, Try.results141, go_sem, k0, k1, k2]) rfl ⟨_, _, _, _, _, _, _, _, _, _, rfl, S3.out, by omega, RX3.out.mono (by omega), MX3.out⟩
            · refine next_mk rfl (by rfl) (fun K hK => ?_)
              go_simp; refine (evt_any g (N + 3) mx 2 _ (by omega) (by omega) ⟨by omega, by omega⟩ (by omega) RX.out).mono ?_; rintro x wE ⟨⟨xt, xto, xfr, xsq, xkd, xdt⟩, rfl, _, rE, mE⟩; unfold Evt.v; dsimp only
              replace B7 := Lib.hid (B7.out.mv mE (by have := L7.out; omega))
              replace B4 := Lib.hid (B4.out.mv mE (by omega))
              replace B6 := Lib.hid (B6.out.mv mE (by omega))
              replace SQ := Lib.hid (SQ.out.mv mE hgw)
              replace MX := Lib.hid (MX.out.trans mE)
              replace RX := Lib.hid rE
              refine hK _ _ B4.out ?_; clear hK K mE rE; refine hWalk_two (i := 1) (j := 9) (by kernel_rfl) ?_ ?_
              · refine next_mk rfl (by rfl) (fun K hK => ?_)
                obtain ⟨c0, c1, c2⟩ := And.intro (B7.out.cell (j := 0) rfl) (And.intro (B7.out.cell (j := 1) rfl) (B7.out.cell (j := 2) rfl))
                have l7 := B7.out.lt
                go_simp; refine hK _ _ B4.out ?_; clear hK K c0 c1 c2 l7; refine hWalk_one (i := 9) (by kernel_rfl) ?_
                · refine next_mk rfl (by rfl) (fun K hK => ?_)
                  have ux := (Up.refl wE).alloc (.cells #[.int .i64 xt, .int .i64 xto, .int .i64 xfr, .int .i64 xsq, .int .i64 xkd, .int .i64 xdt] 74)
                  have H60 := Lib.hid (Blk.new wE #[.int .i64 xt, .int .i64 xto, .int .i64 xfr, .int .i64 xsq, .int .i64 xkd, .int .i64 xdt] 74)
                  go_simp
                  replace B7 := Lib.hid (B7.out.up ux)
                  replace B4 := Lib.hid (B4.out.up ux)
                  replace B6 := Lib.hid (B6.out.up ux)
                  replace SQ := Lib.hid (SQ.out.up ux)
                  replace RX := Lib.hid (RX.out.up ux)
                  replace MX := Lib.hid (MX.out.trans (ux.mv g))
                  refine hK _ _ B4.out ?_; clear hK K ux
                  generalize wE.alloc (.cells #[.int .i64 xt, .int .i64 xto, .int .i64 xfr, .int .i64 xsq, .int .i64 xkd, .int .i64 xdt] 74) = wB at *
                  generalize wE.heap.size = b60 at *
                  have UA := Lib.hid (Up.refl wB)
                  have OW := Lib.hid SQ.out.o2
                  have B7a := B7
                  have B6a := B6
                  have RXa := RX
                  have MXa := MX
                  have RD := Lib.hid (evt_new1 wB b60 ⟨xt, xto, xfr, xsq, xkd, xdt⟩ H60.out)
                  refine hWalk_one (i := 10) (by kernel_rfl) (next_mk rfl (by rfl) (fun K hK => ?_)); refine wp_append_any (P := Try.prog) wB (.tmp 52) (.tmp 60) 34 rfl w.heap.size 74 iE _ 6 48 Try.underlying34 INF6.out.1 INF6.out.2.1 INF6.out.2.2.1 INF6.out.2.2.2 rfl (by omega) (.slice Aw nw cw) nw (flat s.wait) (by go_simp) OW.out wB.heap.size (some ⟨b60, 0, none⟩) 1 1 (flat [⟨xt, xto, xfr, xsq, xkd, xdt⟩]) (by go_simp) RD.out (flat_one _) (by simp only [maxLen]; omega) (by omega) MXa.out.size ?_; intro v6 w6 ho6 hg6 _
                  have X4 := Lib.hid (blk_grown B4.out OW.out hg6 (by decide))
                  obtain ⟨A9, c9, rfl⟩ := own_form ho6
                  have X7 := Lib.hid (blk_grown B7a.out OW.out hg6 (by decide))
                  have X6 := Lib.hid (blk_grown B6a.out OW.out hg6 (by decide))
                  have PU := SQ.out.push2 UA.out ho6 hg6
                  have SQn := Lib.hid (PU.far (o := 1) (u := .slice A9 (nw + 1) c9) X7.out (by decide))
                  have B7n := Lib.hid (X7.out.set 1 (.slice A9 (nw + 1) c9))
                  have B6n := Lib.hid (X6.out.far (b' := b7) 1 (.slice A9 (nw + 1) c9) (by have := L7.out; omega))
                  have RXn := Lib.hid ((RXa.out.grownR hg6 (fun x hx => by have := own_geR OW.out x hx; omega)).setCell (p := ⟨b7, 1, none⟩) (by have := L7.out; dsimp only; omega) (.slice A9 (nw + 1) c9))
                  have MXn := Lib.hid ((MXa.out.grownR hg6 (fun x hx => own_geR OW.out x hx)).far (b := b7) (o := 1) (.slice A9 (nw + 1) c9) (by have := L7.out; omega))
                  clear PU ho6 hg6; refine hK _ _ X4.out ?_; clear hK K; refine hWalk_take 11 (by kernel_rfl) rfl (by rfl) ?_; apply Exists.intro; refine ⟨fun w1 hS1 => ?_, ?_⟩
                  · clear hS1
                    go_simp
                    try rfl
                  go_simp; obtain ⟨c0, c1, c2⟩ := And.intro (X7.out.cell (j := 0) rfl) (And.intro (X7.out.cell (j := 1) rfl) (X7.out.cell (j := 2) rfl))
                  have l7 := X7.out.lt
                  have f7 := X7.out.frozen
                  refine hWalk_one (i := 12) (by kernel_rfl) (next_mk rfl (by rfl) (fun K hK => ?_)); go_simp; refine hK _ _ (X4.out.far (b' := b7) 1 (.slice A9 (nw + 1) c9) (by have := L7.out; omega)) ?_; clear hK K c0 c1 c2 l7 f7; refine hWalk_nil (by kernel_rfl) ?_
                  replace B7 := B7n
                  replace B6 := B6n
                  replace SQ := SQn
                  replace RX := RXn
                  replace MX := MXn
                  obtain ⟨f0, f1, f2⟩ := And.intro (B7.out.cell (j := 0) rfl) (And.intro (B7.out.cell (j := 1) rfl) (B7.out.cell (j := 2) rfl))
                  have g7 := B7.out.lt
                  obtain ⟨d0, d1, d2⟩ := And.intro (B6.out.cell (j := 0) rfl) (And.intro (B6.out.cell (j := 1) rfl) (B6.out.cell (j := 2) rfl))
                  have g6 := B6.out.lt
                  have fr6 := B6.out.frozen
                  have Q6 := Lib.hid (((B6.out.set 0 (.slice Ac nc cc)).set 1 (.slice A9 (nw + 1) c9)).set 2 (.slice Al nl cl))
                  have S1 := SQ.out.far (o := 0) (u := .slice Ac nc cc) B6.out (by decide)
                  have S2 := S1.far (o := 1) (u := .slice A9 (nw + 1) c9) (B6.out.set 0 _) (by decide)
                  have S3 := Lib.hid (S2.far (o := 2) (u := .slice Al nl cl) ((B6.out.set 0 _).set 1 _) (by decide))
                  have RX3 := Lib.hid (((RX.out.setCell (p := ⟨w.heap.size + 1, 0, none⟩) (by dsimp only; omega) (.slice Ac nc cc)).setCell (p := ⟨w.heap.size + 1, 1, none⟩) (by dsimp only; omega) (.slice A9 (nw + 1) c9)).setCell (p := ⟨w.heap.size + 1, 2, none⟩) (by dsimp only; omega) (.slice Al nl cl))
                  have MX3 := Lib.hid (((MX.out.far (b := w.heap.size + 1) (o := 0) (.slice Ac nc cc) (by omega)).far (b := w.heap.size + 1) (o := 1) (.slice A9 (nw + 1) c9) (by omega)).far (b := w.heap.size + 1) (o := 2) (.slice Al nl cl) (by omega))
                  have k0 := Q6.out.cell (j := 0) rfl
                  have k1 := Q6.out.cell (j := 1) rfl
                  have k2 := Q6.out.cell (j := 2) rfl
                  clear S1 S2; go_wp2
                  exact bodyPost_ret (v := .agg #[.slice Ac nc cc, .slice A9 (nw + 1) c9, .slice Al nl cl]) (by simp [results, Try.results141, go_sem, k0, k1, k2]) rfl ⟨_, _, _, _, _, _, _, _, _, _, rfl, S3.out, by omega, RX3.out.mono (by omega), MX3.out⟩
              · refine next_mk rfl (by rfl) (fun K hK => ?_)
                have ux := (Up.refl wE).alloc (.cells #[.int .i64 xt, .int .i64 xto, .int .i64 xfr, .int .i64 xsq, .int .i64 xkd, .int .i64 xdt] 74)
                have H60 := Lib.hid (Blk.new wE #[.int .i64 xt, .int .i64 xto, .int .i64 xfr, .int .i64 xsq, .int .i64 xkd, .int .i64 xdt] 74)
                go_simp
                replace B7 := Lib.hid (B7.out.up ux)
                replace B4 := Lib.hid (B4.out.up ux)
                replace B6 := Lib.hid (B6.out.up ux)
                replace SQ := Lib.hid (SQ.out.up ux)
                replace RX := Lib.hid (RX.out.up ux)
                replace MX := Lib.hid (MX.out.trans (ux.mv g))
                refine hK _ _ B4.out ?_; clear hK K ux
                generalize wE.alloc (.cells #[.int .i64 xt, .int .i64 xto, .int .i64 xfr, .int .i64 xsq, .int .i64 xkd, .int .i64 xdt] 74) = wB at *
                generalize wE.heap.size = b60 at *
                refine hWalk_one (i := 1) (by kernel_rfl) ?_
                · refine next_mk rfl (by rfl) (fun K hK => ?_)
                  obtain ⟨c0, c1, c2⟩ := And.intro (B7.out.cell (j := 0) rfl) (And.intro (B7.out.cell (j := 1) rfl) (B7.out.cell (j := 2) rfl))
                  have l7 := B7.out.lt
                  go_simp; refine hK _ _ B4.out ?_; clear hK K c0 c1 c2 l7
                  have UA := Lib.hid (Up.refl wB)
                  have OW := Lib.hid SQ.out.o2
                  have B7a := B7
                  have B6a := B6
                  have RXa := RX
                  have MXa := MX
                  have RD := Lib.hid (evt_new1 wB b60 ⟨xt, xto, xfr, xsq, xkd, xdt⟩ H60.out)
                  refine hWalk_one (i := 10) (by kernel_rfl) (next_mk rfl (by rfl) (fun K hK => ?_)); refine wp_append_any (P := Try.prog) wB (.tmp 52) (.tmp 60) 34 rfl w.heap.size 74 iE _ 6 48 Try.underlying34 INF6.out.1 INF6.out.2.1 INF6.out.2.2.1 INF6.out.2.2.2 rfl (by omega) (.slice Aw nw cw) nw (flat s.wait) (by go_simp) OW.out wB.heap.size (some ⟨b60, 0, none⟩) 1 1 (flat [⟨xt, xto, xfr, xsq, xkd, xdt⟩]) (by go_simp) RD.out (flat_one _) (by simp only [maxLen]; omega) (by omega) MXa.out.size ?_; intro v6 w6 ho6 hg6 _
                  have X4 := Lib.hid (blk_grown B4.out OW.out hg6 (by decide))
                  obtain ⟨A9, c9, rfl⟩ := own_form ho6
                  have X7 := Lib.hid (blk_grown B7a.out OW.out hg6 (by decide))
                  have X6 := Lib.hid (blk_grown B6a.out OW.out hg6 (by decide))
                  have PU := SQ.out.push2 UA.out ho6 hg6
                  have SQn := Lib.hid (PU.far (o := 1) (u := .slice A9 (nw + 1) c9) X7.out (by decide))
                  have B7n := Lib.hid (X7.out.set 1 (.slice A9 (nw + 1) c9))
                  have B6n := Lib.hid (X6.out.far (b' := b7) 1 (.slice A9 (nw + 1) c9) (by have := L7.out; omega))
                  have RXn := Lib.hid ((RXa.out.grownR hg6 (fun x hx => by have := own_geR OW.out x hx; omega)).setCell (p := ⟨b7, 1, none⟩) (by have := L7.out; dsimp only; omega) (.slice A9 (nw + 1) c9))
                  have MXn := Lib.hid ((MXa.out.grownR hg6 (fun x hx => own_geR OW.out x hx)).far (b := b7) (o := 1) (.slice A9 (nw + 1) c9) (by have := L7.out; omega))
                  clear PU ho6 hg6; refine hK _ _ X4.out ?_; clear hK K; refine hWalk_take 11 (by kernel_rfl) rfl (by rfl) ?_; apply Exists.intro; refine ⟨fun w1 hS1 => ?_, ?_⟩
                  · clear hS1
                    go_simp
                    try rfl
                  go_simp; obtain ⟨c0, c1, c2⟩ := And.intro (X7.out.cell (j := 0) rfl) (And.intro (X7.out.cell (j := 1) rfl) (X7.out.cell (j := 2) rfl))
                  have l7 := X7.out.lt
                  have f7 := X7.out.frozen
                  refine hWalk_one (i := 12) (by kernel_rfl) (next_mk rfl (by rfl) (fun K hK => ?_)); go_simp; refine hK _ _ (X4.out.far (b' := b7) 1 (.slice A9 (nw + 1) c9) (by have := L7.out; omega)) ?_; clear hK K c0 c1 c2 l7 f7; refine hWalk_nil (by kernel_rfl) ?_
                  replace B7 := B7n
                  replace B6 := B6n
                  replace SQ := SQn
                  replace RX := RXn
                  replace MX := MXn
                  obtain ⟨f0, f1, f2⟩ := And.intro (B7.out.cell (j := 0) rfl) (And.intro (B7.out.cell (j := 1) rfl) (B7.out.cell (j := 2) rfl))
                  have g7 := B7.out.lt
                  obtain ⟨d0, d1, d2⟩ := And.intro (B6.out.cell (j := 0) rfl) (And.intro (B6.out.cell (j := 1) rfl) (B6.out.cell (j := 2) rfl))
                  have g6 := B6.out.lt
                  have fr6 := B6.out.frozen
                  have Q6 := Lib.hid (((B6.out.set 0 (.slice Ac nc cc)).set 1 (.slice A9 (nw + 1) c9)).set 2 (.slice Al nl cl))
                  have S1 := SQ.out.far (o := 0) (u := .slice Ac nc cc) B6.out (by decide)
                  have S2 := S1.far (o := 1) (u := .slice A9 (nw + 1) c9) (B6.out.set 0 _) (by decide)
                  have S3 := Lib.hid (S2.far (o := 2) (u := .slice Al nl cl) ((B6.out.set 0 _).set 1 _) (by decide))
                  have RX3 := Lib.hid (((RX.out.setCell (p := ⟨w.heap.size + 1, 0, none⟩) (by dsimp only; omega) (.slice Ac nc cc)).setCell (p := ⟨w.heap.size + 1, 1, none⟩) (by dsimp only; omega) (.slice A9 (nw + 1) c9)).setCell (p := ⟨w.heap.size + 1, 2, none⟩) (by dsimp only; omega) (.slice Al nl cl))
                  have MX3 := Lib.hid (((MX.out.far (b := w.heap.size + 1) (o := 0) (.slice Ac nc cc) (by omega)).far (b := w.heap.size + 1) (o := 1) (.slice A9 (nw + 1) c9) (by omega)).far (b := w.heap.size + 1) (o := 2) (.slice Al nl cl) (by omega))
                  have k0 := Q6.out.cell (j := 0) rfl
                  have k1 := Q6.out.cell (j := 1) rfl
                  have k2 := Q6.out.cell (j := 2) rfl
                  clear S1 S2; go_wp2
                  exact bodyPost_ret (v := .agg #[.slice Ac nc cc, .slice A9 (nw + 1) c9, .slice Al nl cl]) (by simp [results, Try.results141, go_sem, k0, k1, k2]) rfl ⟨_, _, _, _, _, _, _, _, _, _, rfl, S3.out, by omega, RX3.out.mono (by omega), MX3.out⟩
          · by_cases h2 : y = 2
            · subst h2
              obtain ⟨mn, hmn⟩ : ∃ q : Int, (if (n : Int) < 4 then (n : Int) else 4) = q := ⟨_, rfl⟩; obtain ⟨mx, hmx⟩ : ∃ q : Int, (if 1 < mn then mn else 1) = q := ⟨_, rfl⟩
              have hmn4 : mn ≤ 4 := by rw [← hmn]; split <;> omega
              have hmx1 : 1 ≤ mx ∧ mx ≤ 4 := by rw [← hmx]; split <;> omega
              go_wp2_with fail
              refine region_hWalk (fun w1 => Blk w1 w.heap.size 36 #[.slice A n c, .slice B k d, .int .i64 m.til]) 16 (by kernel_rfl) rfl (by kernel_rfl) (B4.out.up (Up.refl _).drew) ?_
              have ud := (Up.refl w5).drew
              replace B7 := Lib.hid (B7.out.up ud)
              replace B4 := Lib.hid (B4.out.up ud)
              replace B6 := Lib.hid (B6.out.up ud)
              replace SQ := Lib.hid (SQ.out.up ud)
              replace RX := Lib.hid (RX.out.up ud)
              replace MX := Lib.hid (MX.out.trans (ud.mv g))
              clear ud
              generalize w5.drew = wd at *
              refine hWalk_take 0 (by kernel_rfl) rfl (by rfl) ?_; apply Exists.intro; refine ⟨fun w1 hS1 => ?_, ?_⟩
              · clear hS1
                go_simp
                try rfl
              go_simp; refine hWalk_take 2 (by kernel_rfl) rfl (by rfl) ?_; apply Exists.intro; refine ⟨fun w1 hS1 => ?_, ?_⟩
              · clear hS1
                go_simp
                try rfl
              go_simp; refine hWalk_take 3 (by kernel_rfl) rfl (by rfl) ?_; apply Exists.intro; refine ⟨fun w1 hS1 => ?_, ?_⟩
              · clear hS1
                go_simp
                try rfl
              go_simp; refine hWalk_take 4 (by kernel_rfl) rfl (by rfl) ?_; apply Exists.intro; refine ⟨fun w1 hS1 => ?_, ?_⟩
              · obtain ⟨m0, m1, m2⟩ := And.intro (hS1.cell (j := 0) rfl) (And.intro (hS1.cell (j := 1) rfl) (hS1.cell (j := 2) rfl))
                have lm := hS1.lt
                clear hS1; go_simp
                try rfl
              go_simp; refine hWalk_take 5 (by kernel_rfl) rfl (by rfl) ?_; apply Exists.intro; refine ⟨fun w1 hS1 => ?_, ?_⟩
              · clear hS1
                go_simp
                try rfl
              go_simp; refine hWalk_take 6 (by kernel_rfl) rfl (by rfl) ?_; apply Exists.intro; refine ⟨fun w1 hS1 => ?_, ?_⟩
              · clear hS1
                go_simp
                try rfl
              go_simp
              try rw [hmn]
              refine hWalk_take 7 (by kernel_rfl) rfl (by rfl) ?_; apply Exists.intro; refine ⟨fun w1 hS1 => ?_, ?_⟩
              · clear hS1
                go_simp
                try rfl
              go_simp
              try rw [hmx]
              refine hWalk_take 9 (by kernel_rfl) rfl (by rfl) ?_; apply Exists.intro; refine ⟨fun w1 hS1 => ?_, ?_⟩
              · clear hS1
                go_simp
                try rfl
              go_simp; refine hWalk_two (i := 1) (j := 8) (by kernel_rfl) ?_ ?_
              · refine next_mk rfl (by rfl) (fun K hK => ?_)
                obtain ⟨c0, c1, c2⟩ := And.intro (B7.out.cell (j := 0) rfl) (And.intro (B7.out.cell (j := 1) rfl) (B7.out.cell (j := 2) rfl))
                have l7 := B7.out.lt
                go_simp; refine hK _ _ B4.out ?_; clear hK K c0 c1 c2 l7; refine hWalk_one (i := 8) (by kernel_rfl) ?_
                · refine next_mk rfl (by rfl) (fun K hK => ?_)
                  go_simp; refine (evt_any g (N + 3) mx 2 _ (by omega) (by omega) ⟨by omega, by omega⟩ (by omega) RX.out).mono ?_; rintro x wE ⟨⟨xt, xto, xfr, xsq, xkd, xdt⟩, rfl, _, rE, mE⟩; unfold Evt.v; dsimp only
                  replace B7 := Lib.hid (B7.out.mv mE (by have := L7.out; omega))
                  replace B4 := Lib.hid (B4.out.mv mE (by omega))
                  replace B6 := Lib.hid (B6.out.mv mE (by omega))
                  replace SQ := Lib.hid (SQ.out.mv mE hgw)
                  replace MX := Lib.hid (MX.out.trans mE)
                  replace RX := Lib.hid rE
                  refine hK _ _ B4.out ?_; clear hK K mE rE; refine hWalk_one (i := 10) (by kernel_rfl) ?_
                  · refine next_mk rfl (by rfl) (fun K hK => ?_)
                    go_simp; refine (pick_any g (N + 23) 98 _ ⟨by omega, by omega⟩ (by omega) RX.out).mono ?_; rintro x wP ⟨xs, rfl, _, _, rE, mE⟩
                    replace B7 := Lib.hid (B7.out.mv mE (by have := L7.out; omega))
                    replace B4 := Lib.hid (B4.out.mv mE (by omega))
                    replace B6 := Lib.hid (B6.out.mv mE (by omega))
                    replace SQ := Lib.hid (SQ.out.mv mE hgw)
                    replace MX := Lib.hid (MX.out.trans mE)
                    replace RX := Lib.hid rE
                    refine hK _ _ B4.out ?_; clear hK K mE rE; refine hWalk_take 11 (by kernel_rfl) rfl (by rfl) ?_; apply Exists.intro; refine ⟨fun w1 hS1 => ?_, ?_⟩
                    · clear hS1
                      go_simp
                      try rfl
                    go_simp; refine hWalk_one (i := 12) (by kernel_rfl) ?_
                    · refine next_mk rfl (by rfl) (fun K hK => ?_)
                      have ux := (Up.refl wP).alloc (.cells #[.int .i64 xt, .int .i64 xto, .int .i64 xfr, .int .i64 xsq, .int .i64 xkd, .int .i64 xdt, .int .i64 xs] 180)
                      have H77 := Lib.hid (Blk.new wP #[.int .i64 xt, .int .i64 xto, .int .i64 xfr, .int .i64 xsq, .int .i64 xkd, .int .i64 xdt, .int .i64 xs] 180)
                      go_simp
                      replace B7 := Lib.hid (B7.out.up ux)
                      replace B4 := Lib.hid (B4.out.up ux)
                      replace B6 := Lib.hid (B6.out.up ux)
                      replace SQ := Lib.hid (SQ.out.up ux)
                      replace RX := Lib.hid (RX.out.up ux)
                      replace MX := Lib.hid (MX.out.trans (ux.mv g))
                      refine hK _ _ B4.out ?_; clear hK K ux
                      generalize wP.alloc (.cells #[.int .i64 xt, .int .i64 xto, .int .i64 xfr, .int .i64 xsq, .int .i64 xkd, .int .i64 xdt, .int .i64 xs] 180) = wB at *
                      generalize wP.heap.size = b77 at *
                      have UA := Lib.hid (Up.refl wB)
                      have OW := Lib.hid SQ.out.o3
                      have B7a := B7
                      have B6a := B6
                      have RXa := RX
                      have MXa := MX
                      have RD := Lib.hid (rec_new1 wB b77 ⟨⟨xt, xto, xfr, xsq, xkd, xdt⟩, xs⟩ H77.out)
                      refine hWalk_one (i := 13) (by kernel_rfl) (next_mk rfl (by rfl) (fun K hK => ?_)); refine wp_append_any (P := Try.prog) wB (.tmp 66) (.tmp 77) 60 rfl w.heap.size 180 iR _ 7 56 Try.underlying60 INF7.out.1 INF7.out.2.1 INF7.out.2.2.1 INF7.out.2.2.2 rfl (by omega) (.slice Al nl cl) nl (flat7 s.log) (by go_simp) OW.out wB.heap.size (some ⟨b77, 0, none⟩) 1 1 (flat7 [⟨⟨xt, xto, xfr, xsq, xkd, xdt⟩, xs⟩]) (by go_simp) RD.out (flat7_one _) (by simp only [maxLen]; omega) (by omega) MXa.out.size ?_; intro v6 w6 ho6 hg6 _
                      have X4 := Lib.hid (blk_grown B4.out OW.out hg6 (by decide))
                      obtain ⟨A9, c9, rfl⟩ := own_form ho6
                      have X7 := Lib.hid (blk_grown B7a.out OW.out hg6 (by decide))
                      have X6 := Lib.hid (blk_grown B6a.out OW.out hg6 (by decide))
                      have PU := SQ.out.push3 UA.out ho6 hg6
                      have SQn := Lib.hid (PU.far (o := 2) (u := .slice A9 (nl + 1) c9) X7.out (by decide))
                      have B7n := Lib.hid (X7.out.set 2 (.slice A9 (nl + 1) c9))
                      have B6n := Lib.hid (X6.out.far (b' := b7) 2 (.slice A9 (nl + 1) c9) (by have := L7.out; omega))
                      have RXn := Lib.hid ((RXa.out.grownR hg6 (fun x hx => by have := own_geR OW.out x hx; omega)).setCell (p := ⟨b7, 2, none⟩) (by have := L7.out; dsimp only; omega) (.slice A9 (nl + 1) c9))
                      have MXn := Lib.hid ((MXa.out.grownR hg6 (fun x hx => own_geR OW.out x hx)).far (b := b7) (o := 2) (.slice A9 (nl + 1) c9) (by have := L7.out; omega))
                      clear PU ho6 hg6; refine hK _ _ X4.out ?_; clear hK K; refine hWalk_take 14 (by kernel_rfl) rfl (by rfl) ?_; apply Exists.intro; refine ⟨fun w1 hS1 => ?_, ?_⟩
                      · clear hS1
                        go_simp
                        try rfl
                      go_simp; obtain ⟨c0, c1, c2⟩ := And.intro (X7.out.cell (j := 0) rfl) (And.intro (X7.out.cell (j := 1) rfl) (X7.out.cell (j := 2) rfl))
                      have l7 := X7.out.lt
                      have f7 := X7.out.frozen
                      refine hWalk_one (i := 15) (by kernel_rfl) (next_mk rfl (by rfl) (fun K hK => ?_)); go_simp; refine hK _ _ (X4.out.far (b' := b7) 2 (.slice A9 (nl + 1) c9) (by have := L7.out; omega)) ?_; clear hK K c0 c1 c2 l7 f7; refine hWalk_nil (by kernel_rfl) ?_
                      replace B7 := B7n
                      replace B6 := B6n
                      replace SQ := SQn
                      replace RX := RXn
                      replace MX := MXn
                      obtain ⟨f0, f1, f2⟩ := And.intro (B7.out.cell (j := 0) rfl) (And.intro (B7.out.cell (j := 1) rfl) (B7.out.cell (j := 2) rfl))
                      have g7 := B7.out.lt
                      obtain ⟨d0, d1, d2⟩ := And.intro (B6.out.cell (j := 0) rfl) (And.intro (B6.out.cell (j := 1) rfl) (B6.out.cell (j := 2) rfl))
                      have g6 := B6.out.lt
                      have fr6 := B6.out.frozen
                      have Q6 := Lib.hid (((B6.out.set 0 (.slice Ac nc cc)).set 1 (.slice Aw nw cw)).set 2 (.slice A9 (nl + 1) c9))
                      have S1 := SQ.out.far (o := 0) (u := .slice Ac nc cc) B6.out (by decide)
                      have S2 := S1.far (o := 1) (u := .slice Aw nw cw) (B6.out.set 0 _) (by decide)
                      have S3 := Lib.hid (S2.far (o := 2) (u := .slice A9 (nl + 1) c9) ((B6.out.set 0 _).set 1 _) (by decide))
                      have RX3 := Lib.hid (((RX.out.setCell (p := ⟨w.heap.size + 1, 0, none⟩) (by dsimp only; omega) (.slice Ac nc cc)).setCell (p := ⟨w.heap.size + 1, 1, none⟩) (by dsimp only; omega) (.slice Aw nw cw)).setCell (p := ⟨w.heap.size + 1, 2, none⟩) (by dsimp only; omega) (.slice A9 (nl + 1) c9))
                      have MX3 := Lib.hid (((MX.out.far (b := w.heap.size + 1) (o := 0) (.slice Ac nc cc) (by omega)).far (b := w.heap.size + 1) (o := 1) (.slice Aw nw cw) (by omega)).far (b := w.heap.size + 1) (o := 2) (.slice A9 (nl + 1) c9) (by omega))
                      have k0 := Q6.out.cell (j := 0) rfl
                      have k1 := Q6.out.cell (j := 1) rfl
                      have k2 := Q6.out.cell (j := 2) rfl
                      clear S1 S2; go_wp2
                      exact bodyPost_ret (v := .agg #[.slice Ac nc cc, .slice Aw nw cw, .slice A9 (nl + 1) c9]) (by simp [results, Try.results141, go_sem, k0, k1, k2]) rfl ⟨_, _, _, _, _, _, _, _, _, _, rfl, S3.out, by omega, RX3.out.mono (by omega), MX3.out⟩
              · refine next_mk rfl (by rfl) (fun K hK => ?_)
                go_simp; refine (evt_any g (N + 3) mx 2 _ (by omega) (by omega) ⟨by omega, by omega⟩ (by omega) RX.out).mono ?_; rintro x wE ⟨⟨xt, xto, xfr, xsq, xkd, xdt⟩, rfl, _, rE, mE⟩; unfold Evt.v; dsimp only
                replace B7 := Lib.hid (B7.out.mv mE (by have := L7.out; omega))
                replace B4 := Lib.hid (B4.out.mv mE (by omega))
                replace B6 := Lib.hid (B6.out.mv mE (by omega))
                replace SQ := Lib.hid (SQ.out.mv mE hgw)
                replace MX := Lib.hid (MX.out.trans mE)
                replace RX := Lib.hid rE
                refine hK _ _ B4.out ?_; clear hK K mE rE; refine hWalk_two (i := 1) (j := 10) (by kernel_rfl) ?_ ?_
                · refine next_mk rfl (by rfl) (fun K hK => ?_)
                  obtain ⟨c0, c1, c2⟩ := And.intro (B7.out.cell (j := 0) rfl) (And.intro (B7.out.cell (j := 1) rfl) (B7.out.cell (j := 2) rfl))
                  have l7 := B7.out.lt
                  go_simp; refine hK _ _ B4.out ?_; clear hK K c0 c1 c2 l7; refine hWalk_one (i := 10) (by kernel_rfl) ?_
                  · refine next_mk rfl (by rfl) (fun K hK => ?_)
                    go_simp; refine (pick_any g (N + 23) 98 _ ⟨by omega, by omega⟩ (by omega) RX.out).mono ?_; rintro x wP ⟨xs, rfl, _, _, rE, mE⟩
                    replace B7 := Lib.hid (B7.out.mv mE (by have := L7.out; omega))
                    replace B4 := Lib.hid (B4.out.mv mE (by omega))
                    replace B6 := Lib.hid (B6.out.mv mE (by omega))
                    replace SQ := Lib.hid (SQ.out.mv mE hgw)
                    replace MX := Lib.hid (MX.out.trans mE)
                    replace RX := Lib.hid rE
                    refine hK _ _ B4.out ?_; clear hK K mE rE; refine hWalk_take 11 (by kernel_rfl) rfl (by rfl) ?_; apply Exists.intro; refine ⟨fun w1 hS1 => ?_, ?_⟩
                    · clear hS1
                      go_simp
                      try rfl
                    go_simp; refine hWalk_one (i := 12) (by kernel_rfl) ?_
                    · refine next_mk rfl (by rfl) (fun K hK => ?_)
                      have ux := (Up.refl wP).alloc (.cells #[.int .i64 xt, .int .i64 xto, .int .i64 xfr, .int .i64 xsq, .int .i64 xkd, .int .i64 xdt, .int .i64 xs] 180)
                      have H77 := Lib.hid (Blk.new wP #[.int .i64 xt, .int .i64 xto, .int .i64 xfr, .int .i64 xsq, .int .i64 xkd, .int .i64 xdt, .int .i64 xs] 180)
                      go_simp
                      replace B7 := Lib.hid (B7.out.up ux)
                      replace B4 := Lib.hid (B4.out.up ux)
                      replace B6 := Lib.hid (B6.out.up ux)
                      replace SQ := Lib.hid (SQ.out.up ux)
                      replace RX := Lib.hid (RX.out.up ux)
                      replace MX := Lib.hid (MX.out.trans (ux.mv g))
                      refine hK _ _ B4.out ?_; clear hK K ux
                      generalize wP.alloc (.cells #[.int .i64 xt, .int .i64 xto, .int .i64 xfr, .int .i64 xsq, .int .i64 xkd, .int .i64 xdt, .int .i64 xs] 180) = wB at *
                      generalize wP.heap.size = b77 at *
                      have UA := Lib.hid (Up.refl wB)
                      have OW := Lib.hid SQ.out.o3
                      have B7a := B7
                      have B6a := B6
                      have RXa := RX
                      have MXa := MX
                      have RD := Lib.hid (rec_new1 wB b77 ⟨⟨xt, xto, xfr, xsq, xkd, xdt⟩, xs⟩ H77.out)
                      refine hWalk_one (i := 13) (by kernel_rfl) (next_mk rfl (by rfl) (fun K hK => ?_)); refine wp_append_any (P := Try.prog) wB (.tmp 66) (.tmp 77) 60 rfl w.heap.size 180 iR _ 7 56 Try.underlying60 INF7.out.1 INF7.out.2.1 INF7.out.2.2.1 INF7.out.2.2.2 rfl (by omega) (.slice Al nl cl) nl (flat7 s.log) (by go_simp) OW.out wB.heap.size (some ⟨b77, 0, none⟩) 1 1 (flat7 [⟨⟨xt, xto, xfr, xsq, xkd, xdt⟩, xs⟩]) (by go_simp) RD.out (flat7_one _) (by simp only [maxLen]; omega) (by omega) MXa.out.size ?_; intro v6 w6 ho6 hg6 _
                      have X4 := Lib.hid (blk_grown B4.out OW.out hg6 (by decide))
                      obtain ⟨A9, c9, rfl⟩ := own_form ho6
                      have X7 := Lib.hid (blk_grown B7a.out OW.out hg6 (by decide))
                      have X6 := Lib.hid (blk_grown B6a.out OW.out hg6 (by decide))
                      have PU := SQ.out.push3 UA.out ho6 hg6
                      have SQn := Lib.hid (PU.far (o := 2) (u := .slice A9 (nl + 1) c9) X7.out (by decide))
                      have B7n := Lib.hid (X7.out.set 2 (.slice A9 (nl + 1) c9))
                      have B6n := Lib.hid (X6.out.far (b' := b7) 2 (.slice A9 (nl + 1) c9) (by have := L7.out; omega))
                      have RXn := Lib.hid ((RXa.out.grownR hg6 (fun x hx => by have := own_geR OW.out x hx; omega)).setCell (p := ⟨b7, 2, none⟩) (by have := L7.out; dsimp only; omega) (.slice A9 (nl + 1) c9))
                      have MXn := Lib.hid ((MXa.out.grownR hg6 (fun x hx => own_geR OW.out x hx)).far (b := b7) (o := 2) (.slice A9 (nl + 1) c9) (by have := L7.out; omega))
                      clear PU ho6 hg6; refine hK _ _ X4.out ?_; clear hK K; refine hWalk_take 14 (by kernel_rfl) rfl (by rfl) ?_; apply Exists.intro; refine ⟨fun w1 hS1 => ?_, ?_⟩
                      · clear hS1
                        go_simp
                        try rfl
                      go_simp; obtain ⟨c0, c1, c2⟩ := And.intro (X7.out.cell (j := 0) rfl) (And.intro (X7.out.cell (j := 1) rfl) (X7.out.cell (j := 2) rfl))
                      have l7 := X7.out.lt
                      have f7 := X7.out.frozen
                      refine hWalk_one (i := 15) (by kernel_rfl) (next_mk rfl (by rfl) (fun K hK => ?_)); go_simp; refine hK _ _ (X4.out.far (b' := b7) 2 (.slice A9 (nl + 1) c9) (by have := L7.out; omega)) ?_; clear hK K c0 c1 c2 l7 f7; refine hWalk_nil (by kernel_rfl) ?_
                      replace B7 := B7n
                      replace B6 := B6n
                      replace SQ := SQn
                      replace RX := RXn
                      replace MX := MXn
                      obtain ⟨f0, f1, f2⟩ := And.intro (B7.out.cell (j := 0) rfl) (And.intro (B7.out.cell (j := 1) rfl) (B7.out.cell (j := 2) rfl))
                      have g7 := B7.out.lt
                      obtain ⟨d0, d1, d2⟩ := And.intro (B6.out.cell (j := 0) rfl) (And.intro (B6.out.cell (j := 1) rfl) (B6.out.cell (j := 2) rfl))
                      have g6 := B6.out.lt
                      have fr6 := B6.out.frozen
                      have Q6 := Lib.hid (((B6.out.set 0 (.slice Ac nc cc)).set 1 (.slice Aw nw cw)).set 2 (.slice A9 (nl + 1) c9))
                      have S1 := SQ.out.far (o := 0) (u := .slice Ac nc cc) B6.out (by decide)
                      have S2 := S1.far (o := 1) (u := .slice Aw nw cw) (B6.out.set 0 _) (by decide)
                      have S3 := Lib.hid (S2.far (o := 2) (u := .slice A9 (nl + 1) c9) ((B6.out.set 0 _).set 1 _) (by decide))
                      have RX3 := Lib.hid (((RX.out.setCell (p := ⟨w.heap.size + 1, 0, none⟩) (by dsimp only; omega) (.slice Ac nc cc)).setCell (p := ⟨w.heap.size + 1, 1, none⟩) (by dsimp only; omega) (.slice Aw nw cw)).setCell (p := ⟨w.heap.size + 1, 2, none⟩) (by dsimp only; omega) (.slice A9 (nl + 1) c9))
                      have MX3 := Lib.hid (((MX.out.far (b := w.heap.size + 1) (o := 0) (.slice Ac nc cc) (by omega)).far (b := w.heap.size + 1) (o := 1) (.slice Aw nw cw) (by omega)).far (b := w.heap.size + 1) (o := 2) (.slice A9 (nl + 1) c9) (by omega))
                      have k0 := Q6.out.cell (j := 0) rfl
                      have k1 := Q6.out.cell (j := 1) rfl
                      have k2 := Q6.out.cell (j := 2) rfl
                      clear S1 S2; go_wp2
                      exact bodyPost_ret (v := .agg #[.slice Ac nc cc, .slice Aw nw cw, .slice A9 (nl + 1) c9]) (by simp [results, Try.results141, go_sem, k0, k1, k2]) rfl ⟨_, _, _, _, _, _, _, _, _, _, rfl, S3.out, by omega, RX3.out.mono (by omega), MX3.out⟩
                · refine next_mk rfl (by rfl) (fun K hK => ?_)
                  go_simp; refine (pick_any g (N + 23) 98 _ ⟨by omega, by omega⟩ (by omega) RX.out).mono ?_; rintro x wP ⟨xs, rfl, _, _, rE, mE⟩
                  replace B7 := Lib.hid (B7.out.mv mE (by have := L7.out; omega))
                  replace B4 := Lib.hid (B4.out.mv mE (by omega))
                  replace B6 := Lib.hid (B6.out.mv mE (by omega))
                  replace SQ := Lib.hid (SQ.out.mv mE hgw)
                  replace MX := Lib.hid (MX.out.trans mE)
                  replace RX := Lib.hid rE
                  refine hK _ _ B4.out ?_; clear hK K mE rE; refine hWalk_take 11 (by kernel_rfl) rfl (by rfl) ?_; apply Exists.intro; refine ⟨fun w1 hS1 => ?_, ?_⟩
                  · clear hS1
                    go_simp
                    try rfl
                  go_simp; refine hWalk_two (i := 1) (j := 12) (by kernel_rfl) ?_ ?_
                  · refine next_mk rfl (by rfl) (fun K hK => ?_)
                    obtain ⟨c0, c1, c2⟩ := And.intro (B7.out.cell (j := 0) rfl) (And.intro (B7.out.cell (j := 1) rfl) (B7.out.cell (j := 2) rfl))
                    have l7 := B7.out.lt
                    go_simp; refine hK _ _ B4.out ?_; clear hK K c0 c1 c2 l7; refine hWalk_one (i := 12) (by kernel_rfl) ?_
                    · refine next_mk rfl (by rfl) (fun K hK => ?_)
                      have ux := (Up.refl wP).alloc (.cells #[.int .i64 xt, .int .i64 xto, .int .i64 xfr, .int .i64 xsq, .int .i64 xkd, .int .i64 xdt, .int .i64 xs] 180)
                      have H77 := Lib.hid (Blk.new wP #[.int .i64 xt, .int .i64 xto, .int .i64 xfr, .int .i64 xsq, .int .i64 xkd, .int .i64 xdt, .int .i64 xs] 180)
                      go_simp
                      replace B7 := Lib.hid (B7.out.up ux)
                      replace B4 := Lib.hid (B4.out.up ux)
                      replace B6 := Lib.hid (B6.out.up ux)
                      replace SQ := Lib.hid (SQ.out.up ux)
                      replace RX := Lib.hid (RX.out.up ux)
                      replace MX := Lib.hid (MX.out.trans (ux.mv g))
                      refine hK _ _ B4.out ?_; clear hK K ux
                      generalize wP.alloc (.cells #[.int .i64 xt, .int .i64 xto, .int .i64 xfr, .int .i64 xsq, .int .i64 xkd, .int .i64 xdt, .int .i64 xs] 180) = wB at *
                      generalize wP.heap.size = b77 at *
                      have UA := Lib.hid (Up.refl wB)
                      have OW := Lib.hid SQ.out.o3
                      have B7a := B7
                      have B6a := B6
                      have RXa := RX
                      have MXa := MX
                      have RD := Lib.hid (rec_new1 wB b77 ⟨⟨xt, xto, xfr, xsq, xkd, xdt⟩, xs⟩ H77.out)
                      refine hWalk_one (i := 13) (by kernel_rfl) (next_mk rfl (by rfl) (fun K hK => ?_)); refine wp_append_any (P := Try.prog) wB (.tmp 66) (.tmp 77) 60 rfl w.heap.size 180 iR _ 7 56 Try.underlying60 INF7.out.1 INF7.out.2.1 INF7.out.2.2.1 INF7.out.2.2.2 rfl (by omega) (.slice Al nl cl) nl (flat7 s.log) (by go_simp) OW.out wB.heap.size (some ⟨b77, 0, none⟩) 1 1 (flat7 [⟨⟨xt, xto, xfr, xsq, xkd, xdt⟩, xs⟩]) (by go_simp) RD.out (flat7_one _) (by simp only [maxLen]; omega) (by omega) MXa.out.size ?_; intro v6 w6 ho6 hg6 _
                      have X4 := Lib.hid (blk_grown B4.out OW.out hg6 (by decide))
                      obtain ⟨A9, c9, rfl⟩ := own_form ho6
                      have X7 := Lib.hid (blk_grown B7a.out OW.out hg6 (by decide))
                      have X6 := Lib.hid (blk_grown B6a.out OW.out hg6 (by decide))
                      have PU := SQ.out.push3 UA.out ho6 hg6
                      have SQn := Lib.hid (PU.far (o := 2) (u := .slice A9 (nl + 1) c9) X7.out (by decide))
                      have B7n := Lib.hid (X7.out.set 2 (.slice A9 (nl + 1) c9))
                      have B6n := Lib.hid (X6.out.far (b' := b7) 2 (.slice A9 (nl + 1) c9) (by have := L7.out; omega))
                      have RXn := Lib.hid ((RXa.out.grownR hg6 (fun x hx => by have := own_geR OW.out x hx; omega)).setCell (p := ⟨b7, 2, none⟩) (by have := L7.out; dsimp only; omega) (.slice A9 (nl + 1) c9))
                      have MXn := Lib.hid ((MXa.out.grownR hg6 (fun x hx => own_geR OW.out x hx)).far (b := b7) (o := 2) (.slice A9 (nl + 1) c9) (by have := L7.out; omega))
                      clear PU ho6 hg6; refine hK _ _ X4.out ?_; clear hK K; refine hWalk_take 14 (by kernel_rfl) rfl (by rfl) ?_; apply Exists.intro; refine ⟨fun w1 hS1 => ?_, ?_⟩
                      · clear hS1
                        go_simp
                        try rfl
                      go_simp; obtain ⟨c0, c1, c2⟩ := And.intro (X7.out.cell (j := 0) rfl) (And.intro (X7.out.cell (j := 1) rfl) (X7.out.cell (j := 2) rfl))
                      have l7 := X7.out.lt
                      have f7 := X7.out.frozen
                      refine hWalk_one (i := 15) (by kernel_rfl) (next_mk rfl (by rfl) (fun K hK => ?_)); go_simp; refine hK _ _ (X4.out.far (b' := b7) 2 (.slice A9 (nl + 1) c9) (by have := L7.out; omega)) ?_; clear hK K c0 c1 c2 l7 f7; refine hWalk_nil (by kernel_rfl) ?_
                      replace B7 := B7n
                      replace B6 := B6n
                      replace SQ := SQn
                      replace RX := RXn
                      replace MX := MXn
                      obtain ⟨f0, f1, f2⟩ := And.intro (B7.out.cell (j := 0) rfl) (And.intro (B7.out.cell (j := 1) rfl) (B7.out.cell (j := 2) rfl))
                      have g7 := B7.out.lt
                      obtain ⟨d0, d1, d2⟩ := And.intro (B6.out.cell (j := 0) rfl) (And.intro (B6.out.cell (j := 1) rfl) (B6.out.cell (j := 2) rfl))
                      have g6 := B6.out.lt
                      have fr6 := B6.out.frozen
                      have Q6 := Lib.hid (((B6.out.set 0 (.slice Ac nc cc)).set 1 (.slice Aw nw cw)).set 2 (.slice A9 (nl + 1) c9))
                      have S1 := SQ.out.far (o := 0) (u := .slice Ac nc cc) B6.out (by decide)
                      have S2 := S1.far (o := 1) (u := .slice Aw nw cw) (B6.out.set 0 _) (by decide)
                      have S3 := Lib.hid (S2.far (o := 2) (u := .slice A9 (nl + 1) c9) ((B6.out.set 0 _).set 1 _) (by decide))
                      have RX3 := Lib.hid (((RX.out.setCell (p := ⟨w.heap.size + 1, 0, none⟩) (by dsimp only; omega) (.slice Ac nc cc)).setCell (p := ⟨w.heap.size + 1, 1, none⟩) (by dsimp only; omega) (.slice Aw nw cw)).setCell (p := ⟨w.heap.size + 1, 2, none⟩) (by dsimp only; omega) (.slice A9 (nl + 1) c9))
                      have MX3 := Lib.hid (((MX.out.far (b := w.heap.size + 1) (o := 0) (.slice Ac nc cc) (by omega)).far (b := w.heap.size + 1) (o := 1) (.slice Aw nw cw) (by omega)).far (b := w.heap.size + 1) (o := 2) (.slice A9 (nl + 1) c9) (by omega))
                      have k0 := Q6.out.cell (j := 0) rfl
                      have k1 := Q6.out.cell (j := 1) rfl
                      have k2 := Q6.out.cell (j := 2) rfl
                      clear S1 S2; go_wp2
                      exact bodyPost_ret (v := .agg #[.slice Ac nc cc, .slice Aw nw cw, .slice A9 (nl + 1) c9]) (by simp [results, Try.results141, go_sem, k0, k1, k2]) rfl ⟨_, _, _, _, _, _, _, _, _, _, rfl, S3.out, by omega, RX3.out.mono (by omega), MX3.out⟩
                  · refine next_mk rfl (by rfl) (fun K hK => ?_)
                    have ux := (Up.refl wP).alloc (.cells #[.int .i64 xt, .int .i64 xto, .int .i64 xfr, .int .i64 xsq, .int .i64 xkd, .int .i64 xdt, .int .i64 xs] 180)
                    have H77 := Lib.hid (Blk.new wP #[.int .i64 xt, .int .i64 xto, .int .i64 xfr, .int .i64 xsq, .int .i64 xkd, .int .i64 xdt, .int .i64 xs] 180)
                    go_simp
                    replace B7 := Lib.hid (B7.out.up ux)
                    replace B4 := Lib.hid (B4.out.up ux)
                    replace B6 := Lib.hid (B6.out.up ux)
                    replace SQ := Lib.hid (SQ.out.up ux)
                    replace RX := Lib.hid (RX.out.up ux)
                    replace MX := Lib.hid (MX.out.trans (ux.mv g))
                    refine hK _ _ B4.out ?_; clear hK K ux
                    generalize wP.alloc (.cells #[.int .i64 xt, .int .i64 xto, .int .i64 xfr, .int .i64 xsq, .int .i64 xkd, .int .i64 xdt, .int .i64 xs] 180) = wB at *
                    generalize wP.heap.size = b77 at *
                    refine hWalk_one (i := 1) (by kernel_rfl) ?_
                    · refine next_mk rfl (by rfl) (fun K hK => ?_)
                      obtain ⟨c0, c1, c2⟩ := And.intro (B7.out.cell (j := 0) rfl) (And.intro (B7.out.cell (j := 1) rfl) (B7.out.cell (j := 2) rfl))
                      have l7 := B7.out.lt
                      go_simp; refine hK _ _ B4.out ?_; clear hK K c0 c1 c2 l7
                      have UA := Lib.hid (Up.refl wB)
                      have OW := Lib.hid SQ.out.o3
                      have B7a := B7
                      have B6a := B6
                      have RXa := RX
                      have MXa := MX
                      have RD := Lib.hid (rec_new1 wB b77 ⟨⟨xt, xto, xfr, xsq, xkd, xdt⟩, xs⟩ H77.out)
                      refine hWalk_one (i := 13) (by kernel_rfl) (next_mk rfl (by rfl) (fun K hK => ?_)); refine wp_append_any (P := Try.prog) wB (.tmp 66) (.tmp 77) 60 rfl w.heap.size 180 iR _ 7 56 Try.underlying60 INF7.out.1 INF7.out.2.1 INF7.out.2.2.1 INF7.out.2.2.2 rfl (by omega) (.slice Al nl cl) nl (flat7 s.log) (by go_simp) OW.out wB.heap.size (some ⟨b77, 0, none⟩) 1 1 (flat7 [⟨⟨xt, xto, xfr, xsq, xkd, xdt⟩, xs⟩]) (by go_simp) RD.out (flat7_one _) (by simp only [maxLen]; omega) (by omega) MXa.out.size ?_; intro v6 w6 ho6 hg6 _
                      have X4 := Lib.hid (blk_grown B4.out OW.out hg6 (by decide))
                      obtain ⟨A9, c9, rfl⟩ := own_form ho6
                      have X7 := Lib.hid (blk_grown B7a.out OW.out hg6 (by decide))
                      have X6 := Lib.hid (blk_grown B6a.out OW.out hg6 (by decide))
                      have PU := SQ.out.push3 UA.out ho6 hg6
                      have SQn := Lib.hid (PU.far (o := 2) (u := .slice A9 (nl + 1) c9) X7.out (by decide))
                      have B7n := Lib.hid (X7.out.set 2 (.slice A9 (nl + 1) c9))
                      have B6n := Lib.hid (X6.out.far (b' := b7) 2 (.slice A9 (nl + 1) c9) (by have := L7.out; omega))
                      have RXn := Lib.hid ((RXa.out.grownR hg6 (fun x hx => by have := own_geR OW.out x hx; omega)).setCell (p := ⟨b7, 2, none⟩) (by have := L7.out; dsimp only; omega) (.slice A9 (nl + 1) c9))
                      have MXn := Lib.hid ((MXa.out.grownR hg6 (fun x hx => own_geR OW.out x hx)).far (b := b7) (o := 2) (.slice A9 (nl + 1) c9) (by have := L7.out; omega))
                      clear PU ho6 hg6; refine hK _ _ X4.out ?_; clear hK K; refine hWalk_take 14 (by kernel_rfl) rfl (by rfl) ?_; apply Exists.intro; refine ⟨fun w1 hS1 => ?_, ?_⟩
                      · clear hS1
                        go_simp
                        try rfl
                      go_simp; obtain ⟨c0, c1, c2⟩ := And.intro (X7.out.cell (j := 0) rfl) (And.intro (X7.out.cell (j := 1) rfl) (X7.out.cell (j := 2) rfl))
                      have l7 := X7.out.lt
                      have f7 := X7.out.frozen
                      refine hWalk_one (i := 15) (by kernel_rfl) (next_mk rfl (by rfl) (fun K hK => ?_)); go_simp; refine hK _ _ (X4.out.far (b' := b7) 2 (.slice A9 (nl + 1) c9) (by have := L7.out; omega)) ?_; clear hK K c0 c1 c2 l7 f7; refine hWalk_nil (by kernel_rfl) ?_
                      replace B7 := B7n
                      replace B6 := B6n
                      replace SQ := SQn
                      replace RX := RXn
                      replace MX := MXn
                      obtain ⟨f0, f1, f2⟩ := And.intro (B7.out.cell (j := 0) rfl) (And.intro (B7.out.cell (j := 1) rfl) (B7.out.cell (j := 2) rfl))
                      have g7 := B7.out.lt
                      obtain ⟨d0, d1, d2⟩ := And.intro (B6.out.cell (j := 0) rfl) (And.intro (B6.out.cell (j := 1) rfl) (B6.out.cell (j := 2) rfl))
                      have g6 := B6.out.lt
                      have fr6 := B6.out.frozen
                      have Q6 := Lib.hid (((B6.out.set 0 (.slice Ac nc cc)).set 1 (.slice Aw nw cw)).set 2 (.slice A9 (nl + 1) c9))
                      have S1 := SQ.out.far (o := 0) (u := .slice Ac nc cc) B6.out (by decide)
                      have S2 := S1.far (o := 1) (u := .slice Aw nw cw) (B6.out.set 0 _) (by decide)
                      have S3 := Lib.hid (S2.far (o := 2) (u := .slice A9 (nl + 1) c9) ((B6.out.set 0 _).set 1 _) (by decide))
                      have RX3 := Lib.hid (((RX.out.setCell (p := ⟨w.heap.size + 1, 0, none⟩) (by dsimp only; omega) (.slice Ac nc cc)).setCell (p := ⟨w.heap.size + 1, 1, none⟩) (by dsimp only; omega) (.slice Aw nw cw)).setCell (p := ⟨w.heap.size + 1, 2, none⟩) (by dsimp only; omega) (.slice A9 (nl + 1) c9))
                      have MX3 := Lib.hid (((MX.out.far (b := w.heap.size + 1) (o := 0) (.slice Ac nc cc) (by omega)).far (b := w.heap.size + 1) (o := 1) (.slice Aw nw cw) (by omega)).far (b := w.heap.size + 1) (o := 2) (.slice A9 (nl + 1) c9) (by omega))
                      have k0 := Q6.out.cell (j := 0) rfl
                      have k1 := Q6.out.cell (j := 1) rfl
                      have k2 := Q6.out.cell (j := 2) rfl
                      clear S1 S2; go_wp2
                      exact bodyPost_ret (v := .agg #[.slice Ac nc cc, .slice Aw nw cw, .slice A9 (nl + 1) c9]) (by simp [results, Try.results141, go_sem, k0, k1, k2]) rfl ⟨_, _, _, _, _, _, _, _, _, _, rfl, S3.out, by omega, RX3.out.mono (by omega), MX3.out⟩
            · by_cases h3 : y = 3
              · subst h3
                obtain ⟨c0, c1, c2⟩ := And.intro (B7.out.cell (j := 0) rfl) (And.intro (B7.out.cell (j := 1) rfl) (B7.out.cell (j := 2) rfl))
                have l7 := B7.out.lt
                by_cases hnc : 0 < nc
                · have i9 : (0 : Int) < nc := by omega
                  obtain ⟨gc, arrc, hA, hgc, bc, hsz⟩ := own_blk SQ.out.o1 hnc; subst hA
                  go_wp2_with fail
                  clear c0 c1 c2 l7; refine region_hWalk (fun w1 => Blk w1 b7 62 #[.slice (some ⟨gc, 0, none⟩) nc cc, .slice Aw nw cw, .slice Al nl cl]) 6 (by kernel_rfl) rfl (by kernel_rfl) (B7.out.up (Up.refl _).drew) ?_; refine hWalk_take 0 (by kernel_rfl) rfl (by rfl) ?_; apply Exists.intro; refine ⟨fun w1 hS1 => ?_, ?_⟩
                  · clear hS1
                    go_simp
                    try rfl
                  go_simp; refine hWalk_take 1 (by kernel_rfl) rfl (by rfl) ?_; apply Exists.intro; refine ⟨fun w1 hS1 => ?_, ?_⟩
                  · obtain ⟨m0, m1, m2⟩ := And.intro (hS1.cell (j := 0) rfl) (And.intro (hS1.cell (j := 1) rfl) (hS1.cell (j := 2) rfl))
                    have lm := hS1.lt
                    clear hS1; go_simp
                    try rfl
                  go_simp; refine hWalk_take 2 (by kernel_rfl) rfl (by rfl) ?_; apply Exists.intro; refine ⟨fun w1 hS1 => ?_, ?_⟩
                  · clear hS1
                    go_simp
                    try rfl
                  go_simp; refine hWalk_one (i := 3) (by kernel_rfl) (next_mk rfl (by rfl) (fun K hK => ?_)); go_simp; refine (l20Cmp_any g (N + 3) 2 _ ⟨by omega, by omega⟩ (by omega) (RX.out.up (Up.refl _).drew)).mono ?_; rintro x w6 ⟨⟨t0, t1, t2⟩, rfl, _, r6, m6⟩; unfold Cst.v; dsimp only
                  have m6 := ((Up.refl w5).drew.mv g).trans m6
                  have B7c := Lib.hid (B7.out.mv m6 (by have := L7.out; omega))
                  refine hK _ _ B7c.out ?_; clear hK K
                  replace RX := Lib.hid r6
                  replace MX := Lib.hid (MX.out.trans m6)
                  replace B6 := Lib.hid (B6.out.mv m6 (by omega))
                  replace SQ := Lib.hid (SQ.out.mv m6 hgw)
                  have bc := Blk.mv bc m6 (by omega)
                  clear r6 m6; go_simp; refine hWalk_take 4 (by kernel_rfl) rfl (by rfl) ?_; apply Exists.intro; refine ⟨fun w1 hS1 => ?_, ?_⟩
                  · clear hS1
                    go_simp
                    try rfl
                  go_simp
                  have SQn := Lib.hid (SQ.out.set0 hnc ⟨t0, t1, t2⟩)
                  obtain ⟨e0, e1, e2⟩ := And.intro (bc.cell (Array.getElem?_eq_getElem (show 0 < arrc.size by omega))) (And.intro (bc.cell (Array.getElem?_eq_getElem (show 1 < arrc.size by omega))) (bc.cell (Array.getElem?_eq_getElem (show 2 < arrc.size by omega))))
                  have fc := bc.frozen
                  have lc := bc.lt
                  have n7 : b7 ≠ gc := fun e => by
                    have hb := B7c.out
                    unfold Blk at hb bc; rw [e, bc] at hb
                    injection hb with hb
                    injection hb with _ hb _
                    exact absurd hb (by decide)
                  have B7n := Lib.hid (((B7c.out.far (b' := gc) 0 (.int .i64 t0) n7).far (b' := gc) 1 (.int .i64 t1) n7).far (b' := gc) 2 (.int .i64 t2) n7)
                  have n6 : w.heap.size + 1 ≠ gc := fun e => by
                    have hb := B6.out
                    unfold Blk at hb bc; rw [e, bc] at hb
                    injection hb with hb
                    injection hb with _ hb _
                    exact absurd hb (by decide)
                  have B6n := Lib.hid (((B6.out.far (b' := gc) 0 (.int .i64 t0) n6).far (b' := gc) 1 (.int .i64 t1) n6).far (b' := gc) 2 (.int .i64 t2) n6)
                  have RXn := Lib.hid (((RX.out.setCell (p := ⟨gc, 0, none⟩) (by dsimp only; omega) (.int .i64 t0)).setCell (p := ⟨gc, 1, none⟩) (by dsimp only; omega) (.int .i64 t1)).setCell (p := ⟨gc, 2, none⟩) (by dsimp only; omega) (.int .i64 t2))
                  have MXn := Lib.hid (((MX.out.far (b := gc) (o := 0) (.int .i64 t0) hgc).far (b := gc) (o := 1) (.int .i64 t1) hgc).far (b := gc) (o := 2) (.int .i64 t2) hgc)
                  refine hWalk_one (i := 5) (by kernel_rfl) (next_mk rfl (by rfl) (fun K hK => ?_)); go_simp; refine hK _ _ B7n.out ?_; clear hK K e0 e1 e2 fc lc bc n7 n6; refine hWalk_nil (by kernel_rfl) ?_
                  replace B7 := B7n
                  replace B6 := B6n
                  replace SQ := SQn
                  replace RX := RXn
                  replace MX := MXn
                  obtain ⟨f0, f1, f2⟩ := And.intro (B7.out.cell (j := 0) rfl) (And.intro (B7.out.cell (j := 1) rfl) (B7.out.cell (j := 2) rfl))
                  have g7 := B7.out.lt
                  obtain ⟨d0, d1, d2⟩ := And.intro (B6.out.cell (j := 0) rfl) (And.intro (B6.out.cell (j := 1) rfl) (B6.out.cell (j := 2) rfl))
                  have g6 := B6.out.lt
                  have fr6 := B6.out.frozen
                  have Q6 := Lib.hid (((B6.out.set 0 (.slice (some ⟨gc, 0, none⟩) nc cc)).set 1 (.slice Aw nw cw)).set 2 (.slice Al nl cl))
                  have S1 := SQ.out.far (o := 0) (u := .slice (some ⟨gc, 0, none⟩) nc cc) B6.out (by decide)
                  have S2 := S1.far (o := 1) (u := .slice Aw nw cw) (B6.out.set 0 _) (by decide)
                  have S3 := Lib.hid (S2.far (o := 2) (u := .slice Al nl cl) ((B6.out.set 0 _).set 1 _) (by decide))
                  have RX3 := Lib.hid (((RX.out.setCell (p := ⟨w.heap.size + 1, 0, none⟩) (by dsimp only; omega) (.slice (some ⟨gc, 0, none⟩) nc cc)).setCell (p := ⟨w.heap.size + 1, 1, none⟩) (by dsimp only; omega) (.slice Aw nw cw)).setCell (p := ⟨w.heap.size + 1, 2, none⟩) (by dsimp only; omega) (.slice Al nl cl))
                  have MX3 := Lib.hid (((MX.out.far (b := w.heap.size + 1) (o := 0) (.slice (some ⟨gc, 0, none⟩) nc cc) (by omega)).far (b := w.heap.size + 1) (o := 1) (.slice Aw nw cw) (by omega)).far (b := w.heap.size + 1) (o := 2) (.slice Al nl cl) (by omega))
                  have k0 := Q6.out.cell (j := 0) rfl
                  have k1 := Q6.out.cell (j := 1) rfl
                  have k2 := Q6.out.cell (j := 2) rfl
                  clear S1 S2; go_wp2
                  exact bodyPost_ret (v := .agg #[.slice (some ⟨gc, 0, none⟩) nc cc, .slice Aw nw cw, .slice Al nl cl]) (by simp [results, Try.results141, go_sem, k0, k1, k2]) rfl ⟨_, _, _, _, _, _, _, _, _, _, rfl, S3.out, by omega, RX3.out.mono (by omega), MX3.out⟩
                · have i9 : ¬ (0 : Int) < nc := by omega
                  obtain ⟨f0, f1, f2⟩ := And.intro (B7.out.cell (j := 0) rfl) (And.intro (B7.out.cell (j := 1) rfl) (B7.out.cell (j := 2) rfl))
                  have g7 := B7.out.lt
                  obtain ⟨d0, d1, d2⟩ := And.intro (B6.out.cell (j := 0) rfl) (And.intro (B6.out.cell (j := 1) rfl) (B6.out.cell (j := 2) rfl))
                  have g6 := B6.out.lt
                  have fr6 := B6.out.frozen
                  have Q6 := Lib.hid (((B6.out.set 0 (.slice Ac nc cc)).set 1 (.slice Aw nw cw)).set 2 (.slice Al nl cl))
                  have S1 := SQ.out.far (o := 0) (u := .slice Ac nc cc) B6.out (by decide)
                  have S2 := S1.far (o := 1) (u := .slice Aw nw cw) (B6.out.set 0 _) (by decide)
                  have S3 := Lib.hid (S2.far (o := 2) (u := .slice Al nl cl) ((B6.out.set 0 _).set 1 _) (by decide))
                  have RX3 := Lib.hid (((RX.out.setCell (p := ⟨w.heap.size + 1, 0, none⟩) (by dsimp only; omega) (.slice Ac nc cc)).setCell (p := ⟨w.heap.size + 1, 1, none⟩) (by dsimp only; omega) (.slice Aw nw cw)).setCell (p := ⟨w.heap.size + 1, 2, none⟩) (by dsimp only; omega) (.slice Al nl cl))
                  have MX3 := Lib.hid (((MX.out.far (b := w.heap.size + 1) (o := 0) (.slice Ac nc cc) (by omega)).far (b := w.heap.size + 1) (o := 1) (.slice Aw nw cw) (by omega)).far (b := w.heap.size + 1) (o := 2) (.slice Al nl cl) (by omega))
                  have k0 := Q6.out.cell (j := 0) rfl
                  have k1 := Q6.out.cell (j := 1) rfl
                  have k2 := Q6.out.cell (j := 2) rfl
                  clear S1 S2; go_wp2
                  exact bodyPost_ret (v := .agg #[.slice Ac nc cc, .slice Aw nw cw, .slice Al nl cl]) (by simp [results, Try.results141, go_sem, k0, k1, k2]) rfl ⟨Ac, nc, cc, Aw, nw, cw, Al, nl, cl, s, rfl, S3.out, by omega, RX3.out.mono (by omega), MX3.out⟩
              · have f0 : (y == 0) = false := by simpa using h0
                have f1 : (y == 1) = false := by simpa using h1
                have f2 : (y == 2) = false := by simpa using h2
                have f3 : (y == 3) = false := by simpa using h3
                obtain ⟨c0, c1, c2⟩ := And.intro (B7.out.cell (j := 0) rfl) (And.intro (B7.out.cell (j := 1) rfl) (B7.out.cell (j := 2) rfl))
                have l7 := B7.out.lt
                by_cases hnw : 1 < nw
                · have i9 : (1 : Int) < nw := by omega
                  obtain ⟨ga, arr, xt, xto, xfr, xsq, xkd, xdt, hA, hga, ba, a0, a1, a2, a3, a4, a5⟩ := own_second SQ.out.o2 hnw; subst hA
                  go_wp2_with fail
                  clear c0 c1 c2 l7
                  have nA : ga ≠ b7 := fun e => by
                    have hb := B7.out
                    unfold Blk at hb ba; rw [← e, ba] at hb
                    injection hb with hb
                    injection hb with _ hb _
                    exact absurd hb (by decide)
                  have BA := Lib.hid ba
                  clear ba
                  have ud := (Up.refl w5).drew
                  refine region_hWalk (fun w1 => Blk w1 ga 74 arr) 10 (by kernel_rfl) rfl (by kernel_rfl) (BA.out.up ud) ?_
                  replace B7 := Lib.hid (B7.out.up ud)
                  replace B4 := Lib.hid (B4.out.up ud)
                  replace B6 := Lib.hid (B6.out.up ud)
                  replace SQ := Lib.hid (SQ.out.up ud)
                  replace RX := Lib.hid (RX.out.up ud)
                  replace MX := Lib.hid (MX.out.trans (ud.mv g))
                  replace BA := Lib.hid (BA.out.up ud)
                  clear ud
                  generalize w5.drew = wd at *
                  refine hWalk_take 0 (by kernel_rfl) rfl (by rfl) ?_; apply Exists.intro; refine ⟨fun w1 hS1 => ?_, ?_⟩
                  · clear hS1
                    go_simp
                    try rfl
                  go_simp; refine hWalk_take 5 (by kernel_rfl) rfl (by rfl) ?_; apply Exists.intro; refine ⟨fun w1 hS1 => ?_, ?_⟩
                  · clear hS1
                    go_simp
                    try rfl
                  go_simp; refine hWalk_two (i := 1) (j := 6) (by kernel_rfl) ?_ ?_
                  · refine next_mk rfl (by rfl) (fun K hK => ?_)
                    obtain ⟨c0, c1, c2⟩ := And.intro (B7.out.cell (j := 0) rfl) (And.intro (B7.out.cell (j := 1) rfl) (B7.out.cell (j := 2) rfl))
                    have l7 := B7.out.lt
                    go_simp; refine hK _ _ BA.out ?_; clear hK K c0 c1 c2 l7; refine hWalk_take 2 (by kernel_rfl) rfl (by rfl) ?_; apply Exists.intro; refine ⟨fun w1 hS1 => ?_, ?_⟩
                    · clear hS1
                      go_simp
                      try rfl
                    go_simp; refine hWalk_take 3 (by kernel_rfl) rfl (by rfl) ?_; apply Exists.intro; refine ⟨fun w1 hS1 => ?_, ?_⟩
                    · have e0 := hS1.cell (j := 6) a0
                      have e1 := hS1.cell (j := 7) a1
                      have e2 := hS1.cell (j := 8) a2
                      have e3 := hS1.cell (j := 9) a3
                      have e4 := hS1.cell (j := 10) a4
                      have e5 := hS1.cell (j := 11) a5
                      have lm := hS1.lt
                      clear hS1; go_simp
                      try rfl
                    go_simp; refine hWalk_two (i := 4) (j := 6) (by kernel_rfl) ?_ ?_
                    · refine next_mk rfl (by rfl) (fun K hK => ?_)
                      have ux := (Up.refl wd).alloc (.cells #[.int .i64 xt, .int .i64 xto, .int .i64 xfr, .int .i64 xsq, .int .i64 xkd, .int .i64 xdt] 74)
                      have VA := Lib.hid (own_oneE wd w.heap.size ⟨xt, xto, xfr, xsq, xkd, xdt⟩ MX.out.size)
                      have LA := BA.out.lt
                      go_simp
                      replace B7 := Lib.hid (B7.out.up ux)
                      replace B4 := Lib.hid (B4.out.up ux)
                      replace B6 := Lib.hid (B6.out.up ux)
                      replace SQ := Lib.hid (SQ.out.up ux)
                      replace RX := Lib.hid (RX.out.up ux)
                      replace MX := Lib.hid (MX.out.trans (ux.mv g))
                      replace BA := Lib.hid (BA.out.up ux)
                      refine hK _ _ BA.out ?_; clear hK K ux
                      generalize wd.alloc (.cells #[.int .i64 xt, .int .i64 xto, .int .i64 xfr, .int .i64 xsq, .int .i64 xkd, .int .i64 xdt] 74) = wB at *
                      generalize wd.heap.size = bE at *
                      refine hWalk_one (i := 6) (by kernel_rfl) ?_
                      · refine next_mk rfl (by rfl) (fun K hK => ?_)
                        obtain ⟨c0, c1, c2⟩ := And.intro (B7.out.cell (j := 0) rfl) (And.intro (B7.out.cell (j := 1) rfl) (B7.out.cell (j := 2) rfl))
                        have l7 := B7.out.lt
                        go_simp; refine hK _ _ BA.out ?_; clear hK K c0 c1 c2 l7
                        have UA := Lib.hid (Up.refl wB)
                        have RW := Lib.hid (Reads.of_own SQ.out.o2)
                        have hne : ga ≠ bE := by omega
                        refine hWalk_one (i := 7) (by kernel_rfl) (next_mk rfl (by rfl) (fun K hK => ?_)); refine wp_append_any (P := Try.prog) wB (.tmp 36) (.tmp 38) 34 rfl w.heap.size 74 iE _ 6 48 Try.underlying34 INF6.out.1 INF6.out.2.1 INF6.out.2.2.1 INF6.out.2.2.2 rfl (by omega) (.slice (some ⟨bE, 0, none⟩) 1 1) 1 (flat [⟨xt, xto, xfr, xsq, xkd, xdt⟩]) (by go_simp) VA.out wB.heap.size (some ⟨ga, 0, none⟩) nw cw (flat s.wait) (by go_simp) RW.out (flat_one _) (by simp only [maxLen]; omega) (by omega) MX.out.size ?_; intro v6 w6 ho6 hg6 _
                        have XA : Hid (Blk w6 ga 74 arr) := Lib.hid ((hg6.block ga BA.out.lt (fun e => hne (show ga = bE from Option.some.inj e))).trans BA.out)
                        obtain ⟨A9, c9, rfl⟩ := own_formP ho6 (by omega)
                        have X7 := Lib.hid (blk_grown B7.out VA.out hg6 (by decide))
                        have X6 := Lib.hid (blk_grown B6.out VA.out hg6 (by decide))
                        have PU := SQ.out.cons2 UA.out VA.out ho6 hg6
                        have SQn := Lib.hid (PU.far (o := 1) (u := .slice A9 (1 + nw) c9) X7.out (by decide))
                        have B7n := Lib.hid (X7.out.set 1 (.slice A9 (1 + nw) c9))
                        have B6n := Lib.hid (X6.out.far (b' := b7) 1 (.slice A9 (1 + nw) c9) (by have := L7.out; omega))
                        have RXn := Lib.hid ((RX.out.grownR hg6 (fun x hx => by have := own_geR VA.out x hx; omega)).setCell (p := ⟨b7, 1, none⟩) (by have := L7.out; dsimp only; omega) (.slice A9 (1 + nw) c9))
                        have MXn := Lib.hid ((MX.out.grownR hg6 (fun x hx => own_geR VA.out x hx)).far (b := b7) (o := 1) (.slice A9 (1 + nw) c9) (by have := L7.out; omega))
                        clear PU ho6 hg6; refine hK _ _ XA.out ?_; clear hK K; refine hWalk_take 8 (by kernel_rfl) rfl (by rfl) ?_; apply Exists.intro; refine ⟨fun w1 hS1 => ?_, ?_⟩
                        · clear hS1
                          go_simp
                          try rfl
                        go_simp; obtain ⟨c0, c1, c2⟩ := And.intro (X7.out.cell (j := 0) rfl) (And.intro (X7.out.cell (j := 1) rfl) (X7.out.cell (j := 2) rfl))
                        have l7 := X7.out.lt
                        have f7 := X7.out.frozen
                        refine hWalk_one (i := 9) (by kernel_rfl) (next_mk rfl (by rfl) (fun K hK => ?_)); go_simp; refine hK _ _ (XA.out.far (b' := b7) 1 (.slice A9 (1 + nw) c9) nA) ?_; clear hK K c0 c1 c2 l7 f7; refine hWalk_nil (by kernel_rfl) ?_
                        replace B7 := B7n
                        replace B6 := B6n
                        replace SQ := SQn
                        replace RX := RXn
                        replace MX := MXn
                        obtain ⟨f0, f1, f2⟩ := And.intro (B7.out.cell (j := 0) rfl) (And.intro (B7.out.cell (j := 1) rfl) (B7.out.cell (j := 2) rfl))
                        have g7 := B7.out.lt
                        obtain ⟨d0, d1, d2⟩ := And.intro (B6.out.cell (j := 0) rfl) (And.intro (B6.out.cell (j := 1) rfl) (B6.out.cell (j := 2) rfl))
                        have g6 := B6.out.lt
                        have fr6 := B6.out.frozen
                        have Q6 := Lib.hid (((B6.out.set 0 (.slice Ac nc cc)).set 1 (.slice A9 (1 + nw) c9)).set 2 (.slice Al nl cl))
                        have S1 := SQ.out.far (o := 0) (u := .slice Ac nc cc) B6.out (by decide)
                        have S2 := S1.far (o := 1) (u := .slice A9 (1 + nw) c9) (B6.out.set 0 _) (by decide)
                        have S3 := Lib.hid (S2.far (o := 2) (u := .slice Al nl cl) ((B6.out.set 0 _).set 1 _) (by decide))
                        have RX3 := Lib.hid (((RX.out.setCell (p := ⟨w.heap.size + 1, 0, none⟩) (by dsimp only; omega) (.slice Ac nc cc)).setCell (p := ⟨w.heap.size + 1, 1, none⟩) (by dsimp only; omega) (.slice A9 (1 + nw) c9)).setCell (p := ⟨w.heap.size + 1, 2, none⟩) (by dsimp only; omega) (.slice Al nl cl))
                        have MX3 := Lib.hid (((MX.out.far (b := w.heap.size + 1) (o := 0) (.slice Ac nc cc) (by omega)).far (b := w.heap.size + 1) (o := 1) (.slice A9 (1 + nw) c9) (by omega)).far (b := w.heap.size + 1) (o := 2) (.slice Al nl cl) (by omega))
                        have k0 := Q6.out.cell (j := 0) rfl
                        have k1 := Q6.out.cell (j := 1) rfl
                        have k2 := Q6.out.cell (j := 2) rfl
                        clear S1 S2; go_wp2
                        exact bodyPost_ret (v := .agg #[.slice Ac nc cc, .slice A9 (1 + nw) c9, .slice Al nl cl]) (by simp [results, Try.results141, go_sem, k0, k1, k2]) rfl ⟨_, _, _, _, _, _, _, _, _, _, rfl, S3.out, by omega, RX3.out.mono (by omega), MX3.out⟩
                    · refine next_mk rfl (by rfl) (fun K hK => ?_)
                      obtain ⟨c0, c1, c2⟩ := And.intro (B7.out.cell (j := 0) rfl) (And.intro (B7.out.cell (j := 1) rfl) (B7.out.cell (j := 2) rfl))
                      have l7 := B7.out.lt
                      go_simp; refine hK _ _ BA.out ?_; clear hK K c0 c1 c2 l7; refine hWalk_one (i := 4) (by kernel_rfl) ?_
                      · refine next_mk rfl (by rfl) (fun K hK => ?_)
                        have ux := (Up.refl wd).alloc (.cells #[.int .i64 xt, .int .i64 xto, .int .i64 xfr, .int .i64 xsq, .int .i64 xkd, .int .i64 xdt] 74)
                        have VA := Lib.hid (own_oneE wd w.heap.size ⟨xt, xto, xfr, xsq, xkd, xdt⟩ MX.out.size)
                        have LA := BA.out.lt
                        go_simp
                        replace B7 := Lib.hid (B7.out.up ux)
                        replace B4 := Lib.hid (B4.out.up ux)
                        replace B6 := Lib.hid (B6.out.up ux)
                        replace SQ := Lib.hid (SQ.out.up ux)
                        replace RX := Lib.hid (RX.out.up ux)
                        replace MX := Lib.hid (MX.out.trans (ux.mv g))
                        replace BA := Lib.hid (BA.out.up ux)
                        refine hK _ _ BA.out ?_; clear hK K ux
                        generalize wd.alloc (.cells #[.int .i64 xt, .int .i64 xto, .int .i64 xfr, .int .i64 xsq, .int .i64 xkd, .int .i64 xdt] 74) = wB at *
                        generalize wd.heap.size = bE at *
                        have UA := Lib.hid (Up.refl wB)
                        have RW := Lib.hid (Reads.of_own SQ.out.o2)
                        have hne : ga ≠ bE := by omega
                        refine hWalk_one (i := 7) (by kernel_rfl) (next_mk rfl (by rfl) (fun K hK => ?_)); refine wp_append_any (P := Try.prog) wB (.tmp 36) (.tmp 38) 34 rfl w.heap.size 74 iE _ 6 48 Try.underlying34 INF6.out.1 INF6.out.2.1 INF6.out.2.2.1 INF6.out.2.2.2 rfl (by omega) (.slice (some ⟨bE, 0, none⟩) 1 1) 1 (flat [⟨xt, xto, xfr, xsq, xkd, xdt⟩]) (by go_simp) VA.out wB.heap.size (some ⟨ga, 0, none⟩) nw cw (flat s.wait) (by go_simp) RW.out (flat_one _) (by simp only [maxLen]; omega) (by omega) MX.out.size ?_; intro v6 w6 ho6 hg6 _
                        have XA : Hid (Blk w6 ga 74 arr) := Lib.hid ((hg6.block ga BA.out.lt (fun e => hne (show ga = bE from Option.some.inj e))).trans BA.out)
                        obtain ⟨A9, c9, rfl⟩ := own_formP ho6 (by omega)
                        have X7 := Lib.hid (blk_grown B7.out VA.out hg6 (by decide))
                        have X6 := Lib.hid (blk_grown B6.out VA.out hg6 (by decide))
                        have PU := SQ.out.cons2 UA.out VA.out ho6 hg6
                        have SQn := Lib.hid (PU.far (o := 1) (u := .slice A9 (1 + nw) c9) X7.out (by decide))
                        have B7n := Lib.hid (X7.out.set 1 (.slice A9 (1 + nw) c9))
                        have B6n := Lib.hid (X6.out.far (b' := b7) 1 (.slice A9 (1 + nw) c9) (by have := L7.out; omega))
                        have RXn := Lib.hid ((RX.out.grownR hg6 (fun x hx => by have := own_geR VA.out x hx; omega)).setCell (p := ⟨b7, 1, none⟩) (by have := L7.out; dsimp only; omega) (.slice A9 (1 + nw) c9))
                        have MXn := Lib.hid ((MX.out.grownR hg6 (fun x hx => own_geR VA.out x hx)).far (b := b7) (o := 1) (.slice A9 (1 + nw) c9) (by have := L7.out; omega))
                        clear PU ho6 hg6; refine hK _ _ XA.out ?_; clear hK K; refine hWalk_take 8 (by kernel_rfl) rfl (by rfl) ?_; apply Exists.intro; refine ⟨fun w1 hS1 => ?_, ?_⟩
                        · clear hS1
                          go_simp
                          try rfl
                        go_simp; obtain ⟨c0, c1, c2⟩ := And.intro (X7.out.cell (j := 0) rfl) (And.intro (X7.out.cell (j := 1) rfl) (X7.out.cell (j := 2) rfl))
                        have l7 := X7.out.lt
                        have f7 := X7.out.frozen
                        refine hWalk_one (i := 9) (by kernel_rfl) (next_mk rfl (by rfl) (fun K hK => ?_)); go_simp; refine hK _ _ (XA.out.far (b' := b7) 1 (.slice A9 (1 + nw) c9) nA) ?_; clear hK K c0 c1 c2 l7 f7; refine hWalk_nil (by kernel_rfl) ?_
                        replace B7 := B7n
                        replace B6 := B6n
                        replace SQ := SQn
                        replace RX := RXn
                        replace MX := MXn
                        obtain ⟨f0, f1, f2⟩ := And.intro (B7.out.cell (j := 0) rfl) (And.intro (B7.out.cell (j := 1) rfl) (B7.out.cell (j := 2) rfl))
                        have g7 := B7.out.lt
                        obtain ⟨d0, d1, d2⟩ := And.intro (B6.out.cell (j := 0) rfl) (And.intro (B6.out.cell (j := 1) rfl) (B6.out.cell (j := 2) rfl))
                        have g6 := B6.out.lt
                        have fr6 := B6.out.frozen
                        have Q6 := Lib.hid (((B6.out.set 0 (.slice Ac nc cc)).set 1 (.slice A9 (1 + nw) c9)).set 2 (.slice Al nl cl))
                        have S1 := SQ.out.far (o := 0) (u := .slice Ac nc cc) B6.out (by decide)
                        have S2 := S1.far (o := 1) (u := .slice A9 (1 + nw) c9) (B6.out.set 0 _) (by decide)
                        have S3 := Lib.hid (S2.far (o := 2) (u := .slice Al nl cl) ((B6.out.set 0 _).set 1 _) (by decide))
                        have RX3 := Lib.hid (((RX.out.setCell (p := ⟨w.heap.size + 1, 0, none⟩) (by dsimp only; omega) (.slice Ac nc cc)).setCell (p := ⟨w.heap.size + 1, 1, none⟩) (by dsimp only; omega) (.slice A9 (1 + nw) c9)).setCell (p := ⟨w.heap.size + 1, 2, none⟩) (by dsimp only; omega) (.slice Al nl cl))
                        have MX3 := Lib.hid (((MX.out.far (b := w.heap.size + 1) (o := 0) (.slice Ac nc cc) (by omega)).far (b := w.heap.size + 1) (o := 1) (.slice A9 (1 + nw) c9) (by omega)).far (b := w.heap.size + 1) (o := 2) (.slice Al nl cl) (by omega))
                        have k0 := Q6.out.cell (j := 0) rfl
                        have k1 := Q6.out.cell (j := 1) rfl
                        have k2 := Q6.out.cell (j := 2) rfl
                        clear S1 S2; go_wp2
                        exact bodyPost_ret (v := .agg #[.slice Ac nc cc, .slice A9 (1 + nw) c9, .slice Al nl cl]) (by simp [results, Try.results141, go_sem, k0, k1, k2]) rfl ⟨_, _, _, _, _, _, _, _, _, _, rfl, S3.out, by omega, RX3.out.mono (by omega), MX3.out⟩
                  · refine next_mk rfl (by rfl) (fun K hK => ?_)
                    obtain ⟨c0, c1, c2⟩ := And.intro (B7.out.cell (j := 0) rfl) (And.intro (B7.out.cell (j := 1) rfl) (B7.out.cell (j := 2) rfl))
                    have l7 := B7.out.lt
                    go_simp; refine hK _ _ BA.out ?_; clear hK K c0 c1 c2 l7; refine hWalk_one (i := 1) (by kernel_rfl) ?_
                    · refine next_mk rfl (by rfl) (fun K hK => ?_)
                      obtain ⟨c0, c1, c2⟩ := And.intro (B7.out.cell (j := 0) rfl) (And.intro (B7.out.cell (j := 1) rfl) (B7.out.cell (j := 2) rfl))
                      have l7 := B7.out.lt
                      go_simp; refine hK _ _ BA.out ?_; clear hK K c0 c1 c2 l7; refine hWalk_take 2 (by kernel_rfl) rfl (by rfl) ?_; apply Exists.intro; refine ⟨fun w1 hS1 => ?_, ?_⟩
                      · clear hS1
                        go_simp
                        try rfl
                      go_simp; refine hWalk_take 3 (by kernel_rfl) rfl (by rfl) ?_; apply Exists.intro; refine ⟨fun w1 hS1 => ?_, ?_⟩
                      · have e0 := hS1.cell (j := 6) a0
                        have e1 := hS1.cell (j := 7) a1
                        have e2 := hS1.cell (j := 8) a2
                        have e3 := hS1.cell (j := 9) a3
                        have e4 := hS1.cell (j := 10) a4
                        have e5 := hS1.cell (j := 11) a5
                        have lm := hS1.lt
                        clear hS1; go_simp
                        try rfl
                      go_simp; refine hWalk_one (i := 4) (by kernel_rfl) ?_
                      · refine next_mk rfl (by rfl) (fun K hK => ?_)
                        have ux := (Up.refl wd).alloc (.cells #[.int .i64 xt, .int .i64 xto, .int .i64 xfr, .int .i64 xsq, .int .i64 xkd, .int .i64 xdt] 74)
                        have VA := Lib.hid (own_oneE wd w.heap.size ⟨xt, xto, xfr, xsq, xkd, xdt⟩ MX.out.size)
                        have LA := BA.out.lt
                        go_simp
                        replace B7 := Lib.hid (B7.out.up ux)
                        replace B4 := Lib.hid (B4.out.up ux)
                        replace B6 := Lib.hid (B6.out.up ux)
                        replace SQ := Lib.hid (SQ.out.up ux)
                        replace RX := Lib.hid (RX.out.up ux)
                        replace MX := Lib.hid (MX.out.trans (ux.mv g))
                        replace BA := Lib.hid (BA.out.up ux)
                        refine hK _ _ BA.out ?_; clear hK K ux
                        generalize wd.alloc (.cells #[.int .i64 xt, .int .i64 xto, .int .i64 xfr, .int .i64 xsq, .int .i64 xkd, .int .i64 xdt] 74) = wB at *
                        generalize wd.heap.size = bE at *
                        have UA := Lib.hid (Up.refl wB)
                        have RW := Lib.hid (Reads.of_own SQ.out.o2)
                        have hne : ga ≠ bE := by omega
                        refine hWalk_one (i := 7) (by kernel_rfl) (next_mk rfl (by rfl) (fun K hK => ?_)); refine wp_append_any (P := Try.prog) wB (.tmp 36) (.tmp 38) 34 rfl w.heap.size 74 iE _ 6 48 Try.underlying34 INF6.out.1 INF6.out.2.1 INF6.out.2.2.1 INF6.out.2.2.2 rfl (by omega) (.slice (some ⟨bE, 0, none⟩) 1 1) 1 (flat [⟨xt, xto, xfr, xsq, xkd, xdt⟩]) (by go_simp) VA.out wB.heap.size (some ⟨ga, 0, none⟩) nw cw (flat s.wait) (by go_simp) RW.out (flat_one _) (by simp only [maxLen]; omega) (by omega) MX.out.size ?_; intro v6 w6 ho6 hg6 _
                        have XA : Hid (Blk w6 ga 74 arr) := Lib.hid ((hg6.block ga BA.out.lt (fun e => hne (show ga = bE from Option.some.inj e))).trans BA.out)
                        obtain ⟨A9, c9, rfl⟩ := own_formP ho6 (by omega)
                        have X7 := Lib.hid (blk_grown B7.out VA.out hg6 (by decide))
                        have X6 := Lib.hid (blk_grown B6.out VA.out hg6 (by decide))
                        have PU := SQ.out.cons2 UA.out VA.out ho6 hg6
                        have SQn := Lib.hid (PU.far (o := 1) (u := .slice A9 (1 + nw) c9) X7.out (by decide))
                        have B7n := Lib.hid (X7.out.set 1 (.slice A9 (1 + nw) c9))
                        have B6n := Lib.hid (X6.out.far (b' := b7) 1 (.slice A9 (1 + nw) c9) (by have := L7.out; omega))
                        have RXn := Lib.hid ((RX.out.grownR hg6 (fun x hx => by have := own_geR VA.out x hx; omega)).setCell (p := ⟨b7, 1, none⟩) (by have := L7.out; dsimp only; omega) (.slice A9 (1 + nw) c9))
                        have MXn := Lib.hid ((MX.out.grownR hg6 (fun x hx => own_geR VA.out x hx)).far (b := b7) (o := 1) (.slice A9 (1 + nw) c9) (by have := L7.out; omega))
                        clear PU ho6 hg6; refine hK _ _ XA.out ?_; clear hK K; refine hWalk_take 8 (by kernel_rfl) rfl (by rfl) ?_; apply Exists.intro; refine ⟨fun w1 hS1 => ?_, ?_⟩
                        · clear hS1
                          go_simp
                          try rfl
                        go_simp; obtain ⟨c0, c1, c2⟩ := And.intro (X7.out.cell (j := 0) rfl) (And.intro (X7.out.cell (j := 1) rfl) (X7.out.cell (j := 2) rfl))
                        have l7 := X7.out.lt
                        have f7 := X7.out.frozen
                        refine hWalk_one (i := 9) (by kernel_rfl) (next_mk rfl (by rfl) (fun K hK => ?_)); go_simp; refine hK _ _ (XA.out.far (b' := b7) 1 (.slice A9 (1 + nw) c9) nA) ?_; clear hK K c0 c1 c2 l7 f7; refine hWalk_nil (by kernel_rfl) ?_
                        replace B7 := B7n
                        replace B6 := B6n
                        replace SQ := SQn
                        replace RX := RXn
                        replace MX := MXn
                        obtain ⟨f0, f1, f2⟩ := And.intro (B7.out.cell (j := 0) rfl) (And.intro (B7.out.cell (j := 1) rfl) (B7.out.cell (j := 2) rfl))
                        have g7 := B7.out.lt
                        obtain ⟨d0, d1, d2⟩ := And.intro (B6.out.cell (j := 0) rfl) (And.intro (B6.out.cell (j := 1) rfl) (B6.out.cell (j := 2) rfl))
                        have g6 := B6.out.lt
                        have fr6 := B6.out.frozen
                        have Q6 := Lib.hid (((B6.out.set 0 (.slice Ac nc cc)).set 1 (.slice A9 (1 + nw) c9)).set 2 (.slice Al nl cl))
                        have S1 := SQ.out.far (o := 0) (u := .slice Ac nc cc) B6.out (by decide)
                        have S2 := S1.far (o := 1) (u := .slice A9 (1 + nw) c9) (B6.out.set 0 _) (by decide)
                        have S3 := Lib.hid (S2.far (o := 2) (u := .slice Al nl cl) ((B6.out.set 0 _).set 1 _) (by decide))
                        have RX3 := Lib.hid (((RX.out.setCell (p := ⟨w.heap.size + 1, 0, none⟩) (by dsimp only; omega) (.slice Ac nc cc)).setCell (p := ⟨w.heap.size + 1, 1, none⟩) (by dsimp only; omega) (.slice A9 (1 + nw) c9)).setCell (p := ⟨w.heap.size + 1, 2, none⟩) (by dsimp only; omega) (.slice Al nl cl))
                        have MX3 := Lib.hid (((MX.out.far (b := w.heap.size + 1) (o := 0) (.slice Ac nc cc) (by omega)).far (b := w.heap.size + 1) (o := 1) (.slice A9 (1 + nw) c9) (by omega)).far (b := w.heap.size + 1) (o := 2) (.slice Al nl cl) (by omega))
                        have k0 := Q6.out.cell (j := 0) rfl
                        have k1 := Q6.out.cell (j := 1) rfl
                        have k2 := Q6.out.cell (j := 2) rfl
                        clear S1 S2; go_wp2
                        exact bodyPost_ret (v := .agg #[.slice Ac nc cc, .slice A9 (1 + nw) c9, .slice Al nl cl]) (by simp [results, Try.results141, go_sem, k0, k1, k2]) rfl ⟨_, _, _, _, _, _, _, _, _, _, rfl, S3.out, by omega, RX3.out.mono (by omega), MX3.out⟩
                · have i9 : ¬ (1 : Int) < nw := by omega
                  obtain ⟨f0, f1, f2⟩ := And.intro (B7.out.cell (j := 0) rfl) (And.intro (B7.out.cell (j := 1) rfl) (B7.out.cell (j := 2) rfl))
                  have g7 := B7.out.lt
                  obtain ⟨d0, d1, d2⟩ := And.intro (B6.out.cell (j := 0) rfl) (And.intro (B6.out.cell (j := 1) rfl) (B6.out.cell (j := 2) rfl))
                  have g6 := B6.out.lt
                  have fr6 := B6.out.frozen
                  have Q6 := Lib.hid (((B6.out.set 0 (.slice Ac nc cc)).set 1 (.slice Aw nw cw)).set 2 (.slice Al nl cl))
                  have S1 := SQ.out.far (o := 0) (u := .slice Ac nc cc) B6.out (by decide)
                  have S2 := S1.far (o := 1) (u := .slice Aw nw cw) (B6.out.set 0 _) (by decide)
                  have S3 := Lib.hid (S2.far (o := 2) (u := .slice Al nl cl) ((B6.out.set 0 _).set 1 _) (by decide))
                  have RX3 := Lib.hid (((RX.out.setCell (p := ⟨w.heap.size + 1, 0, none⟩) (by dsimp only; omega) (.slice Ac nc cc)).setCell (p := ⟨w.heap.size + 1, 1, none⟩) (by dsimp only; omega) (.slice Aw nw cw)).setCell (p := ⟨w.heap.size + 1, 2, none⟩) (by dsimp only; omega) (.slice Al nl cl))
                  have MX3 := Lib.hid (((MX.out.far (b := w.heap.size + 1) (o := 0) (.slice Ac nc cc) (by omega)).far (b := w.heap.size + 1) (o := 1) (.slice Aw nw cw) (by omega)).far (b := w.heap.size + 1) (o := 2) (.slice Al nl cl) (by omega))
                  have k0 := Q6.out.cell (j := 0) rfl
                  have k1 := Q6.out.cell (j := 1) rfl
                  have k2 := Q6.out.cell (j := 2) rfl
                  clear S1 S2; go_wp2
                  exact bodyPost_ret (v := .agg #[.slice Ac nc cc, .slice Aw nw cw, .slice Al nl cl]) (by simp [results, Try.results141, go_sem, k0, k1, k2]) rfl ⟨Ac, nc, cc, Aw, nw, cw, Al, nl, cl, s, rfl, S3.out, by omega, RX3.out.mono (by omega), MX3.out⟩
end Go.Proofs.Ytklldniapombiaa

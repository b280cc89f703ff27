/-
  What FnEvtTake returns, in one sentence: true, with new blocks alone; for every code.
-/
import Derived.Test.YtodbdehnindlbaaDrawTake
import Derived.Test.YtodbdehnindlbaaSTake
import Derived.Test.YtodbdehnindlbaaTbEvts
import Derived.Test.YtodbdehnindlbaaOk
namespace Go.Proofs.Ytodbdehnindlbaa
open Go.RowKit

theorem TakePost.cases {e : Evt} {es : List Evt} {w w' : World} {x : Ending} (h : TakePost e es w x w') :
    ∃ r fs q A c b, x = .returned (.tuple #[.slice A q c, .bool b]) ∧ IsAt e es r ∧ outE es r = fs ∧ fs.length = q ∧ decide (0 ≤ r) = b ∧ q ≤ c ∧ c ≤ 9223372036854775807 ∧ Evs w' A q fs ∧ Up w w' := by
  obtain ⟨r, A, c, hat, hx, hc, hm, ho, u⟩ := h
  exact ⟨r, _, _, A, c, _, hx, hat, rfl, rfl, rfl, hc, hm, own_evs ho, u⟩

/-- What the law's own search keeps: the first place behind k. -/
def Back (e : Evt) (es : List Evt) (m : Nat) (k : Int) (a : Int) : Prop :=
  (a = -1 ∧ ∀ j : Nat, k < j → j < m → eqB (es.getD j default) e = false) ∨
  (∃ i : Nat, a = i ∧ k < i ∧ i < m ∧ eqB (es.getD i default) e = true ∧ ∀ j : Nat, k < j → j < i → eqB (es.getD j default) e = false)
theorem Back.at_ {e : Evt} {es : List Evt} {m : Nat} {k a : Int} (h : Back e es m k a) (hl : es.length = m) (hk : k = -1) : IsAt e es a := by
  subst hl hk
  rcases h with ⟨rfl, hn⟩ | ⟨i, rfl, _, hi, he, hn⟩
  · exact .inr ⟨rfl, fun j hj => hn j (by omega) hj⟩
  · exact .inl ⟨i, rfl, hi, he, fun j hj => hn j (by omega) hj⟩
theorem Back.hit {e : Evt} {es : List Evt} {m k : Nat} (hk : k < m) (he : eqB (es.getD k default) e = true) : Back e es m ((k : Int) - 1) k :=
  .inr ⟨k, rfl, by omega, hk, he, fun j h1 h2 => by omega⟩
theorem Back.miss {e : Evt} {es : List Evt} {m k : Nat} {a : Int} (h : Back e es m k a) (he : eqB (es.getD k default) e = false) : Back e es m ((k : Int) - 1) a := by
  have f : ∀ j : Nat, (k : Int) - 1 < j → (k : Int) < j ∨ j = k := fun j hj => by omega
  rcases h with ⟨rfl, hn⟩ | ⟨i, rfl, hi, him, hx, hn⟩
  · refine .inl ⟨rfl, fun j h1 h2 => ?_⟩
    rcases f j h1 with h | rfl
    · exact hn j h h2
    · exact he
  · refine .inr ⟨i, rfl, by omega, him, hx, fun j h1 h2 => ?_⟩
    rcases f j h1 with h | rfl
    · exact hn j h h2
    · exact he

set_option maxRecDepth 100000 in
set_option maxHeartbeats 40000000 in
theorem walkTake {w : World} (A : Option Addr) (n cap : Nat) (hc : n ≤ cap) (hmax : cap ≤ 9223372036854775807) (hB : Bys w A n w.heap.size) :
    Calls Try.prog 7 #[.slice A n cap] w fun x w' => x = .returned (.bool true) ∧ Up w w' := by
  obtain ⟨i0, hi0, hz0, hz1, hz2⟩ := info_parts info24
  have INF := Lib.hid (And.intro hi0 (And.intro hz0 (And.intro hz1 hz2)))
  have SIX := Lib.hid (show 0 < 6 by omega)
  clear hi0 hz0 hz1 hz2
  have HB := Lib.hid hB
  clear hB
  by_cases h : 1048576 < n
  · have h' : (1048576 : Int) < n := by omega
    go_enter Try.func7, Try.ntmps7
    go_wp2
    go_ret
    exact ⟨rfl, Up.refl _⟩
  · have h' : ¬ (1048576 : Int) < n := by omega
    go_enter Try.func7, Try.ntmps7
    go_wp2_with fail
    refine (drawTake_any A n cap _ hc hmax HB.out).mono ?_
    rintro x w1 ⟨es, ⟨et, eto, efr, esq, ekd, edt⟩, A1, c1, rfl, hl7, hc1, hm1, hE1, -, u1⟩
    unfold Evt.v
    dsimp only
    have LE := Lib.hid hE1.1
    generalize hm' : es.length = m at *
    have HM := Lib.hid hm'
    clear hm' LE
    have U1 := Lib.hid (Up.alloc u1 (.cells #[.int .i64 et, .int .i64 eto, .int .i64 efr, .int .i64 esq, .int .i64 ekd, .int .i64 edt] 24))
    have E1 := Lib.hid (hE1.up ((Up.refl w1).alloc (.cells #[.int .i64 et, .int .i64 eto, .int .i64 efr, .int .i64 esq, .int .i64 ekd, .int .i64 edt] 24)))
    have F1 := Lib.hid (Box.new w1 ⟨et, eto, efr, esq, ekd, edt⟩ 24)
    have CI := Lib.hid (fun W h => implTake_any A1 m c1 es ⟨et, eto, efr, esq, ekd, edt⟩ W (by omega) hc1 hm1 h)
    have CS := Lib.hid (fun W h => specTake_any A1 m c1 es ⟨et, eto, efr, esq, ekd, edt⟩ W (by omega) hc1 hm1 h)
    have CE := Lib.hid (fun x W => eql_evt x ⟨et, eto, efr, esq, ekd, edt⟩ W)
    unfold Evt.v at CI CS CE
    dsimp only at CI CS CE
    have gd := guard_evt
    clear hE1 u1
    go_wp2_with fail
    generalize hW : w1.alloc (.cells #[.int .i64 et, .int .i64 eto, .int .i64 efr, .int .i64 esq, .int .i64 ekd, .int .i64 edt] 24) = W at U1 E1 F1 ⊢
    generalize hb0 : w1.heap.size = b0 at F1 ⊢
    clear hW hb0
    refine (CI.out _ E1.out).mono ?_
    rintro x w2 h2
    obtain ⟨r, fs, q, Ax, cx, b, rfl, hat, hf, hq, hb, hqc, hcm, hEx, u2⟩ := h2.cases
    have HAT := Lib.hid hat
    have HF := Lib.hid hf
    have HQ := Lib.hid hq
    have HBB := Lib.hid hb
    have U2 := Lib.hid u2
    have EX2 := Lib.hid hEx
    have hq7 : q ≤ 7 := by have := outE_le es r; rw [HF.out, HQ.out, HM.out] at this; omega
    clear h2 hat hf hq hb hEx u2
    have bx := F1.out.up U2.out
    obtain ⟨⟨p0, p1, p2, p3, p4, p5⟩, -⟩ := bx.mk6
    go_wp2_with fail
    refine (CS.out _ (E1.out.up U2.out)).mono ?_
    rintro x w3 h3
    obtain ⟨r', fs', q', Ay, cy, b', rfl, hat, hf, hq, hb, hqc', hcm', hEy, u3⟩ := h3.cases
    obtain rfl : r' = r := hat.one HAT.out
    obtain rfl : fs' = fs := hf.symm.trans HF.out
    obtain rfl : q' = q := hq.symm.trans HQ.out
    obtain rfl : b' = b := hb.symm.trans HBB.out
    have U3 := Lib.hid (U2.out.trans u3)
    have EX3 := Lib.hid (EX2.out.up u3)
    have EY3 := Lib.hid hEy
    clear h3 hat hf hq hb hEy u3 bx p0 p1 p2 p3 p4 p5 EX2 U2 CI CS
    have bne0 : (b' != b') = false := by cases b' <;> rfl
    have beq1 : (b' == b') = true := by cases b' <;> rfl
    go_wp2_with fail
    refine (tbEvts_any _ _ q' q' cx cy fs' fs' _ (by omega) EX3.out EY3.out).mono ?_
    rw [decide_eq_true (rfl : fs' = fs')]
    rintro x w4 ⟨rfl, u4⟩
    have U4 := Lib.hid (U3.out.trans u4)
    have EX := Lib.hid (EX3.out.up u4)
    have i1 : IntKind.i64.wrap ((m : Int) - 1) = (m : Int) - 1 := IntWalk.i64_in _ (by omega)
    clear u4 U3 EX3 EY3
    go_wp2_with fail
    go_loopw [9, 10] (fun a i wr => (∃ (x k : Int), a = .int .i64 x ∧ i = .int .i64 k ∧ -1 ≤ k ∧ k < m ∧ Back ⟨et, eto, efr, esq, ekd, edt⟩ es m k x) ∧ Up w4 wr) (fun _ i _ => (intOf i + 1).toNat)
    case atStart => exact ⟨⟨-1, _, rfl, rfl, by omega, by omega, .inl ⟨rfl, fun j h1 h2 => absurd h1 (by omega)⟩⟩, Up.refl _⟩
    case round =>
      obtain ⟨⟨x, k', rfl, rfl, hk1, hk2, hbk⟩, ur4⟩ := hrel
      have BK := Lib.hid hbk
      have UR := Lib.hid (U4.out.trans ur4)
      have UR4 := Lib.hid ur4
      clear hbk ur4 i1
      by_cases hk0 : 0 ≤ k'
      · obtain ⟨k, rfl⟩ := Int.eq_ofNat_of_zero_le hk0
        have hlt : k < m := by omega
        obtain ⟨bb, off, hA, hbb, hcc⟩ := E1.out.2 (by omega)
        subst hA
        have a0 := (hcc k hlt).up UR.out hbb
        have hbb' : bb < wr.heap.size := by have := UR.out.size; omega
        clear hcc
        have ce := CE.out (es.getD k default)
        generalize hxx : es.getD k default = y at a0 ce
        have HX := Lib.hid hxx
        clear hxx
        generalize hq : eqB y ⟨et, eto, efr, esq, ekd, edt⟩ = qq at ce
        have HQQ := Lib.hid hq
        clear hq
        obtain ⟨xt, xto, xfr, xsq, xkd, xdt⟩ := y
        unfold EvAt at a0
        dsimp only at a0 ce
        have bx := F1.out.up UR.out
        have hbx := bx.lt
        obtain ⟨⟨e0, e1, e2, e3, e4, e5⟩, -⟩ := bx.mk6
        obtain ⟨p0, p1, p2, p3, p4, p5⟩ := a0
        have j1 : (0 : Int) ≤ k := by omega
        have j2 : (k : Int) < m := by omega
        have j3 : IntKind.i64.wrap ((k : Int) - 1) = (k : Int) - 1 := IntWalk.i64_in _ (by omega)
        go_wp2_with fail
        refine region_up (by kernel_rfl) (by kernel_rfl) ?_
        refine up_step rfl ?_
        apply Exists.intro
        refine ⟨fun w1 hw1 => ?_, ?_⟩
        · go_simp
          try rfl
        go_simp
        refine up_step rfl ?_
        apply Exists.intro
        refine ⟨fun w1 hw1 => ?_, ?_⟩
        · go_simp
          try rfl
        go_simp
        refine up_step rfl ?_
        apply Exists.intro
        refine ⟨fun w1 hw1 => ?_, ?_⟩
        · go_simp
          try rfl
        go_simp
        refine up_step rfl ?_
        apply Exists.intro
        refine ⟨fun w1 hw1 => ?_, ?_⟩
        · obtain ⟨hc, hf, hz⟩ := hw1.facts
          try simp at hz
          go_simp
          try rfl
        go_simp
        refine up_step rfl ?_
        apply Exists.intro
        refine ⟨fun w1 hw1 => ?_, ?_⟩
        · obtain ⟨hc, hf, hz⟩ := hw1.facts
          try simp at hz
          go_simp
          try rfl
        go_simp
        refine up_step rfl ?_
        apply Exists.intro
        refine ⟨fun w1 hw1 => ?_, ?_⟩
        · go_simp
          try rfl
        go_simp
        refine wpQuiet_nil ?_
        intro wA uA
        have UA := Lib.hid (UR4.out.trans uA)
        clear uA e0 e1 e2 e3 e4 e5 p0 p1 p2 p3 p4 p5 ce bx
        cases qq
        · go_wp2
          go_roundw
          case rel => exact ⟨⟨x, _, rfl, by first | rfl | go_num, by omega, by omega, BK.out.miss (by rw [HX.out]; exact HQQ.out)⟩, UA.out⟩
          case measure => simp [intOf]
        · go_wp2
          go_roundw
          case rel => exact ⟨⟨k, _, rfl, by first | rfl | go_num, by omega, by omega, Back.hit hlt (by rw [HX.out]; exact HQQ.out)⟩, UA.out⟩
          case measure => simp [intOf]
      · have hk' : k' = -1 := by omega
        have hx := (BK.out.at_ HM.out hk').one HAT.out
        subst hx
        have j1 : ¬ (0 : Int) ≤ k' := hk0
        have hr := HAT.out
        clear BK hk1 hk2 hk' hk0
        rcases hr with ⟨k, rfl, hk, -⟩ | ⟨rfl, -⟩
        · rw [HM.out] at hk
          obtain rfl : b' = true := by rw [← HBB.out]; simp
          have i1 : (0 : Int) ≤ k := by omega
          have i2 : (k : Int) ≤ c1 := by omega
          have i3 : ¬ (k : Int) < 0 := by omega
          have i4 : (k : Int) ≤ m := by omega
          have i5 : (0 : Int) ≤ (k : Int) + 1 := by omega
          have i6 : (k : Int) + 1 ≤ c1 := by omega
          have i7 : ((k : Int) + 1).toNat = k + 1 := by omega
          have i8 : (m : Int) ≤ c1 := by omega
          have i10 : (k : Int) + 1 ≤ m := by omega
          have i9 : IntKind.i64.wrap ((k : Int) + 1) = (k : Int) + 1 := IntWalk.i64_in _ (by omega)
          have EX' := Lib.hid (EX.out.up UR4.out)
          clear EX
          go_wp2_with fail
          refine region_mix [(0, true), (1, true), (2, true), (4, true), (5, true), (6, true), (8, true), (9, true), (10, true), (11, true), (3, false), (7, false), (12, false), (13, false), (14, true), (15, true), (16, false), (17, true), (18, true)] (by kernel_rfl) (by kernel_rfl) ?_
          refine mix_take rfl (by rfl) ?_
          apply Exists.intro
          refine ⟨fun w1 => ?_, ?_⟩
          · go_simp
            try rfl
          go_simp
          refine mix_take rfl (by rfl) ?_
          apply Exists.intro
          refine ⟨fun w1 => ?_, ?_⟩
          · go_simp
            try rfl
          go_simp
          refine mix_take rfl (by rfl) ?_
          apply Exists.intro
          refine ⟨fun w1 => ?_, ?_⟩
          · go_simp
            try rfl
          go_simp
          refine mix_take rfl (by rfl) ?_
          apply Exists.intro
          refine ⟨fun w1 => ?_, ?_⟩
          · go_simp
            try rfl
          go_simp
          refine mix_take rfl (by rfl) ?_
          apply Exists.intro
          refine ⟨fun w1 => ?_, ?_⟩
          · go_simp
            try rfl
          go_simp
          refine mix_take rfl (by rfl) ?_
          apply Exists.intro
          refine ⟨fun w1 => ?_, ?_⟩
          · go_simp
            try rfl
          go_simp
          refine mix_take rfl (by rfl) ?_
          apply Exists.intro
          refine ⟨fun w1 => ?_, ?_⟩
          · go_simp
            try rfl
          go_simp
          refine mix_take rfl (by rfl) ?_
          apply Exists.intro
          refine ⟨fun w1 => ?_, ?_⟩
          · go_simp
            try rfl
          go_simp
          refine mix_take rfl (by rfl) ?_
          apply Exists.intro
          refine ⟨fun w1 => ?_, ?_⟩
          · go_simp
            try rfl
          go_simp
          refine mix_take rfl (by rfl) ?_
          apply Exists.intro
          refine ⟨fun w1 => ?_, ?_⟩
          · go_simp
            try rfl
          go_simp
          refine mix_go rfl (by rfl) (fun K hK => ?_)
          go_simp
          refine hK _ _ ?_
          clear hK K
          go_simp
          refine mix_go rfl (by rfl) (fun K hK => ?_)
          have OW1 := Lib.hid (show (wr.drew.alloc (.cells #[] 24)).ownsRow wr.heap.size 24 6 (.slice (some ⟨wr.heap.size, 0, none⟩) 0 0) 0 (flat []) from World.ownsRow_lit (base := wr.heap.size) (e := 24) (size := 6) wr.drew #[] 0 (Nat.le_refl _) (by simp only [maxLen]; omega) (by simp))
          have UA := Lib.hid (UR.out.drew.alloc (.cells #[] 24))
          have RD1 := Lib.hid ((E1.out.up UA.out).front (k := k) (by omega)).reads
          have HMX1 := Lib.hid (show 0 + k ≤ maxLen by simp only [maxLen]; omega)
          have HBY1 := Lib.hid (show (0 + k) * 48 ≤ 140737488355328 by omega)
          have HBS1 := Lib.hid (show wr.heap.size ≤ (wr.drew.alloc (.cells #[] 24)).heap.size by simp)
          refine wp_append_any _ (.tmp 69) (.tmp 72) 34 rfl (wr.heap.size) 24 i0 _ 6 48 Try.underlying34 INF.out.1 INF.out.2.1 INF.out.2.2.1 INF.out.2.2.2 rfl SIX.out _ 0 (flat []) (by rfl) OW1.out _ A1 k c1 (flat (es.take k)) (by rfl) RD1.out (flat_one _) HMX1.out HBY1.out HBS1.out ?_
          intro v5 w5 ho5 hg5 _
          refine hK _ _ ?_
          clear hK K
          have O5 := Lib.hid (show w5.ownsRow wr.heap.size 24 6 v5 k (flat (es.take k)) from by simpa [flat] using ho5)
          have U5 := Lib.hid (UA.out.grown hg5 (fun j hj => by have := (OW1.out.lt j hj).1; have := UR.out.size; omega))
          have V5 := Lib.hid (((Up.refl wr).drew.alloc (.cells #[] 24)).grown hg5 (fun j hj => (OW1.out.lt j hj).1))
          have HS5 := Lib.hid V5.out.size
          clear ho5 hg5 OW1 UA RD1 HMX1 HBY1 HBS1
          go_simp
          refine mix_go rfl (by rfl) (fun K hK => ?_)
          have RD2 := Lib.hid ((E1.out.up U5.out).rest (k := k + 1) (cap := c1) (by omega) (by omega)).reads
          have HMX2 := Lib.hid (show k + (m - (k + 1)) ≤ maxLen by simp only [maxLen]; omega)
          have HBY2 := Lib.hid (show (k + (m - (k + 1))) * 48 ≤ 140737488355328 by omega)
          refine wp_append_any _ (.tmp 73) (.tmp 77) 34 rfl (wr.heap.size) 24 i0 _ 6 48 Try.underlying34 INF.out.1 INF.out.2.1 INF.out.2.2.1 INF.out.2.2.2 rfl SIX.out v5 k (flat (es.take k)) (by rfl) O5.out _ _ (m - (k + 1)) (c1 - (k + 1)) (flat (es.drop (k + 1))) (by rfl) RD2.out (flat_one _) HMX2.out HBY2.out HS5.out ?_
          intro v6 w6 ho6 hg6 _
          refine hK _ _ ?_
          clear hK K
          have O6 := ho6
          rw [← flat_app] at O6
          have U6 := Lib.hid (U5.out.grown hg6 (fun j hj => by have := (O5.out.lt j hj).1; have := UR.out.size; omega))
          have V6 := Lib.hid (V5.out.grown hg6 (fun j hj => (O5.out.lt j hj).1))
          obtain ⟨hn6, A6, c6, rfl, hc6, hm6⟩ := own_slice O6
          have C6 := tbEvts_any Ax A6 q' _ cx c6 fs' (es.take k ++ es.drop (k + 1)) w6 (by omega) (EX'.out.up V6.out) (own_evs O6)
          rw [decide_eq_true (HF.out.symm.trans (outE_at es k))] at C6
          have C6' := Lib.hid C6
          clear ho6 hg6 RD2 HMX2 HBY2 hn6 hc6 hm6 O6 C6
          go_simp
          refine mix_go rfl (by rfl) (fun K hK => ?_)
          go_simp
          refine (C6'.out).mono ?_
          rintro x w7 ⟨rfl, u7⟩
          refine hK _ _ ?_
          clear hK K
          have U7 := Lib.hid (U6.out.trans u7)
          clear u7 C6'
          go_simp
          refine mix_take rfl (by rfl) ?_
          apply Exists.intro
          refine ⟨fun w1 => ?_, ?_⟩
          · go_simp
            try rfl
          go_simp
          refine mix_take rfl (by rfl) ?_
          apply Exists.intro
          refine ⟨fun w1 => ?_, ?_⟩
          · go_simp
            try rfl
          go_simp
          refine mix_go rfl (by rfl) (fun K hK => ?_)
          go_simp
          refine (tbOk_any _).mono ?_
          rintro x w8 ⟨rfl, u8⟩
          refine hK _ _ ?_
          clear hK K
          have U8 := Lib.hid (U7.out.trans u8)
          clear u8
          go_simp
          refine mix_take rfl (by rfl) ?_
          apply Exists.intro
          refine ⟨fun w1 => ?_, ?_⟩
          · go_simp
            try rfl
          go_simp
          refine mix_take rfl (by rfl) ?_
          apply Exists.intro
          refine ⟨fun w1 => ?_, ?_⟩
          · go_simp
            try rfl
          go_simp
          refine mix_nil ?_
          go_wp2
          all_goals
            go_ret
            exact ⟨rfl, U1.out.trans U8.out⟩
        · obtain rfl : b' = false := by rw [← HBB.out]; rfl
          obtain rfl : fs' = es := HF.out.symm
          obtain rfl : q' = m := HQ.out.symm.trans HM.out
          have C5 := tbEvts_any Ax A1 q' q' cx c1 fs' fs' wr (by omega) (EX.out.up UR4.out) (E1.out.up UR.out)
          rw [decide_eq_true (rfl : fs' = fs')] at C5
          have C5' := Lib.hid C5
          clear C5
          go_wp2_with fail
          refine C5'.out.mono ?_
          rintro x w5 ⟨rfl, u5⟩
          have U5 := Lib.hid (UR.out.trans u5)
          clear u5
          go_wp2_with fail
          refine (tbOk_any _).mono ?_
          rintro x w6 ⟨rfl, u6⟩
          go_wp2
          go_ret
          exact ⟨rfl, U1.out.trans (U5.out.trans u6)⟩

end Go.Proofs.Ytodbdehnindlbaa

/-
  What FnEvtPut returns, in one sentence: true, with new blocks alone; for every code.
-/
import Derived.Test.YtkfjemgelmbcfaaDrawPut
import Derived.Test.YtkfjemgelmbcfaaIPut
import Derived.Test.YtkfjemgelmbcfaaPutFacts
import Derived.Test.YtkfjemgelmbcfaaTbEvts
import Derived.Test.YtkfjemgelmbcfaaOk
namespace Go.Proofs.Ytkfjemgelmbcfaa
set_option maxRecDepth 100000
open Go.RowKit

theorem TakePost.parts {e : Evt} {es : List Evt} {w w' : World} {x : Ending} (h : TakePost e es w x w') :
    ∃ r fs q A c b, x = .returned (.tuple #[.slice A q c, .bool b]) ∧ IsAt e es r ∧ outE es r = fs ∧ fs.length = q ∧ decide (0 ≤ r) = b ∧ q ≤ c ∧ c ≤ 9223372036854775807 ∧ Evs w' A q fs ∧ Up w w' := by
  obtain ⟨r, A, c, hat, hx, hc, hm, ho, u⟩ := h
  exact ⟨r, _, _, A, c, _, hx, hat, rfl, rfl, rfl, hc, hm, own_evs ho, u⟩

set_option maxHeartbeats 40000000 in
theorem walkPut {w : World} (A : Option Addr) (n cap : Nat) (hc : n ≤ cap) (hmax : cap ≤ 9223372036854775807) (hB : Bys w A n w.heap.size) :
    Calls Try.prog 7 #[.slice A n cap] w fun x w' => x = .returned (.bool true) ∧ Up w w' := by
  have HB := Lib.hid hB
  clear hB
  by_cases h : 1048576 < n
  · have h' : (1048576 : Int) < n := by omega
    go_enter Try.func7, Try.ntmps7
    go_wp2
    go_ret
    exact ⟨rfl, Up.refl _⟩
  · have h' : ¬ (1048576 : Int) < n := by omega
    go_enter Try.func7, Try.ntmps7
    go_wp2_with fail
    refine (drawPut_any A n cap _ hc hmax HB.out).mono ?_
    rintro x w1 ⟨es, ⟨et, eto, efr, esq, ekd, edt⟩, A1, c1, rfl, hl7, hc1, hm1, hE1, -, u1⟩
    unfold Evt.v
    dsimp only
    have NEW := Lib.hid (ins_new ⟨et, eto, efr, esq, ekd, edt⟩ es)
    have OLD := Lib.hid (ins_old ⟨et, eto, efr, esq, ekd, edt⟩ es)
    have BACK := Lib.hid (fun hn r (hr : IsAt _ _ r) => ins_back ⟨et, eto, efr, esq, ekd, edt⟩ es hn hr)
    generalize hm' : es.length = m at *
    have HM := Lib.hid hm'
    clear hm'
    have U1 := Lib.hid (Up.alloc u1 (.cells #[.int .i64 et, .int .i64 eto, .int .i64 efr, .int .i64 esq, .int .i64 ekd, .int .i64 edt] 50))
    have E1 := Lib.hid (hE1.up ((Up.refl w1).alloc (.cells #[.int .i64 et, .int .i64 eto, .int .i64 efr, .int .i64 esq, .int .i64 ekd, .int .i64 edt] 50)))
    have F1 := Lib.hid (Box.new w1 ⟨et, eto, efr, esq, ekd, edt⟩ 50)
    have CI := Lib.hid (fun W h => implPut_any A1 m c1 es ⟨et, eto, efr, esq, ekd, edt⟩ W (by omega) h)
    have CS := Lib.hid (fun W h => specPut_any A1 m c1 es ⟨et, eto, efr, esq, ekd, edt⟩ W (by omega) h)
    have RI := Lib.hid (fun W h => implRise_any A1 m c1 es W (by omega) h)
    have RS := Lib.hid (fun W h => specRise_any A1 m c1 es W (by omega) h)
    have CE := Lib.hid (fun x W => eql_evt x ⟨et, eto, efr, esq, ekd, edt⟩ W)
    generalize riseB es = r at CI CS RI RS NEW OLD
    generalize ins ⟨et, eto, efr, esq, ekd, edt⟩ es = gs at CI CS NEW OLD BACK
    unfold Evt.v at CI CS CE
    dsimp only at CI CS CE
    have gd := guard_evt
    clear hE1 u1
    go_wp2_with fail
    generalize hW : w1.alloc (.cells #[.int .i64 et, .int .i64 eto, .int .i64 efr, .int .i64 esq, .int .i64 ekd, .int .i64 edt] 50) = W at U1 E1 F1 ⊢
    generalize hb0 : w1.heap.size = b0 at F1 ⊢
    clear hW hb0
    refine (CI.out _ E1.out).mono ?_
    rintro x w2 h2
    have bne0 : (r != r) = false := by cases r <;> rfl
    cases r
    · obtain ⟨rfl, u2⟩ := h2.2 rfl
      have U2 := Lib.hid u2
      clear h2 u2
      have bx := F1.out.up U2.out
      obtain ⟨⟨p0, p1, p2, p3, p4, p5⟩, -⟩ := bx.mk6
      go_wp2_with fail
      refine (CS.out _ (E1.out.up U2.out)).mono ?_
      rintro x w3 h3
      obtain ⟨Ay, cy, rfl, -, -, ey, u3⟩ := h3.2 rfl
      have EY := Lib.hid ey
      have U3 := Lib.hid (U2.out.trans u3)
      clear h3 ey u3 bx p0 p1 p2 p3 p4 p5
      go_wp2_with fail
      refine (tbEvts_any none _ 0 0 0 cy [] [] _ (by omega) (Evs.none_ _) EY.out).mono ?_
      rw [decide_eq_true (rfl : ([] : List Evt) = [])]
      rintro x w4 ⟨rfl, u4⟩
      have U4 := Lib.hid (U3.out.trans u4)
      clear u4
      go_wp2_with fail
      refine (RI.out _ (E1.out.up U4.out)).mono ?_
      rintro x w5 ⟨rfl, u5⟩
      have U5 := Lib.hid (U4.out.trans u5)
      clear u5
      go_wp2_with fail
      refine (RS.out _ (E1.out.up U5.out)).mono ?_
      rintro x w6 ⟨rfl, u6⟩
      have U6 := Lib.hid (U5.out.trans u6)
      clear u6
      go_wp2_with fail
      refine (RS.out _ (E1.out.up U6.out)).mono ?_
      rintro x w7 ⟨rfl, u7⟩
      have U7 := Lib.hid (U6.out.trans u7)
      clear u7
      go_wp2_with fail
      refine (tbOk_any _).mono ?_
      rintro x w8 ⟨rfl, u8⟩
      have U8 := Lib.hid (U1.out.trans (U7.out.trans u8))
      clear u8
      go_wp2
      go_ret
      exact ⟨rfl, U8.out⟩
    · obtain ⟨Ax, cx, rfl, hxc, hxm, ex, u2⟩ := h2.1 rfl
      have EX2 := Lib.hid ex
      have U2 := Lib.hid u2
      clear h2 ex u2
      have RX := Lib.hid (fun W h => implRise_any Ax (m + 1) cx gs W (by omega) h)
      have TX := Lib.hid (fun W h => implTake_any Ax (m + 1) cx gs ⟨et, eto, efr, esq, ekd, edt⟩ W (by omega) hxc hxm h)
      unfold Evt.v at TX
      dsimp only at TX
      generalize hs : riseB gs = s at RX NEW OLD
      clear hs
      have bx := F1.out.up U2.out
      obtain ⟨⟨p0, p1, p2, p3, p4, p5⟩, -⟩ := bx.mk6
      go_wp2_with fail
      refine (CS.out _ (E1.out.up U2.out)).mono ?_
      rintro x w3 h3
      obtain ⟨Ay, cy, rfl, -, -, ey, u3⟩ := h3.1 rfl
      have EY := Lib.hid ey
      have EX3 := Lib.hid (EX2.out.up u3)
      have U3 := Lib.hid (U2.out.trans u3)
      clear h3 ey u3 bx p0 p1 p2 p3 p4 p5
      go_wp2_with fail
      refine (tbEvts_any Ax Ay (m + 1) (m + 1) cx cy gs gs _ (by omega) EX3.out EY.out).mono ?_
      rw [decide_eq_true (rfl : gs = gs)]
      rintro x w4 ⟨rfl, u4⟩
      have EX4 := Lib.hid (EX3.out.up u4)
      have U4 := Lib.hid (U3.out.trans u4)
      clear u4
      go_wp2_with fail
      refine (RI.out _ (E1.out.up U4.out)).mono ?_
      rintro x w5 ⟨rfl, u5⟩
      have EX5 := Lib.hid (EX4.out.up u5)
      have U5 := Lib.hid (U4.out.trans u5)
      clear u5
      go_wp2_with fail
      refine (RS.out _ (E1.out.up U5.out)).mono ?_
      rintro x w6 ⟨rfl, u6⟩
      have EX6 := Lib.hid (EX5.out.up u6)
      have U6 := Lib.hid (U5.out.trans u6)
      clear u6
      go_wp2_with fail
      refine (RS.out _ (E1.out.up U6.out)).mono ?_
      rintro x w7 ⟨rfl, u7⟩
      have EX7 := Lib.hid (EX6.out.up u7)
      have U7 := Lib.hid (U6.out.trans u7)
      clear u7 EX2 EX3 EX4 EX5 EX6 U2 U3 U4 U5 U6 EY CI CS RI RS
      have i9 : IntKind.i64.wrap ((m : Int) + 1) = (m : Int) + 1 := IntWalk.i64_in _ (by omega)
      go_wp2_with fail
      go_loopw [6] (fun i wr => (∃ k : Nat, i = .int .i64 k ∧ k ≤ m ∧ Hid (∀ j, j < k → eqB (es.getD j default) ⟨et, eto, efr, esq, ekd, edt⟩ = false)) ∧ Up w7 wr) (fun i _ => m - (intOf i).toNat)
      case atStart => exact ⟨⟨0, rfl, by omega, Lib.hid (fun j h1 => absurd h1 (by omega))⟩, Up.refl _⟩
      case round =>
        obtain ⟨⟨k, rfl, hkm, NO⟩, ur7⟩ := hrel
        have UR := Lib.hid (U7.out.trans ur7)
        have UR7 := Lib.hid ur7
        clear ur7
        by_cases hlt : k < m
        · obtain ⟨bb, off, hA, hbb, hcc⟩ := E1.out.2 (by omega)
          subst hA
          have a0 := (hcc k hlt).up UR.out hbb
          have hbb' : bb < wr.heap.size := by have := UR.out.size; omega
          clear hcc
          have ce := CE.out (es.getD k default)
          generalize hxx : es.getD k default = y at a0 ce
          have HX := Lib.hid hxx
          clear hxx
          generalize hq : eqB y ⟨et, eto, efr, esq, ekd, edt⟩ = qq at ce
          have HQQ := Lib.hid hq
          clear hq
          obtain ⟨xt, xto, xfr, xsq, xkd, xdt⟩ := y
          unfold EvAt at a0
          dsimp only at a0 ce
          have bx := F1.out.up UR.out
          have hbx := bx.lt
          obtain ⟨⟨e0, e1, e2, e3, e4, e5⟩, -⟩ := bx.mk6
          obtain ⟨p0, p1, p2, p3, p4, p5⟩ := a0
          have j2 : (k : Int) < m := by omega
          have j3 : IntKind.i64.wrap ((k : Int) + 1) = (k : Int) + 1 := IntWalk.i64_in _ (by omega)
          go_wp2_with fail
          refine region_up (by kernel_rfl) (by kernel_rfl) ?_
          refine wpQuiet_step (fun K hK => ?_)
          go_simp
          apply Exists.intro
          refine ⟨fun w1 hw1 => ?_, hK _ ?_⟩
          · try go_simp
            try rfl
          clear hK K
          refine wpQuiet_step (fun K hK => ?_)
          go_simp
          apply Exists.intro
          refine ⟨fun w1 hw1 => ?_, hK _ ?_⟩
          · try go_simp
            try rfl
          clear hK K
          refine wpQuiet_step (fun K hK => ?_)
          go_simp
          apply Exists.intro
          refine ⟨fun w1 hw1 => ?_, hK _ ?_⟩
          · try go_simp
            try rfl
          clear hK K
          refine wpQuiet_step (fun K hK => ?_)
          go_simp
          apply Exists.intro
          refine ⟨fun w1 hw1 => ?_, hK _ ?_⟩
          · obtain ⟨hc, hf, hz⟩ := hw1.facts
            try simp at hz
            try go_simp
            try rfl
          clear hK K
          refine wpQuiet_step (fun K hK => ?_)
          go_simp
          apply Exists.intro
          refine ⟨fun w1 hw1 => ?_, hK _ ?_⟩
          · obtain ⟨hc, hf, hz⟩ := hw1.facts
            try simp at hz
            try go_simp
            try rfl
          clear hK K
          refine wpQuiet_step (fun K hK => ?_)
          go_simp
          apply Exists.intro
          refine ⟨fun w1 hw1 => ?_, hK _ ?_⟩
          · try go_simp
            try rfl
          clear hK K
          refine wpQuiet_nil ?_
          intro wA uA
          have UA := Lib.hid (UR7.out.trans uA)
          have EXA := Lib.hid (EX7.out.up UA.out)
          clear uA e0 e1 e2 e3 e4 e5 p0 p1 p2 p3 p4 p5 ce bx
          cases qq
          · go_wp2
            go_roundw
            case rel =>
              refine ⟨⟨k + 1, by first | rfl | go_num, by omega, Lib.hid fun j h1 => ?_⟩, UA.out⟩
              by_cases hjk : j = k
              · subst hjk
                rw [HX.out]
                exact HQQ.out
              · exact NO.out j (by omega)
            case measure => simp [intOf]; omega
          · have hs := OLD.out (by first | trivial | rfl) k hlt (by rw [HX.out]; exact HQQ.out)
            subst hs
            go_wp2_with fail
            refine (RX.out _ EXA.out).mono ?_
            rintro x w8 ⟨rfl, u8⟩
            have U8 := Lib.hid (U1.out.trans (U7.out.trans (UA.out.trans u8)))
            clear u8
            go_wp2
            go_ret
            exact ⟨rfl, U8.out⟩
        · obtain rfl : k = m := by omega
          have hs := NEW.out (by first | trivial | rfl) (fun j hj => NO.out j hj)
          subst hs
          have bx := F1.out.up UR.out
          obtain ⟨⟨p0, p1, p2, p3, p4, p5⟩, -⟩ := bx.mk6
          have EXA := Lib.hid (EX7.out.up UR7.out)
          have i3 : ¬ (k : Int) < k := by omega
          clear EX7
          go_wp2_with fail
          refine (TX.out _ EXA.out).mono ?_
          rintro x w8 h8
          obtain ⟨r', fs, q, At, ct, b, rfl, hat, hf, hq, hb, hqc, hcm, hEt, u8⟩ := h8.parts
          obtain ⟨hf', hb'⟩ := BACK.out (fun j hj => NO.out j hj) r' hat
          obtain rfl : fs = es := hf.symm.trans hf'
          obtain rfl : b = true := hb.symm.trans hb'
          obtain rfl : q = k := hq.symm.trans HM.out
          have ET8 := Lib.hid hEt
          have EX8 := Lib.hid (EXA.out.up u8)
          have U8 := Lib.hid (UR.out.trans u8)
          clear h8 hat hf hq hb hf' hb' hEt u8 bx p0 p1 p2 p3 p4 p5 EXA TX
          go_wp2_with fail
          refine (RX.out _ EX8.out).mono ?_
          rintro x w9 ⟨rfl, u9⟩
          have ET9 := Lib.hid (ET8.out.up u9)
          have U9 := Lib.hid (U8.out.trans u9)
          clear u9 ET8 U8
          go_wp2_with fail
          refine (tbEvts_any _ _ q q ct c1 fs fs _ (by omega) ET9.out (E1.out.up U9.out)).mono ?_
          rw [decide_eq_true (rfl : fs = fs)]
          rintro x wT ⟨rfl, uT⟩
          have UT := Lib.hid (U1.out.trans (U9.out.trans uT))
          clear uT
          go_wp2
          go_ret
          exact ⟨rfl, UT.out⟩

end Go.Proofs.Ytkfjemgelmbcfaa

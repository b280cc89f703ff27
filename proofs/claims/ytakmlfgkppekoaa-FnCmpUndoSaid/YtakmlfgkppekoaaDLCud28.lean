/-
  What spec.RevOk returns, in one sentence: whether the model is valid, the component exists, and a is not 0 in all its rules; for every model that lies in memory and every number.
  What event returns, in one sentence: the event that is sent; for a send, a state and an event in bounds.
-/
import Derived.Test.YtakmlfgkppekoaaDLCud04
import Derived.Test.YtakmlfgkppekoaaDLCud08
import Derived.Test.YtakmlfgkppekoaaDLCud20
import Derived.Test.YtakmlfgkppekoaaDLCud23
import Derived.Test.YtakmlfgkppekoaaDLCud24
namespace Go.Proofs.Ytakmlfgkppekoaa
set_option maxRecDepth 100000
open Go.RowKit
theorem l1In_upR (v lo hi : Int) (W : World) : Calls Try.prog 64 #[.int .i64 v, .int .i64 lo, .int .i64 hi] W fun x w' => x = .returned (.bool (inB v lo hi)) ∧ w' = W :=
  (l1In_any v lo hi W).mono (by rintro x w' ⟨rfl, rfl⟩; exact ⟨rfl, rfl⟩)
set_option maxHeartbeats 4000000 in
theorem specRok_any (A : Option Addr) (n c : Nat) (B : Option Addr) (k d : Nat) (m : Mdl) (co : Int) (w : World) (h : MdlV w A n B k m) :
    Calls Try.prog 19 #[.agg #[.slice A n c, .slice B k d, .int .i64 m.til], .int .i64 co] w fun x w' => x = .returned (.bool (revOkV m co)) ∧ Up w w' := by
  have CM := Lib.hid (fun W (u : Up w W) => specMdl_any A n c B k d m W (h.up u))
  have CF := Lib.hid (fun W => l1In_upR co 0 ((n : Int) - 1) W)
  have X2 := Lib.hid (Box3.new w (.slice A n c) (.slice B k d) (.int .i64 m.til) 33)
  have U0 := Lib.hid ((Up.refl w).alloc (.cells #[.slice A n c, .slice B k d, .int .i64 m.til] 33))
  have LV := Lib.hid (show revOkV m co = (mdlB m && inB co 0 ((n : Int) - 1) && (m.rules.getD co.toNat []).all nz) by rw [← h.rules.1]; rfl)
  have FEW := Lib.hid (fun hm => mdlB_few (m := m) hm)
  have ROW := Lib.hid (fun (hm : mdlB m = true) (hi : co.toNat < n) => mdlB_row hm co.toNat (by rw [h.rules.1]; exact hi))
  have HR := Lib.hid h.rules
  have NLEN := Lib.hid h.rules.1
  rw [NLEN.out] at FEW
  have IN := Lib.hid (inB_iff (n := co) (lo := 0) (hi := (n : Int) - 1))
  generalize revOkV m co = res at LV ⊢
  generalize mdlB m = bm at CM LV FEW ROW
  generalize inB co 0 ((n : Int) - 1) = b1 at LV CF IN
  generalize m.til = til at *
  clear h
  go_enter Try.func19, Try.ntmps19
  go_wp2_with fail
  refine (CM.out _ U0.out).mono ?_; rintro x w1 ⟨rfl, u1⟩
  replace U0 := Lib.hid (U0.out.trans u1)
  replace X2 := Lib.hid (X2.out.up u1)
  clear u1 CM
  generalize w.heap.size = b2 at *
  cases bm
  · go_wp2
    go_ret
    exact ⟨ret_bool LV.out.symm, U0.out⟩
  · have few := FEW.out rfl
    obtain ⟨q0, q1, q2⟩ := And.intro X2.out.c0 (And.intro X2.out.c1 X2.out.c2)
    have ql := X2.out.lt
    have i1 : IntKind.i64.wrap ((n : Int) - 1) = (n : Int) - 1 := IntWalk.i64_in _ (by omega)
    cases b1
    · go_wp2_with fail
      refine (CF.out _).mono ?_; rintro x w2 ⟨rfl, rfl⟩; go_wp2; go_ret
      exact ⟨ret_bool LV.out.symm, U0.out⟩
    · obtain ⟨c0, c1⟩ := IN.out.1 rfl
      obtain ⟨co, rfl⟩ : ∃ q : Nat, co = q := ⟨co.toNat, by omega⟩
      have hcn : co < n := by omega
      rw [Int.toNat_natCast] at LV ROW; obtain ⟨b, off, hA, hb, hc⟩ := HR.out.2.2 (by omega); subst hA; obtain ⟨A', n', c', hcell, hrs⟩ := hc co hcn
      have HS := Lib.hid hrs
      have hlen := rulesB_len (ROW.out (by first | rfl | trivial) hcn) (by omega) (by omega)
      have RL := Lib.hid hrs.1
      have hn3 : n' ≤ 3 := by have := hrs.1; omega
      have CELL := Lib.hid hcell
      have BLT := Lib.hid hb
      clear hc hcell hrs hlen ROW
      generalize m.rules.getD co [] = rs at *
      have AD := Lib.hid (fun k h => all_drop (f := nz) (d := default) rs k h)
      have AE := Lib.hid (fun k h => all_end (f := nz) rs k h)
      have H0 := Lib.hid (show (rs.drop 0).all nz = res by rw [LV.out]; rfl)
      clear LV
      go_wp2_with fail
      refine (CF.out _).mono ?_; rintro x w2 ⟨rfl, rfl⟩; go_wp2; clear q0 q1 q2 ql
      go_loopw [5] (fun i wr => (∃ p : Nat, p ≤ n' ∧ i = .int .i64 p ∧ Hid ((rs.drop p).all nz = res)) ∧ Up w2 wr) (fun i _ => n' - (intOf i).toNat)
      case atStart => exact ⟨⟨0, by omega, rfl, H0⟩, Up.refl _⟩
      case round =>
        obtain ⟨⟨p, hp, rfl, HP⟩, ur⟩ := hrel
        have UR := Lib.hid (U0.out.trans ur)
        have UR1 := Lib.hid ur
        have x2 := X2.out.up ur
        obtain ⟨q0, q1, q2⟩ := And.intro x2.c0 (And.intro x2.c1 x2.c2)
        have ql := x2.lt
        have cell := (UR.out.cells _ _ BLT.out).trans CELL.out
        have hbr : b < wr.heap.size := by have := UR.out.size; have := BLT.out; omega
        have j1 : (co : Int) < n := by omega
        clear ur x2
        by_cases hlt : p < n'
        · obtain ⟨b3, off3, hA3, hb3, hc3⟩ := (HS.out.up UR.out).2.2 (by omega)
          subst hA3
          have a0 := hc3 p hlt
          have DR := AD.out p (by rw [RL.out]; exact hlt)
          clear hc3
          generalize rs.getD p default = r at a0 DR
          obtain ⟨kd, ra, rb, rc, es⟩ := r; obtain ⟨A3, n3, c3, ⟨r0, r1, r2, r3, r4⟩, hn3', he3⟩ := a0; dsimp only at r0 r1 r2 r3 r4
          have DRH := Lib.hid DR
          clear DR he3
          have i4 : (p : Int) < n' := by omega
          have i6 : IntKind.i64.wrap ((p : Int) + 1) = (p : Int) + 1 := IntWalk.i64_in _ (by omega)
          by_cases hz : ra = 0
          · have HZ := Lib.hid (show res = false by rw [← HP.out, DRH.out]; simp [nz, hz])
            subst hz; go_wp2; go_ret
            exact ⟨ret_bool HZ.out.symm, UR.out⟩
          · have hz1 : (ra == 0) = false := by simp [hz]
            have HN := Lib.hid (show (rs.drop (p + 1)).all nz = res by rw [← HP.out, DRH.out]; simp [nz, hz])
            go_wp2
            go_roundw
            case rel => exact ⟨⟨p + 1, by omega, by go_num, HN⟩, UR1.out⟩
            case measure => simp [intOf]; omega
        · have HT := Lib.hid (show res = true by rw [← HP.out]; exact AE.out p (by rw [RL.out]; omega))
          have i4 : ¬ (p : Int) < n' := by omega
          go_wp2; go_ret
          exact ⟨ret_bool HT.out.symm, UR.out⟩
end Go.Proofs.Ytakmlfgkppekoaa

namespace Go.Proofs.Ytakmlfgkppekoaa
set_option maxRecDepth 100000
open Go.RowKit
def evV (b3 b4 b5 : Nat) (et eto xt xto xfr xsq ss sq d : Int) (i : Nat) (v : Value) : Prop := if i = 7 then v = .pointer (some ⟨b5, 0, none⟩) else if i = 8 then v = .int .i64 et else if i = 9 then v = .pointer (some ⟨b3, 1, none⟩) else if i = 10 then v = .int .i64 xto else if i = 11 then v = .int .i64 (et + xto) else if i = 12 then v = .pointer (some ⟨b3, 0, none⟩) else if i = 13 then v = .int .i64 xt else if i = 14 then v = .pointer (some ⟨b5, 1, none⟩) else if i = 15 then v = .int .i64 eto else if i = 16 then v = .pointer (some ⟨b4, 1, none⟩) else if i = 17 then v = .int .i64 sq else if i = 18 then v = .pointer (some ⟨b3, 2, none⟩) else if i = 19 then v = .int .i64 xfr else if i = 20 then v = .pointer (some ⟨b4, 0, none⟩) else if i = 21 then v = .int .i64 ss else if i = 22 then v = .pointer (some ⟨b3, 3, none⟩) else if i = 23 then v = .int .i64 xsq else if i = 24 then v = .int .i64 d else v = .agg #[.int .i64 (et + xto), .int .i64 xt, .int .i64 eto, .int .i64 sq, .int .i64 xfr, .int .i64 d]
theorem evV_7 {b3 b4 b5 : Nat} {et eto xt xto xfr xsq ss sq d : Int} (v : Value) : evV b3 b4 b5 et eto xt xto xfr xsq ss sq d 7 v = (v = .pointer (some ⟨b5, 0, none⟩)) := by simp [evV]
theorem evV_8 {b3 b4 b5 : Nat} {et eto xt xto xfr xsq ss sq d : Int} (v : Value) : evV b3 b4 b5 et eto xt xto xfr xsq ss sq d 8 v = (v = .int .i64 et) := by simp [evV]
theorem evV_9 {b3 b4 b5 : Nat} {et eto xt xto xfr xsq ss sq d : Int} (v : Value) : evV b3 b4 b5 et eto xt xto xfr xsq ss sq d 9 v = (v = .pointer (some ⟨b3, 1, none⟩)) := by simp [evV]
theorem evV_10 {b3 b4 b5 : Nat} {et eto xt xto xfr xsq ss sq d : Int} (v : Value) : evV b3 b4 b5 et eto xt xto xfr xsq ss sq d 10 v = (v = .int .i64 xto) := by simp [evV]
theorem evV_11 {b3 b4 b5 : Nat} {et eto xt xto xfr xsq ss sq d : Int} (v : Value) : evV b3 b4 b5 et eto xt xto xfr xsq ss sq d 11 v = (v = .int .i64 (et + xto)) := by simp [evV]
theorem evV_12 {b3 b4 b5 : Nat} {et eto xt xto xfr xsq ss sq d : Int} (v : Value) : evV b3 b4 b5 et eto xt xto xfr xsq ss sq d 12 v = (v = .pointer (some ⟨b3, 0, none⟩)) := by simp [evV]
theorem evV_13 {b3 b4 b5 : Nat} {et eto xt xto xfr xsq ss sq d : Int} (v : Value) : evV b3 b4 b5 et eto xt xto xfr xsq ss sq d 13 v = (v = .int .i64 xt) := by simp [evV]
theorem evV_14 {b3 b4 b5 : Nat} {et eto xt xto xfr xsq ss sq d : Int} (v : Value) : evV b3 b4 b5 et eto xt xto xfr xsq ss sq d 14 v = (v = .pointer (some ⟨b5, 1, none⟩)) := by simp [evV]
theorem evV_15 {b3 b4 b5 : Nat} {et eto xt xto xfr xsq ss sq d : Int} (v : Value) : evV b3 b4 b5 et eto xt xto xfr xsq ss sq d 15 v = (v = .int .i64 eto) := by simp [evV]
theorem evV_16 {b3 b4 b5 : Nat} {et eto xt xto xfr xsq ss sq d : Int} (v : Value) : evV b3 b4 b5 et eto xt xto xfr xsq ss sq d 16 v = (v = .pointer (some ⟨b4, 1, none⟩)) := by simp [evV]
theorem evV_17 {b3 b4 b5 : Nat} {et eto xt xto xfr xsq ss sq d : Int} (v : Value) : evV b3 b4 b5 et eto xt xto xfr xsq ss sq d 17 v = (v = .int .i64 sq) := by simp [evV]
theorem evV_18 {b3 b4 b5 : Nat} {et eto xt xto xfr xsq ss sq d : Int} (v : Value) : evV b3 b4 b5 et eto xt xto xfr xsq ss sq d 18 v = (v = .pointer (some ⟨b3, 2, none⟩)) := by simp [evV]
theorem evV_19 {b3 b4 b5 : Nat} {et eto xt xto xfr xsq ss sq d : Int} (v : Value) : evV b3 b4 b5 et eto xt xto xfr xsq ss sq d 19 v = (v = .int .i64 xfr) := by simp [evV]
theorem evV_20 {b3 b4 b5 : Nat} {et eto xt xto xfr xsq ss sq d : Int} (v : Value) : evV b3 b4 b5 et eto xt xto xfr xsq ss sq d 20 v = (v = .pointer (some ⟨b4, 0, none⟩)) := by simp [evV]
theorem evV_21 {b3 b4 b5 : Nat} {et eto xt xto xfr xsq ss sq d : Int} (v : Value) : evV b3 b4 b5 et eto xt xto xfr xsq ss sq d 21 v = (v = .int .i64 ss) := by simp [evV]
theorem evV_22 {b3 b4 b5 : Nat} {et eto xt xto xfr xsq ss sq d : Int} (v : Value) : evV b3 b4 b5 et eto xt xto xfr xsq ss sq d 22 v = (v = .pointer (some ⟨b3, 3, none⟩)) := by simp [evV]
theorem evV_23 {b3 b4 b5 : Nat} {et eto xt xto xfr xsq ss sq d : Int} (v : Value) : evV b3 b4 b5 et eto xt xto xfr xsq ss sq d 23 v = (v = .int .i64 xsq) := by simp [evV]
theorem evV_24 {b3 b4 b5 : Nat} {et eto xt xto xfr xsq ss sq d : Int} (v : Value) : evV b3 b4 b5 et eto xt xto xfr xsq ss sq d 24 v = (v = .int .i64 d) := by simp [evV]
theorem evV_25 {b3 b4 b5 : Nat} {et eto xt xto xfr xsq ss sq d : Int} (v : Value) : evV b3 b4 b5 et eto xt xto xfr xsq ss sq d 25 v = (v = .agg #[.int .i64 (et + xto), .int .i64 xt, .int .i64 eto, .int .i64 sq, .int .i64 xfr, .int .i64 d]) := by simp [evV]
set_option maxHeartbeats 8000000 in
theorem event_any (ss sq st et eto efr esq ekd edt xt xto xfr xsq xkd xdt : Int) (hs : 0 ≤ ss ∧ ss ≤ 1000) (hx : 0 ≤ xsq ∧ xsq ≤ 1000) (he : 0 ≤ et ∧ et ≤ 1000) (ho : 0 ≤ xto ∧ xto ≤ 1000) (w : World) :
    Calls Try.prog 122 #[.agg #[.int .i64 xt, .int .i64 xto, .int .i64 xfr, .int .i64 xsq, .int .i64 xkd, .int .i64 xdt], .agg #[.int .i64 ss, .int .i64 sq, .int .i64 st], .agg #[.int .i64 et, .int .i64 eto, .int .i64 efr, .int .i64 esq, .int .i64 ekd, .int .i64 edt]] w
      fun z w' => z = .returned (.agg #[.int .i64 (et + xto), .int .i64 xt, .int .i64 eto, .int .i64 sq, .int .i64 xfr, .int .i64 ((ss + xsq) % 97)]) ∧ Up w w' := by
  have X3 := Lib.hid ((((Box.new w ⟨xt, xto, xfr, xsq, xkd, xdt⟩ 140).up ((Up.refl _).alloc (.cells #[.int .i64 ss, .int .i64 sq, .int .i64 st] 41))).up ((Up.refl _).alloc (.cells #[.int .i64 et, .int .i64 eto, .int .i64 efr, .int .i64 esq, .int .i64 ekd, .int .i64 edt] 45))).up ((Up.refl _).alloc (.cells #[.int .i64 0, .int .i64 0, .int .i64 0, .int .i64 0, .int .i64 0, .int .i64 0] 45)))
  have X4 := Lib.hid (((Box3.new (w.alloc (.cells #[.int .i64 xt, .int .i64 xto, .int .i64 xfr, .int .i64 xsq, .int .i64 xkd, .int .i64 xdt] 140)) (.int .i64 ss) (.int .i64 sq) (.int .i64 st) 41).up ((Up.refl _).alloc (.cells #[.int .i64 et, .int .i64 eto, .int .i64 efr, .int .i64 esq, .int .i64 ekd, .int .i64 edt] 45))).up ((Up.refl _).alloc (.cells #[.int .i64 0, .int .i64 0, .int .i64 0, .int .i64 0, .int .i64 0, .int .i64 0] 45)))
  have X5 := Lib.hid ((Box.new ((w.alloc (.cells #[.int .i64 xt, .int .i64 xto, .int .i64 xfr, .int .i64 xsq, .int .i64 xkd, .int .i64 xdt] 140)).alloc (.cells #[.int .i64 ss, .int .i64 sq, .int .i64 st] 41)) ⟨et, eto, efr, esq, ekd, edt⟩ 45).up ((Up.refl _).alloc (.cells #[.int .i64 0, .int .i64 0, .int .i64 0, .int .i64 0, .int .i64 0, .int .i64 0] 45)))
  have X6 := Lib.hid (Box.new (((w.alloc (.cells #[.int .i64 xt, .int .i64 xto, .int .i64 xfr, .int .i64 xsq, .int .i64 xkd, .int .i64 xdt] 140)).alloc (.cells #[.int .i64 ss, .int .i64 sq, .int .i64 st] 41)).alloc (.cells #[.int .i64 et, .int .i64 eto, .int .i64 efr, .int .i64 esq, .int .i64 ekd, .int .i64 edt] 45)) ⟨0, 0, 0, 0, 0, 0⟩ 45)
  have UW := Lib.hid ((((Up.refl w).alloc (.cells #[.int .i64 xt, .int .i64 xto, .int .i64 xfr, .int .i64 xsq, .int .i64 xkd, .int .i64 xdt] 140)).alloc (.cells #[.int .i64 ss, .int .i64 sq, .int .i64 st] 41)).alloc (.cells #[.int .i64 et, .int .i64 eto, .int .i64 efr, .int .i64 esq, .int .i64 ekd, .int .i64 edt] 45) |>.alloc (.cells #[.int .i64 0, .int .i64 0, .int .i64 0, .int .i64 0, .int .i64 0, .int .i64 0] 45))
  simp only [World.size_alloc] at X4 X5 X6
  go_enter Try.func122, Try.ntmps122
  go_wp2_with fail
  generalize (((w.alloc (.cells #[.int .i64 xt, .int .i64 xto, .int .i64 xfr, .int .i64 xsq, .int .i64 xkd, .int .i64 xdt] 140)).alloc (.cells #[.int .i64 ss, .int .i64 sq, .int .i64 st] 41)).alloc (.cells #[.int .i64 et, .int .i64 eto, .int .i64 efr, .int .i64 esq, .int .i64 ekd, .int .i64 edt] 45)).alloc (.cells #[.int .i64 0, .int .i64 0, .int .i64 0, .int .i64 0, .int .i64 0, .int .i64 0] 45) = W0 at *
  generalize hb3 : w.heap.size = b3 at *
  generalize hb4 : b3 + 1 = b4 at *
  generalize hb5 : b4 + 1 = b5 at *
  generalize hb6 : b5 + 1 = b6 at *
  refine region_rely 19 [(19, false)] [7, 8, 9, 10, 11, 12, 13, 14, 15, 16, 17, 18, 19, 20, 21, 22, 23, 24, 25] (fun _ w1 => Up W0 w1) Up (fun i v _ => evV b3 b4 b5 et eto xt xto xfr xsq ss sq ((ss + xsq) % 97) i v) (by kernel_rfl) (by kernel_rfl) (by kernel_rfl) ((Up.refl _).drew) (fun _ _ _ _ h _ => h) ?_ ?_
  · simp only [List.take_succ_cons, List.take_zero, StepsR]
    refine ⟨?_, ?_, ?_, ?_, ?_, ?_, ?_, ?_, ?_, ?_, ?_, ?_, ?_, ?_, ?_, ?_, ?_, ?_, ?_, trivial⟩
    · intro X w1 k1 hG hdep
      simp only [opW_def, mixT]; go_simp
      exact ⟨⟨.pointer (some ⟨b5, 0, none⟩), by first | rfl | simp [Act.put], Up.refl _, hG, (show evV b3 b4 b5 et eto xt xto xfr xsq ss sq ((ss + xsq) % 97) 7 _ from by rw [evV_7])⟩⟩
    · intro X w1 k1 hG hdep
      have e7 : evV b3 b4 b5 et eto xt xto xfr xsq ss sq ((ss + xsq) % 97) 7 (X 7) := hdep 7 (by decide +kernel)
      rw [evV_7] at e7; obtain ⟨y0, y1, y2, y3, y4, y5⟩ := ((X5.out.up hG).mk6).1; simp only [opW_def, mixT, e7]; go_simp
      exact ⟨⟨.int .i64 et, by first | rfl | simp [Act.put], Up.refl _, hG, (show evV b3 b4 b5 et eto xt xto xfr xsq ss sq ((ss + xsq) % 97) 8 _ from by rw [evV_8])⟩⟩
    · intro X w1 k1 hG hdep
      simp only [opW_def, mixT]; go_simp
      exact ⟨⟨.pointer (some ⟨b3, 1, none⟩), by first | rfl | simp [Act.put], Up.refl _, hG, (show evV b3 b4 b5 et eto xt xto xfr xsq ss sq ((ss + xsq) % 97) 9 _ from by rw [evV_9])⟩⟩
    · intro X w1 k1 hG hdep
      have e9 : evV b3 b4 b5 et eto xt xto xfr xsq ss sq ((ss + xsq) % 97) 9 (X 9) := hdep 9 (by decide +kernel)
      rw [evV_9] at e9; obtain ⟨v0, v1, v2, v3, v4, v5⟩ := ((X3.out.up hG).mk6).1; simp only [opW_def, mixT, e9]; go_simp
      exact ⟨⟨.int .i64 xto, by first | rfl | simp [Act.put], Up.refl _, hG, (show evV b3 b4 b5 et eto xt xto xfr xsq ss sq ((ss + xsq) % 97) 10 _ from by rw [evV_10])⟩⟩
    · intro X w1 k1 hG hdep
      have e8 : evV b3 b4 b5 et eto xt xto xfr xsq ss sq ((ss + xsq) % 97) 8 (X 8) := hdep 8 (by decide +kernel)
      rw [evV_8] at e8
      have e10 : evV b3 b4 b5 et eto xt xto xfr xsq ss sq ((ss + xsq) % 97) 10 (X 10) := hdep 10 (by decide +kernel)
      rw [evV_10] at e10
      have i1 : IntKind.i64.wrap (et + xto) = et + xto := IntWalk.i64_in _ (by omega)
      simp only [opW_def, mixT, e8, e10]; go_simp
      exact ⟨⟨.int .i64 (et + xto), by first | rfl | simp [Act.put], Up.refl _, hG, (show evV b3 b4 b5 et eto xt xto xfr xsq ss sq ((ss + xsq) % 97) 11 _ from by rw [evV_11])⟩⟩
    · intro X w1 k1 hG hdep
      simp only [opW_def, mixT]; go_simp
      exact ⟨⟨.pointer (some ⟨b3, 0, none⟩), by first | rfl | simp [Act.put], Up.refl _, hG, (show evV b3 b4 b5 et eto xt xto xfr xsq ss sq ((ss + xsq) % 97) 12 _ from by rw [evV_12])⟩⟩
    · intro X w1 k1 hG hdep
      have e12 : evV b3 b4 b5 et eto xt xto xfr xsq ss sq ((ss + xsq) % 97) 12 (X 12) := hdep 12 (by decide +kernel)
      rw [evV_12] at e12; obtain ⟨v0, v1, v2, v3, v4, v5⟩ := ((X3.out.up hG).mk6).1; simp only [opW_def, mixT, e12]; go_simp
      exact ⟨⟨.int .i64 xt, by first | rfl | simp [Act.put], Up.refl _, hG, (show evV b3 b4 b5 et eto xt xto xfr xsq ss sq ((ss + xsq) % 97) 13 _ from by rw [evV_13])⟩⟩
    · intro X w1 k1 hG hdep
      simp only [opW_def, mixT]; go_simp
      exact ⟨⟨.pointer (some ⟨b5, 1, none⟩), by first | rfl | simp [Act.put], Up.refl _, hG, (show evV b3 b4 b5 et eto xt xto xfr xsq ss sq ((ss + xsq) % 97) 14 _ from by rw [evV_14])⟩⟩
    · intro X w1 k1 hG hdep
      have e14 : evV b3 b4 b5 et eto xt xto xfr xsq ss sq ((ss + xsq) % 97) 14 (X 14) := hdep 14 (by decide +kernel)
      rw [evV_14] at e14; obtain ⟨y0, y1, y2, y3, y4, y5⟩ := ((X5.out.up hG).mk6).1; simp only [opW_def, mixT, e14]; go_simp
      exact ⟨⟨.int .i64 eto, by first | rfl | simp [Act.put], Up.refl _, hG, (show evV b3 b4 b5 et eto xt xto xfr xsq ss sq ((ss + xsq) % 97) 15 _ from by rw [evV_15])⟩⟩
    · intro X w1 k1 hG hdep
      simp only [opW_def, mixT]; go_simp
      exact ⟨⟨.pointer (some ⟨b4, 1, none⟩), by first | rfl | simp [Act.put], Up.refl _, hG, (show evV b3 b4 b5 et eto xt xto xfr xsq ss sq ((ss + xsq) % 97) 16 _ from by rw [evV_16])⟩⟩
    · intro X w1 k1 hG hdep
      have e16 : evV b3 b4 b5 et eto xt xto xfr xsq ss sq ((ss + xsq) % 97) 16 (X 16) := hdep 16 (by decide +kernel)
      rw [evV_16] at e16; obtain ⟨c0, c1, c2⟩ := And.intro (X4.out.up hG).c0 (And.intro (X4.out.up hG).c1 (X4.out.up hG).c2); simp only [opW_def, mixT, e16]; go_simp
      exact ⟨⟨.int .i64 sq, by first | rfl | simp [Act.put], Up.refl _, hG, (show evV b3 b4 b5 et eto xt xto xfr xsq ss sq ((ss + xsq) % 97) 17 _ from by rw [evV_17])⟩⟩
    · intro X w1 k1 hG hdep
      simp only [opW_def, mixT]; go_simp
      exact ⟨⟨.pointer (some ⟨b3, 2, none⟩), by first | rfl | simp [Act.put], Up.refl _, hG, (show evV b3 b4 b5 et eto xt xto xfr xsq ss sq ((ss + xsq) % 97) 18 _ from by rw [evV_18])⟩⟩
    · intro X w1 k1 hG hdep
      have e18 : evV b3 b4 b5 et eto xt xto xfr xsq ss sq ((ss + xsq) % 97) 18 (X 18) := hdep 18 (by decide +kernel)
      rw [evV_18] at e18; obtain ⟨v0, v1, v2, v3, v4, v5⟩ := ((X3.out.up hG).mk6).1; simp only [opW_def, mixT, e18]; go_simp
      exact ⟨⟨.int .i64 xfr, by first | rfl | simp [Act.put], Up.refl _, hG, (show evV b3 b4 b5 et eto xt xto xfr xsq ss sq ((ss + xsq) % 97) 19 _ from by rw [evV_19])⟩⟩
    · intro X w1 k1 hG hdep
      simp only [opW_def, mixT]; go_simp
      exact ⟨⟨.pointer (some ⟨b4, 0, none⟩), by first | rfl | simp [Act.put], Up.refl _, hG, (show evV b3 b4 b5 et eto xt xto xfr xsq ss sq ((ss + xsq) % 97) 20 _ from by rw [evV_20])⟩⟩
    · intro X w1 k1 hG hdep
      have e20 : evV b3 b4 b5 et eto xt xto xfr xsq ss sq ((ss + xsq) % 97) 20 (X 20) := hdep 20 (by decide +kernel)
      rw [evV_20] at e20; obtain ⟨c0, c1, c2⟩ := And.intro (X4.out.up hG).c0 (And.intro (X4.out.up hG).c1 (X4.out.up hG).c2); simp only [opW_def, mixT, e20]; go_simp
      exact ⟨⟨.int .i64 ss, by first | rfl | simp [Act.put], Up.refl _, hG, (show evV b3 b4 b5 et eto xt xto xfr xsq ss sq ((ss + xsq) % 97) 21 _ from by rw [evV_21])⟩⟩
    · intro X w1 k1 hG hdep
      simp only [opW_def, mixT]; go_simp
      exact ⟨⟨.pointer (some ⟨b3, 3, none⟩), by first | rfl | simp [Act.put], Up.refl _, hG, (show evV b3 b4 b5 et eto xt xto xfr xsq ss sq ((ss + xsq) % 97) 22 _ from by rw [evV_22])⟩⟩
    · intro X w1 k1 hG hdep
      have e22 : evV b3 b4 b5 et eto xt xto xfr xsq ss sq ((ss + xsq) % 97) 22 (X 22) := hdep 22 (by decide +kernel)
      rw [evV_22] at e22; obtain ⟨v0, v1, v2, v3, v4, v5⟩ := ((X3.out.up hG).mk6).1; simp only [opW_def, mixT, e22]; go_simp
      exact ⟨⟨.int .i64 xsq, by first | rfl | simp [Act.put], Up.refl _, hG, (show evV b3 b4 b5 et eto xt xto xfr xsq ss sq ((ss + xsq) % 97) 23 _ from by rw [evV_23])⟩⟩
    · intro X w1 k1 hG hdep
      have e21 : evV b3 b4 b5 et eto xt xto xfr xsq ss sq ((ss + xsq) % 97) 21 (X 21) := hdep 21 (by decide +kernel)
      rw [evV_21] at e21
      have e23 : evV b3 b4 b5 et eto xt xto xfr xsq ss sq ((ss + xsq) % 97) 23 (X 23) := hdep 23 (by decide +kernel)
      rw [evV_23] at e23; simp only [opW_def, mixT, e21, e23]; go_simp; refine (plus_up ss xsq hs hx w1).mono ?_; rintro z w2 ⟨rfl, u⟩
      exact ⟨⟨.int .i64 ((ss + xsq) % 97), by first | rfl | simp [Act.put], u, hG.trans u, (show evV b3 b4 b5 et eto xt xto xfr xsq ss sq ((ss + xsq) % 97) 24 _ from by rw [evV_24])⟩⟩
    · intro X w1 k1 hG hdep
      have e11 : evV b3 b4 b5 et eto xt xto xfr xsq ss sq ((ss + xsq) % 97) 11 (X 11) := hdep 11 (by decide +kernel)
      rw [evV_11] at e11
      have e13 : evV b3 b4 b5 et eto xt xto xfr xsq ss sq ((ss + xsq) % 97) 13 (X 13) := hdep 13 (by decide +kernel)
      rw [evV_13] at e13
      have e15 : evV b3 b4 b5 et eto xt xto xfr xsq ss sq ((ss + xsq) % 97) 15 (X 15) := hdep 15 (by decide +kernel)
      rw [evV_15] at e15
      have e17 : evV b3 b4 b5 et eto xt xto xfr xsq ss sq ((ss + xsq) % 97) 17 (X 17) := hdep 17 (by decide +kernel)
      rw [evV_17] at e17
      have e19 : evV b3 b4 b5 et eto xt xto xfr xsq ss sq ((ss + xsq) % 97) 19 (X 19) := hdep 19 (by decide +kernel)
      rw [evV_19] at e19
      have e24 : evV b3 b4 b5 et eto xt xto xfr xsq ss sq ((ss + xsq) % 97) 24 (X 24) := hdep 24 (by decide +kernel)
      rw [evV_24] at e24; simp only [opW_def, mixT, e11, e13, e15, e17, e19, e24]; go_simp
      exact ⟨⟨.agg #[.int .i64 (et + xto), .int .i64 xt, .int .i64 eto, .int .i64 sq, .int .i64 xfr, .int .i64 ((ss + xsq) % 97)], by first | rfl | simp [Act.put], Up.refl _, hG, (show evV b3 b4 b5 et eto xt xto xfr xsq ss sq ((ss + xsq) % 97) 25 _ from by rw [evV_25])⟩⟩
  · intro X w1 hG hR
    have e25 : evV b3 b4 b5 et eto xt xto xfr xsq ss sq ((ss + xsq) % 97) 25 (X 25) := hR 18 (by omega)
    rw [evV_25] at e25
    have X6 := Lib.hid (X6.out.up hG)
    have UG := Lib.hid (UW.out.trans hG)
    clear hR hG; obtain ⟨⟨q0, q1, q2, q3, q4, q5⟩, ⟨g0, g1, g2, g3, g4, g5⟩⟩ := X6.out.mk6
    have EE := putEv_at (e := ⟨et + xto, xt, eto, sq, xfr, (ss + xsq) % 97⟩) X6.out.somes
    have UE := Lib.hid (UG.out.putEv (b := b6) (o := 0) (e := ⟨et + xto, xt, eto, sq, xfr, (ss + xsq) % 97⟩) (by omega))
    unfold EvAt putEv at EE; unfold putEv at UE; simp only [Nat.zero_add] at EE; obtain ⟨k0, k1, k2, k3, k4, k5⟩ := EE; simp only [mixT, e25]; refine mix_go rfl (by rfl) (fun K hK => ?_); go_simp; refine hK _ _ ?_; clear hK K; refine mix_nil ?_; clear e25; go_wp2
    exact bodyPost_ret (v := .agg #[.int .i64 (et + xto), .int .i64 xt, .int .i64 eto, .int .i64 sq, .int .i64 xfr, .int .i64 ((ss + xsq) % 97)]) (by simp [results, Try.results122, go_sem, k0, k1, k2, k3, k4, k5]) rfl ⟨rfl, UE.out⟩
end Go.Proofs.Ytakmlfgkppekoaa

/-
  What spec.RevOk returns, in one sentence: whether the model is valid, the component exists, and a is not 0 in all its rules; for every model that lies in memory and every number.
  What eqEvtEvt, szEvtEvtS and eqEvtEvtS return, in one sentence: whether the events are the same, what is left of a size, whether two lists are the same; for all that lie in memory.
  What eqMdlSend returns, in one sentence: whether the six numbers are the same.
  What szEvtEvtS and eqEvtEvtS return, in one sentence: what is left of a size, and whether two lists are the same; for all lists that lie in memory.
  What szMdlSendS and eqMdlSendS return, in one sentence: what is left of a size, and whether two lists are the same; for all lists that lie in memory.
-/
import Derived.Test.YtakmlfgkppekoaaDLErok01
import Derived.Test.YtakmlfgkppekoaaDLErok02
import Derived.Test.YtakmlfgkppekoaaDLErok04
import Derived.Test.YtakmlfgkppekoaaDLErok06
namespace Go.Proofs.Ytakmlfgkppekoaa
set_option maxRecDepth 100000
open Go.RowKit
theorem l1In_upR (v lo hi : Int) (W : World) : Calls Try.prog 64 #[.int .i64 v, .int .i64 lo, .int .i64 hi] W fun x w' => x = .returned (.bool (inB v lo hi)) ∧ w' = W :=
  (l1In_any v lo hi W).mono (by rintro x w' ⟨rfl, rfl⟩; exact ⟨rfl, rfl⟩)
set_option maxHeartbeats 4000000 in
theorem specRok_any (A : Option Addr) (n c : Nat) (B : Option Addr) (k d : Nat) (m : Mdl) (co : Int) (w : World) (h : MdlV w A n B k m) :
    Calls Try.prog 19 #[.agg #[.slice A n c, .slice B k d, .int .i64 m.til], .int .i64 co] w fun x w' => x = .returned (.bool (revOkV m co)) ∧ Up w w' := by
  have CM := Lib.hid (fun W (u : Up w W) => specMdl_any A n c B k d m W (h.up u))
  have CF := Lib.hid (fun W => l1In_upR co 0 ((n : Int) - 1) W)
  have X2 := Lib.hid (Box3.new w (.slice A n c) (.slice B k d) (.int .i64 m.til) 33)
  have U0 := Lib.hid ((Up.refl w).alloc (.cells #[.slice A n c, .slice B k d, .int .i64 m.til] 33))
  have LV := Lib.hid (show revOkV m co = (mdlB m && inB co 0 ((n : Int) - 1) && (m.rules.getD co.toNat []).all nz) by rw [← h.rules.1]; rfl)
  have FEW := Lib.hid (fun hm => mdlB_few (m := m) hm)
  have ROW := Lib.hid (fun (hm : mdlB m = true) (hi : co.toNat < n) => mdlB_row hm co.toNat (by rw [h.rules.1]; exact hi))
  have HR := Lib.hid h.rules
  have NLEN := Lib.hid h.rules.1
  rw [NLEN.out] at FEW
  have IN := Lib.hid (inB_iff (n := co) (lo := 0) (hi := (n : Int) - 1))
  generalize revOkV m co = res at LV ⊢
  generalize mdlB m = bm at CM LV FEW ROW
  generalize inB co 0 ((n : Int) - 1) = b1 at LV CF IN
  generalize m.til = til at *
  clear h
  go_enter Try.func19, Try.ntmps19
  go_wp2_with fail
  refine (CM.out _ U0.out).mono ?_; rintro x w1 ⟨rfl, u1⟩
  replace U0 := Lib.hid (U0.out.trans u1)
  replace X2 := Lib.hid (X2.out.up u1)
  clear u1 CM
  generalize w.heap.size = b2 at *
  cases bm
  · go_wp2
    go_ret
    exact ⟨ret_bool LV.out.symm, U0.out⟩
  · have few := FEW.out rfl
    obtain ⟨q0, q1, q2⟩ := And.intro X2.out.c0 (And.intro X2.out.c1 X2.out.c2)
    have ql := X2.out.lt
    have i1 : IntKind.i64.wrap ((n : Int) - 1) = (n : Int) - 1 := IntWalk.i64_in _ (by omega)
    cases b1
    · go_wp2_with fail
      refine (CF.out _).mono ?_; rintro x w2 ⟨rfl, rfl⟩; go_wp2; go_ret
      exact ⟨ret_bool LV.out.symm, U0.out⟩
    · obtain ⟨c0, c1⟩ := IN.out.1 rfl
      obtain ⟨co, rfl⟩ : ∃ q : Nat, co = q := ⟨co.toNat, by omega⟩
      have hcn : co < n := by omega
      rw [Int.toNat_natCast] at LV ROW; obtain ⟨b, off, hA, hb, hc⟩ := HR.out.2.2 (by omega); subst hA; obtain ⟨A', n', c', hcell, hrs⟩ := hc co hcn
      have HS := Lib.hid hrs
      have hlen := rulesB_len (ROW.out (by first | rfl | trivial) hcn) (by omega) (by omega)
      have RL := Lib.hid hrs.1
      have hn3 : n' ≤ 3 := by have := hrs.1; omega
      have CELL := Lib.hid hcell
      have BLT := Lib.hid hb
      clear hc hcell hrs hlen ROW
      generalize m.rules.getD co [] = rs at *
      have AD := Lib.hid (fun k h => all_drop (f := nz) (d := default) rs k h)
      have AE := Lib.hid (fun k h => all_end (f := nz) rs k h)
      have H0 := Lib.hid (show (rs.drop 0).all nz = res by rw [LV.out]; rfl)
      clear LV
      go_wp2_with fail
      refine (CF.out _).mono ?_; rintro x w2 ⟨rfl, rfl⟩; go_wp2; clear q0 q1 q2 ql
      go_loopw [5] (fun i wr => (∃ p : Nat, p ≤ n' ∧ i = .int .i64 p ∧ Hid ((rs.drop p).all nz = res)) ∧ Up w2 wr) (fun i _ => n' - (intOf i).toNat)
      case atStart => exact ⟨⟨0, by omega, rfl, H0⟩, Up.refl _⟩
      case round =>
        obtain ⟨⟨p, hp, rfl, HP⟩, ur⟩ := hrel
        have UR := Lib.hid (U0.out.trans ur)
        have UR1 := Lib.hid ur
        have x2 := X2.out.up ur
        obtain ⟨q0, q1, q2⟩ := And.intro x2.c0 (And.intro x2.c1 x2.c2)
        have ql := x2.lt
        have cell := (UR.out.cells _ _ BLT.out).trans CELL.out
        have hbr : b < wr.heap.size := by have := UR.out.size; have := BLT.out; omega
        have j1 : (co : Int) < n := by omega
        clear ur x2
        by_cases hlt : p < n'
        · obtain ⟨b3, off3, hA3, hb3, hc3⟩ := (HS.out.up UR.out).2.2 (by omega)
          subst hA3
          have a0 := hc3 p hlt
          have DR := AD.out p (by rw [RL.out]; exact hlt)
          clear hc3
          generalize rs.getD p default = r at a0 DR
          obtain ⟨kd, ra, rb, rc, es⟩ := r; obtain ⟨A3, n3, c3, ⟨r0, r1, r2, r3, r4⟩, hn3', he3⟩ := a0; dsimp only at r0 r1 r2 r3 r4
          have DRH := Lib.hid DR
          clear DR he3
          have i4 : (p : Int) < n' := by omega
          have i6 : IntKind.i64.wrap ((p : Int) + 1) = (p : Int) + 1 := IntWalk.i64_in _ (by omega)
          by_cases hz : ra = 0
          · have HZ := Lib.hid (show res = false by rw [← HP.out, DRH.out]; simp [nz, hz])
            subst hz; go_wp2; go_ret
            exact ⟨ret_bool HZ.out.symm, UR.out⟩
          · have hz1 : (ra == 0) = false := by simp [hz]
            have HN := Lib.hid (show (rs.drop (p + 1)).all nz = res by rw [← HP.out, DRH.out]; simp [nz, hz])
            go_wp2
            go_roundw
            case rel => exact ⟨⟨p + 1, by omega, by go_num, HN⟩, UR1.out⟩
            case measure => simp [intOf]; omega
        · have HT := Lib.hid (show res = true by rw [← HP.out]; exact AE.out p (by rw [RL.out]; omega))
          have i4 : ¬ (p : Int) < n' := by omega
          go_wp2; go_ret
          exact ⟨ret_bool HT.out.symm, UR.out⟩
end Go.Proofs.Ytakmlfgkppekoaa

namespace Go.Proofs.Ytakmlfgkppekoaa
set_option maxRecDepth 100000
open Go.RowKit
def eqB (a b : Evt) : Bool := decide (a = b)
theorem eqB_mk (a b c d e f a' b' c' d' e' f' : Int) : eqB ⟨a, b, c, d, e, f⟩ ⟨a', b', c', d', e', f'⟩ = (decide (a = a') && decide (b = b') && decide (c = c') && decide (d = d') && decide (e = e') && decide (f = f')) := by
  unfold eqB; rw [Bool.eq_iff_iff]; simp [Bool.and_eq_true, and_assoc]
theorem eqEvt_any (a b : Evt) (w : World) : Calls Try.prog 78 #[a.v, b.v] w fun x w' => x = .returned (.bool (eqB a b)) ∧ Up w w' := by
  obtain ⟨at_, ato, afr, asq, akd, adt⟩ := a; obtain ⟨bt, bto, bfr, bsq, bkd, bdt⟩ := b
  have hf := Lib.hid (eqB_mk at_ ato afr asq akd adt bt bto bfr bsq bkd bdt)
  generalize eqB ⟨at_, ato, afr, asq, akd, adt⟩ ⟨bt, bto, bfr, bsq, bkd, bdt⟩ = r at hf ⊢
  unfold Evt.v; dsimp only
  go_enter Try.func78, Try.ntmps78
  go_wp2
  all_goals go_ret

  all_goals exact ⟨ret_bool (by rw [hf.out]; simp_all), ((Up.refl _).alloc _).alloc _⟩
end Go.Proofs.Ytakmlfgkppekoaa

namespace Go.Proofs.Ytakmlfgkppekoaa
set_option maxRecDepth 100000
open Go.RowKit
theorem eqSnd_any (a b : Evt) (w : World) : Calls Try.prog 158 #[a.v, b.v] w fun x w' => x = .returned (.bool (eqB a b)) ∧ Up w w' := by
  obtain ⟨at_, ato, afr, asq, akd, adt⟩ := a; obtain ⟨bt, bto, bfr, bsq, bkd, bdt⟩ := b
  have hf := Lib.hid (eqB_mk at_ ato afr asq akd adt bt bto bfr bsq bkd bdt)
  generalize eqB ⟨at_, ato, afr, asq, akd, adt⟩ ⟨bt, bto, bfr, bsq, bkd, bdt⟩ = r at hf ⊢
  unfold Evt.v; dsimp only
  go_enter Try.func158, Try.ntmps158
  go_wp2
  all_goals go_ret

  all_goals exact ⟨ret_bool (by rw [hf.out]; simp_all), ((Up.refl _).alloc _).alloc _⟩
end Go.Proofs.Ytakmlfgkppekoaa

namespace Go.Proofs.Ytakmlfgkppekoaa
set_option maxRecDepth 100000
open Go.RowKit
theorem sz_any (A : Option Addr) (n cap : Nat) (left : Int) (w : World) (h0 : 0 ≤ left) (h1 : left ≤ 1000000000) (hn : n ≤ 9223372036854775807) :
    Calls Try.prog 28 #[.slice A n cap, .int .i64 left] w fun x w' => x = .returned (.int .i64 (if left < n then -1 else left - n)) ∧ w = w' := by
  by_cases h : left < n
  · have hf := Lib.hid (show (if left < n then -1 else left - n) = (-1 : Int) from if_pos h)
    generalize (if left < n then -1 else left - n) = r at hf ⊢
    have h' : left - n < 0 := by omega
    go_enter Try.func28, Try.ntmps28
    go_wp2; go_ret
    exact ⟨ret_int hf.out.symm, rfl⟩
  · have hf := Lib.hid (show (if left < n then -1 else left - n) = left - n from if_neg h)
    generalize (if left < n then -1 else left - n) = r at hf ⊢
    have h' : ¬ left - n < 0 := by omega
    go_enter Try.func28, Try.ntmps28
    go_wp2; go_ret
    exact ⟨ret_int hf.out.symm, rfl⟩
theorem eqL_drop (es fs : List Evt) (h : es.length = fs.length) (k : Nat) (hk : k < es.length) :
    decide (es.drop k = fs.drop k) = (eqB (es.getD k default) (fs.getD k default) && decide (es.drop (k + 1) = fs.drop (k + 1))) := by
  have hk2 : k < fs.length := by omega
  have e1 : es.drop k = es[k] :: es.drop (k + 1) := List.drop_eq_getElem_cons hk
  have e2 : fs.drop k = fs[k] :: fs.drop (k + 1) := List.drop_eq_getElem_cons hk2
  have g1 : es.getD k default = es[k] := by simp [hk]
  have g2 : fs.getD k default = fs[k] := by simp [hk2]
  rw [e1, e2, g1, g2, Bool.eq_iff_iff]; unfold eqB; rw [Bool.and_eq_true, decide_eq_true_iff, decide_eq_true_iff, decide_eq_true_iff, List.cons.injEq]
set_option maxHeartbeats 1000000 in
theorem eqS_any (A B : Option Addr) (n m capa capb : Nat) (es fs : List Evt) (w : World) (hn : n ≤ 1000000000) (hE : Evs w A n es) (hF : Evs w B m fs) :
    Calls Try.prog 32 #[.slice A n capa, .slice B m capb] w fun x w' => x = .returned (.bool (decide (es = fs))) ∧ Up w w' := by
  by_cases hnm : n = m
  · subst hnm
    have H0 := Lib.hid (show decide (es.drop 0 = fs.drop 0) = decide (es = fs) from rfl)
    have ST := Lib.hid (eqL_drop es fs (by rw [hE.1, hF.1]))
    have HE := Lib.hid hE
    have HF := Lib.hid hF
    have LE := Lib.hid hE.1
    have LF := Lib.hid hF.1
    have CL := Lib.hid (fun a b W => eqEvt_any a b W)
    generalize hr : decide (es = fs) = res at H0 ⊢
    clear hE hF hr
    go_enter Try.func32, Try.ntmps32
    go_wp2
    go_loopw [5] (fun i wr => (∃ k : Nat, k ≤ n ∧ i = .int .i64 k ∧ decide (es.drop k = fs.drop k) = res) ∧ Up w wr) (fun i _ => n - (intOf i).toNat)
    case atStart => exact ⟨⟨0, by omega, rfl, H0.out⟩, Up.refl _⟩
    case round =>
      obtain ⟨⟨k, hk, rfl, hr⟩, ur⟩ := hrel
      have HR := Lib.hid hr
      clear hr
      by_cases hlt : k < n
      · obtain ⟨b, off, hA, hb, hc⟩ := HE.out.2 (by omega)
        obtain ⟨b2, off2, hA2, hb2, hc2⟩ := HF.out.2 (by omega); subst hA hA2
        have a0 := (hc k hlt).up ur hb
        have a1 := (hc2 k hlt).up ur hb2
        have hb' : b < wr.heap.size := by have := ur.size; omega
        have hb2' : b2 < wr.heap.size := by have := ur.size; omega
        clear hc hc2
        have S := ST.out k (by rw [LE.out]; exact hlt)
        have cl := CL.out (es.getD k default) (fs.getD k default)
        generalize es.getD k default = p at a0 S cl
        generalize fs.getD k default = q at a1 S cl
        have S' := Lib.hid S
        clear S
        generalize eqB p q = r at S' cl
        obtain ⟨pt, pto, pfr, psq, pkd, pdt⟩ := p; obtain ⟨qt, qto, qfr, qsq, qkd, qdt⟩ := q; unfold EvAt at a0 a1; unfold Evt.v at cl; dsimp only at a0 a1 cl; obtain ⟨p0, p1, p2, p3, p4, p5⟩ := a0; obtain ⟨q0, q1, q2, q3, q4, q5⟩ := a1
        have C := Lib.hid cl
        clear cl
        have i4 : (k : Int) < n := by omega
        go_wp2; refine region_up (by kernel_rfl) (by kernel_rfl) ?_; refine up_step rfl ?_; apply Exists.intro; refine ⟨fun w1 hw1 => ?_, ?_⟩
        · go_simp
          try rfl
        go_simp; refine up_step rfl ?_; apply Exists.intro; refine ⟨fun w1 hw1 => ?_, ?_⟩
        · go_simp
          try rfl
        go_simp; refine up_step rfl ?_; apply Exists.intro; refine ⟨fun w1 hw1 => ?_, ?_⟩
        · go_simp
          try rfl
        go_simp; refine up_step rfl ?_; apply Exists.intro; refine ⟨fun w1 hw1 => ?_, ?_⟩
        · obtain ⟨hc, hf, hz⟩ := hw1.facts
          try simp at hz
          go_simp
          try rfl
        go_simp; refine up_step rfl ?_; apply Exists.intro; refine ⟨fun w1 hw1 => ?_, ?_⟩
        · go_simp
          try rfl
        go_simp; refine up_step rfl ?_; apply Exists.intro; refine ⟨fun w1 hw1 => ?_, ?_⟩
        · go_simp
          try rfl
        go_simp; refine up_step rfl ?_; apply Exists.intro; refine ⟨fun w1 hw1 => ?_, ?_⟩
        · go_simp
          try rfl
        go_simp; refine up_step rfl ?_; apply Exists.intro; refine ⟨fun w1 hw1 => ?_, ?_⟩
        · obtain ⟨hc, hf, hz⟩ := hw1.facts
          try simp at hz
          go_simp
          try rfl
        go_simp; refine up_step rfl ?_; apply Exists.intro; refine ⟨fun w1 hw1 => ?_, ?_⟩
        · go_simp
          exact up_call hw1 (C.out _)
        go_simp; refine up_step rfl ?_; apply Exists.intro; refine ⟨fun w1 hw1 => ?_, ?_⟩
        · go_simp
          try rfl
        go_simp; refine wpQuiet_nil ?_; intro wA uA; clear i4 p0 p1 p2 p3 p4 p5 q0 q1 q2 q3 q4 q5 C
        cases r
        · go_wp2
          go_ret
          exact ⟨ret_bool (by rw [← HR.out, S'.out]; rfl), ur.trans uA⟩
        · go_wp2
          go_roundw
          case rel => exact ⟨⟨k + 1, by omega, by go_num, by rw [← HR.out, S'.out]; rfl⟩, ur.trans uA⟩
          case measure => simp [intOf]; omega
      · have e : decide (es.drop k = fs.drop k) = true := by rw [List.drop_eq_nil_of_le (by rw [LE.out]; omega), List.drop_eq_nil_of_le (by rw [LF.out]; omega)]; rfl
        have E := Lib.hid e
        clear e; go_wp2; go_ret
        exact ⟨ret_bool (by rw [← HR.out, E.out]), ur⟩
  · have hf := Lib.hid (show decide (es = fs) = false from decide_eq_false fun h => hnm (by rw [← hE.1, ← hF.1, h]))
    generalize decide (es = fs) = r at hf ⊢
    have hne : ((n : Int) != (m : Int)) = true := by rw [bne_iff_ne]; omega
    have HN := Lib.hid hnm
    clear hE hF hnm
    go_enter Try.func32, Try.ntmps32
    go_wp2; go_ret
    exact ⟨ret_bool hf.out.symm, Up.refl _⟩
end Go.Proofs.Ytakmlfgkppekoaa

namespace Go.Proofs.Ytakmlfgkppekoaa
set_option maxRecDepth 100000
open Go.RowKit
theorem szSnd_any (A : Option Addr) (n cap : Nat) (left : Int) (w : World) (h0 : 0 ≤ left) (h1 : left ≤ 1000000000) (hn : n ≤ 9223372036854775807) :
    Calls Try.prog 152 #[.slice A n cap, .int .i64 left] w fun x w' => x = .returned (.int .i64 (if left < n then -1 else left - n)) ∧ w = w' := by
  by_cases h : left < n
  · have hf := Lib.hid (show (if left < n then -1 else left - n) = (-1 : Int) from if_pos h)
    generalize (if left < n then -1 else left - n) = r at hf ⊢
    have h' : left - n < 0 := by omega
    go_enter Try.func152, Try.ntmps152
    go_wp2; go_ret
    exact ⟨ret_int hf.out.symm, rfl⟩
  · have hf := Lib.hid (show (if left < n then -1 else left - n) = left - n from if_neg h)
    generalize (if left < n then -1 else left - n) = r at hf ⊢
    have h' : ¬ left - n < 0 := by omega
    go_enter Try.func152, Try.ntmps152
    go_wp2; go_ret
    exact ⟨ret_int hf.out.symm, rfl⟩
set_option maxHeartbeats 1000000 in
theorem eqSndS_any (A B : Option Addr) (n m capa capb : Nat) (es fs : List Evt) (w : World) (hn : n ≤ 1000000000) (hE : Evs w A n es) (hF : Evs w B m fs) :
    Calls Try.prog 154 #[.slice A n capa, .slice B m capb] w fun x w' => x = .returned (.bool (decide (es = fs))) ∧ Up w w' := by
  by_cases hnm : n = m
  · subst hnm
    have H0 := Lib.hid (show decide (es.drop 0 = fs.drop 0) = decide (es = fs) from rfl)
    have ST := Lib.hid (eqL_drop es fs (by rw [hE.1, hF.1]))
    have HE := Lib.hid hE
    have HF := Lib.hid hF
    have LE := Lib.hid hE.1
    have LF := Lib.hid hF.1
    have CL := Lib.hid (fun a b W => eqSnd_any a b W)
    generalize hr : decide (es = fs) = res at H0 ⊢
    clear hE hF hr
    go_enter Try.func154, Try.ntmps154
    go_wp2
    go_loopw [5] (fun i wr => (∃ k : Nat, k ≤ n ∧ i = .int .i64 k ∧ decide (es.drop k = fs.drop k) = res) ∧ Up w wr) (fun i _ => n - (intOf i).toNat)
    case atStart => exact ⟨⟨0, by omega, rfl, H0.out⟩, Up.refl _⟩
    case round =>
      obtain ⟨⟨k, hk, rfl, hr⟩, ur⟩ := hrel
      have HR := Lib.hid hr
      clear hr
      by_cases hlt : k < n
      · obtain ⟨b, off, hA, hb, hc⟩ := HE.out.2 (by omega)
        obtain ⟨b2, off2, hA2, hb2, hc2⟩ := HF.out.2 (by omega); subst hA hA2
        have a0 := (hc k hlt).up ur hb
        have a1 := (hc2 k hlt).up ur hb2
        have hb' : b < wr.heap.size := by have := ur.size; omega
        have hb2' : b2 < wr.heap.size := by have := ur.size; omega
        clear hc hc2
        have S := ST.out k (by rw [LE.out]; exact hlt)
        have cl := CL.out (es.getD k default) (fs.getD k default)
        generalize es.getD k default = p at a0 S cl
        generalize fs.getD k default = q at a1 S cl
        have S' := Lib.hid S
        clear S
        generalize eqB p q = r at S' cl
        obtain ⟨pt, pto, pfr, psq, pkd, pdt⟩ := p; obtain ⟨qt, qto, qfr, qsq, qkd, qdt⟩ := q; unfold EvAt at a0 a1; unfold Evt.v at cl; dsimp only at a0 a1 cl; obtain ⟨p0, p1, p2, p3, p4, p5⟩ := a0; obtain ⟨q0, q1, q2, q3, q4, q5⟩ := a1
        have C := Lib.hid cl
        clear cl
        have i4 : (k : Int) < n := by omega
        go_wp2; refine region_up (by kernel_rfl) (by kernel_rfl) ?_; refine up_step rfl ?_; apply Exists.intro; refine ⟨fun w1 hw1 => ?_, ?_⟩
        · go_simp
          try rfl
        go_simp; refine up_step rfl ?_; apply Exists.intro; refine ⟨fun w1 hw1 => ?_, ?_⟩
        · go_simp
          try rfl
        go_simp; refine up_step rfl ?_; apply Exists.intro; refine ⟨fun w1 hw1 => ?_, ?_⟩
        · go_simp
          try rfl
        go_simp; refine up_step rfl ?_; apply Exists.intro; refine ⟨fun w1 hw1 => ?_, ?_⟩
        · obtain ⟨hc, hf, hz⟩ := hw1.facts
          try simp at hz
          go_simp
          try rfl
        go_simp; refine up_step rfl ?_; apply Exists.intro; refine ⟨fun w1 hw1 => ?_, ?_⟩
        · go_simp
          try rfl
        go_simp; refine up_step rfl ?_; apply Exists.intro; refine ⟨fun w1 hw1 => ?_, ?_⟩
        · go_simp
          try rfl
        go_simp; refine up_step rfl ?_; apply Exists.intro; refine ⟨fun w1 hw1 => ?_, ?_⟩
        · go_simp
          try rfl
        go_simp; refine up_step rfl ?_; apply Exists.intro; refine ⟨fun w1 hw1 => ?_, ?_⟩
        · obtain ⟨hc, hf, hz⟩ := hw1.facts
          try simp at hz
          go_simp
          try rfl
        go_simp; refine up_step rfl ?_; apply Exists.intro; refine ⟨fun w1 hw1 => ?_, ?_⟩
        · go_simp
          exact up_call hw1 (C.out _)
        go_simp; refine up_step rfl ?_; apply Exists.intro; refine ⟨fun w1 hw1 => ?_, ?_⟩
        · go_simp
          try rfl
        go_simp; refine wpQuiet_nil ?_; intro wA uA; clear i4 p0 p1 p2 p3 p4 p5 q0 q1 q2 q3 q4 q5 C
        cases r
        · go_wp2
          go_ret
          exact ⟨ret_bool (by rw [← HR.out, S'.out]; rfl), ur.trans uA⟩
        · go_wp2
          go_roundw
          case rel => exact ⟨⟨k + 1, by omega, by go_num, by rw [← HR.out, S'.out]; rfl⟩, ur.trans uA⟩
          case measure => simp [intOf]; omega
      · have e : decide (es.drop k = fs.drop k) = true := by rw [List.drop_eq_nil_of_le (by rw [LE.out]; omega), List.drop_eq_nil_of_le (by rw [LF.out]; omega)]; rfl
        have E := Lib.hid e
        clear e; go_wp2; go_ret
        exact ⟨ret_bool (by rw [← HR.out, E.out]), ur⟩
  · have hf := Lib.hid (show decide (es = fs) = false from decide_eq_false fun h => hnm (by rw [← hE.1, ← hF.1, h]))
    generalize decide (es = fs) = r at hf ⊢
    have hne : ((n : Int) != (m : Int)) = true := by rw [bne_iff_ne]; omega
    have HN := Lib.hid hnm
    clear hE hF hnm
    go_enter Try.func154, Try.ntmps154
    go_wp2; go_ret
    exact ⟨ret_bool hf.out.symm, Up.refl _⟩
end Go.Proofs.Ytakmlfgkppekoaa

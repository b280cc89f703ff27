/-
  What the two EvtRise return, in one sentence: whether each event is less than the next one; for every list that lies in memory.
  What impl.MdlOk returns, in one sentence: the bool that the bounds give; for every model that lies in memory.
  What a component does, in one sentence: its new state and what it sends, as lists and numbers; no condition is made.
-/
import Derived.Test.YtakmlfgkppekoaaDLCud01
import Derived.Test.YtakmlfgkppekoaaDLCud04
import Derived.Test.YtakmlfgkppekoaaDLCud08
import Derived.Test.YtakmlfgkppekoaaDLCud14
import Derived.Test.YtakmlfgkppekoaaDLCud15
namespace Go.Proofs.Ytakmlfgkppekoaa
set_option maxRecDepth 100000
open Go.RowKit
set_option maxHeartbeats 1000000 in
theorem ascE_any (A : Option Addr) (n cap : Nat) (es : List Evt) (w : World) (hn : n ≤ 1000000000) (hE : Evs w A n es) :
    Calls Try.prog 132 #[.func (.func 102) #[] #[], .slice A n cap] w fun x w' => x = .returned (.bool (riseB es)) ∧ Up w w' := by
  have H0 := Lib.hid (show riseB (es.drop 0) = riseB es from rfl)
  have ST := Lib.hid (riseB_drop es)
  have EN := Lib.hid (riseB_end es)
  have HE := Lib.hid hE
  have LE := Lib.hid hE.1
  have CL := Lib.hid (fun a b W => cmpE_any a b W)
  clear hE
  go_enter Try.func132, Try.ntmps132
  go_wp2
  go_loopw [5] (fun i wr => (∃ j : Nat, (j = 0 ∨ j + 1 ≤ n) ∧ i = .int .i64 ((j : Int) + 1) ∧ riseB (es.drop j) = riseB es) ∧ Up w wr) (fun i _ => n + 1 - (intOf i).toNat)
  case atStart => exact ⟨⟨0, .inl rfl, rfl, H0.out⟩, Up.refl _⟩
  case round =>
    obtain ⟨⟨j, hj, rfl, hr⟩, ur⟩ := hrel
    have HR := Lib.hid hr
    clear hr
    by_cases hlt : j + 1 < n
    · obtain ⟨b, off, hA, hb, hc⟩ := HE.out.2 (by omega)
      subst hA
      have a0 := (hc j (by omega)).up ur hb
      have a1 := (hc (j + 1) hlt).up ur hb
      have hb' : b < wr.heap.size := by have := ur.size; omega
      clear hc
      have S := ST.out j (by rw [LE.out]; exact hlt)
      have cl := CL.out (es.getD j default) (es.getD (j + 1) default)
      generalize es.getD j default = p at a0 S cl
      generalize es.getD (j + 1) default = q at a1 S cl
      have S' := Lib.hid S
      clear S
      generalize hz : cmpE p q = z at cl
      have HZ := Lib.hid (show ltE p q = decide (z < 0) by unfold ltE; rw [hz])
      clear hz
      generalize ltE p q = r at S' HZ
      obtain ⟨pt, pto, pfr, psq, pkd, pdt⟩ := p; obtain ⟨qt, qto, qfr, qsq, qkd, qdt⟩ := q; unfold EvAt at a0 a1; unfold Evt.v at cl; dsimp only at a0 a1 cl; obtain ⟨p0, p1, p2, p3, p4, p5⟩ := a0; obtain ⟨q0, q1, q2, q3, q4, q5⟩ := a1
      have C := Lib.hid cl
      clear cl
      have i0 : IntKind.i64.wrap (j : Int) = j := IntWalk.i64_in _ (by omega)
      have i1 : (0 : Int) ≤ (j : Int) + 1 := by omega
      have i2 : ((j : Int) + 1).toNat = j + 1 := by omega
      have i3 : (j : Int) + 1 < n := by omega
      have i4 : (j : Int) < n := by omega
      go_wp2
      by_cases hz : z < 0
      · have hr : r = true := by rw [HZ.out]; exact decide_eq_true hz
        have HR2 := Lib.hid hr
        clear hr; refine region_up (by kernel_rfl) (by kernel_rfl) ?_; refine up_step rfl ?_; apply Exists.intro; refine ⟨fun w1 hw1 => ?_, ?_⟩
        · go_simp
          try rfl
        go_simp; refine up_step rfl ?_; apply Exists.intro; refine ⟨fun w1 hw1 => ?_, ?_⟩
        · go_simp
          try rfl
        go_simp; refine up_step rfl ?_; apply Exists.intro; refine ⟨fun w1 hw1 => ?_, ?_⟩
        · go_simp
          try rfl
        go_simp; refine up_step rfl ?_; apply Exists.intro; refine ⟨fun w1 hw1 => ?_, ?_⟩
        · go_simp
          try rfl
        go_simp; refine up_step rfl ?_; apply Exists.intro; refine ⟨fun w1 hw1 => ?_, ?_⟩
        · go_simp
          try rfl
        go_simp; refine up_step rfl ?_; apply Exists.intro; refine ⟨fun w1 hw1 => ?_, ?_⟩
        · obtain ⟨hc, hf, hz⟩ := hw1.facts
          try simp at hz
          go_simp
          try rfl
        go_simp; refine up_step rfl ?_; apply Exists.intro; refine ⟨fun w1 hw1 => ?_, ?_⟩
        · go_simp
          try rfl
        go_simp; refine up_step rfl ?_; apply Exists.intro; refine ⟨fun w1 hw1 => ?_, ?_⟩
        · go_simp
          try rfl
        go_simp; refine up_step rfl ?_; apply Exists.intro; refine ⟨fun w1 hw1 => ?_, ?_⟩
        · go_simp
          try rfl
        go_simp; refine up_step rfl ?_; apply Exists.intro; refine ⟨fun w1 hw1 => ?_, ?_⟩
        · obtain ⟨hc, hf, hz⟩ := hw1.facts
          try simp at hz
          go_simp
          try rfl
        go_simp; refine up_step rfl ?_; apply Exists.intro; refine ⟨fun w1 hw1 => ?_, ?_⟩
        · go_simp
          exact up_call hw1 (C.out _)
        go_simp; refine up_step rfl ?_; apply Exists.intro; refine ⟨fun w1 hw1 => ?_, ?_⟩
        · go_simp
          try rfl
        go_simp; refine wpQuiet_nil ?_; intro wA uA; clear i0 i1 i2 i3 i4 p0 p1 p2 p3 p4 p5 q0 q1 q2 q3 q4 q5 C; go_wp2
        go_roundw
        case rel => exact ⟨⟨j + 1, .inr (by omega), by go_num, by rw [← HR.out, S'.out, HR2.out]; rfl⟩, ur.trans uA⟩
        case measure => simp [intOf]; omega
      · have hz0 : 0 ≤ z := by omega
        have hr : r = false := by rw [HZ.out]; exact decide_eq_false hz
        have HR2 := Lib.hid hr
        clear hr; refine region_up (by kernel_rfl) (by kernel_rfl) ?_; refine up_step rfl ?_; apply Exists.intro; refine ⟨fun w1 hw1 => ?_, ?_⟩
        · go_simp
          try rfl
        go_simp; refine up_step rfl ?_; apply Exists.intro; refine ⟨fun w1 hw1 => ?_, ?_⟩
        · go_simp
          try rfl
        go_simp; refine up_step rfl ?_; apply Exists.intro; refine ⟨fun w1 hw1 => ?_, ?_⟩
        · go_simp
          try rfl
        go_simp; refine up_step rfl ?_; apply Exists.intro; refine ⟨fun w1 hw1 => ?_, ?_⟩
        · go_simp
          try rfl
        go_simp; refine up_step rfl ?_; apply Exists.intro; refine ⟨fun w1 hw1 => ?_, ?_⟩
        · go_simp
          try rfl
        go_simp; refine up_step rfl ?_; apply Exists.intro; refine ⟨fun w1 hw1 => ?_, ?_⟩
        · obtain ⟨hc, hf, hz⟩ := hw1.facts
          try simp at hz
          go_simp
          try rfl
        go_simp; refine up_step rfl ?_; apply Exists.intro; refine ⟨fun w1 hw1 => ?_, ?_⟩
        · go_simp
          try rfl
        go_simp; refine up_step rfl ?_; apply Exists.intro; refine ⟨fun w1 hw1 => ?_, ?_⟩
        · go_simp
          try rfl
        go_simp; refine up_step rfl ?_; apply Exists.intro; refine ⟨fun w1 hw1 => ?_, ?_⟩
        · go_simp
          try rfl
        go_simp; refine up_step rfl ?_; apply Exists.intro; refine ⟨fun w1 hw1 => ?_, ?_⟩
        · obtain ⟨hc, hf, hz⟩ := hw1.facts
          try simp at hz
          go_simp
          try rfl
        go_simp; refine up_step rfl ?_; apply Exists.intro; refine ⟨fun w1 hw1 => ?_, ?_⟩
        · go_simp
          exact up_call hw1 (C.out _)
        go_simp; refine up_step rfl ?_; apply Exists.intro; refine ⟨fun w1 hw1 => ?_, ?_⟩
        · go_simp
          try rfl
        go_simp; refine wpQuiet_nil ?_; intro wA uA; clear i0 i1 i2 i3 i4 p0 p1 p2 p3 p4 p5 q0 q1 q2 q3 q4 q5 C; go_wp2; go_ret
        exact ⟨ret_bool (by rw [← HR.out, S'.out, HR2.out]; rfl), ur.trans uA⟩
    · have e := EN.out j (by rw [LE.out]; omega)
      have E := Lib.hid e
      clear e; go_wp2; go_ret
      exact ⟨ret_bool (by rw [← HR.out, E.out]), ur⟩
theorem implRise_any (A : Option Addr) (n cap : Nat) (es : List Evt) (w : World) (hn : n ≤ 1000000000) (hE : Evs w A n es) :
    Calls Try.prog 100 #[.slice A n cap] w fun x w' => x = .returned (.bool (riseB es)) ∧ Up w w' := by
  have C := Lib.hid (ascE_any A n cap es w hn hE)
  generalize riseB es = r at C ⊢
  clear hE
  go_enter Try.func100, Try.ntmps100
  go_wp2_with fail
  refine C.out.mono ?_; rintro x w1 ⟨rfl, u⟩; go_wp2; go_ret
  exact ⟨rfl, u⟩
set_option maxHeartbeats 1000000 in
theorem specRise_any (A : Option Addr) (n cap : Nat) (es : List Evt) (w : World) (hn : n ≤ 1000000000) (hE : Evs w A n es) :
    Calls Try.prog 82 #[.slice A n cap] w fun x w' => x = .returned (.bool (riseB es)) ∧ Up w w' := by
  have H0 := Lib.hid (show riseB (es.drop 0) = riseB es from rfl)
  have ST := Lib.hid (riseB_drop es)
  have EN := Lib.hid (riseB_end es)
  have HE := Lib.hid hE
  have LE := Lib.hid hE.1
  have CL := Lib.hid (fun a b W => specLess_any a b W)
  clear hE
  go_enter Try.func82, Try.ntmps82
  go_wp2
  go_loopw [3] (fun i wr => (∃ j : Nat, (j = 0 ∨ j + 1 ≤ n) ∧ i = .int .i64 ((j : Int) + 1) ∧ riseB (es.drop j) = riseB es) ∧ Up w wr) (fun i _ => n + 1 - (intOf i).toNat)
  case atStart => exact ⟨⟨0, .inl rfl, rfl, H0.out⟩, Up.refl _⟩
  case round =>
    obtain ⟨⟨j, hj, rfl, hr⟩, ur⟩ := hrel
    have HR := Lib.hid hr
    clear hr
    by_cases hlt : j + 1 < n
    · obtain ⟨b, off, hA, hb, hc⟩ := HE.out.2 (by omega)
      subst hA
      have a0 := (hc j (by omega)).up ur hb
      have a1 := (hc (j + 1) hlt).up ur hb
      have hb' : b < wr.heap.size := by have := ur.size; omega
      clear hc
      have S := ST.out j (by rw [LE.out]; exact hlt)
      have cl := CL.out (es.getD j default) (es.getD (j + 1) default)
      generalize es.getD j default = p at a0 S cl
      generalize es.getD (j + 1) default = q at a1 S cl
      have S' := Lib.hid S
      clear S
      generalize ltE p q = r at S' cl
      obtain ⟨pt, pto, pfr, psq, pkd, pdt⟩ := p; obtain ⟨qt, qto, qfr, qsq, qkd, qdt⟩ := q; unfold EvAt at a0 a1; unfold Evt.v at cl; dsimp only at a0 a1 cl; obtain ⟨p0, p1, p2, p3, p4, p5⟩ := a0; obtain ⟨q0, q1, q2, q3, q4, q5⟩ := a1
      have C := Lib.hid cl
      clear cl
      have i0 : IntKind.i64.wrap (j : Int) = j := IntWalk.i64_in _ (by omega)
      have i1 : (0 : Int) ≤ (j : Int) + 1 := by omega
      have i2 : ((j : Int) + 1).toNat = j + 1 := by omega
      have i3 : (j : Int) + 1 < n := by omega
      have i4 : (j : Int) < n := by omega
      go_wp2; refine region_up (by kernel_rfl) (by kernel_rfl) ?_; refine up_step rfl ?_; apply Exists.intro; refine ⟨fun w1 hw1 => ?_, ?_⟩
      · go_simp
        try rfl
      go_simp; refine up_step rfl ?_; apply Exists.intro; refine ⟨fun w1 hw1 => ?_, ?_⟩
      · go_simp
        try rfl
      go_simp; refine up_step rfl ?_; apply Exists.intro; refine ⟨fun w1 hw1 => ?_, ?_⟩
      · go_simp
        try rfl
      go_simp; refine up_step rfl ?_; apply Exists.intro; refine ⟨fun w1 hw1 => ?_, ?_⟩
      · go_simp
        try rfl
      go_simp; refine up_step rfl ?_; apply Exists.intro; refine ⟨fun w1 hw1 => ?_, ?_⟩
      · obtain ⟨hc, hf, hz⟩ := hw1.facts
        try simp at hz
        go_simp
        try rfl
      go_simp; refine up_step rfl ?_; apply Exists.intro; refine ⟨fun w1 hw1 => ?_, ?_⟩
      · go_simp
        try rfl
      go_simp; refine up_step rfl ?_; apply Exists.intro; refine ⟨fun w1 hw1 => ?_, ?_⟩
      · go_simp
        try rfl
      go_simp; refine up_step rfl ?_; apply Exists.intro; refine ⟨fun w1 hw1 => ?_, ?_⟩
      · go_simp
        try rfl
      go_simp; refine up_step rfl ?_; apply Exists.intro; refine ⟨fun w1 hw1 => ?_, ?_⟩
      · obtain ⟨hc, hf, hz⟩ := hw1.facts
        try simp at hz
        go_simp
        try rfl
      go_simp; refine up_step rfl ?_; apply Exists.intro; refine ⟨fun w1 hw1 => ?_, ?_⟩
      · go_simp
        exact up_call hw1 (C.out _)
      go_simp; refine up_step rfl ?_; apply Exists.intro; refine ⟨fun w1 hw1 => ?_, ?_⟩
      · go_simp
        try rfl
      go_simp; refine wpQuiet_nil ?_; intro wA uA; clear i0 i1 i2 i3 i4 p0 p1 p2 p3 p4 p5 q0 q1 q2 q3 q4 q5 C
      cases r
      · go_wp2
        go_ret
        exact ⟨ret_bool (by rw [← HR.out, S'.out]; rfl), ur.trans uA⟩
      · go_wp2
        go_roundw
        case rel => exact ⟨⟨j + 1, .inr (by omega), by go_num, by rw [← HR.out, S'.out]; rfl⟩, ur.trans uA⟩
        case measure => simp [intOf]; omega
    · have e := EN.out j (by rw [LE.out]; omega)
      have E := Lib.hid e
      clear e; go_wp2; go_ret
      exact ⟨ret_bool (by rw [← HR.out, E.out]), ur⟩
end Go.Proofs.Ytakmlfgkppekoaa

namespace Go.Proofs.Ytakmlfgkppekoaa
set_option maxRecDepth 100000
open Go.RowKit
def startsB (es : List Evt) (til many : Int) : Bool := decide ((es.length : Int) ≤ 6) && riseB es && es.all (startB til many)
def mdlB (m : Mdl) : Bool := inB m.rules.length 1 4 && inB m.til 0 99 && startsB m.starts m.til m.rules.length && m.rules.all (rulesB m.rules.length (-1))
set_option maxHeartbeats 8000000 in
theorem implStarts_any (A : Option Addr) (n c : Nat) (B : Option Addr) (k d : Nat) (til : Int) (es : List Evt) (w : World) (hE : Evs w B k es) :
    Calls Try.prog 104 #[.agg #[.slice A n c, .slice B k d, .int .i64 til]] w fun x w' => x = .returned (.bool (startsB es til n)) ∧ Up w w' := by
  have RB := Lib.hid (show startsB es til n = (decide ((k : Int) ≤ 6) && riseB es && es.all (startB til n)) by rw [← hE.1]; rfl)
  generalize startsB es til n = res at RB ⊢
  have B0 := Lib.hid (Box3.new w (.slice A n c) (.slice B k d) (.int .i64 til) 33)
  by_cases h6 : (k : Int) ≤ 6
  · have R1 := Lib.hid (show res = (riseB es && es.all (startB til n)) by rw [RB.out, decide_eq_true h6, Bool.true_and])
    have j6 : ¬ (6 : Int) < k := by omega
    have RI := Lib.hid (fun W h => implRise_any B k d es W (by omega) h)
    have AD := Lib.hid (fun i h => all_drop (f := startB til n) (d := default) es i h)
    have AE := Lib.hid (fun i h => all_end (f := startB til n) es i h)
    have CL := Lib.hid (fun e W => implOk_any e n W)
    have H0 := Lib.hid (show (es.drop 0).all (startB til n) = es.all (startB til n) from rfl)
    have HE := Lib.hid hE
    have LE := Lib.hid hE.1
    generalize es.all (startB til n) = al at H0 R1
    generalize riseB es = r at RI R1
    clear RB hE
    go_enter Try.func104, Try.ntmps104
    go_wp2_with fail
    refine (RI.out _ (HE.out.up ((Up.refl _).alloc _))).mono ?_; rintro x w1 ⟨rfl, u1⟩
    have U1 := Lib.hid (((Up.refl w).alloc _).trans u1)
    have B1 := Lib.hid (B0.out.up u1)
    clear u1 RI B0
    cases r
    · go_wp2
      go_ret
      exact ⟨ret_bool (by rw [R1.out]; rfl), U1.out⟩
    · have q := B1.out
      obtain ⟨q0, q1, q2⟩ := And.intro q.c0 (And.intro q.c1 q.c2)
      have qlt := q.lt
      clear q; go_wp2; clear q0 q1 q2
      go_loopw [18] (fun i wr => (∃ p : Nat, p ≤ k ∧ i = .int .i64 p ∧ Hid ((es.drop p).all (startB til n) = al)) ∧ Up w1 wr) (fun i _ => k - (intOf i).toNat)
      case atStart => exact ⟨⟨0, by omega, rfl, H0⟩, Up.refl _⟩
      case round =>
        obtain ⟨⟨p, hp, rfl, HA⟩, ur⟩ := hrel
        by_cases hlt : p < k
        · obtain ⟨b, off, hA, hb, hc⟩ := HE.out.2 (by omega)
          subst hA
          have a0 := (hc p hlt).up (U1.out.trans ur) hb
          have hb' : b < wr.heap.size := by have := (U1.out.trans ur).size; omega
          clear hc
          have S := AD.out p (by rw [LE.out]; exact hlt)
          rw [HA.out] at S
          have cl := CL.out (es.getD p default)
          generalize es.getD p default = e at a0 S cl
          obtain ⟨et, eto, efr, esq, ekd, edt⟩ := e; rw [show startB til n ⟨et, eto, efr, esq, ekd, edt⟩ = (decide (efr = -1) && decide (et ≤ til) && okB ⟨et, eto, efr, esq, ekd, edt⟩ n) from rfl] at S
          generalize okB ⟨et, eto, efr, esq, ekd, edt⟩ n = s at S cl
          unfold EvAt at a0; unfold Evt.v at cl; dsimp only at a0 cl S; obtain ⟨p0, p1, p2, p3, p4, p5⟩ := a0
          have C := Lib.hid cl
          have S' := Lib.hid S
          have bx := B1.out.up ur
          obtain ⟨q0, q1, q2⟩ := And.intro bx.c0 (And.intro bx.c1 bx.c2)
          have qlt2 := bx.lt
          have qne : wr.heap.size ≠ w.heap.size := by omega
          have UR := Lib.hid (U1.out.trans ur)
          have UR1 := Lib.hid ur
          clear cl S ur bx
          have i4 : (p : Int) < k := by omega
          have i5 : IntKind.i64.wrap ((p : Int) + 1) = (p : Int) + 1 := IntWalk.i64_in _ (by omega)
          by_cases hf : efr = -1
          · subst hf
            by_cases ht : et ≤ til
            · have ht' : ¬ til < et := by omega
              go_wp2_with fail
              refine (C.out _).mono ?_; rintro x w2 ⟨rfl, u2⟩
              have U2 := Lib.hid ((UR1.out.alloc _).trans u2)
              clear u2
              cases s
              · go_wp2
                go_ret
                exact ⟨ret_bool (by rw [R1.out, show al = false by rw [S'.out]; simp]; rfl), U1.out.trans U2.out⟩
              · have AL := Lib.hid (show (es.drop (p + 1)).all (startB til n) = al by rw [S'.out, decide_eq_true ht]; simp)
                go_wp2
                go_roundw
                case rel => exact ⟨⟨p + 1, by omega, by first | rfl | go_num, AL⟩, U2.out⟩
                case measure => (simp [intOf]; try omega)
            · have ht' : til < et := by omega
              go_wp2; go_ret
              exact ⟨ret_bool (by rw [R1.out, show al = false by rw [S'.out, decide_eq_false (show ¬ et ≤ til by omega)]; simp]; rfl), UR.out.alloc _⟩
          · go_wp2
            go_ret
            exact ⟨ret_bool (by rw [R1.out, show al = false by rw [S'.out, decide_eq_false (show ¬ efr = -1 by omega)]; simp]; rfl), UR.out.alloc _⟩
        · have hal : al = true := HA.out.symm.trans (AE.out p (by rw [LE.out]; omega))
          have HW := Lib.hid (U1.out.trans ur)
          have i4 : ¬ (p : Int) < k := by omega
          clear ur; go_wp2; go_ret
          exact ⟨ret_bool (by rw [R1.out, hal]; rfl), HW.out⟩
  · have j6 : (6 : Int) < k := by omega
    have RB2 := Lib.hid (show res = false by rw [RB.out, decide_eq_false h6]; rfl)
    go_enter Try.func104, Try.ntmps104
    go_wp2; go_ret
    exact ⟨ret_bool RB2.out.symm, (Up.refl w).alloc _⟩
set_option maxHeartbeats 4000000 in
theorem implMdl_any (A : Option Addr) (n c : Nat) (B : Option Addr) (k d : Nat) (m : Mdl) (w : World) (hM : MdlV w A n B k m) :
    Calls Try.prog 59 #[.agg #[.slice A n c, .slice B k d, .int .i64 m.til]] w fun x w' => x = .returned (.bool (mdlB m)) ∧ Up w w' := by
  have HM := Lib.hid hM
  have RB := Lib.hid (show mdlB m = (inB n 1 4 && inB m.til 0 99 && startsB m.starts m.til n && m.rules.all (rulesB n (-1))) by rw [← hM.rules.1]; rfl)
  have B0 := Lib.hid (Box3.new w (.slice A n c) (.slice B k d) (.int .i64 m.til) 33)
  have SC := Lib.hid (fun W h => implStarts_any A n c B k d m.til m.starts W h)
  have RC := Lib.hid (fun h1 h2 W h => implRules_any A n c B k d m.til m.rules h1 h2 W h)
  generalize mdlB m = res at RB ⊢
  generalize startsB m.starts m.til n = st at RB SC
  generalize m.rules.all (rulesB n (-1)) = ru at RB RC
  generalize m.til = til at *
  clear hM
  by_cases hm : (1 : Int) ≤ n ∧ (n : Int) ≤ 4
  · have hin : inB n 1 4 = true := inB_iff.2 hm
    obtain ⟨hm1, hm2⟩ := hm
    by_cases ht : 0 ≤ til ∧ til ≤ 99
    · have hit : inB til 0 99 = true := inB_iff.2 ht
      have R1 := Lib.hid (show res = (st && ru) by rw [RB.out, hin, hit]; simp)
      clear RB ht
      go_enter Try.func59, Try.ntmps59
      go_wp2_with (go_at_call 65; refine (within_any _ _ _ _).mono ?_; rintro e w' ⟨rfl, rfl⟩)
      refine (SC.out _ (HM.out.starts.up ((Up.refl _).alloc _))).mono ?_; rintro x w1 ⟨rfl, u1⟩
      have U1 := Lib.hid (((Up.refl w).alloc _).trans u1)
      have q := B0.out.up u1
      obtain ⟨q0, q1, q2⟩ := And.intro q.c0 (And.intro q.c1 q.c2); clear u1 q
      cases st
      · go_wp2
        go_ret
        exact ⟨ret_bool (by rw [R1.out]; rfl), U1.out⟩
      · go_wp2_with fail
        refine (RC.out hm1 hm2 _ (HM.out.rules.up U1.out)).mono ?_; rintro x w2 ⟨rfl, u2⟩
        have U2 := Lib.hid (U1.out.trans u2)
        clear u2; go_wp2; go_ret
        exact ⟨ret_bool (by rw [R1.out]; simp), U2.out⟩
    · have hit : inB til 0 99 = false := inB_no.2 ht
      have R1 := Lib.hid (show res = false by rw [RB.out, hin, hit]; simp)
      clear RB ht
      go_enter Try.func59, Try.ntmps59
      go_wp2_with (go_at_call 65; refine (within_any _ _ _ _).mono ?_; rintro e w' ⟨rfl, rfl⟩)
      go_ret
      exact ⟨ret_bool R1.out.symm, (Up.refl _).alloc _⟩
  · have hin : inB n 1 4 = false := inB_no.2 hm
    have R1 := Lib.hid (show res = false by rw [RB.out, hin]; simp)
    clear RB hm
    go_enter Try.func59, Try.ntmps59
    go_wp2_with (go_at_call 65; refine (within_any _ _ _ _).mono ?_; rintro e w' ⟨rfl, rfl⟩)
    go_ret
    exact ⟨ret_bool R1.out.symm, (Up.refl _).alloc _⟩
end Go.Proofs.Ytakmlfgkppekoaa

namespace Go.Proofs.Ytakmlfgkppekoaa
set_option maxRecDepth 100000
open Go.RowKit
/-- What is sent, and the number behind it. -/
def sendsE (til s : Int) (e : Evt) : List Evt → Int → List Evt × Int
  | [], q => ([], q)
  | x :: xs, q =>
    if s % x.kd ≠ x.dt ∨ q = 12 then sendsE til s e xs q
    else if e.t + x.to ≤ til then (⟨e.t + x.to, x.t, e.to, q, x.fr, (s + x.sq) % 97⟩ :: (sendsE til s e xs (q + 1)).1, (sendsE til s e xs (q + 1)).2)
    else sendsE til s e xs (q + 1)
/-- A component behind an event, in a model that is one. -/
def doE (m : Mdl) (c : Cst) (e : Evt) : Cst × List Evt :=
  match ruleOf e.kd (m.rules.getD e.to.toNat []) with
  | none => (⟨c.s, c.sq, IntKind.i64.wrap (c.ct + 1)⟩, [])
  | some r => (⟨(r.a * c.s + r.b * e.dt + r.c) % 97, (sendsE m.til ((r.a * c.s + r.b * e.dt + r.c) % 97) e r.sends c.sq).2, IntKind.i64.wrap (c.ct + 1)⟩, (sendsE m.til ((r.a * c.s + r.b * e.dt + r.c) % 97) e r.sends c.sq).1)
/-- May it? -/
def mayB (m : Mdl) (c : Cst) (e : Evt) : Bool := mdlB m && cstB c && okB e m.rules.length && decide (e.t ≤ m.til)
def doM (m : Mdl) (c : Cst) (e : Evt) : Cst × List Evt := if mayB m c e = true then doE m c e else (⟨0, 0, 0⟩, [])
theorem Found.some_ {A0 : Option Addr} {kd : Int} {rs : List Rule} {r : Rule} {w w' : World} {x : Ending} (h : Found A0 kd rs w x w') (hr : ruleOf kd rs = some r) : ∃ A n c, x = .returned (.tuple #[r.v (.slice A n c), .bool true]) ∧ n ≤ 9223372036854775807 ∧ Evs w' A n r.sends ∧ Up w w' ∧ ∀ b off, A0 = some ⟨b, off, none⟩ → w.cell? ⟨b, off + ixOf kd rs * 5 + 4, none⟩ = some (.slice A n c) := by
  obtain ⟨u, ⟨r', A, n, c, h1, rfl, h3, h4, h5⟩ | ⟨h1, rfl⟩⟩ := h
  · rw [hr] at h1
    injection h1 with h1
    subst h1
    exact ⟨A, n, c, rfl, h3, h4, u, h5⟩
  · rw [hr] at h1; cases h1
theorem Found.none_ {A0 : Option Addr} {kd : Int} {rs : List Rule} {w w' : World} {x : Ending} (h : Found A0 kd rs w x w') (hr : ruleOf kd rs = none) : x = .returned (.tuple #[.agg #[.int .i64 0, .int .i64 0, .int .i64 0, .int .i64 0, .slice none 0 0], .bool false]) ∧ Up w w' := by
  obtain ⟨u, ⟨r', A, n, c, h1, rfl, h3, h4, h5⟩ | ⟨h1, rfl⟩⟩ := h
  · rw [hr] at h1; cases h1
  · exact ⟨rfl, u⟩
/-- A new block of a rule's cells. -/
def IsNew5 (B : Nat) (v : Value) (w : World) : Prop :=
  ∃ b : Nat, v = .pointer (some ⟨b, 0, none⟩) ∧ B ≤ b ∧ b < w.heap.size ∧ (∀ j, j < 5 → ∃ u, w.cell? ⟨b, j, none⟩ = some u) ∧ ∀ j, w.frozen? ⟨b, j, none⟩ = false
theorem IsNew5.new {B : Nat} (w : World) (x y z u v : Value) (t : TypeId) (hB : B ≤ w.heap.size) : IsNew5 B (.pointer (some ⟨w.heap.size, 0, none⟩)) (w.alloc (.cells #[x, y, z, u, v] t)) := by
  have hh := heap_alloc_new w (.cells #[x, y, z, u, v] t)
  refine ⟨w.heap.size, rfl, hB, by simp, fun j hj => somes_new w #[x, y, z, u, v] t j (by simpa using hj), fun j => ?_⟩; unfold World.frozen?; rw [hh]; simp
/-- The cells of a rule, laid. -/
def Laid5 (w : World) (b : Nat) (x y z u v : Value) : Prop :=
  b < w.heap.size ∧ w.cell? ⟨b, 0, none⟩ = some x ∧ w.cell? ⟨b, 1, none⟩ = some y ∧ w.cell? ⟨b, 2, none⟩ = some z ∧ w.cell? ⟨b, 3, none⟩ = some u ∧ w.cell? ⟨b, 4, none⟩ = some v
/-- Steps that make blocks, or lay these five values in a block. -/
structure Lays (x y z u v : Value) (w w' : World) : Prop where
  size : w.heap.size ≤ w'.heap.size
  ex : ∀ b j, b < w.heap.size → (∃ t, w.cell? ⟨b, j, none⟩ = some t) → ∃ t, w'.cell? ⟨b, j, none⟩ = some t
  fr : ∀ b j, b < w.heap.size → w'.frozen? ⟨b, j, none⟩ = w.frozen? ⟨b, j, none⟩
  laid : ∀ b, Laid5 w b x y z u v → Laid5 w' b x y z u v
theorem Up.lays {w w' : World} (h : Up w w') (x y z u v : Value) : Lays x y z u v w w' :=
  ⟨h.size, fun _ _ hb ⟨t, ht⟩ => ⟨t, (h.cells _ _ hb).trans ht⟩, fun _ _ hb => h.frozens _ _ hb, fun _ ⟨hb, h0, h1, h2, h3, h4⟩ => ⟨Nat.lt_of_lt_of_le hb h.size, (h.cells _ _ hb).trans h0, (h.cells _ _ hb).trans h1, (h.cells _ _ hb).trans h2, (h.cells _ _ hb).trans h3, (h.cells _ _ hb).trans h4⟩⟩
theorem IsNew5.lays {B : Nat} {t : Value} {x y z u v : Value} {w w' : World} (h : IsNew5 B t w) (m : Lays x y z u v w w') : IsNew5 B t w' := by
  obtain ⟨b, hv, h2, h3, h4, h5⟩ := h
  exact ⟨b, hv, h2, Nat.lt_of_lt_of_le h3 m.size, fun j hj => m.ex b j h3 (h4 j hj), fun j => (m.fr b j h3).trans (h5 j)⟩
/-- The laying. -/
theorem lays_put {w : World} {b : Nat} (r : Rule) (s : Value) (hl : b < w.heap.size) (hs : ∀ j, j < 5 → ∃ u, w.cell? ⟨b, j, none⟩ = some u) :
    Lays (.int .i64 r.kd) (.int .i64 r.a) (.int .i64 r.b) (.int .i64 r.c) s w (putR w b 0 r s) ∧ Laid5 (putR w b 0 r s) b (.int .i64 r.kd) (.int .i64 r.a) (.int .i64 r.b) (.int .i64 r.c) s := by
  obtain ⟨k0, k1, k2, k3, k4⟩ := putR_at (r := r) (s := s) (o := 0) (fun k hk => by rw [Nat.zero_add]; exact hs k hk); simp only [Nat.zero_add] at k0 k1 k2 k3 k4
  have hL : Laid5 (putR w b 0 r s) b (.int .i64 r.kd) (.int .i64 r.a) (.int .i64 r.b) (.int .i64 r.c) s := ⟨by rw [putR_size]; exact hl, k0, k1, k2, k3, k4⟩
  refine ⟨⟨by rw [putR_size]; exact Nat.le_refl _, fun b' j _ ⟨t, ht⟩ => ?_, fun b' j _ => putR_frozen _ _ _ _ _ _, fun b' h' => ?_⟩, hL⟩
  · unfold putR
    obtain ⟨v1, h1⟩ := setCell_some (p := ⟨b, 0, none⟩) (u := .int .i64 r.kd) ht; obtain ⟨v2, h2⟩ := setCell_some (p := ⟨b, 0 + 1, none⟩) (u := .int .i64 r.a) h1; obtain ⟨v3, h3⟩ := setCell_some (p := ⟨b, 0 + 2, none⟩) (u := .int .i64 r.b) h2; obtain ⟨v4, h4⟩ := setCell_some (p := ⟨b, 0 + 3, none⟩) (u := .int .i64 r.c) h3
    exact setCell_some h4
  · by_cases hbb : b = b'
    · subst hbb
      exact hL
    · obtain ⟨h0, h1, h2, h3, h4, h5⟩ := h'
      have f : ∀ j, (putR w b 0 r s).cell? ⟨b', j, none⟩ = w.cell? ⟨b', j, none⟩ := fun j => putR_other _ _ _ _ _ _ _ (.inl hbb)
      exact ⟨by rw [putR_size]; exact h0, (f 0).trans h1, (f 1).trans h2, (f 2).trans h3, (f 3).trans h4, (f 4).trans h5⟩
theorem rulesB_of {many kd : Int} : ∀ {bf : Int} {rs : List Rule} {r : Rule}, rulesB many bf rs = true → ruleOf kd rs = some r → ruleB r many = true
  | _, [], _, _, h => by cases h
  | bf, x :: rs, r, hb, h => by
    rw [rulesB, Bool.and_eq_true, Bool.and_eq_true] at hb; rw [ruleOf] at h
    by_cases hk : x.kd = kd
    · rw [if_pos hk] at h
      injection h with h
      subst h
      exact hb.1.2
    · rw [if_neg hk] at h
      exact rulesB_of hb.2 h
theorem mdlB_rule {m : Mdl} {i : Nat} {kd : Int} {r : Rule} (hm : mdlB m = true) (hi : i < m.rules.length) (h : ruleOf kd (m.rules.getD i []) = some r) : ruleB r m.rules.length = true := by
  simp only [mdlB, Bool.and_eq_true, List.all_eq_true] at hm; refine rulesB_of (hm.2 (m.rules.getD i []) ?_) h; rw [List.getD, List.getElem?_eq_getElem hi]
  exact List.getElem_mem hi
theorem mdlB_til {m : Mdl} (hm : mdlB m = true) : 0 ≤ m.til ∧ m.til ≤ 99 := by
  simp only [mdlB, Bool.and_eq_true] at hm
  exact inB_iff.1 hm.1.1.2
theorem ruleB_parts {r : Rule} {many : Int} (h : ruleB r many = true) : (∀ i, i < r.sends.length → sndB (r.sends.getD i default) many = true) ∧ r.sends.length ≤ 2 ∧ (0 ≤ r.a ∧ r.a ≤ 96) ∧ (0 ≤ r.b ∧ r.b ≤ 96) ∧ (0 ≤ r.c ∧ r.c ≤ 96) := by
  simp only [ruleB, Bool.and_eq_true, decide_eq_true_eq, inB_iff, List.all_eq_true] at h; obtain ⟨⟨⟨⟨⟨h1, h2⟩, _⟩, h4⟩, h5⟩, h6⟩ := h; refine ⟨fun i hi => h1 _ ?_, by omega, h4, h5, h6⟩; rw [List.getD, List.getElem?_eq_getElem hi]
  exact List.getElem_mem hi
theorem sndB_parts {x : Evt} {many : Int} (h : sndB x many = true) : (1 ≤ x.to ∧ x.to ≤ 9) ∧ (0 ≤ x.sq ∧ x.sq ≤ 96) ∧ (1 ≤ x.kd ∧ x.kd ≤ 9) := by
  simp only [sndB, Bool.and_eq_true, inB_iff] at h; obtain ⟨⟨⟨⟨⟨_, h1⟩, _⟩, h2⟩, h3⟩, _⟩ := h
  exact ⟨h1, h2, h3⟩
theorem sendsE_drop (til s : Int) (e : Evt) (xs : List Evt) (k : Nat) (q : Int) (h : k < xs.length) :
    sendsE til s e (xs.drop k) q = if s % (xs.getD k default).kd ≠ (xs.getD k default).dt ∨ q = 12 then sendsE til s e (xs.drop (k + 1)) q
      else if e.t + (xs.getD k default).to ≤ til then (⟨e.t + (xs.getD k default).to, (xs.getD k default).t, e.to, q, (xs.getD k default).fr, (s + (xs.getD k default).sq) % 97⟩ :: (sendsE til s e (xs.drop (k + 1)) (q + 1)).1, (sendsE til s e (xs.drop (k + 1)) (q + 1)).2)
      else sendsE til s e (xs.drop (k + 1)) (q + 1) := by
  rw [List.drop_eq_getElem_cons h, sendsE]; simp [h]
/-- What the loop over the sends keeps. -/
structure Kept (w : World) (b3 b4 b5 b6 b9 : Nat) (x y z : Value) (S q ct : Int) (e : Evt) (u0 u1 u2 u3 u4 : Value) : Prop where
  k3 : Box3 w b3 x y z
  k4 : Cell3 w b4 S q ct
  k5 : Box w b5 e
  k6 : Cell3 w b6 0 0 0
  k9 : Laid5 w b9 u0 u1 u2 u3 u4
section
variable {w w' : World} {b3 b4 b5 b6 b9 : Nat} {x y z : Value} {S q ct : Int} {e : Evt} {u0 u1 u2 u3 u4 : Value}
theorem Laid5.keep {b : Nat} (h : Laid5 w b u0 u1 u2 u3 u4) (hs : w.heap.size ≤ w'.heap.size) (hc : ∀ o, w'.cell? ⟨b, o, none⟩ = w.cell? ⟨b, o, none⟩) : Laid5 w' b u0 u1 u2 u3 u4 :=
  ⟨Nat.lt_of_lt_of_le h.1 hs, (hc 0).trans h.2.1, (hc 1).trans h.2.2.1, (hc 2).trans h.2.2.2.1, (hc 3).trans h.2.2.2.2.1, (hc 4).trans h.2.2.2.2.2⟩
theorem Box3.keep {b : Nat} (h : Box3 w b x y z) (hs : w.heap.size ≤ w'.heap.size) (hc : ∀ o, w'.cell? ⟨b, o, none⟩ = w.cell? ⟨b, o, none⟩) : Box3 w' b x y z :=
  ⟨Nat.lt_of_lt_of_le h.lt hs, (hc 0).trans h.c0, (hc 1).trans h.c1, (hc 2).trans h.c2⟩
theorem Cell3.keep {b : Nat} {i j l : Int} (h : Cell3 w b i j l) (hs : w.heap.size ≤ w'.heap.size) (hc : ∀ o, w'.cell? ⟨b, o, none⟩ = w.cell? ⟨b, o, none⟩) (hf : ∀ o, w'.frozen? ⟨b, o, none⟩ = w.frozen? ⟨b, o, none⟩) : Cell3 w' b i j l :=
  ⟨Nat.lt_of_lt_of_le h.lt hs, (hc 0).trans h.c0, (hc 1).trans h.c1, (hc 2).trans h.c2, fun o => (hf o).trans (h.f o)⟩
theorem Kept.up (h : Kept w b3 b4 b5 b6 b9 x y z S q ct e u0 u1 u2 u3 u4) (u : Up w w') : Kept w' b3 b4 b5 b6 b9 x y z S q ct e u0 u1 u2 u3 u4 :=
  ⟨h.k3.up u, h.k4.keep u.size (fun _ => u.cells _ _ h.k4.lt) (fun _ => u.frozens _ _ h.k4.lt), h.k5.up u, h.k6.keep u.size (fun _ => u.cells _ _ h.k6.lt) (fun _ => u.frozens _ _ h.k6.lt), h.k9.keep u.size (fun _ => u.cells _ _ h.k9.1)⟩
theorem Kept.grown {row : Option Nat} (h : Kept w b3 b4 b5 b6 b9 x y z S q ct e u0 u1 u2 u3 u4) (hg : w.grownBy w' row) (h3 : some b3 ≠ row) (h4 : some b4 ≠ row) (h5 : some b5 ≠ row) (h6 : some b6 ≠ row) (h9 : some b9 ≠ row) : Kept w' b3 b4 b5 b6 b9 x y z S q ct e u0 u1 u2 u3 u4 :=
  ⟨h.k3.keep hg.size (fun _ => World.cell?_of_block (hg.block b3 h.k3.lt h3)), h.k4.keep hg.size (fun _ => World.cell?_of_block (hg.block b4 h.k4.lt h4)) (fun _ => World.frozen?_of_block (hg.block b4 h.k4.lt h4)), h.k5.grown hg h5, h.k6.keep hg.size (fun _ => World.cell?_of_block (hg.block b6 h.k6.lt h6)) (fun _ => World.frozen?_of_block (hg.block b6 h.k6.lt h6)), h.k9.keep hg.size (fun _ => World.cell?_of_block (hg.block b9 h.k9.1 h9))⟩
theorem Kept.set4 (h : Kept w b3 b4 b5 b6 b9 x y z S q ct e u0 u1 u2 u3 u4) (n3 : b4 ≠ b3) (n5 : b4 ≠ b5) (n6 : b4 ≠ b6) (n9 : b4 ≠ b9) {j : Nat} {t : Value} {S' q' : Int} (hc : Cell3 (w.setCell ⟨b4, j, none⟩ t) b4 S' q' ct) : Kept (w.setCell ⟨b4, j, none⟩ t) b3 b4 b5 b6 b9 x y z S' q' ct e u0 u1 u2 u3 u4 :=
  ⟨h.k3.keep (by simp) (fun _ => World.cell?_setCell_other _ _ _ _ (addr_ne (.inl n3))), hc, h.k5.setFar n5 _, h.k6.far n6 _, h.k9.keep (by simp) (fun _ => World.cell?_setCell_other _ _ _ _ (addr_ne (.inl n9)))⟩
end
/-- The operations of the region that finds the rule. -/
def dP (b3 b5 : Nat) (A : Option Addr) (n c : Nat) (bA off : Nat) (e : Evt) (A' : Option Addr) (n' c' : Nat) (U : Value) (ok : Bool) (i : Nat) (v : Value) : Prop :=
  if i = 0 then v = .pointer (some ⟨b3, 0, none⟩) else if i = 1 then v = .slice A n c else if i = 2 then v = .pointer (some ⟨b5, 1, none⟩) else if i = 3 then v = .int .i64 e.to
  else if i = 4 then v = .pointer (some ⟨bA, off + e.to.toNat, none⟩) else if i = 5 then v = .slice A' n' c' else if i = 6 then v = .pointer (some ⟨b5, 4, none⟩) else if i = 7 then v = .int .i64 e.kd
  else if i = 8 ∨ i = 9 then v = .tuple #[U, .bool ok] else if i = 10 then v = U else v = .bool ok
def dR (b3 b5 : Nat) (A : Option Addr) (n c : Nat) (bA off : Nat) (e : Evt) (A' : Option Addr) (n' c' : Nat) (r : Rule) (s : Value) (ok : Bool) (B : Nat) (i : Nat) (v : Value) (w : World) : Prop :=
  if i = 12 then IsNew5 B v w else if i = 13 then (∃ b, v = .pointer (some ⟨b, 0, none⟩) ∧ Laid5 w b (.int .i64 r.kd) (.int .i64 r.a) (.int .i64 r.b) (.int .i64 r.c) s) else dP b3 b5 A n c bA off e A' n' c' (r.v s) ok i v
theorem Cell3.up {w w' : World} {b : Nat} {i j l : Int} (h : Cell3 w b i j l) (u : Up w w') : Cell3 w' b i j l := h.keep u.size (fun _ => u.cells _ _ h.lt) (fun _ => u.frozens _ _ h.lt)
end Go.Proofs.Ytakmlfgkppekoaa

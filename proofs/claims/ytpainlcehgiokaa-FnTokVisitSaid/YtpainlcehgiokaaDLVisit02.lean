/-
  What impl.ruleOk returns, in one sentence: the bool that the bounds of the rule and of what it sends give; for every rule that lies in memory.
  What impl.rulesOk returns, in one sentence: whether each component's rules are in order and each is a rule; for every model that lies in memory.
  A region that draws its order and whose callees make new blocks, in one sentence: one walk in the order of the text serves every order, where each operation yields one value in every grown world.
  What the two EvtRise return, in one sentence: whether each event is less than the next one; for every list that lies in memory.
  What impl.MdlOk returns, in one sentence: the bool that the bounds give; for every model that lies in memory.
  What eqEvtEvt, szEvtEvtS and eqEvtEvtS return, in one sentence: whether the events are the same, what is left of a size, whether two lists are the same; for all that lie in memory.
  The walk of a region that draws, kept shut, in one sentence: as region_up, but no tactic looks into what is left to walk.
  Marks and tokens as values, what is valid of them and what a visit makes of them, in one sentence: pure functions of numbers, and what toGvtMark, toGvtTok, eqGvtMark and eqGvtTok return; no condition is made.
-/
import Derived.Test.YtpainlcehgiokaaDLVisit01
namespace Go.Proofs.Ytpainlcehgiokaa
set_option maxRecDepth 100000
open Go.RowKit
set_option maxHeartbeats 4000000 in
theorem implRule_any (r : Rule) (A : Option Addr) (n c : Nat) (many : Int) (hm1 : 1 ≤ many) (hm2 : many ≤ 4) (w : World) (hn : n ≤ 9223372036854775807) (hE : Evs w A n r.sends) :
    Calls Try.prog 66 #[r.v (.slice A n c), .int .i64 many] w fun x w' => x = .returned (.bool (ruleB r many)) ∧ Up w w' := by
  obtain ⟨kd, ra, rb, rc, es⟩ := r
  have AD := Lib.hid (fun k h => all_drop (f := fun e => sndB e many) (d := default) es k h)
  have AE := Lib.hid (fun k h => all_end (f := fun e => sndB e many) es k h)
  have HE := Lib.hid hE
  have LE := Lib.hid hE.1
  have CL := Lib.hid (fun e W => implSnd_any e many hm1 hm2 W)
  have RB := Lib.hid (show ruleB ⟨kd, ra, rb, rc, es⟩ many = (es.all (fun e => sndB e many) && decide ((n : Int) ≤ 2) && inB kd 0 2 && inB ra 0 96 && inB rb 0 96 && inB rc 0 96) by rw [← hE.1]; rfl)
  have H0 := Lib.hid (show (es.drop 0).all (fun e => sndB e many) = es.all (fun e => sndB e many) from rfl)
  generalize ruleB ⟨kd, ra, rb, rc, es⟩ many = res at RB ⊢
  generalize es.all (fun e => sndB e many) = al at RB H0
  clear hE; unfold Rule.v; dsimp only
  go_enter Try.func66, Try.ntmps66
  go_wp2
  go_loopw [10] (fun i wr => (∃ k : Nat, k ≤ n ∧ i = .int .i64 k ∧ Hid ((es.drop k).all (fun e => sndB e many) = al)) ∧ Up (w.alloc (.cells #[.int .i64 kd, .int .i64 ra, .int .i64 rb, .int .i64 rc, .slice A n c] 84)) wr) (fun i _ => n - (intOf i).toNat)
  case atStart => exact ⟨⟨0, by omega, rfl, H0⟩, Up.refl _⟩
  case round =>
    obtain ⟨⟨k, hk, rfl, HA⟩, ur⟩ := hrel
    have hw : Up w wr := ((Up.refl w).alloc _).trans ur
    by_cases hlt : k < n
    · obtain ⟨b, off, hA, hb, hc⟩ := HE.out.2 (by omega)
      subst hA
      have a0 := (hc k hlt).up hw hb
      have hb' : b < wr.heap.size := by have := hw.size; omega
      clear hc
      have S := AD.out k (by rw [LE.out]; exact hlt)
      rw [HA.out] at S
      have cl := CL.out (es.getD k default)
      generalize es.getD k default = e at a0 S cl
      generalize sndB e many = s at S cl
      obtain ⟨et, eto, efr, esq, ekd, edt⟩ := e; unfold EvAt at a0; unfold Evt.v at cl; dsimp only at a0 cl; obtain ⟨p0, p1, p2, p3, p4, p5⟩ := a0
      have C := Lib.hid cl
      have S' := Lib.hid S
      have UR := Lib.hid ur
      clear cl S hw ur
      have i4 : (k : Int) < n := by omega
      have i5 : IntKind.i64.wrap ((k : Int) + 1) = (k : Int) + 1 := IntWalk.i64_in _ (by omega)
      go_wp2_with fail
      refine (C.out _).mono ?_; rintro x w2 ⟨rfl, u2⟩
      have U2 := Lib.hid ((UR.out.alloc _).trans u2)
      clear u2
      cases s
      · go_wp2
        go_ret
        exact ⟨ret_bool (by rw [RB.out, S'.out]; rfl), ((Up.refl w).alloc _).trans U2.out⟩
      · go_wp2
        go_roundw
        case rel => exact ⟨⟨k + 1, by omega, by first | rfl | go_num, Lib.hid (by rw [S'.out, Bool.true_and])⟩, U2.out⟩
        case measure => (simp [intOf]; try omega)
    · have hal : al = true := HA.out.symm.trans (AE.out k (by rw [LE.out]; omega))
      have RB2 := Lib.hid (hal ▸ RB.out)
      have HW := Lib.hid hw
      obtain ⟨hc, hf, hz⟩ := ur.facts; simp at hz; clear hw hal RB HA AD AE CL HE LE H0
      have i4 : ¬ (k : Int) < n := by omega
      go_wp2_with (go_at_call 42; refine (within_any _ _ _ _).mono ?_; rintro e w' ⟨rfl, rfl⟩)
      all_goals go_ret
      all_goals exact ⟨ret_bool (by rw [RB2.out]; first | (simp [*]; done) | (simp [*]; intros; omega)), HW.out⟩
end Go.Proofs.Ytpainlcehgiokaa

namespace Go.Proofs.Ytpainlcehgiokaa
set_option maxRecDepth 100000
open Go.RowKit
/-- The cells of a model's own block. -/
structure Box3 (w : World) (b : Nat) (x y z : Value) : Prop where
  lt : b < w.heap.size
  c0 : w.cell? ⟨b, 0, none⟩ = some x
  c1 : w.cell? ⟨b, 1, none⟩ = some y
  c2 : w.cell? ⟨b, 2, none⟩ = some z
theorem Box3.new (w : World) (x y z : Value) (t : TypeId) : Box3 (w.alloc (.cells #[x, y, z] t)) w.heap.size x y z := by
  have hh := heap_alloc_new w (.cells #[x, y, z] t)
  exact ⟨by simp, by rw [cell_of_row _ _ 0 _ _ _ hh]; rfl, by rw [cell_of_row _ _ 1 _ _ _ hh]; rfl, by rw [cell_of_row _ _ 2 _ _ _ hh]; rfl⟩
theorem Box3.up {w w' : World} {b : Nat} {x y z : Value} (h : Box3 w b x y z) (u : Up w w') : Box3 w' b x y z :=
  ⟨Nat.lt_of_lt_of_le h.lt u.size, (u.cells _ _ h.lt).trans h.c0, (u.cells _ _ h.lt).trans h.c1, (u.cells _ _ h.lt).trans h.c2⟩
set_option maxHeartbeats 8000000 in
theorem implRules_any (A : Option Addr) (n c : Nat) (B : Option Addr) (k d : Nat) (til : Int) (rss : List (List Rule)) (hm1 : (1 : Int) ≤ n) (hm2 : (n : Int) ≤ 4) (w : World) (hR : Rulz w A n rss) :
    Calls Try.prog 57 #[.agg #[.slice A n c, .slice B k d, .int .i64 til]] w fun x w' => x = .returned (.bool (rss.all (rulesB n (-1)))) ∧ Up w w' := by
  have AD := Lib.hid (fun i h => all_drop (f := rulesB n (-1)) (d := []) rss i h)
  have AE := Lib.hid (fun i h => all_end (f := rulesB n (-1)) rss i h)
  have RD := Lib.hid (fun bf rs i h => rulesB_drop n bf rs i h)
  have RE := Lib.hid (fun bf rs i h => rulesB_end n bf rs i h)
  have HR := Lib.hid hR
  have LR := Lib.hid hR.1
  have CL := Lib.hid (fun r A' n' c' W hn hE => implRule_any r A' n' c' n hm1 hm2 W hn hE)
  have H0 := Lib.hid (show (rss.drop 0).all (rulesB n (-1)) = rss.all (rulesB n (-1)) from rfl)
  generalize rss.all (rulesB n (-1)) = al at H0 ⊢
  have B0 := Lib.hid (Box3.new w (.slice A n c) (.slice B k d) (.int .i64 til) 26)
  clear hR
  go_enter Try.func57, Try.ntmps57
  go_wp2
  go_loopw [11] (fun i wr => (∃ q : Nat, q ≤ n ∧ i = .int .i64 q ∧ Hid ((rss.drop q).all (rulesB n (-1)) = al)) ∧ Up (w.alloc (.cells #[.slice A n c, .slice B k d, .int .i64 til] 26)) wr) (fun i _ => n - (intOf i).toNat)
  case atStart => exact ⟨⟨0, by omega, rfl, H0⟩, Up.refl _⟩
  case round =>
    obtain ⟨⟨q, hq, rfl, HA⟩, ur⟩ := hrel; obtain ⟨wo, hwo⟩ : ∃ W, W = wr := ⟨_, rfl⟩; subst hwo
    have hw : Up w wo := ((Up.refl w).alloc _).trans ur
    by_cases hlt : q < n
    · obtain ⟨b, off, hA, hb, hc⟩ := HR.out.2.2 (by omega)
      subst hA; obtain ⟨A', n', c', hcell, hrs⟩ := hc q hlt
      have cell := (hw.cells _ _ hb).trans hcell
      have HS := Lib.hid (hrs.up hw)
      have hn' : n' ≤ 9223372036854775807 := hrs.2.1
      have hb' : b < wo.heap.size := by have := hw.size; omega
      have S := AD.out q (by rw [LR.out]; exact hlt)
      rw [HA.out] at S; clear hc hcell hrs
      generalize rss.getD q [] = rs at HS S
      have S' := Lib.hid S
      have LS := Lib.hid HS.out.1
      have UR := Lib.hid ur
      have H1 := Lib.hid (show rulesB n (-1) (rs.drop 0) = rulesB n (-1) rs from rfl)
      generalize rulesB n (-1) rs = ok at S' H1
      clear S ur hw
      have i4 : (q : Int) < n := by omega
      have i5 : IntKind.i64.wrap ((q : Int) + 1) = (q : Int) + 1 := IntWalk.i64_in _ (by omega)
      go_wp2_with fail
      go_loopw [5, 17] (fun f j wj => (∃ (bf : Int) (p : Nat), p ≤ n' ∧ f = .int .i64 bf ∧ j = .int .i64 p ∧ Hid (rulesB n bf (rs.drop p) = ok)) ∧ Up wo wj) (fun _ j _ => n' - (intOf j).toNat)
      case atStart => exact ⟨⟨-1, 0, by omega, rfl, rfl, H1⟩, Up.refl _⟩
      case round =>
        obtain ⟨⟨bf, p, hp, rfl, rfl, HB⟩, uj⟩ := hrel
        have bx := B0.out.up (UR.out.trans uj)
        obtain ⟨q0, q1, q2⟩ := And.intro bx.c0 (And.intro bx.c1 bx.c2)
        have qlt := bx.lt
        have hbx : w.heap.size < wo.heap.size := (B0.out.up UR.out).lt
        clear bx
        by_cases hlp : p < n'
        · obtain ⟨b2, off2, hA2, hb2, hc2⟩ := HS.out.2.2 (by omega)
          subst hA2
          have at2 := (hc2 p hlp).up uj hb2
          have hb2' : b2 < wr.heap.size := by have := uj.size; omega
          clear hc2
          have T := RD.out bf rs p (by rw [LS.out]; exact hlp)
          rw [HB.out] at T
          have cl := fun A' n' c' W => CL.out (rs.getD p default) A' n' c' W
          generalize rs.getD p default = r at at2 T cl
          obtain ⟨A3, n3, c3, ⟨r0, r1, r2, r3, r4⟩, hn3, he3⟩ := at2
          have E3 := Lib.hid he3
          obtain ⟨kd, ra, rb, rc, es⟩ := r
          generalize ruleB ⟨kd, ra, rb, rc, es⟩ n = s at T cl
          unfold Rule.v at cl; dsimp only at cl r0 r1 r2 r3 r4 T
          have C := Lib.hid (cl A3 n3 c3)
          have T' := Lib.hid T
          have UJ := Lib.hid uj
          have hsz : wo.heap.size ≤ wr.heap.size := uj.size
          clear T cl he3 uj
          have i6 : (p : Int) < n' := by omega
          have i7 : IntKind.i64.wrap ((p : Int) + 1) = (p : Int) + 1 := IntWalk.i64_in _ (by omega)
          by_cases hkd : kd ≤ bf
          · have hok : ok = false := by rw [T'.out, decide_eq_false (by omega)]; rfl
            go_wp2; go_ret
            exact ⟨ret_bool (by rw [S'.out, hok]; rfl), ((((Up.refl w).alloc _).trans UR.out).trans UJ.out).alloc _⟩
          · have hd : decide (bf < kd) = true := decide_eq_true (by omega)
            have NX := Lib.hid (show wr.heap.size ≠ w.heap.size by omega)
            go_wp2_with fail
            refine (C.out _ hn3 (E3.out.up ((Up.refl _).alloc _))).mono ?_; rintro x w2 ⟨rfl, u2⟩
            have U2 := Lib.hid ((UJ.out.alloc _).trans u2)
            obtain ⟨hc, hf, hz⟩ := u2.facts; simp at hz
            cases s
            · have hok : ok = false := by rw [T'.out, hd]; rfl
              go_wp2; go_ret
              exact ⟨ret_bool (by rw [S'.out, hok]; rfl), (((Up.refl w).alloc _).trans UR.out).trans U2.out⟩
            · have TT := Lib.hid (show rulesB n kd (rs.drop (p + 1)) = ok by rw [T'.out, hd]; rfl)
              go_wp2
              go_roundw
              case rel => exact ⟨⟨kd, p + 1, by omega, rfl, by first | rfl | go_num, TT⟩, U2.out⟩
              case measure => (simp [intOf]; try omega)
        · have hok : ok = true := HB.out.symm.trans (RE.out bf rs p (by rw [LS.out]; omega))
          have i6 : ¬ (p : Int) < n' := by omega
          have UJ := Lib.hid uj
          clear uj; go_wp2
          go_roundw
          case rel => exact ⟨⟨q + 1, by omega, by first | rfl | go_num, Lib.hid (by rw [S'.out, hok, Bool.true_and])⟩, UR.out.trans UJ.out⟩
          case measure => (simp [intOf]; try omega)
    · have hal : al = true := HA.out.symm.trans (AE.out q (by rw [LR.out]; omega))
      have HW := Lib.hid hw
      have i4 : ¬ (q : Int) < n := by omega
      clear hw ur; go_wp2; go_ret
      exact ⟨ret_bool (by first | exact hal.symm | rfl), HW.out⟩
end Go.Proofs.Ytpainlcehgiokaa

namespace Go.Proofs.Ytpainlcehgiokaa
set_option maxRecDepth 100000
open Go.RowKit
theorem region_up {P : Program} {id : Nat} {Q : Exit → Act → World → Prop} {a : Act} {w : World} {l : List Oper} (hm : P.follows .mixedOrders = true) (hB : Region.lexB .any l.toArray = true)
    (h : wpQuiet P l.toArray (Up w) (fun a' => ∀ w', Up w w' → Q .normal a' w') l a) : (Code.region id l.toArray true).wp P Q a w :=
  wp_region_quiet (C := Up w) hm hB (show Up w w.drew from (Up.refl w).drew) (by simpa using h)
/-- One operation: one value, in every grown world. -/
theorem up_step {P : Program} {ops : Array Oper} {w : World} {Q : Act → Prop} {a : Act} {o : Oper} {rest : List Oper} (hg : o.guard = none)
    (h : ∃ v, (∀ w1, Up w w1 → Oper.quietUpon P (Up w) w1 v ((execOp a.eval o).run P w1)) ∧ wpQuiet P ops (Up w) Q rest (a.put o.dst v)) : wpQuiet P ops (Up w) Q (o :: rest) a :=
  wpQuiet_step fun K hK => by
    have hw : Region.wanted o (yielded ops a.tmps) = true := by simp [Region.wanted, hg]
    rw [if_pos hw]; obtain ⟨v, hq, hk⟩ := h
    exact ⟨v, hq, hK _ hk⟩
/-- A guarded operation that is wanted. -/
theorem up_want {P : Program} {ops : Array Oper} {w : World} {Q : Act → Prop} {a : Act} {o : Oper} {rest : List Oper} (hw : Region.wanted o (yielded ops a.tmps) = true)
    (h : ∃ v, (∀ w1, Up w w1 → Oper.quietUpon P (Up w) w1 v ((execOp a.eval o).run P w1)) ∧ wpQuiet P ops (Up w) Q rest (a.put o.dst v)) : wpQuiet P ops (Up w) Q (o :: rest) a :=
  wpQuiet_step fun K hK => by
    rw [if_pos hw]; obtain ⟨v, hq, hk⟩ := h
    exact ⟨v, hq, hK _ hk⟩
/-- A guarded operation that is not wanted. -/
theorem up_skip {P : Program} {ops : Array Oper} {w : World} {Q : Act → Prop} {a : Act} {o : Oper} {rest : List Oper} (hw : Region.wanted o (yielded ops a.tmps) = false)
    (h : wpQuiet P ops (Up w) Q rest (a.put o.dst undef)) : wpQuiet P ops (Up w) Q (o :: rest) a :=
  wpQuiet_step fun K hK => by
    rw [if_neg (by rw [hw]; exact Bool.false_ne_true)]
    exact hK _ h
theorem up_call {P : Program} {f : FuncId} {args : Array Value} {w w1 : World} {v : Value} (hw : Up w w1)
    (h : Calls P f args w1 fun e w' => e = .returned v ∧ Up w1 w') : Calls P f args w1 fun e w'' => e = .returned v ∧ Up w w'' :=
  h.mono fun _ _ ⟨he, u⟩ => ⟨he, hw.trans u⟩
end Go.Proofs.Ytpainlcehgiokaa

namespace Go.Proofs.Ytpainlcehgiokaa
set_option maxRecDepth 100000
open Go.RowKit
set_option maxHeartbeats 1000000 in
theorem ascE_any (A : Option Addr) (n cap : Nat) (es : List Evt) (w : World) (hn : n ≤ 1000000000) (hE : Evs w A n es) :
    Calls Try.prog 71 #[.func (.func 72) #[] #[], .slice A n cap] w fun x w' => x = .returned (.bool (riseB es)) ∧ Up w w' := by
  have H0 := Lib.hid (show riseB (es.drop 0) = riseB es from rfl)
  have ST := Lib.hid (riseB_drop es)
  have EN := Lib.hid (riseB_end es)
  have HE := Lib.hid hE
  have LE := Lib.hid hE.1
  have CL := Lib.hid (fun a b W => cmpE_any a b W)
  clear hE
  go_enter Try.func71, Try.ntmps71
  go_wp2
  go_loopw [5] (fun i wr => (∃ j : Nat, (j = 0 ∨ j + 1 ≤ n) ∧ i = .int .i64 ((j : Int) + 1) ∧ riseB (es.drop j) = riseB es) ∧ Up w wr) (fun i _ => n + 1 - (intOf i).toNat)
  case atStart => exact ⟨⟨0, .inl rfl, rfl, H0.out⟩, Up.refl _⟩
  case round =>
    obtain ⟨⟨j, hj, rfl, hr⟩, ur⟩ := hrel
    have HR := Lib.hid hr
    clear hr
    by_cases hlt : j + 1 < n
    · obtain ⟨b, off, hA, hb, hc⟩ := HE.out.2 (by omega)
      subst hA
      have a0 := (hc j (by omega)).up ur hb
      have a1 := (hc (j + 1) hlt).up ur hb
      have hb' : b < wr.heap.size := by have := ur.size; omega
      clear hc
      have S := ST.out j (by rw [LE.out]; exact hlt)
      have cl := CL.out (es.getD j default) (es.getD (j + 1) default)
      generalize es.getD j default = p at a0 S cl
      generalize es.getD (j + 1) default = q at a1 S cl
      have S' := Lib.hid S
      clear S
      generalize hz : cmpE p q = z at cl
      have HZ := Lib.hid (show ltE p q = decide (z < 0) by unfold ltE; rw [hz])
      clear hz
      generalize ltE p q = r at S' HZ
      obtain ⟨pt, pto, pfr, psq, pkd, pdt⟩ := p; obtain ⟨qt, qto, qfr, qsq, qkd, qdt⟩ := q; unfold EvAt at a0 a1; unfold Evt.v at cl; dsimp only at a0 a1 cl; obtain ⟨p0, p1, p2, p3, p4, p5⟩ := a0; obtain ⟨q0, q1, q2, q3, q4, q5⟩ := a1
      have C := Lib.hid cl
      clear cl
      have i0 : IntKind.i64.wrap (j : Int) = j := IntWalk.i64_in _ (by omega)
      have i1 : (0 : Int) ≤ (j : Int) + 1 := by omega
      have i2 : ((j : Int) + 1).toNat = j + 1 := by omega
      have i3 : (j : Int) + 1 < n := by omega
      have i4 : (j : Int) < n := by omega
      go_wp2
      by_cases hz : z < 0
      · have hr : r = true := by rw [HZ.out]; exact decide_eq_true hz
        have HR2 := Lib.hid hr
        clear hr; refine region_up (by kernel_rfl) (by kernel_rfl) ?_; refine up_step rfl ?_; apply Exists.intro; refine ⟨fun w1 hw1 => ?_, ?_⟩
        · go_simp
          try rfl
        go_simp; refine up_step rfl ?_; apply Exists.intro; refine ⟨fun w1 hw1 => ?_, ?_⟩
        · go_simp
          try rfl
        go_simp; refine up_step rfl ?_; apply Exists.intro; refine ⟨fun w1 hw1 => ?_, ?_⟩
        · go_simp
          try rfl
        go_simp; refine up_step rfl ?_; apply Exists.intro; refine ⟨fun w1 hw1 => ?_, ?_⟩
        · go_simp
          try rfl
        go_simp; refine up_step rfl ?_; apply Exists.intro; refine ⟨fun w1 hw1 => ?_, ?_⟩
        · go_simp
          try rfl
        go_simp; refine up_step rfl ?_; apply Exists.intro; refine ⟨fun w1 hw1 => ?_, ?_⟩
        · obtain ⟨hc, hf, hz⟩ := hw1.facts
          try simp at hz
          go_simp
          try rfl
        go_simp; refine up_step rfl ?_; apply Exists.intro; refine ⟨fun w1 hw1 => ?_, ?_⟩
        · go_simp
          try rfl
        go_simp; refine up_step rfl ?_; apply Exists.intro; refine ⟨fun w1 hw1 => ?_, ?_⟩
        · go_simp
          try rfl
        go_simp; refine up_step rfl ?_; apply Exists.intro; refine ⟨fun w1 hw1 => ?_, ?_⟩
        · go_simp
          try rfl
        go_simp; refine up_step rfl ?_; apply Exists.intro; refine ⟨fun w1 hw1 => ?_, ?_⟩
        · obtain ⟨hc, hf, hz⟩ := hw1.facts
          try simp at hz
          go_simp
          try rfl
        go_simp; refine up_step rfl ?_; apply Exists.intro; refine ⟨fun w1 hw1 => ?_, ?_⟩
        · go_simp
          exact up_call hw1 (C.out _)
        go_simp; refine up_step rfl ?_; apply Exists.intro; refine ⟨fun w1 hw1 => ?_, ?_⟩
        · go_simp
          try rfl
        go_simp; refine wpQuiet_nil ?_; intro wA uA; clear i0 i1 i2 i3 i4 p0 p1 p2 p3 p4 p5 q0 q1 q2 q3 q4 q5 C; go_wp2
        go_roundw
        case rel => exact ⟨⟨j + 1, .inr (by omega), by go_num, by rw [← HR.out, S'.out, HR2.out]; rfl⟩, ur.trans uA⟩
        case measure => simp [intOf]; omega
      · have hz0 : 0 ≤ z := by omega
        have hr : r = false := by rw [HZ.out]; exact decide_eq_false hz
        have HR2 := Lib.hid hr
        clear hr; refine region_up (by kernel_rfl) (by kernel_rfl) ?_; refine up_step rfl ?_; apply Exists.intro; refine ⟨fun w1 hw1 => ?_, ?_⟩
        · go_simp
          try rfl
        go_simp; refine up_step rfl ?_; apply Exists.intro; refine ⟨fun w1 hw1 => ?_, ?_⟩
        · go_simp
          try rfl
        go_simp; refine up_step rfl ?_; apply Exists.intro; refine ⟨fun w1 hw1 => ?_, ?_⟩
        · go_simp
          try rfl
        go_simp; refine up_step rfl ?_; apply Exists.intro; refine ⟨fun w1 hw1 => ?_, ?_⟩
        · go_simp
          try rfl
        go_simp; refine up_step rfl ?_; apply Exists.intro; refine ⟨fun w1 hw1 => ?_, ?_⟩
        · go_simp
          try rfl
        go_simp; refine up_step rfl ?_; apply Exists.intro; refine ⟨fun w1 hw1 => ?_, ?_⟩
        · obtain ⟨hc, hf, hz⟩ := hw1.facts
          try simp at hz
          go_simp
          try rfl
        go_simp; refine up_step rfl ?_; apply Exists.intro; refine ⟨fun w1 hw1 => ?_, ?_⟩
        · go_simp
          try rfl
        go_simp; refine up_step rfl ?_; apply Exists.intro; refine ⟨fun w1 hw1 => ?_, ?_⟩
        · go_simp
          try rfl
        go_simp; refine up_step rfl ?_; apply Exists.intro; refine ⟨fun w1 hw1 => ?_, ?_⟩
        · go_simp
          try rfl
        go_simp; refine up_step rfl ?_; apply Exists.intro; refine ⟨fun w1 hw1 => ?_, ?_⟩
        · obtain ⟨hc, hf, hz⟩ := hw1.facts
          try simp at hz
          go_simp
          try rfl
        go_simp; refine up_step rfl ?_; apply Exists.intro; refine ⟨fun w1 hw1 => ?_, ?_⟩
        · go_simp
          exact up_call hw1 (C.out _)
        go_simp; refine up_step rfl ?_; apply Exists.intro; refine ⟨fun w1 hw1 => ?_, ?_⟩
        · go_simp
          try rfl
        go_simp; refine wpQuiet_nil ?_; intro wA uA; clear i0 i1 i2 i3 i4 p0 p1 p2 p3 p4 p5 q0 q1 q2 q3 q4 q5 C; go_wp2; go_ret
        exact ⟨ret_bool (by rw [← HR.out, S'.out, HR2.out]; rfl), ur.trans uA⟩
    · have e := EN.out j (by rw [LE.out]; omega)
      have E := Lib.hid e
      clear e; go_wp2; go_ret
      exact ⟨ret_bool (by rw [← HR.out, E.out]), ur⟩
theorem implRise_any (A : Option Addr) (n cap : Nat) (es : List Evt) (w : World) (hn : n ≤ 1000000000) (hE : Evs w A n es) :
    Calls Try.prog 65 #[.slice A n cap] w fun x w' => x = .returned (.bool (riseB es)) ∧ Up w w' := by
  have C := Lib.hid (ascE_any A n cap es w hn hE)
  generalize riseB es = r at C ⊢
  clear hE
  go_enter Try.func65, Try.ntmps65
  go_wp2_with fail
  refine C.out.mono ?_; rintro x w1 ⟨rfl, u⟩; go_wp2; go_ret
  exact ⟨rfl, u⟩
set_option maxHeartbeats 1000000 in
theorem specRise_any (A : Option Addr) (n cap : Nat) (es : List Evt) (w : World) (hn : n ≤ 1000000000) (hE : Evs w A n es) :
    Calls Try.prog 58 #[.slice A n cap] w fun x w' => x = .returned (.bool (riseB es)) ∧ Up w w' := by
  have H0 := Lib.hid (show riseB (es.drop 0) = riseB es from rfl)
  have ST := Lib.hid (riseB_drop es)
  have EN := Lib.hid (riseB_end es)
  have HE := Lib.hid hE
  have LE := Lib.hid hE.1
  have CL := Lib.hid (fun a b W => specLess_any a b W)
  clear hE
  go_enter Try.func58, Try.ntmps58
  go_wp2
  go_loopw [3] (fun i wr => (∃ j : Nat, (j = 0 ∨ j + 1 ≤ n) ∧ i = .int .i64 ((j : Int) + 1) ∧ riseB (es.drop j) = riseB es) ∧ Up w wr) (fun i _ => n + 1 - (intOf i).toNat)
  case atStart => exact ⟨⟨0, .inl rfl, rfl, H0.out⟩, Up.refl _⟩
  case round =>
    obtain ⟨⟨j, hj, rfl, hr⟩, ur⟩ := hrel
    have HR := Lib.hid hr
    clear hr
    by_cases hlt : j + 1 < n
    · obtain ⟨b, off, hA, hb, hc⟩ := HE.out.2 (by omega)
      subst hA
      have a0 := (hc j (by omega)).up ur hb
      have a1 := (hc (j + 1) hlt).up ur hb
      have hb' : b < wr.heap.size := by have := ur.size; omega
      clear hc
      have S := ST.out j (by rw [LE.out]; exact hlt)
      have cl := CL.out (es.getD j default) (es.getD (j + 1) default)
      generalize es.getD j default = p at a0 S cl
      generalize es.getD (j + 1) default = q at a1 S cl
      have S' := Lib.hid S
      clear S
      generalize ltE p q = r at S' cl
      obtain ⟨pt, pto, pfr, psq, pkd, pdt⟩ := p; obtain ⟨qt, qto, qfr, qsq, qkd, qdt⟩ := q; unfold EvAt at a0 a1; unfold Evt.v at cl; dsimp only at a0 a1 cl; obtain ⟨p0, p1, p2, p3, p4, p5⟩ := a0; obtain ⟨q0, q1, q2, q3, q4, q5⟩ := a1
      have C := Lib.hid cl
      clear cl
      have i0 : IntKind.i64.wrap (j : Int) = j := IntWalk.i64_in _ (by omega)
      have i1 : (0 : Int) ≤ (j : Int) + 1 := by omega
      have i2 : ((j : Int) + 1).toNat = j + 1 := by omega
      have i3 : (j : Int) + 1 < n := by omega
      have i4 : (j : Int) < n := by omega
      go_wp2; refine region_up (by kernel_rfl) (by kernel_rfl) ?_; refine up_step rfl ?_; apply Exists.intro; refine ⟨fun w1 hw1 => ?_, ?_⟩
      · go_simp
        try rfl
      go_simp; refine up_step rfl ?_; apply Exists.intro; refine ⟨fun w1 hw1 => ?_, ?_⟩
      · go_simp
        try rfl
      go_simp; refine up_step rfl ?_; apply Exists.intro; refine ⟨fun w1 hw1 => ?_, ?_⟩
      · go_simp
        try rfl
      go_simp; refine up_step rfl ?_; apply Exists.intro; refine ⟨fun w1 hw1 => ?_, ?_⟩
      · go_simp
        try rfl
      go_simp; refine up_step rfl ?_; apply Exists.intro; refine ⟨fun w1 hw1 => ?_, ?_⟩
      · obtain ⟨hc, hf, hz⟩ := hw1.facts
        try simp at hz
        go_simp
        try rfl
      go_simp; refine up_step rfl ?_; apply Exists.intro; refine ⟨fun w1 hw1 => ?_, ?_⟩
      · go_simp
        try rfl
      go_simp; refine up_step rfl ?_; apply Exists.intro; refine ⟨fun w1 hw1 => ?_, ?_⟩
      · go_simp
        try rfl
      go_simp; refine up_step rfl ?_; apply Exists.intro; refine ⟨fun w1 hw1 => ?_, ?_⟩
      · go_simp
        try rfl
      go_simp; refine up_step rfl ?_; apply Exists.intro; refine ⟨fun w1 hw1 => ?_, ?_⟩
      · obtain ⟨hc, hf, hz⟩ := hw1.facts
        try simp at hz
        go_simp
        try rfl
      go_simp; refine up_step rfl ?_; apply Exists.intro; refine ⟨fun w1 hw1 => ?_, ?_⟩
      · go_simp
        exact up_call hw1 (C.out _)
      go_simp; refine up_step rfl ?_; apply Exists.intro; refine ⟨fun w1 hw1 => ?_, ?_⟩
      · go_simp
        try rfl
      go_simp; refine wpQuiet_nil ?_; intro wA uA; clear i0 i1 i2 i3 i4 p0 p1 p2 p3 p4 p5 q0 q1 q2 q3 q4 q5 C
      cases r
      · go_wp2
        go_ret
        exact ⟨ret_bool (by rw [← HR.out, S'.out]; rfl), ur.trans uA⟩
      · go_wp2
        go_roundw
        case rel => exact ⟨⟨j + 1, .inr (by omega), by go_num, by rw [← HR.out, S'.out]; rfl⟩, ur.trans uA⟩
        case measure => simp [intOf]; omega
    · have e := EN.out j (by rw [LE.out]; omega)
      have E := Lib.hid e
      clear e; go_wp2; go_ret
      exact ⟨ret_bool (by rw [← HR.out, E.out]), ur⟩
end Go.Proofs.Ytpainlcehgiokaa

namespace Go.Proofs.Ytpainlcehgiokaa
set_option maxRecDepth 100000
open Go.RowKit
def startsB (es : List Evt) (til many : Int) : Bool := decide ((es.length : Int) ≤ 6) && riseB es && es.all (startB til many)
def mdlB (m : Mdl) : Bool := inB m.rules.length 1 4 && inB m.til 0 99 && startsB m.starts m.til m.rules.length && m.rules.all (rulesB m.rules.length (-1))
set_option maxHeartbeats 8000000 in
theorem implStarts_any (A : Option Addr) (n c : Nat) (B : Option Addr) (k d : Nat) (til : Int) (es : List Evt) (w : World) (hE : Evs w B k es) :
    Calls Try.prog 56 #[.agg #[.slice A n c, .slice B k d, .int .i64 til]] w fun x w' => x = .returned (.bool (startsB es til n)) ∧ Up w w' := by
  have RB := Lib.hid (show startsB es til n = (decide ((k : Int) ≤ 6) && riseB es && es.all (startB til n)) by rw [← hE.1]; rfl)
  generalize startsB es til n = res at RB ⊢
  have B0 := Lib.hid (Box3.new w (.slice A n c) (.slice B k d) (.int .i64 til) 26)
  by_cases h6 : (k : Int) ≤ 6
  · have R1 := Lib.hid (show res = (riseB es && es.all (startB til n)) by rw [RB.out, decide_eq_true h6, Bool.true_and])
    have j6 : ¬ (6 : Int) < k := by omega
    have RI := Lib.hid (fun W h => implRise_any B k d es W (by omega) h)
    have AD := Lib.hid (fun i h => all_drop (f := startB til n) (d := default) es i h)
    have AE := Lib.hid (fun i h => all_end (f := startB til n) es i h)
    have CL := Lib.hid (fun e W => implOk_any e n W)
    have H0 := Lib.hid (show (es.drop 0).all (startB til n) = es.all (startB til n) from rfl)
    have HE := Lib.hid hE
    have LE := Lib.hid hE.1
    generalize es.all (startB til n) = al at H0 R1
    generalize riseB es = r at RI R1
    clear RB hE
    go_enter Try.func56, Try.ntmps56
    go_wp2_with fail
    refine (RI.out _ (HE.out.up ((Up.refl _).alloc _))).mono ?_; rintro x w1 ⟨rfl, u1⟩
    have U1 := Lib.hid (((Up.refl w).alloc _).trans u1)
    have B1 := Lib.hid (B0.out.up u1)
    clear u1 RI B0
    cases r
    · go_wp2
      go_ret
      exact ⟨ret_bool (by rw [R1.out]; rfl), U1.out⟩
    · have q := B1.out
      obtain ⟨q0, q1, q2⟩ := And.intro q.c0 (And.intro q.c1 q.c2)
      have qlt := q.lt
      clear q; go_wp2; clear q0 q1 q2
      go_loopw [18] (fun i wr => (∃ p : Nat, p ≤ k ∧ i = .int .i64 p ∧ Hid ((es.drop p).all (startB til n) = al)) ∧ Up w1 wr) (fun i _ => k - (intOf i).toNat)
      case atStart => exact ⟨⟨0, by omega, rfl, H0⟩, Up.refl _⟩
      case round =>
        obtain ⟨⟨p, hp, rfl, HA⟩, ur⟩ := hrel
        by_cases hlt : p < k
        · obtain ⟨b, off, hA, hb, hc⟩ := HE.out.2 (by omega)
          subst hA
          have a0 := (hc p hlt).up (U1.out.trans ur) hb
          have hb' : b < wr.heap.size := by have := (U1.out.trans ur).size; omega
          clear hc
          have S := AD.out p (by rw [LE.out]; exact hlt)
          rw [HA.out] at S
          have cl := CL.out (es.getD p default)
          generalize es.getD p default = e at a0 S cl
          obtain ⟨et, eto, efr, esq, ekd, edt⟩ := e; rw [show startB til n ⟨et, eto, efr, esq, ekd, edt⟩ = (decide (efr = -1) && decide (et ≤ til) && okB ⟨et, eto, efr, esq, ekd, edt⟩ n) from rfl] at S
          generalize okB ⟨et, eto, efr, esq, ekd, edt⟩ n = s at S cl
          unfold EvAt at a0; unfold Evt.v at cl; dsimp only at a0 cl S; obtain ⟨p0, p1, p2, p3, p4, p5⟩ := a0
          have C := Lib.hid cl
          have S' := Lib.hid S
          have bx := B1.out.up ur
          obtain ⟨q0, q1, q2⟩ := And.intro bx.c0 (And.intro bx.c1 bx.c2)
          have qlt2 := bx.lt
          have qne : wr.heap.size ≠ w.heap.size := by omega
          have UR := Lib.hid (U1.out.trans ur)
          have UR1 := Lib.hid ur
          clear cl S ur bx
          have i4 : (p : Int) < k := by omega
          have i5 : IntKind.i64.wrap ((p : Int) + 1) = (p : Int) + 1 := IntWalk.i64_in _ (by omega)
          by_cases hf : efr = -1
          · subst hf
            by_cases ht : et ≤ til
            · have ht' : ¬ til < et := by omega
              go_wp2_with fail
              refine (C.out _).mono ?_; rintro x w2 ⟨rfl, u2⟩
              have U2 := Lib.hid ((UR1.out.alloc _).trans u2)
              clear u2
              cases s
              · go_wp2
                go_ret
                exact ⟨ret_bool (by rw [R1.out, show al = false by rw [S'.out]; simp]; rfl), U1.out.trans U2.out⟩
              · have AL := Lib.hid (show (es.drop (p + 1)).all (startB til n) = al by rw [S'.out, decide_eq_true ht]; simp)
                go_wp2
                go_roundw
                case rel => exact ⟨⟨p + 1, by omega, by first | rfl | go_num, AL⟩, U2.out⟩
                case measure => (simp [intOf]; try omega)
            · have ht' : til < et := by omega
              go_wp2; go_ret
              exact ⟨ret_bool (by rw [R1.out, show al = false by rw [S'.out, decide_eq_false (show ¬ et ≤ til by omega)]; simp]; rfl), UR.out.alloc _⟩
          · go_wp2
            go_ret
            exact ⟨ret_bool (by rw [R1.out, show al = false by rw [S'.out, decide_eq_false (show ¬ efr = -1 by omega)]; simp]; rfl), UR.out.alloc _⟩
        · have hal : al = true := HA.out.symm.trans (AE.out p (by rw [LE.out]; omega))
          have HW := Lib.hid (U1.out.trans ur)
          have i4 : ¬ (p : Int) < k := by omega
          clear ur; go_wp2; go_ret
          exact ⟨ret_bool (by rw [R1.out, hal]; rfl), HW.out⟩
  · have j6 : (6 : Int) < k := by omega
    have RB2 := Lib.hid (show res = false by rw [RB.out, decide_eq_false h6]; rfl)
    go_enter Try.func56, Try.ntmps56
    go_wp2; go_ret
    exact ⟨ret_bool RB2.out.symm, (Up.refl w).alloc _⟩
set_option maxHeartbeats 4000000 in
theorem implMdl_any (A : Option Addr) (n c : Nat) (B : Option Addr) (k d : Nat) (m : Mdl) (w : World) (hM : MdlV w A n B k m) :
    Calls Try.prog 41 #[.agg #[.slice A n c, .slice B k d, .int .i64 m.til]] w fun x w' => x = .returned (.bool (mdlB m)) ∧ Up w w' := by
  have HM := Lib.hid hM
  have RB := Lib.hid (show mdlB m = (inB n 1 4 && inB m.til 0 99 && startsB m.starts m.til n && m.rules.all (rulesB n (-1))) by rw [← hM.rules.1]; rfl)
  have B0 := Lib.hid (Box3.new w (.slice A n c) (.slice B k d) (.int .i64 m.til) 26)
  have SC := Lib.hid (fun W h => implStarts_any A n c B k d m.til m.starts W h)
  have RC := Lib.hid (fun h1 h2 W h => implRules_any A n c B k d m.til m.rules h1 h2 W h)
  generalize mdlB m = res at RB ⊢
  generalize startsB m.starts m.til n = st at RB SC
  generalize m.rules.all (rulesB n (-1)) = ru at RB RC
  generalize m.til = til at *
  clear hM
  by_cases hm : (1 : Int) ≤ n ∧ (n : Int) ≤ 4
  · have hin : inB n 1 4 = true := inB_iff.2 hm
    obtain ⟨hm1, hm2⟩ := hm
    by_cases ht : 0 ≤ til ∧ til ≤ 99
    · have hit : inB til 0 99 = true := inB_iff.2 ht
      have R1 := Lib.hid (show res = (st && ru) by rw [RB.out, hin, hit]; simp)
      clear RB ht
      go_enter Try.func41, Try.ntmps41
      go_wp2_with (go_at_call 42; refine (within_any _ _ _ _).mono ?_; rintro e w' ⟨rfl, rfl⟩)
      refine (SC.out _ (HM.out.starts.up ((Up.refl _).alloc _))).mono ?_; rintro x w1 ⟨rfl, u1⟩
      have U1 := Lib.hid (((Up.refl w).alloc _).trans u1)
      have q := B0.out.up u1
      obtain ⟨q0, q1, q2⟩ := And.intro q.c0 (And.intro q.c1 q.c2); clear u1 q
      cases st
      · go_wp2
        go_ret
        exact ⟨ret_bool (by rw [R1.out]; rfl), U1.out⟩
      · go_wp2_with fail
        refine (RC.out hm1 hm2 _ (HM.out.rules.up U1.out)).mono ?_; rintro x w2 ⟨rfl, u2⟩
        have U2 := Lib.hid (U1.out.trans u2)
        clear u2; go_wp2; go_ret
        exact ⟨ret_bool (by rw [R1.out]; simp), U2.out⟩
    · have hit : inB til 0 99 = false := inB_no.2 ht
      have R1 := Lib.hid (show res = false by rw [RB.out, hin, hit]; simp)
      clear RB ht
      go_enter Try.func41, Try.ntmps41
      go_wp2_with (go_at_call 42; refine (within_any _ _ _ _).mono ?_; rintro e w' ⟨rfl, rfl⟩)
      go_ret
      exact ⟨ret_bool R1.out.symm, (Up.refl _).alloc _⟩
  · have hin : inB n 1 4 = false := inB_no.2 hm
    have R1 := Lib.hid (show res = false by rw [RB.out, hin]; simp)
    clear RB hm
    go_enter Try.func41, Try.ntmps41
    go_wp2_with (go_at_call 42; refine (within_any _ _ _ _).mono ?_; rintro e w' ⟨rfl, rfl⟩)
    go_ret
    exact ⟨ret_bool R1.out.symm, (Up.refl _).alloc _⟩
end Go.Proofs.Ytpainlcehgiokaa

namespace Go.Proofs.Ytpainlcehgiokaa
set_option maxRecDepth 100000
open Go.RowKit
def eqB (a b : Evt) : Bool := decide (a = b)
theorem eqB_mk (a b c d e f a' b' c' d' e' f' : Int) : eqB ⟨a, b, c, d, e, f⟩ ⟨a', b', c', d', e', f'⟩ = (decide (a = a') && decide (b = b') && decide (c = c') && decide (d = d') && decide (e = e') && decide (f = f')) := by
  unfold eqB; rw [Bool.eq_iff_iff]; simp [Bool.and_eq_true, and_assoc]
end Go.Proofs.Ytpainlcehgiokaa

namespace Go.Proofs.Ytpainlcehgiokaa
set_option maxRecDepth 100000
open Go.RowKit
/-- What is left to walk. -/
@[irreducible] def qWalk (P : Program) (ops : Array Oper) (C : World → Prop) (Q : Act → Prop) (l : List Oper) (a : Act) : Prop := wpQuiet P ops C Q l a
theorem qWalk_step {P : Program} {ops : Array Oper} {C : World → Prop} {Q : Act → Prop} {a : Act} {o : Oper} {rest : List Oper}
    (h : ∀ K : Act → Prop, (∀ a, qWalk P ops C Q rest a → K a) → if Region.wanted o (yielded ops a.tmps) then o.quiet P a C K else K (a.put o.dst undef)) : qWalk P ops C Q (o :: rest) a := by
  unfold qWalk at h ⊢
  exact wpQuiet_step h
theorem qWalk_nil {P : Program} {ops : Array Oper} {C : World → Prop} {Q : Act → Prop} {a : Act} (h : Q a) : qWalk P ops C Q [] a := by
  unfold qWalk
  exact wpQuiet_nil h
theorem region_qw {P : Program} {id : Nat} {Q : Exit → Act → World → Prop} {a : Act} {w : World} {l : List Oper} (hm : P.follows .mixedOrders = true) (hB : Region.lexB .any l.toArray = true)
    (h : qWalk P l.toArray (Up w) (fun a' => ∀ w', Up w w' → Q .normal a' w') l a) : (Code.region id l.toArray true).wp P Q a w := by
  unfold qWalk at h
  exact region_up hm hB h
end Go.Proofs.Ytpainlcehgiokaa

namespace Go.Proofs.Ytpainlcehgiokaa
set_option maxRecDepth 100000
open Go.RowKit
/-- A mark. -/
structure Gm where
  r : Int
  e : Int
  o : Int
  l : Int
deriving DecidableEq
instance : Inhabited Gm := ⟨⟨0, 0, 0, 0⟩⟩
def Gm.v (g : Gm) : Value := .agg #[.int .i64 g.r, .int .i64 g.e, .int .i64 g.o, .int .i64 g.l]
/-- A token. -/
structure Gk where
  on : Bool
  r : Int
  a : Int
  n : Int
  l : Int
deriving DecidableEq
instance : Inhabited Gk := ⟨⟨false, 0, 0, 0, 0⟩⟩
def Gk.v (t : Gk) : Value := .agg #[.bool t.on, .int .i64 t.r, .int .i64 t.a, .int .i64 t.n, .int .i64 t.l]
def gmB (til : Int) (g : Gm) : Bool := inB g.r 0 999 && inB g.e (-9999) 9999 && inB g.o (-9999) 9999 && inB g.l 0 (til + 1)
def gkB (til many : Int) (t : Gk) : Bool := inB t.r 0 999 && inB t.a 0 (many - 1) && inB t.n (-39996) 39996 && inB t.l 0 (til + 1)
def mayV (til : Int) (t : Gk) (g : Gm) (least : Int) : Bool := t.on && inB least 0 (til + 1) && inB (t.r - g.r) 0 1
/-- A visit of a host among so many. -/
def visM (til : Int) (t : Gk) (g : Gm) : Gm := if g.r < t.r then ⟨t.r, g.e, g.o, til + 1⟩ else g
def visG (t : Gk) (g : Gm) : Gm := if t.r % 2 = 1 then ⟨g.r, 0, g.o, g.l⟩ else ⟨g.r, g.e, 0, g.l⟩
def visN (t : Gk) (g : Gm) : Int := if t.r % 2 = 1 then t.n + g.e else t.n + g.o
def visE (til many : Int) (t : Gk) : Gk × Int :=
  if t.a < many then (t, -1) else if t.n = 0 then (⟨false, t.r, 0, t.n, til + 1⟩, t.l) else (⟨t.on, t.r, 0, t.n, til + 1⟩, -1)
def visK (til many : Int) (t : Gk) (g : Gm) (least : Int) : Gk × Gm × Int :=
  let h := visM til t g
  let x := visE til many ⟨t.on, t.r, t.a + 1, visN t h, min t.l (min least h.l)⟩
  (x.1, visG t h, x.2)
def tokB (m : Mdl) (t : Gk) (g : Gm) (least : Int) : Bool := mdlB m && gkB m.til m.rules.length t && gmB m.til g && mayV m.til t g least
def tokP (m : Mdl) (t : Gk) (g : Gm) (least : Int) : Gk × Gm × Int := if tokB m t g least then visK m.til m.rules.length t g least else (default, default, -1)
def tokV (x : Gk × Gm × Int) : Value := .tuple #[x.1.v, x.2.1.v, .int .i64 x.2.2]
/-- A block read. -/
def Bk (w : World) (b : Nat) (arr : Array Value) : Prop := ∃ e, w.heap[b]? = some (.cells arr e (0, 0))
theorem Bk.cell {w : World} {b j : Nat} {arr : Array Value} {v : Value} (h : Bk w b arr) (hv : arr[j]? = some v) : w.cell? ⟨b, j, none⟩ = some v := by
  obtain ⟨e, h⟩ := h; rw [cell_of_row _ _ j _ _ _ h]
  exact hv
theorem Bk.lt {w : World} {b : Nat} {arr : Array Value} (h : Bk w b arr) : b < w.heap.size := by
  obtain ⟨e, h⟩ := h
  exact (Array.getElem?_eq_some_iff.1 h).1
theorem Bk.frozen {w : World} {b : Nat} {arr : Array Value} (h : Bk w b arr) (j : Nat) : w.frozen? ⟨b, j, none⟩ = false := by
  obtain ⟨e, h⟩ := h; unfold World.frozen?; rw [h]; simp
theorem Bk.up {w w' : World} {b : Nat} {arr : Array Value} (h : Bk w b arr) (k : Up w w') : Bk w' b arr := by
  have hl := h.lt
  obtain ⟨e, h⟩ := h
  exact ⟨e, (k.below.block b hl).trans h⟩
theorem Bk.new (w : World) (arr : Array Value) (e : Nat) : Bk (w.alloc (.cells arr e)) w.heap.size arr := ⟨e, heap_alloc_new w _⟩
theorem Bk.alloc {w : World} {b : Nat} {arr : Array Value} (h : Bk w b arr) (o : Obj) : Bk (w.alloc o) b arr := h.up ((Up.refl _).alloc o)
end Go.Proofs.Ytpainlcehgiokaa

/-
  What impl.MdlOk returns, in one sentence: the bool that the bounds give; for every model that lies in memory.
  Blocks of three numbers of the call's own, in one sentence: kept, laid and written; no condition is made.
  Appending onto a row of the call's own, in one sentence: the new row holds the old list and what was appended; for every source that lies in memory, nil let in.
  An event's block of the call's own, in one sentence: its six cells, none frozen, kept wherever another block alone is written.
  The walk of a region that draws, kept shut, in one sentence: as region_up, but no tactic looks into what is left to walk.
  What a component does, in one sentence: its new state and what it sends, as lists and numbers; no condition is made.
  The region of spec.l2Do that finds the rule: its slots' relations, in one sentence: one row a slot; no condition is made.
-/
import Derived.Deep.AppendLies
import Derived.Deep.Draws
import Derived.Laws.OwnMore
import Derived.Maps.AppendAt
import Derived.OwnWalk
import Derived.RegionTactic
import Derived.Test.YtakmlfgkppekoaaDLEcud01
import Derived.Test.YtakmlfgkppekoaaDLEcud02
import Derived.Test.YtakmlfgkppekoaaDLEcud03
import Derived.Test.YtakmlfgkppekoaaDLEcud04
namespace Go.Proofs.Ytakmlfgkppekoaa
set_option maxRecDepth 100000
open Go.RowKit
def startsB (es : List Evt) (til many : Int) : Bool := decide ((es.length : Int) ≤ 6) && riseB es && es.all (startB til many)
def mdlB (m : Mdl) : Bool := inB m.rules.length 1 4 && inB m.til 0 99 && startsB m.starts m.til m.rules.length && m.rules.all (rulesB m.rules.length (-1))
set_option maxHeartbeats 8000000 in
theorem implStarts_any (A : Option Addr) (n c : Nat) (B : Option Addr) (k d : Nat) (til : Int) (es : List Evt) (w : World) (hE : Evs w B k es) :
    Calls Try.prog 104 #[.agg #[.slice A n c, .slice B k d, .int .i64 til]] w fun x w' => x = .returned (.bool (startsB es til n)) ∧ Up w w' := by
  have RB := Lib.hid (show startsB es til n = (decide ((k : Int) ≤ 6) && riseB es && es.all (startB til n)) by rw [← hE.1]; rfl)
  generalize startsB es til n = res at RB ⊢
  have B0 := Lib.hid (Box3.new w (.slice A n c) (.slice B k d) (.int .i64 til) 33)
  by_cases h6 : (k : Int) ≤ 6
  · have R1 := Lib.hid (show res = (riseB es && es.all (startB til n)) by rw [RB.out, decide_eq_true h6, Bool.true_and])
    have j6 : ¬ (6 : Int) < k := by omega
    have RI := Lib.hid (fun W h => implRise_any B k d es W (by omega) h)
    have AD := Lib.hid (fun i h => all_drop (f := startB til n) (d := default) es i h)
    have AE := Lib.hid (fun i h => all_end (f := startB til n) es i h)
    have CL := Lib.hid (fun e W => implOk_any e n W)
    have H0 := Lib.hid (show (es.drop 0).all (startB til n) = es.all (startB til n) from rfl)
    have HE := Lib.hid hE
    have LE := Lib.hid hE.1
    generalize es.all (startB til n) = al at H0 R1
    generalize riseB es = r at RI R1
    clear RB hE
    go_enter Try.func104, Try.ntmps104
    go_wp2_with fail
    refine (RI.out _ (HE.out.up ((Up.refl _).alloc _))).mono ?_; rintro x w1 ⟨rfl, u1⟩
    have U1 := Lib.hid (((Up.refl w).alloc _).trans u1)
    have B1 := Lib.hid (B0.out.up u1)
    clear u1 RI B0
    cases r
    · go_wp2
      go_ret
      exact ⟨ret_bool (by rw [R1.out]; rfl), U1.out⟩
    · have q := B1.out
      obtain ⟨q0, q1, q2⟩ := And.intro q.c0 (And.intro q.c1 q.c2)
      have qlt := q.lt
      clear q; go_wp2; clear q0 q1 q2
      go_loopw [18] (fun i wr => (∃ p : Nat, p ≤ k ∧ i = .int .i64 p ∧ Hid ((es.drop p).all (startB til n) = al)) ∧ Up w1 wr) (fun i _ => k - (intOf i).toNat)
      case atStart => exact ⟨⟨0, by omega, rfl, H0⟩, Up.refl _⟩
      case round =>
        obtain ⟨⟨p, hp, rfl, HA⟩, ur⟩ := hrel
        by_cases hlt : p < k
        · obtain ⟨b, off, hA, hb, hc⟩ := HE.out.2 (by omega)
          subst hA
          have a0 := (hc p hlt).up (U1.out.trans ur) hb
          have hb' : b < wr.heap.size := by have := (U1.out.trans ur).size; omega
          clear hc
          have S := AD.out p (by rw [LE.out]; exact hlt)
          rw [HA.out] at S
          have cl := CL.out (es.getD p default)
          generalize es.getD p default = e at a0 S cl
          obtain ⟨et, eto, efr, esq, ekd, edt⟩ := e; rw [show startB til n ⟨et, eto, efr, esq, ekd, edt⟩ = (decide (efr = -1) && decide (et ≤ til) && okB ⟨et, eto, efr, esq, ekd, edt⟩ n) from rfl] at S
          generalize okB ⟨et, eto, efr, esq, ekd, edt⟩ n = s at S cl
          unfold EvAt at a0; unfold Evt.v at cl; dsimp only at a0 cl S; obtain ⟨p0, p1, p2, p3, p4, p5⟩ := a0
          have C := Lib.hid cl
          have S' := Lib.hid S
          have bx := B1.out.up ur
          obtain ⟨q0, q1, q2⟩ := And.intro bx.c0 (And.intro bx.c1 bx.c2)
          have qlt2 := bx.lt
          have qne : wr.heap.size ≠ w.heap.size := by omega
          have UR := Lib.hid (U1.out.trans ur)
          have UR1 := Lib.hid ur
          clear cl S ur bx
          have i4 : (p : Int) < k := by omega
          have i5 : IntKind.i64.wrap ((p : Int) + 1) = (p : Int) + 1 := IntWalk.i64_in _ (by omega)
          by_cases hf : efr = -1
          · subst hf
            by_cases ht : et ≤ til
            · have ht' : ¬ til < et := by omega
              go_wp2_with fail
              refine (C.out _).mono ?_; rintro x w2 ⟨rfl, u2⟩
              have U2 := Lib.hid ((UR1.out.alloc _).trans u2)
              clear u2
              cases s
              · go_wp2
                go_ret
                exact ⟨ret_bool (by rw [R1.out, show al = false by rw [S'.out]; simp]; rfl), U1.out.trans U2.out⟩
              · have AL := Lib.hid (show (es.drop (p + 1)).all (startB til n) = al by rw [S'.out, decide_eq_true ht]; simp)
                go_wp2
                go_roundw
                case rel => exact ⟨⟨p + 1, by omega, by first | rfl | go_num, AL⟩, U2.out⟩
                case measure => (simp [intOf]; try omega)
            · have ht' : til < et := by omega
              go_wp2; go_ret
              exact ⟨ret_bool (by rw [R1.out, show al = false by rw [S'.out, decide_eq_false (show ¬ et ≤ til by omega)]; simp]; rfl), UR.out.alloc _⟩
          · go_wp2
            go_ret
            exact ⟨ret_bool (by rw [R1.out, show al = false by rw [S'.out, decide_eq_false (show ¬ efr = -1 by omega)]; simp]; rfl), UR.out.alloc _⟩
        · have hal : al = true := HA.out.symm.trans (AE.out p (by rw [LE.out]; omega))
          have HW := Lib.hid (U1.out.trans ur)
          have i4 : ¬ (p : Int) < k := by omega
          clear ur; go_wp2; go_ret
          exact ⟨ret_bool (by rw [R1.out, hal]; rfl), HW.out⟩
  · have j6 : (6 : Int) < k := by omega
    have RB2 := Lib.hid (show res = false by rw [RB.out, decide_eq_false h6]; rfl)
    go_enter Try.func104, Try.ntmps104
    go_wp2; go_ret
    exact ⟨ret_bool RB2.out.symm, (Up.refl w).alloc _⟩
set_option maxHeartbeats 4000000 in
theorem implMdl_any (A : Option Addr) (n c : Nat) (B : Option Addr) (k d : Nat) (m : Mdl) (w : World) (hM : MdlV w A n B k m) :
    Calls Try.prog 59 #[.agg #[.slice A n c, .slice B k d, .int .i64 m.til]] w fun x w' => x = .returned (.bool (mdlB m)) ∧ Up w w' := by
  have HM := Lib.hid hM
  have RB := Lib.hid (show mdlB m = (inB n 1 4 && inB m.til 0 99 && startsB m.starts m.til n && m.rules.all (rulesB n (-1))) by rw [← hM.rules.1]; rfl)
  have B0 := Lib.hid (Box3.new w (.slice A n c) (.slice B k d) (.int .i64 m.til) 33)
  have SC := Lib.hid (fun W h => implStarts_any A n c B k d m.til m.starts W h)
  have RC := Lib.hid (fun h1 h2 W h => implRules_any A n c B k d m.til m.rules h1 h2 W h)
  generalize mdlB m = res at RB ⊢
  generalize startsB m.starts m.til n = st at RB SC
  generalize m.rules.all (rulesB n (-1)) = ru at RB RC
  generalize m.til = til at *
  clear hM
  by_cases hm : (1 : Int) ≤ n ∧ (n : Int) ≤ 4
  · have hin : inB n 1 4 = true := inB_iff.2 hm
    obtain ⟨hm1, hm2⟩ := hm
    by_cases ht : 0 ≤ til ∧ til ≤ 99
    · have hit : inB til 0 99 = true := inB_iff.2 ht
      have R1 := Lib.hid (show res = (st && ru) by rw [RB.out, hin, hit]; simp)
      clear RB ht
      go_enter Try.func59, Try.ntmps59
      go_wp2_with (go_at_call 65; refine (within_any _ _ _ _).mono ?_; rintro e w' ⟨rfl, rfl⟩)
      refine (SC.out _ (HM.out.starts.up ((Up.refl _).alloc _))).mono ?_; rintro x w1 ⟨rfl, u1⟩
      have U1 := Lib.hid (((Up.refl w).alloc _).trans u1)
      have q := B0.out.up u1
      obtain ⟨q0, q1, q2⟩ := And.intro q.c0 (And.intro q.c1 q.c2); clear u1 q
      cases st
      · go_wp2
        go_ret
        exact ⟨ret_bool (by rw [R1.out]; rfl), U1.out⟩
      · go_wp2_with fail
        refine (RC.out hm1 hm2 _ (HM.out.rules.up U1.out)).mono ?_; rintro x w2 ⟨rfl, u2⟩
        have U2 := Lib.hid (U1.out.trans u2)
        clear u2; go_wp2; go_ret
        exact ⟨ret_bool (by rw [R1.out]; simp), U2.out⟩
    · have hit : inB til 0 99 = false := inB_no.2 ht
      have R1 := Lib.hid (show res = false by rw [RB.out, hin, hit]; simp)
      clear RB ht
      go_enter Try.func59, Try.ntmps59
      go_wp2_with (go_at_call 65; refine (within_any _ _ _ _).mono ?_; rintro e w' ⟨rfl, rfl⟩)
      go_ret
      exact ⟨ret_bool R1.out.symm, (Up.refl _).alloc _⟩
  · have hin : inB n 1 4 = false := inB_no.2 hm
    have R1 := Lib.hid (show res = false by rw [RB.out, hin]; simp)
    clear RB hm
    go_enter Try.func59, Try.ntmps59
    go_wp2_with (go_at_call 65; refine (within_any _ _ _ _).mono ?_; rintro e w' ⟨rfl, rfl⟩)
    go_ret
    exact ⟨ret_bool R1.out.symm, (Up.refl _).alloc _⟩
end Go.Proofs.Ytakmlfgkppekoaa

namespace Go.Proofs.Ytakmlfgkppekoaa
set_option maxRecDepth 100000
open Go.RowKit
/-- A block of three numbers of the call's own. -/
structure Cell3 (w : World) (b : Nat) (x y z : Int) : Prop where
  lt : b < w.heap.size
  c0 : w.cell? ⟨b, 0, none⟩ = some (.int .i64 x)
  c1 : w.cell? ⟨b, 1, none⟩ = some (.int .i64 y)
  c2 : w.cell? ⟨b, 2, none⟩ = some (.int .i64 z)
  f : ∀ j, w.frozen? ⟨b, j, none⟩ = false
theorem Cell3.mv {w w' : World} {b g : Nat} {x y z : Int} (h : Cell3 w b x y z) (m : Mv g w w') (hb : b ≠ g) : Cell3 w' b x y z :=
  ⟨Nat.lt_of_lt_of_le h.lt m.size, (m.cells _ _ h.lt hb).trans h.c0, (m.cells _ _ h.lt hb).trans h.c1, (m.cells _ _ h.lt hb).trans h.c2, fun j => (m.frozens _ _ h.lt hb).trans (h.f j)⟩
theorem Cell3.new (w : World) (x y z : Int) (t : TypeId) : Cell3 (w.alloc (.cells #[.int .i64 x, .int .i64 y, .int .i64 z] t)) w.heap.size x y z := by
  have hh := heap_alloc_new w (.cells #[.int .i64 x, .int .i64 y, .int .i64 z] t)
  refine ⟨by simp, by rw [cell_of_row _ _ 0 _ _ _ hh]; rfl, by rw [cell_of_row _ _ 1 _ _ _ hh]; rfl, by rw [cell_of_row _ _ 2 _ _ _ hh]; rfl, fun j => ?_⟩; unfold World.frozen?; rw [hh]; simp
theorem Cell3.far {w : World} {b : Nat} {x y z : Int} (h : Cell3 w b x y z) {p : Addr} (hp : p.block ≠ b) (u : Value) : Cell3 (w.setCell p u) b x y z := by
  have k : ∀ j, (w.setCell p u).cell? ⟨b, j, none⟩ = w.cell? ⟨b, j, none⟩ := fun j => World.cell?_setCell_other _ _ _ _ (fun e => hp (by rw [e]))
  exact ⟨by simpa using h.lt, (k 0).trans h.c0, (k 1).trans h.c1, (k 2).trans h.c2, fun j => by have := h.f j; simpa [go_sem] using this⟩
theorem Cell3.set0 {w : World} {b : Nat} {x y z : Int} (h : Cell3 w b x y z) (u : Int) : Cell3 (w.setCell ⟨b, 0, none⟩ (.int .i64 u)) b u y z :=
  ⟨by simpa using h.lt, World.cell?_setCell_same _ _ _ h.c0, (World.cell?_setCell_other _ _ _ _ (addr_ne (by omega))).trans h.c1, (World.cell?_setCell_other _ _ _ _ (addr_ne (by omega))).trans h.c2, fun j => by have := h.f j; simpa [go_sem] using this⟩
theorem Cell3.set1 {w : World} {b : Nat} {x y z : Int} (h : Cell3 w b x y z) (u : Int) : Cell3 (w.setCell ⟨b, 1, none⟩ (.int .i64 u)) b x u z :=
  ⟨by simpa using h.lt, (World.cell?_setCell_other _ _ _ _ (addr_ne (by omega))).trans h.c0, World.cell?_setCell_same _ _ _ h.c1, (World.cell?_setCell_other _ _ _ _ (addr_ne (by omega))).trans h.c2, fun j => by have := h.f j; simpa [go_sem] using this⟩
theorem Cell3.set2 {w : World} {b : Nat} {x y z : Int} (h : Cell3 w b x y z) (u : Int) : Cell3 (w.setCell ⟨b, 2, none⟩ (.int .i64 u)) b x y u :=
  ⟨by simpa using h.lt, (World.cell?_setCell_other _ _ _ _ (addr_ne (by omega))).trans h.c0, (World.cell?_setCell_other _ _ _ _ (addr_ne (by omega))).trans h.c1, World.cell?_setCell_same _ _ _ h.c2, fun j => by have := h.f j; simpa [go_sem] using this⟩
/-- A new block of three, laid. -/
theorem Cell3.laid {w : World} {b : Nat} (hl : b < w.heap.size) (hs : ∀ j, j < 3 → ∃ u, w.cell? ⟨b, j, none⟩ = some u) (hf : ∀ j, w.frozen? ⟨b, j, none⟩ = false) (x y z : Int) :
    Cell3 (((w.setCell ⟨b, 0, none⟩ (.int .i64 x)).setCell ⟨b, 1, none⟩ (.int .i64 y)).setCell ⟨b, 2, none⟩ (.int .i64 z)) b x y z := by
  have ne : ∀ k j, k ≠ j → (⟨b, k, none⟩ : Addr) ≠ ⟨b, j, none⟩ := fun k j hk => addr_ne (by omega)
  obtain ⟨v0, h0⟩ := hs 0 (by omega); obtain ⟨v1, h1⟩ := hs 1 (by omega); obtain ⟨v2, h2⟩ := hs 2 (by omega); refine ⟨by simpa using hl, ?_, ?_, ?_, fun j => by have := hf j; simpa [go_sem] using this⟩
  · rw [World.cell?_setCell_other _ _ _ _ (ne 2 0 (by omega)), World.cell?_setCell_other _ _ _ _ (ne 1 0 (by omega))]
    exact World.cell?_setCell_same _ _ _ h0
  · rw [World.cell?_setCell_other _ _ _ _ (ne 2 1 (by omega))]
    exact World.cell?_setCell_same _ _ _ ((World.cell?_setCell_other _ _ _ _ (ne 0 1 (by omega))).trans h1)
  · exact World.cell?_setCell_same _ _ _ ((World.cell?_setCell_other _ _ _ _ (ne 1 2 (by omega))).trans ((World.cell?_setCell_other _ _ _ _ (ne 0 2 (by omega))).trans h2))
theorem Cell3.laid' {w : World} {b : Nat} {x0 y0 z0 : Int} (h : Cell3 w b x0 y0 z0) (x y z : Int) :
    Cell3 (((w.setCell ⟨b, 0, none⟩ (.int .i64 x)).setCell ⟨b, 1, none⟩ (.int .i64 y)).setCell ⟨b, 2, none⟩ (.int .i64 z)) b x y z :=
  ((h.set0 x).set1 y).set2 z
end Go.Proofs.Ytakmlfgkppekoaa

namespace Go.Proofs.Ytakmlfgkppekoaa
set_option maxRecDepth 100000
open Go.RowKit
section
variable {w w' : World} {B B' size n : Nat} {A : Option Addr} {xs : List Value}
end
section
variable {P : Program} (w : World)
end
/-- A block of one event's cells, as a slice of one. -/
theorem Evs.one {w : World} {b : Nat} {e : Evt} (h : w.cell? ⟨b, 0, none⟩ = some (.int .i64 e.t) ∧ w.cell? ⟨b, 1, none⟩ = some (.int .i64 e.to) ∧ w.cell? ⟨b, 2, none⟩ = some (.int .i64 e.fr) ∧ w.cell? ⟨b, 3, none⟩ = some (.int .i64 e.sq) ∧ w.cell? ⟨b, 4, none⟩ = some (.int .i64 e.kd) ∧ w.cell? ⟨b, 5, none⟩ = some (.int .i64 e.dt)) (hb : b < w.heap.size) :
    Evs w (some ⟨b, 0, none⟩) 1 [e] :=
  ⟨rfl, fun _ => ⟨b, 0, rfl, hb, fun i hi => by
    obtain rfl : i = 0 := by omega
    exact h⟩⟩
theorem Evs.new (w : World) (e : Evt) (t : TypeId) : Evs (w.alloc (.cells #[.int .i64 e.t, .int .i64 e.to, .int .i64 e.fr, .int .i64 e.sq, .int .i64 e.kd, .int .i64 e.dt] t)) (some ⟨w.heap.size, 0, none⟩) 1 [e] := by
  have hh := heap_alloc_new w (.cells #[.int .i64 e.t, .int .i64 e.to, .int .i64 e.fr, .int .i64 e.sq, .int .i64 e.kd, .int .i64 e.dt] t)
  exact Evs.one ⟨by rw [cell_of_row _ _ 0 _ _ _ hh]; rfl, by rw [cell_of_row _ _ 1 _ _ _ hh]; rfl, by rw [cell_of_row _ _ 2 _ _ _ hh]; rfl, by rw [cell_of_row _ _ 3 _ _ _ hh]; rfl, by rw [cell_of_row _ _ 4 _ _ _ hh]; rfl, by rw [cell_of_row _ _ 5 _ _ _ hh]; rfl⟩ (by simp)
end Go.Proofs.Ytakmlfgkppekoaa

namespace Go.Proofs.Ytakmlfgkppekoaa
set_option maxRecDepth 100000
open Go.RowKit
/-- Block b holds just this event's cells, none frozen. -/
structure Box (w : World) (b : Nat) (e : Evt) : Prop where
  lt : b < w.heap.size
  c0 : w.cell? ⟨b, 0, none⟩ = some (.int .i64 e.t)
  c1 : w.cell? ⟨b, 1, none⟩ = some (.int .i64 e.to)
  c2 : w.cell? ⟨b, 2, none⟩ = some (.int .i64 e.fr)
  c3 : w.cell? ⟨b, 3, none⟩ = some (.int .i64 e.sq)
  c4 : w.cell? ⟨b, 4, none⟩ = some (.int .i64 e.kd)
  c5 : w.cell? ⟨b, 5, none⟩ = some (.int .i64 e.dt)
  f0 : w.frozen? ⟨b, 0, none⟩ = false
  f1 : w.frozen? ⟨b, 1, none⟩ = false
  f2 : w.frozen? ⟨b, 2, none⟩ = false
  f3 : w.frozen? ⟨b, 3, none⟩ = false
  f4 : w.frozen? ⟨b, 4, none⟩ = false
  f5 : w.frozen? ⟨b, 5, none⟩ = false
theorem Box.keep {w w' : World} {b : Nat} {e : Evt} (h : Box w b e) (hs : w.heap.size ≤ w'.heap.size) (hc : ∀ o, w'.cell? ⟨b, o, none⟩ = w.cell? ⟨b, o, none⟩) (hf : ∀ o, w'.frozen? ⟨b, o, none⟩ = w.frozen? ⟨b, o, none⟩) : Box w' b e :=
  ⟨Nat.lt_of_lt_of_le h.lt hs, (hc 0).trans h.c0, (hc 1).trans h.c1, (hc 2).trans h.c2, (hc 3).trans h.c3, (hc 4).trans h.c4, (hc 5).trans h.c5, (hf 0).trans h.f0, (hf 1).trans h.f1, (hf 2).trans h.f2, (hf 3).trans h.f3, (hf 4).trans h.f4, (hf 5).trans h.f5⟩
theorem Box.up {w w' : World} {b : Nat} {e : Evt} (h : Box w b e) (u : Up w w') : Box w' b e := h.keep u.size (fun _ => u.cells _ _ h.lt) (fun _ => u.frozens _ _ h.lt)
theorem Box.new (w : World) (e : Evt) (t : TypeId) : Box (w.alloc (.cells #[.int .i64 e.t, .int .i64 e.to, .int .i64 e.fr, .int .i64 e.sq, .int .i64 e.kd, .int .i64 e.dt] t)) w.heap.size e := by
  have hh := heap_alloc_new w (.cells #[.int .i64 e.t, .int .i64 e.to, .int .i64 e.fr, .int .i64 e.sq, .int .i64 e.kd, .int .i64 e.dt] t)
  have ff : ∀ j, (w.alloc (.cells #[.int .i64 e.t, .int .i64 e.to, .int .i64 e.fr, .int .i64 e.sq, .int .i64 e.kd, .int .i64 e.dt] t)).frozen? ⟨w.heap.size, j, none⟩ = false := fun j => by
    unfold World.frozen?; rw [hh]; simp
  exact ⟨by simp, by rw [cell_of_row _ _ 0 _ _ _ hh]; rfl, by rw [cell_of_row _ _ 1 _ _ _ hh]; rfl, by rw [cell_of_row _ _ 2 _ _ _ hh]; rfl, by rw [cell_of_row _ _ 3 _ _ _ hh]; rfl, by rw [cell_of_row _ _ 4 _ _ _ hh]; rfl, by rw [cell_of_row _ _ 5 _ _ _ hh]; rfl, ff 0, ff 1, ff 2, ff 3, ff 4, ff 5⟩
theorem Box.setFar {w : World} {b : Nat} {e : Evt} (h : Box w b e) {p : Addr} (hp : p.block ≠ b) (u : Value) : Box (w.setCell p u) b e :=
  h.keep (by simp) (fun o => World.cell?_setCell_other _ _ _ _ (fun e => hp (by rw [e]))) (fun o => by simp [go_sem])
theorem Box.mk6 {w : World} {b : Nat} {z0 z1 z2 z3 z4 z5 : Int} (h : Box w b ⟨z0, z1, z2, z3, z4, z5⟩) :
    (w.cell? ⟨b, 0, none⟩ = some (.int .i64 z0) ∧ w.cell? ⟨b, 1, none⟩ = some (.int .i64 z1) ∧ w.cell? ⟨b, 2, none⟩ = some (.int .i64 z2) ∧ w.cell? ⟨b, 3, none⟩ = some (.int .i64 z3) ∧ w.cell? ⟨b, 4, none⟩ = some (.int .i64 z4) ∧ w.cell? ⟨b, 5, none⟩ = some (.int .i64 z5)) ∧ (w.frozen? ⟨b, 0, none⟩ = false ∧ w.frozen? ⟨b, 1, none⟩ = false ∧ w.frozen? ⟨b, 2, none⟩ = false ∧ w.frozen? ⟨b, 3, none⟩ = false ∧ w.frozen? ⟨b, 4, none⟩ = false ∧ w.frozen? ⟨b, 5, none⟩ = false) :=
  ⟨⟨h.c0, h.c1, h.c2, h.c3, h.c4, h.c5⟩, ⟨h.f0, h.f1, h.f2, h.f3, h.f4, h.f5⟩⟩
end Go.Proofs.Ytakmlfgkppekoaa

namespace Go.Proofs.Ytakmlfgkppekoaa
set_option maxRecDepth 100000
open Go.RowKit
/-- What is left to walk. -/
@[irreducible] def qWalk (P : Program) (ops : Array Oper) (C : World → Prop) (Q : Act → Prop) (l : List Oper) (a : Act) : Prop := wpQuiet P ops C Q l a
theorem qWalk_step {P : Program} {ops : Array Oper} {C : World → Prop} {Q : Act → Prop} {a : Act} {o : Oper} {rest : List Oper}
    (h : ∀ K : Act → Prop, (∀ a, qWalk P ops C Q rest a → K a) → if Region.wanted o (yielded ops a.tmps) then o.quiet P a C K else K (a.put o.dst undef)) : qWalk P ops C Q (o :: rest) a := by
  unfold qWalk at h ⊢
  exact wpQuiet_step h
theorem qWalk_nil {P : Program} {ops : Array Oper} {C : World → Prop} {Q : Act → Prop} {a : Act} (h : Q a) : qWalk P ops C Q [] a := by
  unfold qWalk
  exact wpQuiet_nil h
theorem region_qw {P : Program} {id : Nat} {Q : Exit → Act → World → Prop} {a : Act} {w : World} {l : List Oper} (hm : P.follows .mixedOrders = true) (hB : Region.lexB .any l.toArray = true)
    (h : qWalk P l.toArray (Up w) (fun a' => ∀ w', Up w w' → Q .normal a' w') l a) : (Code.region id l.toArray true).wp P Q a w := by
  unfold qWalk at h
  exact region_up hm hB h
end Go.Proofs.Ytakmlfgkppekoaa

namespace Go.Proofs.Ytakmlfgkppekoaa
set_option maxRecDepth 100000
open Go.RowKit
theorem Found.some_ {A0 : Option Addr} {kd : Int} {rs : List Rule} {r : Rule} {w w' : World} {x : Ending} (h : Found A0 kd rs w x w') (hr : ruleOf kd rs = some r) : ∃ A n c, x = .returned (.tuple #[r.v (.slice A n c), .bool true]) ∧ n ≤ 9223372036854775807 ∧ Evs w' A n r.sends ∧ Up w w' ∧ ∀ b off, A0 = some ⟨b, off, none⟩ → w.cell? ⟨b, off + ixOf kd rs * 5 + 4, none⟩ = some (.slice A n c) := by
  obtain ⟨u, ⟨r', A, n, c, h1, rfl, h3, h4, h5⟩ | ⟨h1, rfl⟩⟩ := h
  · rw [hr] at h1
    injection h1 with h1
    subst h1
    exact ⟨A, n, c, rfl, h3, h4, u, h5⟩
  · rw [hr] at h1; cases h1
theorem Found.none_ {A0 : Option Addr} {kd : Int} {rs : List Rule} {w w' : World} {x : Ending} (h : Found A0 kd rs w x w') (hr : ruleOf kd rs = none) : x = .returned (.tuple #[.agg #[.int .i64 0, .int .i64 0, .int .i64 0, .int .i64 0, .slice none 0 0], .bool false]) ∧ Up w w' := by
  obtain ⟨u, ⟨r', A, n, c, h1, rfl, h3, h4, h5⟩ | ⟨h1, rfl⟩⟩ := h
  · rw [hr] at h1; cases h1
  · exact ⟨rfl, u⟩
/-- A new block of a rule's cells. -/
def IsNew5 (B : Nat) (v : Value) (w : World) : Prop :=
  ∃ b : Nat, v = .pointer (some ⟨b, 0, none⟩) ∧ B ≤ b ∧ b < w.heap.size ∧ (∀ j, j < 5 → ∃ u, w.cell? ⟨b, j, none⟩ = some u) ∧ ∀ j, w.frozen? ⟨b, j, none⟩ = false
theorem IsNew5.new {B : Nat} (w : World) (x y z u v : Value) (t : TypeId) (hB : B ≤ w.heap.size) : IsNew5 B (.pointer (some ⟨w.heap.size, 0, none⟩)) (w.alloc (.cells #[x, y, z, u, v] t)) := by
  have hh := heap_alloc_new w (.cells #[x, y, z, u, v] t)
  refine ⟨w.heap.size, rfl, hB, by simp, fun j hj => somes_new w #[x, y, z, u, v] t j (by simpa using hj), fun j => ?_⟩; unfold World.frozen?; rw [hh]; simp
/-- The cells of a rule, laid. -/
def Laid5 (w : World) (b : Nat) (x y z u v : Value) : Prop :=
  b < w.heap.size ∧ w.cell? ⟨b, 0, none⟩ = some x ∧ w.cell? ⟨b, 1, none⟩ = some y ∧ w.cell? ⟨b, 2, none⟩ = some z ∧ w.cell? ⟨b, 3, none⟩ = some u ∧ w.cell? ⟨b, 4, none⟩ = some v
/-- Steps that make blocks, or lay these five values in a block. -/
structure Lays (x y z u v : Value) (w w' : World) : Prop where
  size : w.heap.size ≤ w'.heap.size
  ex : ∀ b j, b < w.heap.size → (∃ t, w.cell? ⟨b, j, none⟩ = some t) → ∃ t, w'.cell? ⟨b, j, none⟩ = some t
  fr : ∀ b j, b < w.heap.size → w'.frozen? ⟨b, j, none⟩ = w.frozen? ⟨b, j, none⟩
  laid : ∀ b, Laid5 w b x y z u v → Laid5 w' b x y z u v
theorem Up.lays {w w' : World} (h : Up w w') (x y z u v : Value) : Lays x y z u v w w' :=
  ⟨h.size, fun _ _ hb ⟨t, ht⟩ => ⟨t, (h.cells _ _ hb).trans ht⟩, fun _ _ hb => h.frozens _ _ hb, fun _ ⟨hb, h0, h1, h2, h3, h4⟩ => ⟨Nat.lt_of_lt_of_le hb h.size, (h.cells _ _ hb).trans h0, (h.cells _ _ hb).trans h1, (h.cells _ _ hb).trans h2, (h.cells _ _ hb).trans h3, (h.cells _ _ hb).trans h4⟩⟩
theorem IsNew5.lays {B : Nat} {t : Value} {x y z u v : Value} {w w' : World} (h : IsNew5 B t w) (m : Lays x y z u v w w') : IsNew5 B t w' := by
  obtain ⟨b, hv, h2, h3, h4, h5⟩ := h
  exact ⟨b, hv, h2, Nat.lt_of_lt_of_le h3 m.size, fun j hj => m.ex b j h3 (h4 j hj), fun j => (m.fr b j h3).trans (h5 j)⟩
/-- The laying. -/
theorem lays_put {w : World} {b : Nat} (r : Rule) (s : Value) (hl : b < w.heap.size) (hs : ∀ j, j < 5 → ∃ u, w.cell? ⟨b, j, none⟩ = some u) :
    Lays (.int .i64 r.kd) (.int .i64 r.a) (.int .i64 r.b) (.int .i64 r.c) s w (putR w b 0 r s) ∧ Laid5 (putR w b 0 r s) b (.int .i64 r.kd) (.int .i64 r.a) (.int .i64 r.b) (.int .i64 r.c) s := by
  obtain ⟨k0, k1, k2, k3, k4⟩ := putR_at (r := r) (s := s) (o := 0) (fun k hk => by rw [Nat.zero_add]; exact hs k hk); simp only [Nat.zero_add] at k0 k1 k2 k3 k4
  have hL : Laid5 (putR w b 0 r s) b (.int .i64 r.kd) (.int .i64 r.a) (.int .i64 r.b) (.int .i64 r.c) s := ⟨by rw [putR_size]; exact hl, k0, k1, k2, k3, k4⟩
  refine ⟨⟨by rw [putR_size]; exact Nat.le_refl _, fun b' j _ ⟨t, ht⟩ => ?_, fun b' j _ => putR_frozen _ _ _ _ _ _, fun b' h' => ?_⟩, hL⟩
  · unfold putR
    obtain ⟨v1, h1⟩ := setCell_some (p := ⟨b, 0, none⟩) (u := .int .i64 r.kd) ht; obtain ⟨v2, h2⟩ := setCell_some (p := ⟨b, 0 + 1, none⟩) (u := .int .i64 r.a) h1; obtain ⟨v3, h3⟩ := setCell_some (p := ⟨b, 0 + 2, none⟩) (u := .int .i64 r.b) h2; obtain ⟨v4, h4⟩ := setCell_some (p := ⟨b, 0 + 3, none⟩) (u := .int .i64 r.c) h3
    exact setCell_some h4
  · by_cases hbb : b = b'
    · subst hbb
      exact hL
    · obtain ⟨h0, h1, h2, h3, h4, h5⟩ := h'
      have f : ∀ j, (putR w b 0 r s).cell? ⟨b', j, none⟩ = w.cell? ⟨b', j, none⟩ := fun j => putR_other _ _ _ _ _ _ _ (.inl hbb)
      exact ⟨by rw [putR_size]; exact h0, (f 0).trans h1, (f 1).trans h2, (f 2).trans h3, (f 3).trans h4, (f 4).trans h5⟩
theorem rulesB_of {many kd : Int} : ∀ {bf : Int} {rs : List Rule} {r : Rule}, rulesB many bf rs = true → ruleOf kd rs = some r → ruleB r many = true
  | _, [], _, _, h => by cases h
  | bf, x :: rs, r, hb, h => by
    rw [rulesB, Bool.and_eq_true, Bool.and_eq_true] at hb; rw [ruleOf] at h
    by_cases hk : x.kd = kd
    · rw [if_pos hk] at h
      injection h with h
      subst h
      exact hb.1.2
    · rw [if_neg hk] at h
      exact rulesB_of hb.2 h
theorem mdlB_rule {m : Mdl} {i : Nat} {kd : Int} {r : Rule} (hm : mdlB m = true) (hi : i < m.rules.length) (h : ruleOf kd (m.rules.getD i []) = some r) : ruleB r m.rules.length = true := by
  simp only [mdlB, Bool.and_eq_true, List.all_eq_true] at hm; refine rulesB_of (hm.2 (m.rules.getD i []) ?_) h; rw [List.getD, List.getElem?_eq_getElem hi]
  exact List.getElem_mem hi
theorem mdlB_til {m : Mdl} (hm : mdlB m = true) : 0 ≤ m.til ∧ m.til ≤ 99 := by
  simp only [mdlB, Bool.and_eq_true] at hm
  exact inB_iff.1 hm.1.1.2
theorem ruleB_parts {r : Rule} {many : Int} (h : ruleB r many = true) : (∀ i, i < r.sends.length → sndB (r.sends.getD i default) many = true) ∧ r.sends.length ≤ 2 ∧ (0 ≤ r.a ∧ r.a ≤ 96) ∧ (0 ≤ r.b ∧ r.b ≤ 96) ∧ (0 ≤ r.c ∧ r.c ≤ 96) := by
  simp only [ruleB, Bool.and_eq_true, decide_eq_true_eq, inB_iff, List.all_eq_true] at h; obtain ⟨⟨⟨⟨⟨h1, h2⟩, _⟩, h4⟩, h5⟩, h6⟩ := h; refine ⟨fun i hi => h1 _ ?_, by omega, h4, h5, h6⟩; rw [List.getD, List.getElem?_eq_getElem hi]
  exact List.getElem_mem hi
theorem sndB_parts {x : Evt} {many : Int} (h : sndB x many = true) : (1 ≤ x.to ∧ x.to ≤ 9) ∧ (0 ≤ x.sq ∧ x.sq ≤ 96) ∧ (1 ≤ x.kd ∧ x.kd ≤ 9) := by
  simp only [sndB, Bool.and_eq_true, inB_iff] at h; obtain ⟨⟨⟨⟨⟨_, h1⟩, _⟩, h2⟩, h3⟩, _⟩ := h
  exact ⟨h1, h2, h3⟩
section
variable {w w' : World} {b3 b4 b5 b6 b9 : Nat} {x y z : Value} {S q ct : Int} {e : Evt} {u0 u1 u2 u3 u4 : Value}
theorem Laid5.keep {b : Nat} (h : Laid5 w b u0 u1 u2 u3 u4) (hs : w.heap.size ≤ w'.heap.size) (hc : ∀ o, w'.cell? ⟨b, o, none⟩ = w.cell? ⟨b, o, none⟩) : Laid5 w' b u0 u1 u2 u3 u4 :=
  ⟨Nat.lt_of_lt_of_le h.1 hs, (hc 0).trans h.2.1, (hc 1).trans h.2.2.1, (hc 2).trans h.2.2.2.1, (hc 3).trans h.2.2.2.2.1, (hc 4).trans h.2.2.2.2.2⟩
theorem Box3.keep {b : Nat} (h : Box3 w b x y z) (hs : w.heap.size ≤ w'.heap.size) (hc : ∀ o, w'.cell? ⟨b, o, none⟩ = w.cell? ⟨b, o, none⟩) : Box3 w' b x y z :=
  ⟨Nat.lt_of_lt_of_le h.lt hs, (hc 0).trans h.c0, (hc 1).trans h.c1, (hc 2).trans h.c2⟩
theorem Cell3.keep {b : Nat} {i j l : Int} (h : Cell3 w b i j l) (hs : w.heap.size ≤ w'.heap.size) (hc : ∀ o, w'.cell? ⟨b, o, none⟩ = w.cell? ⟨b, o, none⟩) (hf : ∀ o, w'.frozen? ⟨b, o, none⟩ = w.frozen? ⟨b, o, none⟩) : Cell3 w' b i j l :=
  ⟨Nat.lt_of_lt_of_le h.lt hs, (hc 0).trans h.c0, (hc 1).trans h.c1, (hc 2).trans h.c2, fun o => (hf o).trans (h.f o)⟩
end
/-- The operations of the region that finds the rule. -/
def dP (b3 b5 : Nat) (A : Option Addr) (n c : Nat) (bA off : Nat) (e : Evt) (A' : Option Addr) (n' c' : Nat) (U : Value) (ok : Bool) (i : Nat) (v : Value) : Prop :=
  if i = 0 then v = .pointer (some ⟨b3, 0, none⟩) else if i = 1 then v = .slice A n c else if i = 2 then v = .pointer (some ⟨b5, 1, none⟩) else if i = 3 then v = .int .i64 e.to
  else if i = 4 then v = .pointer (some ⟨bA, off + e.to.toNat, none⟩) else if i = 5 then v = .slice A' n' c' else if i = 6 then v = .pointer (some ⟨b5, 4, none⟩) else if i = 7 then v = .int .i64 e.kd
  else if i = 8 ∨ i = 9 then v = .tuple #[U, .bool ok] else if i = 10 then v = U else v = .bool ok
def dR (b3 b5 : Nat) (A : Option Addr) (n c : Nat) (bA off : Nat) (e : Evt) (A' : Option Addr) (n' c' : Nat) (r : Rule) (s : Value) (ok : Bool) (B : Nat) (i : Nat) (v : Value) (w : World) : Prop :=
  if i = 12 then IsNew5 B v w else if i = 13 then (∃ b, v = .pointer (some ⟨b, 0, none⟩) ∧ Laid5 w b (.int .i64 r.kd) (.int .i64 r.a) (.int .i64 r.b) (.int .i64 r.c) s) else dP b3 b5 A n c bA off e A' n' c' (r.v s) ok i v
theorem Cell3.up {w w' : World} {b : Nat} {i j l : Int} (h : Cell3 w b i j l) (u : Up w w') : Cell3 w' b i j l := h.keep u.size (fun _ => u.cells _ _ h.lt) (fun _ => u.frozens _ _ h.lt)
end Go.Proofs.Ytakmlfgkppekoaa

namespace Go.Proofs.Ytakmlfgkppekoaa
set_option maxRecDepth 100000
open Go.RowKit
theorem dR_0 {b3 b5 : Nat} {A : Option Addr} {n c bA off : Nat} {e : Evt} {A' : Option Addr} {n' c' : Nat} {r : Rule} {s : Value} {ok : Bool} {B : Nat} {v : Value} {w : World} : dR b3 b5 A n c bA off e A' n' c' r s ok B 0 v w = (v = .pointer (some ⟨b3, 0, none⟩)) := by simp [dR, dP]
theorem dR_1 {b3 b5 : Nat} {A : Option Addr} {n c bA off : Nat} {e : Evt} {A' : Option Addr} {n' c' : Nat} {r : Rule} {s : Value} {ok : Bool} {B : Nat} {v : Value} {w : World} : dR b3 b5 A n c bA off e A' n' c' r s ok B 1 v w = (v = .slice A n c) := by simp [dR, dP]
theorem dR_2 {b3 b5 : Nat} {A : Option Addr} {n c bA off : Nat} {e : Evt} {A' : Option Addr} {n' c' : Nat} {r : Rule} {s : Value} {ok : Bool} {B : Nat} {v : Value} {w : World} : dR b3 b5 A n c bA off e A' n' c' r s ok B 2 v w = (v = .pointer (some ⟨b5, 1, none⟩)) := by simp [dR, dP]
theorem dR_3 {b3 b5 : Nat} {A : Option Addr} {n c bA off : Nat} {e : Evt} {A' : Option Addr} {n' c' : Nat} {r : Rule} {s : Value} {ok : Bool} {B : Nat} {v : Value} {w : World} : dR b3 b5 A n c bA off e A' n' c' r s ok B 3 v w = (v = .int .i64 e.to) := by simp [dR, dP]
theorem dR_4 {b3 b5 : Nat} {A : Option Addr} {n c bA off : Nat} {e : Evt} {A' : Option Addr} {n' c' : Nat} {r : Rule} {s : Value} {ok : Bool} {B : Nat} {v : Value} {w : World} : dR b3 b5 A n c bA off e A' n' c' r s ok B 4 v w = (v = .pointer (some ⟨bA, off + e.to.toNat, none⟩)) := by simp [dR, dP]
theorem dR_5 {b3 b5 : Nat} {A : Option Addr} {n c bA off : Nat} {e : Evt} {A' : Option Addr} {n' c' : Nat} {r : Rule} {s : Value} {ok : Bool} {B : Nat} {v : Value} {w : World} : dR b3 b5 A n c bA off e A' n' c' r s ok B 5 v w = (v = .slice A' n' c') := by simp [dR, dP]
theorem dR_6 {b3 b5 : Nat} {A : Option Addr} {n c bA off : Nat} {e : Evt} {A' : Option Addr} {n' c' : Nat} {r : Rule} {s : Value} {ok : Bool} {B : Nat} {v : Value} {w : World} : dR b3 b5 A n c bA off e A' n' c' r s ok B 6 v w = (v = .pointer (some ⟨b5, 4, none⟩)) := by simp [dR, dP]
theorem dR_7 {b3 b5 : Nat} {A : Option Addr} {n c bA off : Nat} {e : Evt} {A' : Option Addr} {n' c' : Nat} {r : Rule} {s : Value} {ok : Bool} {B : Nat} {v : Value} {w : World} : dR b3 b5 A n c bA off e A' n' c' r s ok B 7 v w = (v = .int .i64 e.kd) := by simp [dR, dP]
theorem dR_8 {b3 b5 : Nat} {A : Option Addr} {n c bA off : Nat} {e : Evt} {A' : Option Addr} {n' c' : Nat} {r : Rule} {s : Value} {ok : Bool} {B : Nat} {v : Value} {w : World} : dR b3 b5 A n c bA off e A' n' c' r s ok B 8 v w = (v = .tuple #[r.v s, .bool ok]) := by simp [dR, dP]
theorem dR_9 {b3 b5 : Nat} {A : Option Addr} {n c bA off : Nat} {e : Evt} {A' : Option Addr} {n' c' : Nat} {r : Rule} {s : Value} {ok : Bool} {B : Nat} {v : Value} {w : World} : dR b3 b5 A n c bA off e A' n' c' r s ok B 9 v w = (v = .tuple #[r.v s, .bool ok]) := by simp [dR, dP]
theorem dR_10 {b3 b5 : Nat} {A : Option Addr} {n c bA off : Nat} {e : Evt} {A' : Option Addr} {n' c' : Nat} {r : Rule} {s : Value} {ok : Bool} {B : Nat} {v : Value} {w : World} : dR b3 b5 A n c bA off e A' n' c' r s ok B 10 v w = (v = r.v s) := by simp [dR, dP]
theorem dR_11 {b3 b5 : Nat} {A : Option Addr} {n c bA off : Nat} {e : Evt} {A' : Option Addr} {n' c' : Nat} {r : Rule} {s : Value} {ok : Bool} {B : Nat} {v : Value} {w : World} : dR b3 b5 A n c bA off e A' n' c' r s ok B 11 v w = (v = .bool ok) := by simp [dR, dP]
theorem dR_12 {b3 b5 : Nat} {A : Option Addr} {n c bA off : Nat} {e : Evt} {A' : Option Addr} {n' c' : Nat} {r : Rule} {s : Value} {ok : Bool} {B : Nat} {v : Value} {w : World} : dR b3 b5 A n c bA off e A' n' c' r s ok B 12 v w = (IsNew5 B v w) := by simp [dR]
theorem dR_13 {b3 b5 : Nat} {A : Option Addr} {n c bA off : Nat} {e : Evt} {A' : Option Addr} {n' c' : Nat} {r : Rule} {s : Value} {ok : Bool} {B : Nat} {v : Value} {w : World} : dR b3 b5 A n c bA off e A' n' c' r s ok B 13 v w = (∃ b, v = .pointer (some ⟨b, 0, none⟩) ∧ Laid5 w b (.int .i64 r.kd) (.int .i64 r.a) (.int .i64 r.b) (.int .i64 r.c) s) := by simp [dR]
theorem dR_lays {b3 b5 : Nat} {A : Option Addr} {n c bA off : Nat} {e : Evt} {A' : Option Addr} {n' c' : Nat} {r : Rule} {s : Value} {ok : Bool} {B : Nat} {v : Value} {w : World} (d : Nat) {w' : World} (h : dR b3 b5 A n c bA off e A' n' c' r s ok B d v w) (u : Lays (.int .i64 r.kd) (.int .i64 r.a) (.int .i64 r.b) (.int .i64 r.c) s w w') : dR b3 b5 A n c bA off e A' n' c' r s ok B d v w' := by
  unfold dR at h ⊢
  by_cases h1 : d = 12
  · rw [if_pos h1] at h ⊢
    exact h.lays u
  · rw [if_neg h1] at h ⊢
    by_cases h2 : d = 13
    · rw [if_pos h2] at h ⊢
      obtain ⟨b, hb, hl⟩ := h
      exact ⟨b, hb, u.laid b hl⟩
    · rw [if_neg h2] at h ⊢
      exact h
end Go.Proofs.Ytakmlfgkppekoaa

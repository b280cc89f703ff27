/-
  What impl.MdlOk returns, in one sentence: the bool that the bounds give; for every model that lies in memory.
  Component states as values, in one sentence: three numbers, and the bounds that make one valid; no condition is made.
  Blocks of three numbers of the call's own, in one sentence: kept, laid and written; no condition is made.
  What a component does, in one sentence: its new state and what it sends, as lists and numbers; no condition is made.
  What a machine's map holds, in one sentence: for each component and kind the model's rule, if there is one; no condition is made.
-/
import Derived.Test.YtipjcjjjkkaigaaDLLook01
import Derived.Test.YtipjcjjjkkaigaaDLLook03
import Derived.Test.YtipjcjjjkkaigaaDLLook04
import Derived.Test.YtipjcjjjkkaigaaDLLook08
import Derived.Test.YtipjcjjjkkaigaaDLLook13
namespace Go.Proofs.Ytipjcjjjkkaigaa
set_option maxRecDepth 100000
open Go.RowKit
def startsB (es : List Evt) (til many : Int) : Bool := decide ((es.length : Int) ≤ 6) && riseB es && es.all (startB til many)
def mdlB (m : Mdl) : Bool := inB m.rules.length 1 4 && inB m.til 0 99 && startsB m.starts m.til m.rules.length && m.rules.all (rulesB m.rules.length (-1))
set_option maxHeartbeats 8000000 in
theorem implStarts_any (A : Option Addr) (n c : Nat) (B : Option Addr) (k d : Nat) (til : Int) (es : List Evt) (w : World) (hE : Evs w B k es) :
    Calls Try.prog 82 #[.agg #[.slice A n c, .slice B k d, .int .i64 til]] w fun x w' => x = .returned (.bool (startsB es til n)) ∧ Up w w' := by
  have RB := Lib.hid (show startsB es til n = (decide ((k : Int) ≤ 6) && riseB es && es.all (startB til n)) by rw [← hE.1]; rfl)
  generalize startsB es til n = res at RB ⊢
  have B0 := Lib.hid (Box3.new w (.slice A n c) (.slice B k d) (.int .i64 til) 38)
  by_cases h6 : (k : Int) ≤ 6
  · have R1 := Lib.hid (show res = (riseB es && es.all (startB til n)) by rw [RB.out, decide_eq_true h6, Bool.true_and])
    have j6 : ¬ (6 : Int) < k := by omega
    have RI := Lib.hid (fun W h => implRise_any B k d es W (by omega) h)
    have AD := Lib.hid (fun i h => all_drop (f := startB til n) (d := default) es i h)
    have AE := Lib.hid (fun i h => all_end (f := startB til n) es i h)
    have CL := Lib.hid (fun e W => implOk_any e n W)
    have H0 := Lib.hid (show (es.drop 0).all (startB til n) = es.all (startB til n) from rfl)
    have HE := Lib.hid hE
    have LE := Lib.hid hE.1
    generalize es.all (startB til n) = al at H0 R1
    generalize riseB es = r at RI R1
    clear RB hE
    go_enter Try.func82, Try.ntmps82
    go_wp2_with fail
    refine (RI.out _ (HE.out.up ((Up.refl _).alloc _))).mono ?_; rintro x w1 ⟨rfl, u1⟩
    have U1 := Lib.hid (((Up.refl w).alloc _).trans u1)
    have B1 := Lib.hid (B0.out.up u1)
    clear u1 RI B0
    cases r
    · go_wp2
      go_ret
      exact ⟨ret_bool (by rw [R1.out]; rfl), U1.out⟩
    · have q := B1.out
      obtain ⟨q0, q1, q2⟩ := And.intro q.c0 (And.intro q.c1 q.c2)
      have qlt := q.lt
      clear q; go_wp2; clear q0 q1 q2
      go_loopw [18] (fun i wr => (∃ p : Nat, p ≤ k ∧ i = .int .i64 p ∧ Hid ((es.drop p).all (startB til n) = al)) ∧ Up w1 wr) (fun i _ => k - (intOf i).toNat)
      case atStart => exact ⟨⟨0, by omega, rfl, H0⟩, Up.refl _⟩
      case round =>
        obtain ⟨⟨p, hp, rfl, HA⟩, ur⟩ := hrel
        by_cases hlt : p < k
        · obtain ⟨b, off, hA, hb, hc⟩ := HE.out.2 (by omega)
          subst hA
          have a0 := (hc p hlt).up (U1.out.trans ur) hb
          have hb' : b < wr.heap.size := by have := (U1.out.trans ur).size; omega
          clear hc
          have S := AD.out p (by rw [LE.out]; exact hlt)
          rw [HA.out] at S
          have cl := CL.out (es.getD p default)
          generalize es.getD p default = e at a0 S cl
          obtain ⟨et, eto, efr, esq, ekd, edt⟩ := e; rw [show startB til n ⟨et, eto, efr, esq, ekd, edt⟩ = (decide (efr = -1) && decide (et ≤ til) && okB ⟨et, eto, efr, esq, ekd, edt⟩ n) from rfl] at S
          generalize okB ⟨et, eto, efr, esq, ekd, edt⟩ n = s at S cl
          unfold EvAt at a0; unfold Evt.v at cl; dsimp only at a0 cl S; obtain ⟨p0, p1, p2, p3, p4, p5⟩ := a0
          have C := Lib.hid cl
          have S' := Lib.hid S
          have bx := B1.out.up ur
          obtain ⟨q0, q1, q2⟩ := And.intro bx.c0 (And.intro bx.c1 bx.c2)
          have qlt2 := bx.lt
          have qne : wr.heap.size ≠ w.heap.size := by omega
          have UR := Lib.hid (U1.out.trans ur)
          have UR1 := Lib.hid ur
          clear cl S ur bx
          have i4 : (p : Int) < k := by omega
          have i5 : IntKind.i64.wrap ((p : Int) + 1) = (p : Int) + 1 := IntWalk.i64_in _ (by omega)
          by_cases hf : efr = -1
          · subst hf
            by_cases ht : et ≤ til
            · have ht' : ¬ til < et := by omega
              go_wp2_with fail
              refine (C.out _).mono ?_; rintro x w2 ⟨rfl, u2⟩
              have U2 := Lib.hid ((UR1.out.alloc _).trans u2)
              clear u2
              cases s
              · go_wp2
                go_ret
                exact ⟨ret_bool (by rw [R1.out, show al = false by rw [S'.out]; simp]; rfl), U1.out.trans U2.out⟩
              · have AL := Lib.hid (show (es.drop (p + 1)).all (startB til n) = al by rw [S'.out, decide_eq_true ht]; simp)
                go_wp2
                go_roundw
                case rel => exact ⟨⟨p + 1, by omega, by first | rfl | go_num, AL⟩, U2.out⟩
                case measure => (simp [intOf]; try omega)
            · have ht' : til < et := by omega
              go_wp2; go_ret
              exact ⟨ret_bool (by rw [R1.out, show al = false by rw [S'.out, decide_eq_false (show ¬ et ≤ til by omega)]; simp]; rfl), UR.out.alloc _⟩
          · go_wp2
            go_ret
            exact ⟨ret_bool (by rw [R1.out, show al = false by rw [S'.out, decide_eq_false (show ¬ efr = -1 by omega)]; simp]; rfl), UR.out.alloc _⟩
        · have hal : al = true := HA.out.symm.trans (AE.out p (by rw [LE.out]; omega))
          have HW := Lib.hid (U1.out.trans ur)
          have i4 : ¬ (p : Int) < k := by omega
          clear ur; go_wp2; go_ret
          exact ⟨ret_bool (by rw [R1.out, hal]; rfl), HW.out⟩
  · have j6 : (6 : Int) < k := by omega
    have RB2 := Lib.hid (show res = false by rw [RB.out, decide_eq_false h6]; rfl)
    go_enter Try.func82, Try.ntmps82
    go_wp2; go_ret
    exact ⟨ret_bool RB2.out.symm, (Up.refl w).alloc _⟩
set_option maxHeartbeats 4000000 in
theorem implMdl_any (A : Option Addr) (n c : Nat) (B : Option Addr) (k d : Nat) (m : Mdl) (w : World) (hM : MdlV w A n B k m) :
    Calls Try.prog 37 #[.agg #[.slice A n c, .slice B k d, .int .i64 m.til]] w fun x w' => x = .returned (.bool (mdlB m)) ∧ Up w w' := by
  have HM := Lib.hid hM
  have RB := Lib.hid (show mdlB m = (inB n 1 4 && inB m.til 0 99 && startsB m.starts m.til n && m.rules.all (rulesB n (-1))) by rw [← hM.rules.1]; rfl)
  have B0 := Lib.hid (Box3.new w (.slice A n c) (.slice B k d) (.int .i64 m.til) 38)
  have SC := Lib.hid (fun W h => implStarts_any A n c B k d m.til m.starts W h)
  have RC := Lib.hid (fun h1 h2 W h => implRules_any A n c B k d m.til m.rules h1 h2 W h)
  generalize mdlB m = res at RB ⊢
  generalize startsB m.starts m.til n = st at RB SC
  generalize m.rules.all (rulesB n (-1)) = ru at RB RC
  generalize m.til = til at *
  clear hM
  by_cases hm : (1 : Int) ≤ n ∧ (n : Int) ≤ 4
  · have hin : inB n 1 4 = true := inB_iff.2 hm
    obtain ⟨hm1, hm2⟩ := hm
    by_cases ht : 0 ≤ til ∧ til ≤ 99
    · have hit : inB til 0 99 = true := inB_iff.2 ht
      have R1 := Lib.hid (show res = (st && ru) by rw [RB.out, hin, hit]; simp)
      clear RB ht
      go_enter Try.func37, Try.ntmps37
      go_wp2_with (go_at_call 69; refine (within_any _ _ _ _).mono ?_; rintro e w' ⟨rfl, rfl⟩)
      refine (SC.out _ (HM.out.starts.up ((Up.refl _).alloc _))).mono ?_; rintro x w1 ⟨rfl, u1⟩
      have U1 := Lib.hid (((Up.refl w).alloc _).trans u1)
      have q := B0.out.up u1
      obtain ⟨q0, q1, q2⟩ := And.intro q.c0 (And.intro q.c1 q.c2); clear u1 q
      cases st
      · go_wp2
        go_ret
        exact ⟨ret_bool (by rw [R1.out]; rfl), U1.out⟩
      · go_wp2_with fail
        refine (RC.out hm1 hm2 _ (HM.out.rules.up U1.out)).mono ?_; rintro x w2 ⟨rfl, u2⟩
        have U2 := Lib.hid (U1.out.trans u2)
        clear u2; go_wp2; go_ret
        exact ⟨ret_bool (by rw [R1.out]; simp), U2.out⟩
    · have hit : inB til 0 99 = false := inB_no.2 ht
      have R1 := Lib.hid (show res = false by rw [RB.out, hin, hit]; simp)
      clear RB ht
      go_enter Try.func37, Try.ntmps37
      go_wp2_with (go_at_call 69; refine (within_any _ _ _ _).mono ?_; rintro e w' ⟨rfl, rfl⟩)
      go_ret
      exact ⟨ret_bool R1.out.symm, (Up.refl _).alloc _⟩
  · have hin : inB n 1 4 = false := inB_no.2 hm
    have R1 := Lib.hid (show res = false by rw [RB.out, hin]; simp)
    clear RB hm
    go_enter Try.func37, Try.ntmps37
    go_wp2_with (go_at_call 69; refine (within_any _ _ _ _).mono ?_; rintro e w' ⟨rfl, rfl⟩)
    go_ret
    exact ⟨ret_bool R1.out.symm, (Up.refl _).alloc _⟩
end Go.Proofs.Ytipjcjjjkkaigaa

namespace Go.Proofs.Ytipjcjjjkkaigaa
set_option maxRecDepth 100000
open Go.RowKit
/-- A component's state: its three numbers. -/
structure Cst where
  s : Int
  sq : Int
  ct : Int
deriving DecidableEq
instance : Inhabited Cst := ⟨⟨0, 0, 0⟩⟩
def Cst.v (c : Cst) : Value := .agg #[.int .i64 c.s, .int .i64 c.sq, .int .i64 c.ct]
/-- What both CmpOk compute. -/
def cstB (c : Cst) : Bool := inB c.s 0 96 && inB c.sq 0 12 && decide (0 ≤ c.ct)
end Go.Proofs.Ytipjcjjjkkaigaa

namespace Go.Proofs.Ytipjcjjjkkaigaa
set_option maxRecDepth 100000
open Go.RowKit
/-- A block of three numbers of the call's own. -/
structure Cell3 (w : World) (b : Nat) (x y z : Int) : Prop where
  lt : b < w.heap.size
  c0 : w.cell? ⟨b, 0, none⟩ = some (.int .i64 x)
  c1 : w.cell? ⟨b, 1, none⟩ = some (.int .i64 y)
  c2 : w.cell? ⟨b, 2, none⟩ = some (.int .i64 z)
  f : ∀ j, w.frozen? ⟨b, j, none⟩ = false
theorem Cell3.mv {w w' : World} {b g : Nat} {x y z : Int} (h : Cell3 w b x y z) (m : Mv g w w') (hb : b ≠ g) : Cell3 w' b x y z :=
  ⟨Nat.lt_of_lt_of_le h.lt m.size, (m.cells _ _ h.lt hb).trans h.c0, (m.cells _ _ h.lt hb).trans h.c1, (m.cells _ _ h.lt hb).trans h.c2, fun j => (m.frozens _ _ h.lt hb).trans (h.f j)⟩
theorem Cell3.new (w : World) (x y z : Int) (t : TypeId) : Cell3 (w.alloc (.cells #[.int .i64 x, .int .i64 y, .int .i64 z] t)) w.heap.size x y z := by
  have hh := heap_alloc_new w (.cells #[.int .i64 x, .int .i64 y, .int .i64 z] t)
  refine ⟨by simp, by rw [cell_of_row _ _ 0 _ _ _ hh]; rfl, by rw [cell_of_row _ _ 1 _ _ _ hh]; rfl, by rw [cell_of_row _ _ 2 _ _ _ hh]; rfl, fun j => ?_⟩; unfold World.frozen?; rw [hh]; simp
theorem Cell3.far {w : World} {b : Nat} {x y z : Int} (h : Cell3 w b x y z) {p : Addr} (hp : p.block ≠ b) (u : Value) : Cell3 (w.setCell p u) b x y z := by
  have k : ∀ j, (w.setCell p u).cell? ⟨b, j, none⟩ = w.cell? ⟨b, j, none⟩ := fun j => World.cell?_setCell_other _ _ _ _ (fun e => hp (by rw [e]))
  exact ⟨by simpa using h.lt, (k 0).trans h.c0, (k 1).trans h.c1, (k 2).trans h.c2, fun j => by have := h.f j; simpa [go_sem] using this⟩
theorem Cell3.set0 {w : World} {b : Nat} {x y z : Int} (h : Cell3 w b x y z) (u : Int) : Cell3 (w.setCell ⟨b, 0, none⟩ (.int .i64 u)) b u y z :=
  ⟨by simpa using h.lt, World.cell?_setCell_same _ _ _ h.c0, (World.cell?_setCell_other _ _ _ _ (addr_ne (by omega))).trans h.c1, (World.cell?_setCell_other _ _ _ _ (addr_ne (by omega))).trans h.c2, fun j => by have := h.f j; simpa [go_sem] using this⟩
theorem Cell3.set1 {w : World} {b : Nat} {x y z : Int} (h : Cell3 w b x y z) (u : Int) : Cell3 (w.setCell ⟨b, 1, none⟩ (.int .i64 u)) b x u z :=
  ⟨by simpa using h.lt, (World.cell?_setCell_other _ _ _ _ (addr_ne (by omega))).trans h.c0, World.cell?_setCell_same _ _ _ h.c1, (World.cell?_setCell_other _ _ _ _ (addr_ne (by omega))).trans h.c2, fun j => by have := h.f j; simpa [go_sem] using this⟩
theorem Cell3.set2 {w : World} {b : Nat} {x y z : Int} (h : Cell3 w b x y z) (u : Int) : Cell3 (w.setCell ⟨b, 2, none⟩ (.int .i64 u)) b x y u :=
  ⟨by simpa using h.lt, (World.cell?_setCell_other _ _ _ _ (addr_ne (by omega))).trans h.c0, (World.cell?_setCell_other _ _ _ _ (addr_ne (by omega))).trans h.c1, World.cell?_setCell_same _ _ _ h.c2, fun j => by have := h.f j; simpa [go_sem] using this⟩
/-- A new block of three, laid. -/
theorem Cell3.laid {w : World} {b : Nat} (hl : b < w.heap.size) (hs : ∀ j, j < 3 → ∃ u, w.cell? ⟨b, j, none⟩ = some u) (hf : ∀ j, w.frozen? ⟨b, j, none⟩ = false) (x y z : Int) :
    Cell3 (((w.setCell ⟨b, 0, none⟩ (.int .i64 x)).setCell ⟨b, 1, none⟩ (.int .i64 y)).setCell ⟨b, 2, none⟩ (.int .i64 z)) b x y z := by
  have ne : ∀ k j, k ≠ j → (⟨b, k, none⟩ : Addr) ≠ ⟨b, j, none⟩ := fun k j hk => addr_ne (by omega)
  obtain ⟨v0, h0⟩ := hs 0 (by omega); obtain ⟨v1, h1⟩ := hs 1 (by omega); obtain ⟨v2, h2⟩ := hs 2 (by omega); refine ⟨by simpa using hl, ?_, ?_, ?_, fun j => by have := hf j; simpa [go_sem] using this⟩
  · rw [World.cell?_setCell_other _ _ _ _ (ne 2 0 (by omega)), World.cell?_setCell_other _ _ _ _ (ne 1 0 (by omega))]
    exact World.cell?_setCell_same _ _ _ h0
  · rw [World.cell?_setCell_other _ _ _ _ (ne 2 1 (by omega))]
    exact World.cell?_setCell_same _ _ _ ((World.cell?_setCell_other _ _ _ _ (ne 0 1 (by omega))).trans h1)
  · exact World.cell?_setCell_same _ _ _ ((World.cell?_setCell_other _ _ _ _ (ne 1 2 (by omega))).trans ((World.cell?_setCell_other _ _ _ _ (ne 0 2 (by omega))).trans h2))
theorem Cell3.laid' {w : World} {b : Nat} {x0 y0 z0 : Int} (h : Cell3 w b x0 y0 z0) (x y z : Int) :
    Cell3 (((w.setCell ⟨b, 0, none⟩ (.int .i64 x)).setCell ⟨b, 1, none⟩ (.int .i64 y)).setCell ⟨b, 2, none⟩ (.int .i64 z)) b x y z :=
  ((h.set0 x).set1 y).set2 z
end Go.Proofs.Ytipjcjjjkkaigaa

namespace Go.Proofs.Ytipjcjjjkkaigaa
set_option maxRecDepth 100000
open Go.RowKit
/-- What is sent, and the number behind it. -/
def sendsE (til s : Int) (e : Evt) : List Evt → Int → List Evt × Int
  | [], q => ([], q)
  | x :: xs, q =>
    if s % x.kd ≠ x.dt ∨ q = 12 then sendsE til s e xs q
    else if e.t + x.to ≤ til then (⟨e.t + x.to, x.t, e.to, q, x.fr, (s + x.sq) % 97⟩ :: (sendsE til s e xs (q + 1)).1, (sendsE til s e xs (q + 1)).2)
    else sendsE til s e xs (q + 1)
/-- A component behind an event, in a model that is one. -/
def doE (m : Mdl) (c : Cst) (e : Evt) : Cst × List Evt :=
  match ruleOf e.kd (m.rules.getD e.to.toNat []) with
  | none => (⟨c.s, c.sq, IntKind.i64.wrap (c.ct + 1)⟩, [])
  | some r => (⟨(r.a * c.s + r.b * e.dt + r.c) % 97, (sendsE m.til ((r.a * c.s + r.b * e.dt + r.c) % 97) e r.sends c.sq).2, IntKind.i64.wrap (c.ct + 1)⟩, (sendsE m.til ((r.a * c.s + r.b * e.dt + r.c) % 97) e r.sends c.sq).1)
/-- May it? -/
def mayB (m : Mdl) (c : Cst) (e : Evt) : Bool := mdlB m && cstB c && okB e m.rules.length && decide (e.t ≤ m.til)
def doM (m : Mdl) (c : Cst) (e : Evt) : Cst × List Evt := if mayB m c e = true then doE m c e else (⟨0, 0, 0⟩, [])
/-- The cells of a rule, laid. -/
def Laid5 (w : World) (b : Nat) (x y z u v : Value) : Prop :=
  b < w.heap.size ∧ w.cell? ⟨b, 0, none⟩ = some x ∧ w.cell? ⟨b, 1, none⟩ = some y ∧ w.cell? ⟨b, 2, none⟩ = some z ∧ w.cell? ⟨b, 3, none⟩ = some u ∧ w.cell? ⟨b, 4, none⟩ = some v
theorem rulesB_of {many kd : Int} : ∀ {bf : Int} {rs : List Rule} {r : Rule}, rulesB many bf rs = true → ruleOf kd rs = some r → ruleB r many = true
  | _, [], _, _, h => by cases h
  | bf, x :: rs, r, hb, h => by
    rw [rulesB, Bool.and_eq_true, Bool.and_eq_true] at hb; rw [ruleOf] at h
    by_cases hk : x.kd = kd
    · rw [if_pos hk] at h
      injection h with h
      subst h
      exact hb.1.2
    · rw [if_neg hk] at h
      exact rulesB_of hb.2 h
theorem mdlB_rule {m : Mdl} {i : Nat} {kd : Int} {r : Rule} (hm : mdlB m = true) (hi : i < m.rules.length) (h : ruleOf kd (m.rules.getD i []) = some r) : ruleB r m.rules.length = true := by
  simp only [mdlB, Bool.and_eq_true, List.all_eq_true] at hm; refine rulesB_of (hm.2 (m.rules.getD i []) ?_) h; rw [List.getD, List.getElem?_eq_getElem hi]
  exact List.getElem_mem hi
theorem mdlB_til {m : Mdl} (hm : mdlB m = true) : 0 ≤ m.til ∧ m.til ≤ 99 := by
  simp only [mdlB, Bool.and_eq_true] at hm
  exact inB_iff.1 hm.1.1.2
theorem ruleB_parts {r : Rule} {many : Int} (h : ruleB r many = true) : (∀ i, i < r.sends.length → sndB (r.sends.getD i default) many = true) ∧ r.sends.length ≤ 2 ∧ (0 ≤ r.a ∧ r.a ≤ 96) ∧ (0 ≤ r.b ∧ r.b ≤ 96) ∧ (0 ≤ r.c ∧ r.c ≤ 96) := by
  simp only [ruleB, Bool.and_eq_true, decide_eq_true_eq, inB_iff, List.all_eq_true] at h; obtain ⟨⟨⟨⟨⟨h1, h2⟩, _⟩, h4⟩, h5⟩, h6⟩ := h; refine ⟨fun i hi => h1 _ ?_, by omega, h4, h5, h6⟩; rw [List.getD, List.getElem?_eq_getElem hi]
  exact List.getElem_mem hi
theorem sndB_parts {x : Evt} {many : Int} (h : sndB x many = true) : (1 ≤ x.to ∧ x.to ≤ 9) ∧ (0 ≤ x.sq ∧ x.sq ≤ 96) ∧ (1 ≤ x.kd ∧ x.kd ≤ 9) := by
  simp only [sndB, Bool.and_eq_true, inB_iff] at h; obtain ⟨⟨⟨⟨⟨_, h1⟩, _⟩, h2⟩, h3⟩, _⟩ := h
  exact ⟨h1, h2, h3⟩
theorem sendsE_drop (til s : Int) (e : Evt) (xs : List Evt) (k : Nat) (q : Int) (h : k < xs.length) :
    sendsE til s e (xs.drop k) q = if s % (xs.getD k default).kd ≠ (xs.getD k default).dt ∨ q = 12 then sendsE til s e (xs.drop (k + 1)) q
      else if e.t + (xs.getD k default).to ≤ til then (⟨e.t + (xs.getD k default).to, (xs.getD k default).t, e.to, q, (xs.getD k default).fr, (s + (xs.getD k default).sq) % 97⟩ :: (sendsE til s e (xs.drop (k + 1)) (q + 1)).1, (sendsE til s e (xs.drop (k + 1)) (q + 1)).2)
      else sendsE til s e (xs.drop (k + 1)) (q + 1) := by
  rw [List.drop_eq_getElem_cons h, sendsE]; simp [h]
/-- What the loop over the sends keeps. -/
structure Kept (w : World) (b3 b4 b5 b6 b9 : Nat) (x y z : Value) (S q ct : Int) (e : Evt) (u0 u1 u2 u3 u4 : Value) : Prop where
  k3 : Box3 w b3 x y z
  k4 : Cell3 w b4 S q ct
  k5 : Box w b5 e
  k6 : Cell3 w b6 0 0 0
  k9 : Laid5 w b9 u0 u1 u2 u3 u4
section
variable {w w' : World} {b3 b4 b5 b6 b9 : Nat} {x y z : Value} {S q ct : Int} {e : Evt} {u0 u1 u2 u3 u4 : Value}
theorem Laid5.keep {b : Nat} (h : Laid5 w b u0 u1 u2 u3 u4) (hs : w.heap.size ≤ w'.heap.size) (hc : ∀ o, w'.cell? ⟨b, o, none⟩ = w.cell? ⟨b, o, none⟩) : Laid5 w' b u0 u1 u2 u3 u4 :=
  ⟨Nat.lt_of_lt_of_le h.1 hs, (hc 0).trans h.2.1, (hc 1).trans h.2.2.1, (hc 2).trans h.2.2.2.1, (hc 3).trans h.2.2.2.2.1, (hc 4).trans h.2.2.2.2.2⟩
theorem Box3.keep {b : Nat} (h : Box3 w b x y z) (hs : w.heap.size ≤ w'.heap.size) (hc : ∀ o, w'.cell? ⟨b, o, none⟩ = w.cell? ⟨b, o, none⟩) : Box3 w' b x y z :=
  ⟨Nat.lt_of_lt_of_le h.lt hs, (hc 0).trans h.c0, (hc 1).trans h.c1, (hc 2).trans h.c2⟩
theorem Cell3.keep {b : Nat} {i j l : Int} (h : Cell3 w b i j l) (hs : w.heap.size ≤ w'.heap.size) (hc : ∀ o, w'.cell? ⟨b, o, none⟩ = w.cell? ⟨b, o, none⟩) (hf : ∀ o, w'.frozen? ⟨b, o, none⟩ = w.frozen? ⟨b, o, none⟩) : Cell3 w' b i j l :=
  ⟨Nat.lt_of_lt_of_le h.lt hs, (hc 0).trans h.c0, (hc 1).trans h.c1, (hc 2).trans h.c2, fun o => (hf o).trans (h.f o)⟩
theorem Kept.up (h : Kept w b3 b4 b5 b6 b9 x y z S q ct e u0 u1 u2 u3 u4) (u : Up w w') : Kept w' b3 b4 b5 b6 b9 x y z S q ct e u0 u1 u2 u3 u4 :=
  ⟨h.k3.up u, h.k4.keep u.size (fun _ => u.cells _ _ h.k4.lt) (fun _ => u.frozens _ _ h.k4.lt), h.k5.up u, h.k6.keep u.size (fun _ => u.cells _ _ h.k6.lt) (fun _ => u.frozens _ _ h.k6.lt), h.k9.keep u.size (fun _ => u.cells _ _ h.k9.1)⟩
theorem Kept.grown {row : Option Nat} (h : Kept w b3 b4 b5 b6 b9 x y z S q ct e u0 u1 u2 u3 u4) (hg : w.grownBy w' row) (h3 : some b3 ≠ row) (h4 : some b4 ≠ row) (h5 : some b5 ≠ row) (h6 : some b6 ≠ row) (h9 : some b9 ≠ row) : Kept w' b3 b4 b5 b6 b9 x y z S q ct e u0 u1 u2 u3 u4 :=
  ⟨h.k3.keep hg.size (fun _ => World.cell?_of_block (hg.block b3 h.k3.lt h3)), h.k4.keep hg.size (fun _ => World.cell?_of_block (hg.block b4 h.k4.lt h4)) (fun _ => World.frozen?_of_block (hg.block b4 h.k4.lt h4)), h.k5.grown hg h5, h.k6.keep hg.size (fun _ => World.cell?_of_block (hg.block b6 h.k6.lt h6)) (fun _ => World.frozen?_of_block (hg.block b6 h.k6.lt h6)), h.k9.keep hg.size (fun _ => World.cell?_of_block (hg.block b9 h.k9.1 h9))⟩
theorem Kept.set4 (h : Kept w b3 b4 b5 b6 b9 x y z S q ct e u0 u1 u2 u3 u4) (n3 : b4 ≠ b3) (n5 : b4 ≠ b5) (n6 : b4 ≠ b6) (n9 : b4 ≠ b9) {j : Nat} {t : Value} {S' q' : Int} (hc : Cell3 (w.setCell ⟨b4, j, none⟩ t) b4 S' q' ct) : Kept (w.setCell ⟨b4, j, none⟩ t) b3 b4 b5 b6 b9 x y z S' q' ct e u0 u1 u2 u3 u4 :=
  ⟨h.k3.keep (by simp) (fun _ => World.cell?_setCell_other _ _ _ _ (addr_ne (.inl n3))), hc, h.k5.setFar n5 _, h.k6.far n6 _, h.k9.keep (by simp) (fun _ => World.cell?_setCell_other _ _ _ _ (addr_ne (.inl n9)))⟩
end
theorem Cell3.up {w w' : World} {b : Nat} {i j l : Int} (h : Cell3 w b i j l) (u : Up w w') : Cell3 w' b i j l := h.keep u.size (fun _ => u.cells _ _ h.lt) (fun _ => u.frozens _ _ h.lt)
end Go.Proofs.Ytipjcjjjkkaigaa

namespace Go.Proofs.Ytipjcjjjkkaigaa
set_option maxRecDepth 100000
open Go.RowKit
/-- A rule as a value over a slice that holds its sends. -/
def RowV (w : World) (o : Option Rule) (v : Option Value) : Prop :=
  match o with
  | none => v = none
  | some r => ∃ A n c, v = some (r.v (.slice A n c)) ∧ n ≤ 9223372036854775807 ∧ Evs w A n r.sends
theorem RowV.up {w w' : World} {o : Option Rule} {v : Option Value} (h : RowV w o v) (u : Up w w') : RowV w' o v := by
  cases o with
  | none => exact h
  | some r =>
    obtain ⟨A, n, c, h1, h2, h3⟩ := h
    exact ⟨A, n, c, h1, h2, h3.up u⟩
/-- The last rule of a kind. -/
def lastOf (kd : Int) : List Rule → Option Rule
  | [] => none
  | r :: rs => match lastOf kd rs with
    | some x => some x
    | none => if r.kd = kd then some r else none
theorem lastOf_snoc (kd : Int) (r : Rule) : ∀ rs : List Rule, lastOf kd (rs ++ [r]) = if r.kd = kd then some r else lastOf kd rs
  | [] => by simp [lastOf]
  | x :: rs => by
    rw [List.cons_append, lastOf, lastOf_snoc kd r rs]
    by_cases h : r.kd = kd
    · simp [h]
    · simp only [if_neg h]
      rw [lastOf]
theorem lastOf_take (kd : Int) (rs : List Rule) (q : Nat) (h : q < rs.length) : lastOf kd (rs.take (q + 1)) = if (rs.getD q default).kd = kd then some (rs.getD q default) else lastOf kd (rs.take q) := by
  rw [List.take_succ_eq_append_getElem h, lastOf_snoc]; simp [h]
theorem lastOf_past {many kd : Int} : ∀ {bf : Int} {rs : List Rule}, rulesB many bf rs = true → kd ≤ bf → lastOf kd rs = none
  | _, [], _, _ => rfl
  | bf, x :: rs, h, hk => by
    rw [rulesB, Bool.and_eq_true, Bool.and_eq_true] at h
    have h1 := of_decide_eq_true h.1.1
    rw [lastOf, lastOf_past h.2 (by omega)]
    exact if_neg (by omega)
theorem lastOf_ruleOf {many kd : Int} : ∀ {bf : Int} {rs : List Rule}, rulesB many bf rs = true → lastOf kd rs = ruleOf kd rs
  | _, [], _ => rfl
  | bf, x :: rs, h => by
    rw [rulesB, Bool.and_eq_true, Bool.and_eq_true] at h; rw [lastOf, ruleOf]
    by_cases hk : x.kd = kd
    · rw [lastOf_past h.2 (by omega), if_pos hk]
      exact (if_pos hk).symm
    · rw [lastOf_ruleOf h.2, if_neg hk, if_neg hk]
      cases ruleOf kd rs <;> rfl
theorem rulesB_len {many : Int} : ∀ {bf : Int} {rs : List Rule}, rulesB many bf rs = true → -1 ≤ bf → bf ≤ 2 → (rs.length : Int) ≤ 2 - bf
  | bf, [], _, _, h2 => by simp; omega
  | bf, x :: rs, h, h1, h2 => by
    rw [rulesB, Bool.and_eq_true, Bool.and_eq_true] at h
    have k1 := of_decide_eq_true h.1.1
    have k2 := h.1.2
    simp only [ruleB, Bool.and_eq_true, inB_iff] at k2
    have := rulesB_len h.2 (by omega) (by omega)
    simp only [List.length_cons]
    omega
theorem rulesB_mem {many : Int} : ∀ {bf : Int} {rs : List Rule}, rulesB many bf rs = true → ∀ i, i < rs.length → ruleB (rs.getD i default) many = true
  | _, [], _, _, h => absurd h (by simp)
  | bf, x :: rs, h, 0, _ => by
    rw [rulesB, Bool.and_eq_true, Bool.and_eq_true] at h
    exact h.1.2
  | bf, x :: rs, h, i + 1, hi => by
    rw [rulesB, Bool.and_eq_true, Bool.and_eq_true] at h
    simpa using rulesB_mem h.2 i (by simpa using hi)
theorem mdlB_row {m : Mdl} (hm : mdlB m = true) (i : Nat) (hi : i < m.rules.length) : rulesB m.rules.length (-1) (m.rules.getD i []) = true := by
  simp only [mdlB, Bool.and_eq_true, List.all_eq_true] at hm; refine hm.2 (m.rules.getD i []) ?_; rw [List.getD, List.getElem?_eq_getElem hi]
  exact List.getElem_mem hi
theorem mdlB_few {m : Mdl} (hm : mdlB m = true) : 1 ≤ m.rules.length ∧ m.rules.length ≤ 4 := by
  simp only [mdlB, Bool.and_eq_true] at hm
  have := inB_iff.1 hm.1.1.1
  omega
/-- What stands at a key when i components and q rules of the next are stored. -/
def upto (rss : List (List Rule)) (i q : Nat) (c k : Int) : Option Rule :=
  if c < 0 then none else if c < i then lastOf k (rss.getD c.toNat []) else if c = i then lastOf k ((rss.getD i []).take q) else none
def Filled (w : World) (rss : List (List Rule)) (i q : Nat) (f : Int → Int → Option Value) : Prop := ∀ c k, RowV w (upto rss i q c k) (f c k)
theorem Filled.start (w : World) (rss : List (List Rule)) : Filled w rss 0 0 (fun _ _ => none) := fun c k => by
  have e : upto rss 0 0 c k = none := by
    unfold upto
    split
    · rfl
    · split
      · omega
      · split
        · simp [lastOf]
        · rfl
  rw [e]
  rfl
theorem Filled.step {w : World} {rss : List (List Rule)} {i q : Nat} {f : Int → Int → Option Value} (h : Filled w rss i q f) {r : Rule} (hq : q < (rss.getD i []).length) (hr : (rss.getD i []).getD q default = r) {A : Option Addr} {n c : Nat}
    (hn : n ≤ 9223372036854775807) (he : Evs w A n r.sends) : Filled w rss i (q + 1) (fun c' k' => if c' = (i : Int) ∧ k' = r.kd then some (r.v (.slice A n c)) else f c' k') := fun c' k' => by
  have h0 := h c' k'
  have e : upto rss i (q + 1) c' k' = if c' = (i : Int) ∧ k' = r.kd then some r else upto rss i q c' k' := by
    unfold upto
    by_cases hc : c' = (i : Int)
    · subst hc
      have n1 : ¬ (i : Int) < 0 := by omega
      have n2 : ¬ (i : Int) < i := by omega
      simp only [if_neg n1, if_neg n2, if_true]; rw [lastOf_take _ _ _ hq, hr]
      by_cases hk : k' = r.kd
      · rw [if_pos hk.symm, if_pos ⟨trivial, hk⟩]
      · rw [if_neg (fun e => hk e.symm), if_neg (fun e => hk e.2)]
    · rw [if_neg hc, if_neg (fun e : c' = (i : Int) ∧ k' = r.kd => hc e.1), if_neg hc]
  rw [e]
  by_cases hc : c' = (i : Int) ∧ k' = r.kd
  · simp only [if_pos hc]
    exact ⟨A, n, c, rfl, hn, he⟩
  · simp only [if_neg hc]
    exact h0
theorem Filled.row {w : World} {rss : List (List Rule)} {i q : Nat} {f : Int → Int → Option Value} (h : Filled w rss i q f) (hq : (rss.getD i []).length ≤ q) : Filled w rss (i + 1) 0 f := fun c k => by
  have h0 := h c k
  have e : upto rss (i + 1) 0 c k = upto rss i q c k := by
    unfold upto
    by_cases h1 : c < 0
    · rw [if_pos h1, if_pos h1]
    · rw [if_neg h1, if_neg h1]
      by_cases h2 : c < (i : Int)
      · rw [if_pos h2, if_pos (by omega)]
      · rw [if_neg h2]
        by_cases h3 : c = (i : Int)
        · subst h3
          rw [if_pos (by omega), if_pos rfl, List.take_of_length_le hq]; simp
        · rw [if_neg (by omega), if_neg h3]
          split
          · simp [lastOf]
          · rfl
  rw [e]
  exact h0
/-- The map of a model. -/
def Mach (w : World) (b : Nat) (m : Mdl) : Prop :=
  ∃ N f, RMap w b N f ∧ ∀ c k, RowV w (if 0 ≤ c then ruleOf k (m.rules.getD c.toNat []) else none) (f c k)
theorem Filled.done {w : World} {m : Mdl} (hm : mdlB m = true) {f : Int → Int → Option Value} (h : Filled w m.rules m.rules.length 0 f) : ∀ c k, RowV w (if 0 ≤ c then ruleOf k (m.rules.getD c.toNat []) else none) (f c k) := fun c k => by
  have h0 := h c k
  have e : upto m.rules m.rules.length 0 c k = if 0 ≤ c then ruleOf k (m.rules.getD c.toNat []) else none := by
    unfold upto
    by_cases h1 : c < 0
    · rw [if_pos h1, if_neg (show ¬ (0 : Int) ≤ c by omega)]
    · rw [if_neg h1, if_pos (show (0 : Int) ≤ c by omega)]
      by_cases h2 : c < (m.rules.length : Int)
      · rw [if_pos h2, lastOf_ruleOf (mdlB_row hm c.toNat (by omega))]
      · rw [if_neg h2]
        have : m.rules.getD c.toNat [] = [] := by
          rw [List.getD, List.getElem?_eq_none (by omega)]
          rfl
        rw [this]
        split
        · simp [lastOf, ruleOf]
        · rfl
  rw [← e]
  exact h0
theorem Mach.up {w w' : World} {b : Nat} {m : Mdl} (h : Mach w b m) (u : Up w w') : Mach w' b m := by
  obtain ⟨N, f, h1, h2⟩ := h
  exact ⟨N, f, h1.up u, fun c k => (h2 c k).up u⟩
/-- Looked up. -/
theorem Mach.look {w W : World} {b : Nat} {m : Mdl} (h : Mach w b m) (u : Up w W) (c k : Int) (hc : I64 c) (hk : I64 k) (h0 : 0 ≤ c) :
    (ruleOf k (m.rules.getD c.toNat []) = none ∧ (Instr.lookup 116 (.map (some b)) (.agg #[.int .i64 c, .int .i64 k]) true).run Try.prog W = .ok (.tuple #[.agg #[.int .i64 0, .int .i64 0, .int .i64 0, .int .i64 0, .slice none 0 0], .bool false]) W) ∨
    ∃ r A n cp, ruleOf k (m.rules.getD c.toNat []) = some r ∧ n ≤ 9223372036854775807 ∧ Evs w A n r.sends ∧ (Instr.lookup 116 (.map (some b)) (.agg #[.int .i64 c, .int .i64 k]) true).run Try.prog W = .ok (.tuple #[.agg #[.int .i64 r.kd, .int .i64 r.a, .int .i64 r.b, .int .i64 r.c, .slice A n cp], .bool true]) W := by
  obtain ⟨N, f, h1, h2⟩ := h
  have hr := h2 c k
  rw [if_pos h0] at hr
  have hl := (h1.up u).look c k hc hk
  cases ho : ruleOf k (m.rules.getD c.toNat []) with
  | none =>
    rw [ho] at hr; unfold RowV at hr; dsimp only at hr; rw [hr] at hl
    exact .inl ⟨rfl, hl⟩
  | some r =>
    rw [ho] at hr; obtain ⟨A, n, cp, e, hn, he⟩ := hr; rw [e] at hl
    exact .inr ⟨r, A, n, cp, rfl, hn, he, hl⟩
theorem wpList_store_R {P : Program} (hP : P = Try.prog) (w : World) {ops : Array Oper} {rest : List Oper} {o : Oper} {a : Act} {Q : Exit → Act → World → Prop}
    (hg : o.guard = none) (m x v : Operand) (hop : o.op = Op.mapUpdate 116 m x v) (b n : Nat) (f : Int → Int → Option Value) (hm : a.eval m = .map (some b)) (h : RMap w b n f) (hn : n < maxLen)
    (c k : Int) (hx : a.eval x = .agg #[.int .i64 c, .int .i64 k]) (hc : I64 c) (hk : I64 k) (val : Value) (hv : a.eval v = val)
    (hK : ∀ w', RMap w' b (n + 1) (fun c' k' => if c' = c ∧ k' = k then some val else f c' k') → Mv b w w' → wpList P ops Q rest (a.put o.dst undef) w') : wpList P ops Q (o :: rest) a w := by
  subst hP
  refine wpList_plain hg fun K' hK' => ?_
  obtain ⟨w', hrun, r1, r2⟩ := h.store hn c k hc hk val; unfold Oper.wp; simp [execOp, hop, hm, hx, hv, hrun, Result.andThen]
  exact hK' _ _ (hK w' r1 r2)
end Go.Proofs.Ytipjcjjjkkaigaa

/-
  Sequential simulators in memory, in one sentence: lists of component states and of records, and when two are the same; for all that lie in memory.
  A record is not different from itself, in one sentence: the language's own sign says so; for every record.
  What tbItems says of the same items that lie in memory twice, in one sentence: the same; for every list.
  What both CmpOk and toCmpState return, in one sentence: the bool that the bounds give, the same three numbers; for every component state.
  Two component states compared by the language's own sign, in one sentence: are they different; for every two.
  What tbHost says of one host that has done nothing and lies in memory twice, in one sentence: the same; for every such host.
  Items, in one sentence: an event and a number, their order, and what itmCompare returns; no condition is made.
  What ascending returns of items, in one sentence: whether each is less than the next one; for every list that lies in memory.
  Which records and which pending events are valid, in one sentence: two functions on numbers; no condition is made.
-/
import Derived.Test.YtipjcjjjkkaigaaDLHstNew01
import Derived.Test.YtipjcjjjkkaigaaDLHstNew02
import Derived.Test.YtipjcjjjkkaigaaDLHstNew03
import Derived.Test.YtipjcjjjkkaigaaDLHstNew05
import Derived.Test.YtipjcjjjkkaigaaDLHstNew06
import Derived.Test.YtipjcjjjkkaigaaDLHstNew07
import Derived.Test.YtipjcjjjkkaigaaDLHstNew09
import Derived.Test.YtipjcjjjkkaigaaDLHstNew14
namespace Go.Proofs.Ytipjcjjjkkaigaa
set_option maxRecDepth 100000
open Go.RowKit
/-- A record: the event, and the state behind it. -/
structure Rec where
  ev : Evt
  s : Int
deriving DecidableEq
instance : Inhabited Rec := ⟨⟨default, 0⟩⟩
instance : Inhabited Cst := ⟨⟨0, 0, 0⟩⟩
def Rec.v (r : Rec) : Value := .agg #[.int .i64 r.ev.t, .int .i64 r.ev.to, .int .i64 r.ev.fr, .int .i64 r.ev.sq, .int .i64 r.ev.kd, .int .i64 r.ev.dt, .int .i64 r.s]
/-- The cells of one, from o on. -/
def CstAt (w : World) (b o : Nat) (x : Cst) : Prop :=
  w.cell? ⟨b, o, none⟩ = some (.int .i64 x.s) ∧ w.cell? ⟨b, o + 1, none⟩ = some (.int .i64 x.sq) ∧ w.cell? ⟨b, o + 2, none⟩ = some (.int .i64 x.ct)
/-- The slice at A of n elements holds the list. -/
def Csts (w : World) (A : Option Addr) (n : Nat) (xs : List Cst) : Prop :=
  xs.length = n ∧ (0 < n → ∃ b off, A = some ⟨b, off, none⟩ ∧ b < w.heap.size ∧ ∀ i, i < n → CstAt w b (off + i * 3) (xs.getD i default))
theorem Csts.none_ (w : World) : Csts w none 0 [] := ⟨rfl, fun h => absurd h (by omega)⟩
/-- The cells of one, from o on. -/
def RecAt (w : World) (b o : Nat) (x : Rec) : Prop :=
  w.cell? ⟨b, o, none⟩ = some (.int .i64 x.ev.t) ∧ w.cell? ⟨b, o + 1, none⟩ = some (.int .i64 x.ev.to) ∧ w.cell? ⟨b, o + 2, none⟩ = some (.int .i64 x.ev.fr) ∧ w.cell? ⟨b, o + 3, none⟩ = some (.int .i64 x.ev.sq) ∧ w.cell? ⟨b, o + 4, none⟩ = some (.int .i64 x.ev.kd) ∧ w.cell? ⟨b, o + 5, none⟩ = some (.int .i64 x.ev.dt) ∧ w.cell? ⟨b, o + 6, none⟩ = some (.int .i64 x.s)
/-- The slice at A of n elements holds the list. -/
def Recs (w : World) (A : Option Addr) (n : Nat) (xs : List Rec) : Prop :=
  xs.length = n ∧ (0 < n → ∃ b off, A = some ⟨b, off, none⟩ ∧ b < w.heap.size ∧ ∀ i, i < n → RecAt w b (off + i * 7) (xs.getD i default))
theorem RecAt.keep {w w' : World} {b o : Nat} {x : Rec} (h : RecAt w b o x) (k : ∀ j, w'.cell? ⟨b, j, none⟩ = w.cell? ⟨b, j, none⟩) : RecAt w' b o x := by
  obtain ⟨h0, h1, h2, h3, h4, h5, h6⟩ := h
  exact ⟨(k _).trans h0, (k _).trans h1, (k _).trans h2, (k _).trans h3, (k _).trans h4, (k _).trans h5, (k _).trans h6⟩
theorem RecAt.up {w w' : World} {b o : Nat} {x : Rec} (h : RecAt w b o x) (u : Up w w') (hb : b < w.heap.size) : RecAt w' b o x := h.keep fun j => u.cells b j hb
theorem Recs.up {w w' : World} {A : Option Addr} {n : Nat} {xs : List Rec} (h : Recs w A n xs) (u : Up w w') : Recs w' A n xs :=
  ⟨h.1, fun hn => by
    obtain ⟨b, off, hA, hb, hc⟩ := h.2 hn
    exact ⟨b, off, hA, Nat.lt_of_lt_of_le hb u.size, fun i hi => (hc i hi).up u hb⟩⟩
theorem Recs.none_ (w : World) : Recs w none 0 [] := ⟨rfl, fun h => absurd h (by omega)⟩
end Go.Proofs.Ytipjcjjjkkaigaa

namespace Go.Proofs.Ytipjcjjjkkaigaa
set_option maxRecDepth 100000
open Go.RowKit
theorem equalIn_evt_f (a b : Evt) (f : Nat) (w : World) : (Op.equalIn (f + 2) 51 a.v b.v).run Try.prog w = .ok (eqB a b) w := by
  obtain ⟨z0, z1, z2, z3, z4, z5⟩ := a; obtain ⟨y0, y1, y2, y3, y4, y5⟩ := b
  have u3 := Try.underlying3
  have a3 := Try.isAgg3
  have s3 := Try.sizeOf3
  have hS : Try.prog.underlying 51 = some (.struct (Try.prog.fieldsOf 51)) := by kernel_rfl
  have hp : Try.prog.stoodInHeld 51 = false := by kernel_rfl
  rw [eqB_mk]; unfold Evt.v; dsimp only; rw [show f + 2 = (f + 1) + 1 from rfl, run_equalIn_agg w (f + 1) 51 _ _ hS hp]; simp only [Program.fieldsOf, Try.underlying51]; go_simp
  by_cases h0 : z0 = y0 <;> by_cases h1 : z1 = y1 <;> by_cases h2 : z2 = y2 <;> by_cases h3 : z3 = y3 <;> by_cases h4 : z4 = y4 <;> by_cases h5 : z5 = y5 <;> simp [h0, h1, h2, h3, h4, h5]
end Go.Proofs.Ytipjcjjjkkaigaa

namespace Go.Proofs.Ytipjcjjjkkaigaa
set_option maxRecDepth 100000
open Go.RowKit
theorem equalIn_itm (a : Rec) (w : World) : (Op.equalIn 10000 53 a.v a.v).run Try.prog w = .ok true w := by
  obtain ⟨e, s⟩ := a
  have u3 := Try.underlying3
  have a3 := Try.isAgg3
  have s3 := Try.sizeOf3
  have hS : Try.prog.underlying 53 = some (.struct (Try.prog.fieldsOf 53)) := by kernel_rfl
  have hp : Try.prog.stoodInHeld 53 = false := by kernel_rfl
  have hE := equalIn_evt_f e e 9997 w
  unfold Evt.v at hE; unfold Rec.v; dsimp only; rw [show (10000 : Nat) = 9999 + 1 from rfl, run_equalIn_agg w 9999 53 _ _ hS hp]; simp only [Program.fieldsOf, Try.underlying53]; go_simp
theorem neq_itm (a : Rec) (w : World) : (binOp .neq 53 a.v a.v).run Try.prog w = .ok (.bool false) w := by
  have h := equalIn_itm a w
  unfold Rec.v at h ⊢; rw [run_neq_struct, h]
  rfl
theorem guard_itm (op : BinOp) (x y : Operand) (xs ys : Array Value) (w : World) : (eqGuard op 53 x y (.agg xs) (.agg ys)).run Try.prog w = .ok () w :=
  run_eqGuard_agg w op 53 x y xs ys (by kernel_rfl)
set_option maxHeartbeats 2000000 in
theorem tbItems_same (A B : Option Addr) (n capa capb : Nat) (xs : List Rec) (w : World) (hn : n ≤ 1000000000) (hE : Recs w A n xs) (hF : Recs w B n xs) :
    Calls Try.prog 62 #[.slice A n capa, .slice B n capb] w fun x w' => x = .returned (.bool true) ∧ Up w w' := by
  have HE := Lib.hid hE
  have HF := Lib.hid hF
  have CL := Lib.hid (fun p W => neq_itm p W)
  have gd := guard_itm
  clear hE hF
  go_enter Try.func62, Try.ntmps62
  go_wp2
  go_loopw [5] (fun i wr => (∃ k : Nat, k ≤ n ∧ i = .int .i64 k) ∧ Up w wr) (fun i _ => n - (intOf i).toNat)
  case atStart => exact ⟨⟨0, by omega, rfl⟩, Up.refl _⟩
  case round =>
    obtain ⟨⟨k, hk, rfl⟩, ur⟩ := hrel
    by_cases hlt : k < n
    · obtain ⟨b, off, hA, hb, hc⟩ := HE.out.2 (by omega)
      obtain ⟨b2, off2, hA2, hb2, hc2⟩ := HF.out.2 (by omega); subst hA hA2
      have a0 := (hc k hlt).up ur hb
      have a1 := (hc2 k hlt).up ur hb2
      have hb' : b < wr.heap.size := by have := ur.size; omega
      have hb2' : b2 < wr.heap.size := by have := ur.size; omega
      clear hc hc2
      have cl := CL.out (xs.getD k default)
      generalize xs.getD k default = p at a0 a1 cl
      unfold RecAt at a0 a1; unfold Rec.v at cl; obtain ⟨p0, p1, p2, p3, p4, p5, p6⟩ := a0; obtain ⟨q0, q1, q2, q3, q4, q5, q6⟩ := a1
      have i4 : (k : Int) < n := by omega
      go_wp2; refine region_up (by kernel_rfl) (by kernel_rfl) ?_; refine up_step rfl ?_; apply Exists.intro; refine ⟨fun w1 hw1 => ?_, ?_⟩
      · go_simp
        try rfl
      go_simp; refine up_step rfl ?_; apply Exists.intro; refine ⟨fun w1 hw1 => ?_, ?_⟩
      · go_simp
        try rfl
      go_simp; refine up_step rfl ?_; apply Exists.intro; refine ⟨fun w1 hw1 => ?_, ?_⟩
      · go_simp
        try rfl
      go_simp; refine up_step rfl ?_; apply Exists.intro; refine ⟨fun w1 hw1 => ?_, ?_⟩
      · obtain ⟨hc, hf, hz⟩ := hw1.facts
        try simp at hz
        go_simp
        try rfl
      go_simp; refine up_step rfl ?_; apply Exists.intro; refine ⟨fun w1 hw1 => ?_, ?_⟩
      · go_simp
        try rfl
      go_simp; refine up_step rfl ?_; apply Exists.intro; refine ⟨fun w1 hw1 => ?_, ?_⟩
      · go_simp
        try rfl
      go_simp; refine up_step rfl ?_; apply Exists.intro; refine ⟨fun w1 hw1 => ?_, ?_⟩
      · go_simp
        try rfl
      go_simp; refine up_step rfl ?_; apply Exists.intro; refine ⟨fun w1 hw1 => ?_, ?_⟩
      · obtain ⟨hc, hf, hz⟩ := hw1.facts
        try simp at hz
        go_simp
        try rfl
      go_simp; refine up_step rfl ?_; apply Exists.intro; refine ⟨fun w1 hw1 => ?_, ?_⟩
      · go_simp
        try rfl
      go_simp; refine wpQuiet_nil ?_; intro wA uA; clear i4 p0 p1 p2 p3 p4 p5 p6 q0 q1 q2 q3 q4 q5 q6 cl; go_wp2
      go_roundw
      case rel => exact ⟨⟨k + 1, by omega, by go_num⟩, ur.trans uA⟩
      case measure => simp [intOf]; omega
    · go_wp2
      go_ret
      exact ⟨rfl, ur⟩
end Go.Proofs.Ytipjcjjjkkaigaa

namespace Go.Proofs.Ytipjcjjjkkaigaa
set_option maxRecDepth 100000
open Go.RowKit
theorem implCst_any (c : Cst) (w : World) :
    Calls Try.prog 73 #[c.v] w fun x w' => x = .returned (.bool (cstB c)) ∧ Up w w' := by
  unfold cstB; obtain ⟨s, q, n⟩ := c; unfold Cst.v; dsimp only
  go_enter Try.func73, Try.ntmps73
  go_wp2_with (go_at_call 69; refine (within_any _ _ _ _).mono ?_; rintro e w' ⟨rfl, rfl⟩)
  all_goals go_ret
  all_goals exact ⟨ret_bool (by simp [*]), (Up.refl _).alloc _⟩
end Go.Proofs.Ytipjcjjjkkaigaa

namespace Go.Proofs.Ytipjcjjjkkaigaa
set_option maxRecDepth 100000
open Go.RowKit
def eqD (a b : Cst) : Bool := decide (a.s = b.s) && decide (a.sq = b.sq) && decide (a.ct = b.ct)
theorem eqD_refl (a : Cst) : eqD a a = true := by simp [eqD]
theorem equalIn_cst (a b : Cst) (w : World) : (Op.equalIn 10000 28 a.v b.v).run Try.prog w = .ok (eqD a b) w := by
  obtain ⟨z0, z1, z2⟩ := a; obtain ⟨y0, y1, y2⟩ := b
  have u3 := Try.underlying3
  have a3 := Try.isAgg3
  have s3 := Try.sizeOf3
  have hS : Try.prog.underlying 28 = some (.struct (Try.prog.fieldsOf 28)) := by kernel_rfl
  have hp : Try.prog.stoodInHeld 28 = false := by kernel_rfl
  unfold Cst.v eqD; dsimp only; rw [show (10000 : Nat) = 9999 + 1 from rfl, run_equalIn_agg w 9999 28 _ _ hS hp]; simp only [Program.fieldsOf, Try.underlying28]; go_simp
  by_cases h0 : z0 = y0 <;> by_cases h1 : z1 = y1 <;> by_cases h2 : z2 = y2 <;> simp [h0, h1, h2]
theorem neq_cst (a b : Cst) (w : World) : (binOp .neq 28 a.v b.v).run Try.prog w = .ok (.bool (!eqD a b)) w := by
  have h := equalIn_cst a b w
  unfold Cst.v at h ⊢; rw [run_neq_struct, h]
  rfl
theorem guard_cst (op : BinOp) (x y : Operand) (xs ys : Array Value) (w : World) : (eqGuard op 28 x y (.agg xs) (.agg ys)).run Try.prog w = .ok () w :=
  run_eqGuard_agg w op 28 x y xs ys (by kernel_rfl)
end Go.Proofs.Ytipjcjjjkkaigaa

namespace Go.Proofs.Ytipjcjjjkkaigaa
set_option maxRecDepth 100000
open Go.RowKit
set_option maxHeartbeats 4000000 in
theorem tbHs_same (A : Option Addr) (n c : Nat) (B : Option Addr) (d : Nat) (es : List Rec) (w : World) (hn : n ≤ 1000000000) (h : Recs w A n es) (h' : Recs w B n es) :
    Calls Try.prog 20 #[.agg #[.int .i64 0, .int .i64 0, .int .i64 0, .int .i64 0, .slice none 0 0, .slice A n c, .slice none 0 0, .slice none 0 0], .agg #[.int .i64 0, .int .i64 0, .int .i64 0, .int .i64 0, .slice none 0 0, .slice B n d, .slice none 0 0, .slice none 0 0]] w fun x w' => x = .returned (.bool true) ∧ Up w w' := by
  have X0 := Lib.hid ((Blk.new w #[.int .i64 0, .int .i64 0, .int .i64 0, .int .i64 0, .slice none 0 0, .slice A n c, .slice none 0 0, .slice none 0 0] 33).alloc (.cells #[.int .i64 0, .int .i64 0, .int .i64 0, .int .i64 0, .slice none 0 0, .slice B n d, .slice none 0 0, .slice none 0 0] 33))
  have X1 := Lib.hid (Blk.new (w.alloc (.cells #[.int .i64 0, .int .i64 0, .int .i64 0, .int .i64 0, .slice none 0 0, .slice A n c, .slice none 0 0, .slice none 0 0] 33)) #[.int .i64 0, .int .i64 0, .int .i64 0, .int .i64 0, .slice none 0 0, .slice B n d, .slice none 0 0, .slice none 0 0] 33)
  simp only [World.size_alloc] at X1
  have ua := Lib.hid (((Up.refl w).alloc (.cells #[.int .i64 0, .int .i64 0, .int .i64 0, .int .i64 0, .slice none 0 0, .slice A n c, .slice none 0 0, .slice none 0 0] 33)).alloc (.cells #[.int .i64 0, .int .i64 0, .int .i64 0, .int .i64 0, .slice none 0 0, .slice B n d, .slice none 0 0, .slice none 0 0] 33))
  have C1 := Lib.hid (fun W (u : Up w W) => tbItems_same A B n c d es W hn (h.up u) (h'.up u))
  have C2 := Lib.hid (fun W => tbItems_same none none 0 0 0 [] W (by omega) (Recs.none_ W) (Recs.none_ W))
  have CN := fun W => neq_cst ⟨0, 0, 0⟩ ⟨0, 0, 0⟩ W
  rw [eqD_refl] at CN; unfold Cst.v at CN
  have gd := guard_cst
  clear h h'
  go_enter Try.func20, Try.ntmps20
  go_wp2_with fail
  generalize (w.alloc (.cells #[.int .i64 0, .int .i64 0, .int .i64 0, .int .i64 0, .slice none 0 0, .slice A n c, .slice none 0 0, .slice none 0 0] 33)).alloc (.cells #[.int .i64 0, .int .i64 0, .int .i64 0, .int .i64 0, .slice none 0 0, .slice B n d, .slice none 0 0, .slice none 0 0] 33) = W at *
  generalize hb1 : w.heap.size + 1 = b1 at *
  generalize hb0 : w.heap.size = b0 at *
  clear hb0 hb1; refine (C1.out _ ua.out).mono ?_; rintro x wA ⟨rfl, uA⟩
  replace ua := Lib.hid (ua.out.trans uA)
  replace X0 := Lib.hid (X0.out.up uA)
  replace X1 := Lib.hid (X1.out.up uA)
  clear uA
  have z0 := X0.out.cell (j := 0) rfl
  have z1 := X0.out.cell (j := 1) rfl
  have z2 := X0.out.cell (j := 2) rfl
  have z3 := X0.out.cell (j := 3) rfl
  have z4 := X0.out.cell (j := 4) rfl
  have z5 := X0.out.cell (j := 5) rfl
  have z6 := X0.out.cell (j := 6) rfl
  have z7 := X0.out.cell (j := 7) rfl
  have lz := X0.out.lt
  have y0 := X1.out.cell (j := 0) rfl
  have y1 := X1.out.cell (j := 1) rfl
  have y2 := X1.out.cell (j := 2) rfl
  have y3 := X1.out.cell (j := 3) rfl
  have y4 := X1.out.cell (j := 4) rfl
  have y5 := X1.out.cell (j := 5) rfl
  have y6 := X1.out.cell (j := 6) rfl
  have y7 := X1.out.cell (j := 7) rfl
  have ly := X1.out.lt
  go_wp2_with fail
  refine (C2.out _).mono ?_; rintro x wA ⟨rfl, uA⟩; clear z0 z1 z2 z3 z4 z5 z6 z7 y0 y1 y2 y3 y4 y5 y6 y7 lz ly
  replace ua := Lib.hid (ua.out.trans uA)
  replace X0 := Lib.hid (X0.out.up uA)
  replace X1 := Lib.hid (X1.out.up uA)
  clear uA
  have z0 := X0.out.cell (j := 0) rfl
  have z1 := X0.out.cell (j := 1) rfl
  have z2 := X0.out.cell (j := 2) rfl
  have z3 := X0.out.cell (j := 3) rfl
  have z4 := X0.out.cell (j := 4) rfl
  have z5 := X0.out.cell (j := 5) rfl
  have z6 := X0.out.cell (j := 6) rfl
  have z7 := X0.out.cell (j := 7) rfl
  have lz := X0.out.lt
  have y0 := X1.out.cell (j := 0) rfl
  have y1 := X1.out.cell (j := 1) rfl
  have y2 := X1.out.cell (j := 2) rfl
  have y3 := X1.out.cell (j := 3) rfl
  have y4 := X1.out.cell (j := 4) rfl
  have y5 := X1.out.cell (j := 5) rfl
  have y6 := X1.out.cell (j := 6) rfl
  have y7 := X1.out.cell (j := 7) rfl
  have ly := X1.out.lt
  go_wp2
  go_loopw [5] (fun i wr => i = .int .i64 0 ∧ Up wA wr) (fun _ _ => 0)
  case atStart => exact ⟨rfl, Up.refl _⟩
  case round =>
    obtain ⟨rfl, u⟩ := hrel
    replace ua := Lib.hid (ua.out.trans u)
    replace X0 := Lib.hid (X0.out.up u)
    replace X1 := Lib.hid (X1.out.up u)
    clear u; clear z0 z1 z2 z3 z4 z5 z6 z7 y0 y1 y2 y3 y4 y5 y6 y7 lz ly
    have z0 := X0.out.cell (j := 0) rfl
    have z1 := X0.out.cell (j := 1) rfl
    have z2 := X0.out.cell (j := 2) rfl
    have z3 := X0.out.cell (j := 3) rfl
    have z4 := X0.out.cell (j := 4) rfl
    have z5 := X0.out.cell (j := 5) rfl
    have z6 := X0.out.cell (j := 6) rfl
    have z7 := X0.out.cell (j := 7) rfl
    have lz := X0.out.lt
    have y0 := X1.out.cell (j := 0) rfl
    have y1 := X1.out.cell (j := 1) rfl
    have y2 := X1.out.cell (j := 2) rfl
    have y3 := X1.out.cell (j := 3) rfl
    have y4 := X1.out.cell (j := 4) rfl
    have y5 := X1.out.cell (j := 5) rfl
    have y6 := X1.out.cell (j := 6) rfl
    have y7 := X1.out.cell (j := 7) rfl
    have ly := X1.out.lt
    go_wp2
    go_loopw [8] (fun i w2 => i = .int .i64 0 ∧ Up wr w2) (fun _ _ => 0)
    case atStart => exact ⟨rfl, Up.refl _⟩
    case round =>
      obtain ⟨rfl, u⟩ := hrel
      replace ua := Lib.hid (ua.out.trans u)
      replace X0 := Lib.hid (X0.out.up u)
      clear u; clear z0 z1 z2 z3 z4 z5 z6 z7 y0 y1 y2 y3 y4 y5 y6 y7 lz ly
      have z0 := X0.out.cell (j := 0) rfl
      have z1 := X0.out.cell (j := 1) rfl
      have z2 := X0.out.cell (j := 2) rfl
      have z3 := X0.out.cell (j := 3) rfl
      have z4 := X0.out.cell (j := 4) rfl
      have z5 := X0.out.cell (j := 5) rfl
      have z6 := X0.out.cell (j := 6) rfl
      have z7 := X0.out.cell (j := 7) rfl
      have lz := X0.out.lt
      go_wp2; go_ret
      exact ⟨rfl, ua.out⟩
end Go.Proofs.Ytipjcjjjkkaigaa

namespace Go.Proofs.Ytipjcjjjkkaigaa
set_option maxRecDepth 100000
open Go.RowKit
structure Itm where
  ev : Evt
  id : Int
deriving DecidableEq
instance : Inhabited Itm := ⟨⟨default, 0⟩⟩
def Itm.v (a : Itm) : Value := .agg #[.int .i64 a.ev.t, .int .i64 a.ev.to, .int .i64 a.ev.fr, .int .i64 a.ev.sq, .int .i64 a.ev.kd, .int .i64 a.ev.dt, .int .i64 a.id]
def cmpT (a b : Itm) : Int := orL [cmpE a.ev b.ev, cmpI a.id b.id]
def ltT (a b : Itm) : Bool := decide (cmpT a b < 0)
theorem cmpI_zero (x y : Int) : cmpI x y = 0 ↔ x = y := by
  unfold cmpI
  split
  · constructor <;> intro h <;> omega
  · split
    · constructor <;> intro h <;> omega
    · constructor <;> intro h <;> omega
theorem orL_zero : ∀ l : List Int, orL l = 0 ↔ ∀ z ∈ l, z = 0
  | [] => by simp [orL]
  | x :: r => by
    rw [orL]
    split
    · rename_i h
      rw [orL_zero r]; simp [h]
    · rename_i h
      simp [h]
theorem cmpE_zero (a b : Evt) : cmpE a b = 0 ↔ eqB a b = true := by
  rw [eqB_iff]; unfold cmpE; rw [orL_zero]; simp [cmpI_zero]
theorem ltT_eq (a b : Itm) : ltT a b = (ltE a.ev b.ev || (eqB a.ev b.ev && decide (a.id < b.id))) := by
  unfold ltT cmpT ltE
  have hz := cmpE_zero a.ev b.ev
  have hi : cmpI a.id b.id < 0 ↔ a.id < b.id := by
    unfold cmpI
    split
    · constructor <;> intro h <;> omega
    · split
      · constructor <;> intro h <;> omega
      · constructor <;> intro h <;> omega
  generalize cmpE a.ev b.ev = c at hz ⊢
  generalize eqB a.ev b.ev = q at hz ⊢
  generalize cmpI a.id b.id = d at hi ⊢
  by_cases h0 : c = 0
  · have hq := hz.1 h0
    subst h0; rw [hq]
    have e : orL [0, d] = d := by simp [orL]; omega
    rw [e]
    by_cases hd : d < 0
    · simp [hd, hi.1 hd]
    · simp [hd, show ¬ a.id < b.id from fun h => hd (hi.2 h)]
  · have hq : q = false := by
      cases q
      · rfl
      · exact absurd (hz.2 rfl) h0
    rw [hq]; simp [orL, h0]
set_option maxHeartbeats 4000000 in
theorem itmCmp_any (a b : Itm) (w : World) : Calls Try.prog 134 #[a.v, b.v] w fun x w' => x = .returned (.int .i64 (cmpT a b)) ∧ Up w w' := by
  unfold cmpT; obtain ⟨⟨at_, ato, afr, asq, akd, adt⟩, aid⟩ := a; obtain ⟨⟨bt, bto, bfr, bsq, bkd, bdt⟩, bid⟩ := b
  have C := fun W => cmpE_any ⟨at_, ato, afr, asq, akd, adt⟩ ⟨bt, bto, bfr, bsq, bkd, bdt⟩ W
  have D := fun W => cmpI_any aid bid W
  generalize cmpE ⟨at_, ato, afr, asq, akd, adt⟩ ⟨bt, bto, bfr, bsq, bkd, bdt⟩ = c at C ⊢
  generalize cmpI aid bid = d at D ⊢
  unfold Itm.v; unfold Evt.v at C; dsimp only at C ⊢
  have CC := Lib.hid C
  have DD := Lib.hid D
  clear C D
  go_enter Try.func134, Try.ntmps134
  go_wp2_with fail
  refine region_mixH (fun w' => Up ((w.alloc (.cells #[.int .i64 at_, .int .i64 ato, .int .i64 afr, .int .i64 asq, .int .i64 akd, .int .i64 adt, .int .i64 aid] 53)).alloc (.cells #[.int .i64 bt, .int .i64 bto, .int .i64 bfr, .int .i64 bsq, .int .i64 bkd, .int .i64 bdt, .int .i64 bid] 53)) w') [(0, true), (1, true), (2, true), (3, true), (5, true), (6, true), (7, true), (8, true), (4, false), (9, false), (10, false), (11, false), (12, true)] (by kernel_rfl) (by kernel_rfl) (Up.refl _).drew ?_; refine mixH_take rfl (by rfl) ?_; apply Exists.intro; refine ⟨fun w1 hS1 => ?_, ?_⟩
  · clear hS1
    go_simp
    try rfl
  go_simp; refine mixH_take rfl (by rfl) ?_; apply Exists.intro; refine ⟨fun w1 hS1 => ?_, ?_⟩
  · obtain ⟨hc, hf, hz⟩ := hS1.facts
    simp at hz; clear hS1; go_simp
    try rfl
  go_simp; refine mixH_take rfl (by rfl) ?_; apply Exists.intro; refine ⟨fun w1 hS1 => ?_, ?_⟩
  · clear hS1
    go_simp
    try rfl
  go_simp; refine mixH_take rfl (by rfl) ?_; apply Exists.intro; refine ⟨fun w1 hS1 => ?_, ?_⟩
  · obtain ⟨hc, hf, hz⟩ := hS1.facts
    simp at hz; clear hS1; go_simp
    try rfl
  go_simp; refine mixH_take rfl (by rfl) ?_; apply Exists.intro; refine ⟨fun w1 hS1 => ?_, ?_⟩
  · clear hS1
    go_simp
    try rfl
  go_simp; refine mixH_take rfl (by rfl) ?_; apply Exists.intro; refine ⟨fun w1 hS1 => ?_, ?_⟩
  · obtain ⟨hc, hf, hz⟩ := hS1.facts
    simp at hz; clear hS1; go_simp
    try rfl
  go_simp; refine mixH_take rfl (by rfl) ?_; apply Exists.intro; refine ⟨fun w1 hS1 => ?_, ?_⟩
  · clear hS1
    go_simp
    try rfl
  go_simp; refine mixH_take rfl (by rfl) ?_; apply Exists.intro; refine ⟨fun w1 hS1 => ?_, ?_⟩
  · obtain ⟨hc, hf, hz⟩ := hS1.facts
    simp at hz; clear hS1; go_simp
    try rfl
  go_simp; refine mixH_go rfl (by rfl) (fun K hK => ?_); go_simp; refine (CC.out _).mono ?_; rintro x w2 ⟨rfl, u2⟩; refine hK _ _ ((Up.refl _).drew.trans u2) ?_; clear hK K; go_simp; refine mixH_go rfl (by rfl) (fun K hK => ?_); go_simp; refine (DD.out _).mono ?_; rintro x w3 ⟨rfl, rfl⟩; refine hK _ _ ((Up.refl _).drew.trans u2) ?_; clear hK K; go_simp; refine mixH_go rfl (by rfl) (fun K hK => ?_); go_simp; refine hK _ _ (((Up.refl _).drew.trans u2).alloc _) ?_; clear hK K; go_simp; refine mixH_go rfl (by rfl) (fun K hK => ?_); go_simp; refine (or_any _ 0 2 2 [c, d] _ rfl (by omega) ?_).mono ?_
  · intro j hj
    have h6 : j = 0 ∨ j = 1 := by omega
    rcases h6 with rfl | rfl <;> simp [go_sem]
  rintro x w4 ⟨rfl, rfl⟩
  have u4 := (((Up.refl ((w.alloc (.cells #[.int .i64 at_, .int .i64 ato, .int .i64 afr, .int .i64 asq, .int .i64 akd, .int .i64 adt, .int .i64 aid] 53)).alloc (.cells #[.int .i64 bt, .int .i64 bto, .int .i64 bfr, .int .i64 bsq, .int .i64 bkd, .int .i64 bdt, .int .i64 bid] 53))).drew.trans u2).alloc (.cells #[.int .i64 c, .int .i64 d] 3))
  refine hK _ _ u4 ?_; clear hK K; go_simp; refine mixH_take rfl (by rfl) ?_; apply Exists.intro; refine ⟨fun w1 hS1 => ?_, ?_⟩
  · clear hS1
    go_simp
    try rfl
  go_simp; refine mixH_nil ?_; go_wp2; go_ret
  exact ⟨rfl, (((Up.refl _).alloc _).alloc _).trans u4⟩
end Go.Proofs.Ytipjcjjjkkaigaa

namespace Go.Proofs.Ytipjcjjjkkaigaa
set_option maxRecDepth 100000
open Go.RowKit
def Rec.itm (r : Rec) : Itm := ⟨r.ev, r.s⟩
def ltR (a b : Rec) : Bool := ltT a.itm b.itm
/-- Is each less than the next one? -/
def riseT : List Rec → Bool
  | a :: b :: r => ltR a b && riseT (b :: r)
  | _ => true
theorem riseT_drop (es : List Rec) (j : Nat) (h : j + 1 < es.length) : riseT (es.drop j) = (ltR (es.getD j default) (es.getD (j + 1) default) && riseT (es.drop (j + 1))) := by
  rw [List.drop_eq_getElem_cons (show j < es.length by omega), List.drop_eq_getElem_cons h, riseT]; simp [show j < es.length by omega, h]
theorem riseT_end (es : List Rec) (j : Nat) (h : es.length ≤ j + 1) : riseT (es.drop j) = true := by
  by_cases hj : j < es.length
  · rw [List.drop_eq_getElem_cons hj, List.drop_eq_nil_of_le h]; rfl
  · rw [List.drop_eq_nil_of_le (by omega)]; rfl
set_option maxHeartbeats 1000000 in
theorem ascI_any (A : Option Addr) (n cap : Nat) (es : List Rec) (w : World) (hn : n ≤ 1000000000) (hE : Recs w A n es) :
    Calls Try.prog 133 #[.func (.func 134) #[] #[], .slice A n cap] w fun x w' => x = .returned (.bool (riseT es)) ∧ Up w w' := by
  have H0 := Lib.hid (show riseT (es.drop 0) = riseT es from rfl)
  have ST := Lib.hid (riseT_drop es)
  have EN := Lib.hid (riseT_end es)
  have HE := Lib.hid hE
  have LE := Lib.hid hE.1
  have CL := Lib.hid (fun a b W => itmCmp_any (Rec.itm a) (Rec.itm b) W)
  clear hE
  go_enter Try.func133, Try.ntmps133
  go_wp2
  go_loopw [5] (fun i wr => (∃ j : Nat, (j = 0 ∨ j + 1 ≤ n) ∧ i = .int .i64 ((j : Int) + 1) ∧ riseT (es.drop j) = riseT es) ∧ Up w wr) (fun i _ => n + 1 - (intOf i).toNat)
  case atStart => exact ⟨⟨0, .inl rfl, rfl, H0.out⟩, Up.refl _⟩
  case round =>
    obtain ⟨⟨j, hj, rfl, hr⟩, ur⟩ := hrel
    have HR := Lib.hid hr
    clear hr
    by_cases hlt : j + 1 < n
    · obtain ⟨b, off, hA, hb, hc⟩ := HE.out.2 (by omega)
      subst hA
      have a0 := (hc j (by omega)).up ur hb
      have a1 := (hc (j + 1) hlt).up ur hb
      have hb' : b < wr.heap.size := by have := ur.size; omega
      clear hc
      have S := ST.out j (by rw [LE.out]; exact hlt)
      have cl := CL.out (es.getD j default) (es.getD (j + 1) default)
      generalize es.getD j default = p at a0 S cl
      generalize es.getD (j + 1) default = q at a1 S cl
      have S' := Lib.hid S
      clear S
      generalize hz : cmpT (Rec.itm p) (Rec.itm q) = z at cl
      have HZ := Lib.hid (show ltR p q = decide (z < 0) by unfold ltR ltT; rw [hz])
      clear hz
      generalize ltR p q = r at S' HZ
      obtain ⟨⟨pt, pto, pfr, psq, pkd, pdt⟩, ps⟩ := p; obtain ⟨⟨qt, qto, qfr, qsq, qkd, qdt⟩, qs⟩ := q; unfold RecAt at a0 a1; unfold Rec.itm Itm.v at cl; dsimp only at a0 a1 cl; obtain ⟨p0, p1, p2, p3, p4, p5, p6⟩ := a0; obtain ⟨q0, q1, q2, q3, q4, q5, q6⟩ := a1
      have C := Lib.hid cl
      clear cl
      have i0 : IntKind.i64.wrap (j : Int) = j := IntWalk.i64_in _ (by omega)
      have i1 : (0 : Int) ≤ (j : Int) + 1 := by omega
      have i2 : ((j : Int) + 1).toNat = j + 1 := by omega
      have i3 : (j : Int) + 1 < n := by omega
      have i4 : (j : Int) < n := by omega
      go_wp2
      by_cases hz : z < 0
      · have hr : r = true := by rw [HZ.out]; exact decide_eq_true hz
        have HR2 := Lib.hid hr
        clear hr; refine region_up (by kernel_rfl) (by kernel_rfl) ?_; refine up_step rfl ?_; apply Exists.intro; refine ⟨fun w1 hw1 => ?_, ?_⟩
        · go_simp
          try rfl
        go_simp; refine up_step rfl ?_; apply Exists.intro; refine ⟨fun w1 hw1 => ?_, ?_⟩
        · go_simp
          try rfl
        go_simp; refine up_step rfl ?_; apply Exists.intro; refine ⟨fun w1 hw1 => ?_, ?_⟩
        · go_simp
          try rfl
        go_simp; refine up_step rfl ?_; apply Exists.intro; refine ⟨fun w1 hw1 => ?_, ?_⟩
        · go_simp
          try rfl
        go_simp; refine up_step rfl ?_; apply Exists.intro; refine ⟨fun w1 hw1 => ?_, ?_⟩
        · go_simp
          try rfl
        go_simp; refine up_step rfl ?_; apply Exists.intro; refine ⟨fun w1 hw1 => ?_, ?_⟩
        · obtain ⟨hc, hf, hz⟩ := hw1.facts
          try simp at hz
          go_simp
          try rfl
        go_simp; refine up_step rfl ?_; apply Exists.intro; refine ⟨fun w1 hw1 => ?_, ?_⟩
        · go_simp
          try rfl
        go_simp; refine up_step rfl ?_; apply Exists.intro; refine ⟨fun w1 hw1 => ?_, ?_⟩
        · go_simp
          try rfl
        go_simp; refine up_step rfl ?_; apply Exists.intro; refine ⟨fun w1 hw1 => ?_, ?_⟩
        · go_simp
          try rfl
        go_simp; refine up_step rfl ?_; apply Exists.intro; refine ⟨fun w1 hw1 => ?_, ?_⟩
        · obtain ⟨hc, hf, hz⟩ := hw1.facts
          try simp at hz
          go_simp
          try rfl
        go_simp; refine up_step rfl ?_; apply Exists.intro; refine ⟨fun w1 hw1 => ?_, ?_⟩
        · go_simp
          exact up_call hw1 (C.out _)
        go_simp; refine up_step rfl ?_; apply Exists.intro; refine ⟨fun w1 hw1 => ?_, ?_⟩
        · go_simp
          try rfl
        go_simp; refine wpQuiet_nil ?_; intro wA uA; clear i0 i1 i2 i3 i4 p0 p1 p2 p3 p4 p5 p6 q0 q1 q2 q3 q4 q5 q6 C; go_wp2
        go_roundw
        case rel => exact ⟨⟨j + 1, .inr (by omega), by go_num, by rw [← HR.out, S'.out, HR2.out]; rfl⟩, ur.trans uA⟩
        case measure => simp [intOf]; omega
      · have hz0 : 0 ≤ z := by omega
        have hr : r = false := by rw [HZ.out]; exact decide_eq_false hz
        have HR2 := Lib.hid hr
        clear hr; refine region_up (by kernel_rfl) (by kernel_rfl) ?_; refine up_step rfl ?_; apply Exists.intro; refine ⟨fun w1 hw1 => ?_, ?_⟩
        · go_simp
          try rfl
        go_simp; refine up_step rfl ?_; apply Exists.intro; refine ⟨fun w1 hw1 => ?_, ?_⟩
        · go_simp
          try rfl
        go_simp; refine up_step rfl ?_; apply Exists.intro; refine ⟨fun w1 hw1 => ?_, ?_⟩
        · go_simp
          try rfl
        go_simp; refine up_step rfl ?_; apply Exists.intro; refine ⟨fun w1 hw1 => ?_, ?_⟩
        · go_simp
          try rfl
        go_simp; refine up_step rfl ?_; apply Exists.intro; refine ⟨fun w1 hw1 => ?_, ?_⟩
        · go_simp
          try rfl
        go_simp; refine up_step rfl ?_; apply Exists.intro; refine ⟨fun w1 hw1 => ?_, ?_⟩
        · obtain ⟨hc, hf, hz⟩ := hw1.facts
          try simp at hz
          go_simp
          try rfl
        go_simp; refine up_step rfl ?_; apply Exists.intro; refine ⟨fun w1 hw1 => ?_, ?_⟩
        · go_simp
          try rfl
        go_simp; refine up_step rfl ?_; apply Exists.intro; refine ⟨fun w1 hw1 => ?_, ?_⟩
        · go_simp
          try rfl
        go_simp; refine up_step rfl ?_; apply Exists.intro; refine ⟨fun w1 hw1 => ?_, ?_⟩
        · go_simp
          try rfl
        go_simp; refine up_step rfl ?_; apply Exists.intro; refine ⟨fun w1 hw1 => ?_, ?_⟩
        · obtain ⟨hc, hf, hz⟩ := hw1.facts
          try simp at hz
          go_simp
          try rfl
        go_simp; refine up_step rfl ?_; apply Exists.intro; refine ⟨fun w1 hw1 => ?_, ?_⟩
        · go_simp
          exact up_call hw1 (C.out _)
        go_simp; refine up_step rfl ?_; apply Exists.intro; refine ⟨fun w1 hw1 => ?_, ?_⟩
        · go_simp
          try rfl
        go_simp; refine wpQuiet_nil ?_; intro wA uA; clear i0 i1 i2 i3 i4 p0 p1 p2 p3 p4 p5 p6 q0 q1 q2 q3 q4 q5 q6 C; go_wp2; go_ret
        exact ⟨ret_bool (by rw [← HR.out, S'.out, HR2.out]; rfl), ur.trans uA⟩
    · have e := EN.out j (by rw [LE.out]; omega)
      have E := Lib.hid e
      clear e; go_wp2; go_ret
      exact ⟨ret_bool (by rw [← HR.out, E.out]), ur⟩
end Go.Proofs.Ytipjcjjjkkaigaa

namespace Go.Proofs.Ytipjcjjjkkaigaa
set_option maxRecDepth 100000
open Go.RowKit
/-- May an event be pending, among so many components and up to that end? -/
def takB (many til : Int) (e : Evt) : Bool := okB e many && decide (e.t ≤ til)
end Go.Proofs.Ytipjcjjjkkaigaa

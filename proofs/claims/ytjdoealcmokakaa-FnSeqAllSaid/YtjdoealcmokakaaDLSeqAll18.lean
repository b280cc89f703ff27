/-
  A record is not different from itself, in one sentence: the language's own sign says so; for every record.
  What tbRecs says of the same records that lie in memory twice, in one sentence: the same; for every list.
  What tbEvts returns, in one sentence: whether two lists of events are the same; for every two lists that lie in memory.
  What markSeqState, heldSeqState and eqSeqState return, in one sentence: the marks are laid one behind the other in three blocks, are held, and when two are the same; for simulators of the call's own.
  What both CmpOk and toCmpState return, in one sentence: the bool that the bounds give, the same three numbers; for every component state.
  Two component states compared by the language's own sign, in one sentence: are they different; for every two.
  A region that draws its order and whose effects are forced into one order, in one sentence: as region_mix, and what only reads may come up where a chosen condition on the world holds throughout.
  What tbSeq says of one simulator that lies in memory twice, in one sentence: the same; for every simulator.
  Rows of events as functions, in one sentence: a block of the call's own whose events are f 0, f 1, ..; and what a rising stretch with one event more becomes.
  Slices of events given back, in one sentence: a slice of these events; a list in a block of the call's own as a row; no condition is made.
  Rows of events as functions, in one sentence: changed within a stretch, none lost; sorted stretches; a swap; no condition is made.
-/
import Derived.OrdersHeld
import Derived.Test.YtjdoealcmokakaaDLSeqAll01
import Derived.Test.YtjdoealcmokakaaDLSeqAll02
import Derived.Test.YtjdoealcmokakaaDLSeqAll05
import Derived.Test.YtjdoealcmokakaaDLSeqAll07
import Derived.Test.YtjdoealcmokakaaDLSeqAll08
import Derived.Test.YtjdoealcmokakaaDLSeqAll09
import Derived.Test.YtjdoealcmokakaaDLSeqAll15
import Derived.Test.YtjdoealcmokakaaDLSeqAll17
namespace Go.Proofs.Ytjdoealcmokakaa
set_option maxRecDepth 100000
open Go.RowKit
theorem equalIn_evt_f (a b : Evt) (f : Nat) (w : World) : (Op.equalIn (f + 2) 39 a.v b.v).run Try.prog w = .ok (eqB a b) w := by
  obtain ⟨z0, z1, z2, z3, z4, z5⟩ := a; obtain ⟨y0, y1, y2, y3, y4, y5⟩ := b
  have u3 := Try.underlying3
  have a3 := Try.isAgg3
  have s3 := Try.sizeOf3
  have hS : Try.prog.underlying 39 = some (.struct (Try.prog.fieldsOf 39)) := by kernel_rfl
  have hp : Try.prog.stoodInHeld 39 = false := by kernel_rfl
  rw [eqB_mk]; unfold Evt.v; dsimp only; rw [show f + 2 = (f + 1) + 1 from rfl, run_equalIn_agg w (f + 1) 39 _ _ hS hp]; simp only [Program.fieldsOf, Try.underlying39]; go_simp
  by_cases h0 : z0 = y0 <;> by_cases h1 : z1 = y1 <;> by_cases h2 : z2 = y2 <;> by_cases h3 : z3 = y3 <;> by_cases h4 : z4 = y4 <;> by_cases h5 : z5 = y5 <;> simp [h0, h1, h2, h3, h4, h5]
theorem equalIn_rec (a : Rec) (w : World) : (Op.equalIn 10000 41 a.v a.v).run Try.prog w = .ok true w := by
  obtain ⟨e, s⟩ := a
  have u3 := Try.underlying3
  have a3 := Try.isAgg3
  have s3 := Try.sizeOf3
  have hS : Try.prog.underlying 41 = some (.struct (Try.prog.fieldsOf 41)) := by kernel_rfl
  have hp : Try.prog.stoodInHeld 41 = false := by kernel_rfl
  have hE := equalIn_evt_f e e 9997 w
  unfold Evt.v at hE; unfold Rec.v; dsimp only; rw [show (10000 : Nat) = 9999 + 1 from rfl, run_equalIn_agg w 9999 41 _ _ hS hp]; simp only [Program.fieldsOf, Try.underlying41]; go_simp
theorem neq_rec (a : Rec) (w : World) : (binOp .neq 41 a.v a.v).run Try.prog w = .ok (.bool false) w := by
  have h := equalIn_rec a w
  unfold Rec.v at h ⊢; rw [run_neq_struct, h]
  rfl
theorem guard_rec (op : BinOp) (x y : Operand) (xs ys : Array Value) (w : World) : (eqGuard op 41 x y (.agg xs) (.agg ys)).run Try.prog w = .ok () w :=
  run_eqGuard_agg w op 41 x y xs ys (by kernel_rfl)
end Go.Proofs.Ytjdoealcmokakaa

namespace Go.Proofs.Ytjdoealcmokakaa
set_option maxRecDepth 100000
open Go.RowKit
set_option maxHeartbeats 2000000 in
theorem tbRecs_same (A B : Option Addr) (n capa capb : Nat) (xs : List Rec) (w : World) (hn : n ≤ 1000000000) (hE : Recs w A n xs) (hF : Recs w B n xs) :
    Calls Try.prog 10 #[.slice A n capa, .slice B n capb] w fun x w' => x = .returned (.bool true) ∧ Up w w' := by
  have HE := Lib.hid hE
  have HF := Lib.hid hF
  have CL := Lib.hid (fun p W => neq_rec p W)
  have gd := guard_rec
  clear hE hF
  go_enter Try.func10, Try.ntmps10
  go_wp2
  go_loopw [5] (fun i wr => (∃ k : Nat, k ≤ n ∧ i = .int .i64 k) ∧ Up w wr) (fun i _ => n - (intOf i).toNat)
  case atStart => exact ⟨⟨0, by omega, rfl⟩, Up.refl _⟩
  case round =>
    obtain ⟨⟨k, hk, rfl⟩, ur⟩ := hrel
    by_cases hlt : k < n
    · obtain ⟨b, off, hA, hb, hc⟩ := HE.out.2 (by omega)
      obtain ⟨b2, off2, hA2, hb2, hc2⟩ := HF.out.2 (by omega); subst hA hA2
      have a0 := (hc k hlt).up ur hb
      have a1 := (hc2 k hlt).up ur hb2
      have hb' : b < wr.heap.size := by have := ur.size; omega
      have hb2' : b2 < wr.heap.size := by have := ur.size; omega
      clear hc hc2
      have cl := CL.out (xs.getD k default)
      generalize xs.getD k default = p at a0 a1 cl
      unfold RecAt at a0 a1; unfold Rec.v at cl; obtain ⟨p0, p1, p2, p3, p4, p5, p6⟩ := a0; obtain ⟨q0, q1, q2, q3, q4, q5, q6⟩ := a1
      have i4 : (k : Int) < n := by omega
      go_wp2; refine region_up (by kernel_rfl) (by kernel_rfl) ?_; refine up_step rfl ?_; apply Exists.intro; refine ⟨fun w1 hw1 => ?_, ?_⟩
      · go_simp
        try rfl
      go_simp; refine up_step rfl ?_; apply Exists.intro; refine ⟨fun w1 hw1 => ?_, ?_⟩
      · go_simp
        try rfl
      go_simp; refine up_step rfl ?_; apply Exists.intro; refine ⟨fun w1 hw1 => ?_, ?_⟩
      · go_simp
        try rfl
      go_simp; refine up_step rfl ?_; apply Exists.intro; refine ⟨fun w1 hw1 => ?_, ?_⟩
      · obtain ⟨hc, hf, hz⟩ := hw1.facts
        try simp at hz
        go_simp
        try rfl
      go_simp; refine up_step rfl ?_; apply Exists.intro; refine ⟨fun w1 hw1 => ?_, ?_⟩
      · go_simp
        try rfl
      go_simp; refine up_step rfl ?_; apply Exists.intro; refine ⟨fun w1 hw1 => ?_, ?_⟩
      · go_simp
        try rfl
      go_simp; refine up_step rfl ?_; apply Exists.intro; refine ⟨fun w1 hw1 => ?_, ?_⟩
      · go_simp
        try rfl
      go_simp; refine up_step rfl ?_; apply Exists.intro; refine ⟨fun w1 hw1 => ?_, ?_⟩
      · obtain ⟨hc, hf, hz⟩ := hw1.facts
        try simp at hz
        go_simp
        try rfl
      go_simp; refine up_step rfl ?_; apply Exists.intro; refine ⟨fun w1 hw1 => ?_, ?_⟩
      · go_simp
        try rfl
      go_simp; refine wpQuiet_nil ?_; intro wA uA; clear i4 p0 p1 p2 p3 p4 p5 p6 q0 q1 q2 q3 q4 q5 q6 cl; go_wp2
      go_roundw
      case rel => exact ⟨⟨k + 1, by omega, by go_num⟩, ur.trans uA⟩
      case measure => simp [intOf]; omega
    · go_wp2
      go_ret
      exact ⟨rfl, ur⟩
end Go.Proofs.Ytjdoealcmokakaa

namespace Go.Proofs.Ytjdoealcmokakaa
set_option maxRecDepth 100000
open Go.RowKit
set_option maxHeartbeats 1000000 in
theorem tbEvts_any (A B : Option Addr) (n m capa capb : Nat) (es fs : List Evt) (w : World) (hn : n ≤ 1000000000) (hE : Evs w A n es) (hF : Evs w B m fs) :
    Calls Try.prog 28 #[.slice A n capa, .slice B m capb] w fun x w' => x = .returned (.bool (decide (es = fs))) ∧ Up w w' := by
  by_cases hnm : n = m
  · subst hnm
    have H0 := Lib.hid (show decide (es.drop 0 = fs.drop 0) = decide (es = fs) from rfl)
    have ST := Lib.hid (eqL_drop es fs (by rw [hE.1, hF.1]))
    have HE := Lib.hid hE
    have HF := Lib.hid hF
    have LE := Lib.hid hE.1
    have LF := Lib.hid hF.1
    have CL := Lib.hid (fun p q W => neq_evt p q W)
    have gd := guard_evt
    generalize hr : decide (es = fs) = res at H0 ⊢
    clear hE hF hr
    go_enter Try.func28, Try.ntmps28
    go_wp2
    go_loopw [5] (fun i wr => (∃ k : Nat, k ≤ n ∧ i = .int .i64 k ∧ decide (es.drop k = fs.drop k) = res) ∧ Up w wr) (fun i _ => n - (intOf i).toNat)
    case atStart => exact ⟨⟨0, by omega, rfl, H0.out⟩, Up.refl _⟩
    case round =>
      obtain ⟨⟨k, hk, rfl, hr⟩, ur⟩ := hrel
      have HR := Lib.hid hr
      clear hr
      by_cases hlt : k < n
      · obtain ⟨b, off, hA, hb, hc⟩ := HE.out.2 (by omega)
        obtain ⟨b2, off2, hA2, hb2, hc2⟩ := HF.out.2 (by omega); subst hA hA2
        have a0 := (hc k hlt).up ur hb
        have a1 := (hc2 k hlt).up ur hb2
        have hb' : b < wr.heap.size := by have := ur.size; omega
        have hb2' : b2 < wr.heap.size := by have := ur.size; omega
        clear hc hc2
        have S := ST.out k (by rw [LE.out]; exact hlt)
        have cl := CL.out (es.getD k default) (fs.getD k default)
        generalize es.getD k default = p at a0 S cl
        generalize fs.getD k default = q at a1 S cl
        have S' := Lib.hid S
        clear S
        generalize eqB p q = r at S' cl
        obtain ⟨pt, pto, pfr, psq, pkd, pdt⟩ := p; obtain ⟨qt, qto, qfr, qsq, qkd, qdt⟩ := q; unfold EvAt at a0 a1; unfold Evt.v at cl; dsimp only at a0 a1 cl; obtain ⟨p0, p1, p2, p3, p4, p5⟩ := a0; obtain ⟨q0, q1, q2, q3, q4, q5⟩ := a1
        have i4 : (k : Int) < n := by omega
        go_wp2; refine region_up (by kernel_rfl) (by kernel_rfl) ?_; refine up_step rfl ?_; apply Exists.intro; refine ⟨fun w1 hw1 => ?_, ?_⟩
        · go_simp
          try rfl
        go_simp; refine up_step rfl ?_; apply Exists.intro; refine ⟨fun w1 hw1 => ?_, ?_⟩
        · go_simp
          try rfl
        go_simp; refine up_step rfl ?_; apply Exists.intro; refine ⟨fun w1 hw1 => ?_, ?_⟩
        · go_simp
          try rfl
        go_simp; refine up_step rfl ?_; apply Exists.intro; refine ⟨fun w1 hw1 => ?_, ?_⟩
        · obtain ⟨hc, hf, hz⟩ := hw1.facts
          try simp at hz
          go_simp
          try rfl
        go_simp; refine up_step rfl ?_; apply Exists.intro; refine ⟨fun w1 hw1 => ?_, ?_⟩
        · go_simp
          try rfl
        go_simp; refine up_step rfl ?_; apply Exists.intro; refine ⟨fun w1 hw1 => ?_, ?_⟩
        · go_simp
          try rfl
        go_simp; refine up_step rfl ?_; apply Exists.intro; refine ⟨fun w1 hw1 => ?_, ?_⟩
        · go_simp
          try rfl
        go_simp; refine up_step rfl ?_; apply Exists.intro; refine ⟨fun w1 hw1 => ?_, ?_⟩
        · obtain ⟨hc, hf, hz⟩ := hw1.facts
          try simp at hz
          go_simp
          try rfl
        go_simp; refine up_step rfl ?_; apply Exists.intro; refine ⟨fun w1 hw1 => ?_, ?_⟩
        · go_simp
          try rfl
        go_simp; refine wpQuiet_nil ?_; intro wA uA; clear i4 p0 p1 p2 p3 p4 p5 q0 q1 q2 q3 q4 q5 cl
        cases r
        · go_wp2
          go_ret
          exact ⟨ret_bool (by rw [← HR.out, S'.out]; rfl), ur.trans uA⟩
        · go_wp2
          go_roundw
          case rel => exact ⟨⟨k + 1, by omega, by go_num, by rw [← HR.out, S'.out]; rfl⟩, ur.trans uA⟩
          case measure => simp [intOf]; omega
      · have e : decide (es.drop k = fs.drop k) = true := by rw [List.drop_eq_nil_of_le (by rw [LE.out]; omega), List.drop_eq_nil_of_le (by rw [LF.out]; omega)]; rfl
        have E := Lib.hid e
        clear e; go_wp2; go_ret
        exact ⟨ret_bool (by rw [← HR.out, E.out]), ur⟩
  · have hf := Lib.hid (show decide (es = fs) = false from decide_eq_false fun h => hnm (by rw [← hE.1, ← hF.1, h]))
    generalize decide (es = fs) = r at hf ⊢
    have hne : ((n : Int) != (m : Int)) = true := by rw [bne_iff_ne]; omega
    have HN := Lib.hid hnm
    clear hE hF hnm
    go_enter Try.func28, Try.ntmps28
    go_wp2; go_ret
    exact ⟨ret_bool hf.out.symm, Up.refl _⟩
end Go.Proofs.Ytjdoealcmokakaa

namespace Go.Proofs.Ytjdoealcmokakaa
set_option maxRecDepth 100000
open Go.RowKit
/-- The same, in a block of any type. -/
def Mkc (w : World) (lo : Nat) (A : Option Addr) (n s : Nat) : Prop := 0 < n → ∃ g, A = some ⟨g, 0, none⟩ ∧ lo ≤ g ∧ IntsOwn w g (n * s)
/-- Two slices lie in two blocks. -/
def Ap (A : Option Addr) (n : Nat) (A' : Option Addr) (n' : Nat) : Prop := 0 < n → 0 < n' → ∀ b o b' o', A = some ⟨b, o, none⟩ → A' = some ⟨b', o', none⟩ → b ≠ b'
/-- A simulator's value, over these slices. -/
structure SqV (w : World) (Ac : Option Addr) (nc : Nat) (Aw : Option Addr) (nw : Nat) (Al : Option Addr) (nl : Nat) (s : Sq) : Prop where
  comps : Csts w Ac nc s.comps
  wait : Evs w Aw nw s.wait
  log : Recs w Al nl s.log
theorem SqV.up {w w' : World} {Ac Aw Al : Option Addr} {nc nw nl : Nat} {s : Sq} (h : SqV w Ac nc Aw nw Al nl s) (u : Up w w') : SqV w' Ac nc Aw nw Al nl s := ⟨h.comps.up u, h.wait.up u, h.log.up u⟩
end Go.Proofs.Ytjdoealcmokakaa

namespace Go.Proofs.Ytjdoealcmokakaa
set_option maxRecDepth 100000
open Go.RowKit
theorem implCst_any (c : Cst) (w : World) :
    Calls Try.prog 57 #[c.v] w fun x w' => x = .returned (.bool (cstB c)) ∧ Up w w' := by
  unfold cstB; obtain ⟨s, q, n⟩ := c; unfold Cst.v; dsimp only
  go_enter Try.func57, Try.ntmps57
  go_wp2_with (go_at_call 50; refine (within_any _ _ _ _).mono ?_; rintro e w' ⟨rfl, rfl⟩)
  all_goals go_ret
  all_goals exact ⟨ret_bool (by simp [*]), (Up.refl _).alloc _⟩
end Go.Proofs.Ytjdoealcmokakaa

namespace Go.Proofs.Ytjdoealcmokakaa
set_option maxRecDepth 100000
open Go.RowKit
def eqD (a b : Cst) : Bool := decide (a.s = b.s) && decide (a.sq = b.sq) && decide (a.ct = b.ct)
theorem eqD_refl (a : Cst) : eqD a a = true := by simp [eqD]
theorem equalIn_cst (a b : Cst) (w : World) : (Op.equalIn 10000 46 a.v b.v).run Try.prog w = .ok (eqD a b) w := by
  obtain ⟨z0, z1, z2⟩ := a; obtain ⟨y0, y1, y2⟩ := b
  have u3 := Try.underlying3
  have a3 := Try.isAgg3
  have s3 := Try.sizeOf3
  have hS : Try.prog.underlying 46 = some (.struct (Try.prog.fieldsOf 46)) := by kernel_rfl
  have hp : Try.prog.stoodInHeld 46 = false := by kernel_rfl
  unfold Cst.v eqD; dsimp only; rw [show (10000 : Nat) = 9999 + 1 from rfl, run_equalIn_agg w 9999 46 _ _ hS hp]; simp only [Program.fieldsOf, Try.underlying46]; go_simp
  by_cases h0 : z0 = y0 <;> by_cases h1 : z1 = y1 <;> by_cases h2 : z2 = y2 <;> simp [h0, h1, h2]
theorem neq_cst (a b : Cst) (w : World) : (binOp .neq 46 a.v b.v).run Try.prog w = .ok (.bool (!eqD a b)) w := by
  have h := equalIn_cst a b w
  unfold Cst.v at h ⊢; rw [run_neq_struct, h]
  rfl
theorem guard_cst (op : BinOp) (x y : Operand) (xs ys : Array Value) (w : World) : (eqGuard op 46 x y (.agg xs) (.agg ys)).run Try.prog w = .ok () w :=
  run_eqGuard_agg w op 46 x y xs ys (by kernel_rfl)
end Go.Proofs.Ytjdoealcmokakaa

namespace Go.Proofs.Ytjdoealcmokakaa
set_option maxRecDepth 100000
open Go.RowKit
def wpMixH (P : Program) (ops : Array Oper) (Q : Exit → Act → World → Prop) (S : World → Prop) : List (Nat × Bool) → Act → World → Prop
  | (k, true) :: fs, a, w => ∃ o v, ops[k]? = some o ∧ YieldsIf P ops S o v a ∧ wpMixH P ops Q S fs (a.put o.dst v) w
  | (k, false) :: fs, a, w => ∃ o, ops[k]? = some o ∧ if Region.wanted o (yielded ops a.tmps) = true then o.wp P a w (fun a' w' => S w' ∧ wpMixH P ops Q S fs a' w') Q else wpMixH P ops Q S fs (a.put o.dst undef) w
  | [], a, w => Q .normal a w
theorem wpAnyH_of_mix {P : Program} {ops : Array Oper} {Q : Exit → Act → World → Prop} {S : World → Prop} (hsel : Region.noSelect ops = true) (hQ : ∀ c (a : Act) d v w, Q (.panic c) (a.put d v) w → Q (.panic c) a w) :
    ∀ (fs : List (Nat × Bool)) (listed : Array Bool) (a : Act) (w : World), mixB ops fs listed = true → S w → wpMixH P ops Q S fs a w → wpAnyH P .any ops Q S fs.length listed a w
  | [], _, _, _, hB, _, h => ⟨by simpa [mixB] using hB, h⟩
  | (k, true) :: fs, listed, a, w, hB, hS, h => by
    simp only [mixB, Bool.and_eq_true] at hB; obtain ⟨o, v, h0, hy, hn⟩ := h
    exact wpAnyH_take h0 hsel hB.1.2 hB.1.1.2 (fun c a w => hQ c a _ _ w) hy hS (wpAnyH_of_mix hsel hQ fs _ _ _ hB.2 hS hn)
  | (k, false) :: fs, listed, a, w, hB, hS, h => by
    simp only [mixB, Bool.and_eq_true, decide_eq_true_eq] at hB; obtain ⟨o, h0, h⟩ := h
    refine wpAnyH_all hB.1.2 (by simp) fun i hi => ?_
    obtain rfl : i = k := by simpa using hi
    refine wpOp_mono (K := fun a' w' => S w' ∧ wpMixH P ops Q S fs a' w') (fun a' w' h' => ⟨h'.1, wpAnyH_of_mix hsel hQ fs _ _ _ hB.2 h'.1 h'.2⟩) ?_; unfold wpOp; simp only [h0]
    split
    · rename_i hw
      rw [if_pos hw] at h
      exact .inl h
    · rename_i hw
      rw [if_neg hw] at h
      exact ⟨hS, h⟩
/-- What is left to walk, kept shut. -/
@[irreducible] def mWalk (P : Program) (ops : Array Oper) (Q : Exit → Act → World → Prop) (S : World → Prop) (fs : List (Nat × Bool)) (a : Act) (w : World) : Prop := wpMixH P ops Q S fs a w
theorem region_mixH {P : Program} {id : Nat} {Q : Exit → Act → World → Prop} {a : Act} {w : World} {l : List Oper} (S : World → Prop) (fs : List (Nat × Bool)) (hm : P.follows .mixedOrders = true)
    (hB : (Region.noSelect l.toArray && decide (fs.length = l.length) && mixB l.toArray fs (Array.replicate l.toArray.size false)) = true) (hS : S w.drew)
    (h : mWalk P l.toArray (NoPanic Q) S fs a w.drew) : (Code.region id l.toArray true).wp P Q a w := by
  unfold mWalk at h; simp only [Bool.and_eq_true, decide_eq_true_eq] at hB; refine wp_region_noPanic (wp_region_held (S := S) hm ?_)
  have := wpAnyH_of_mix (P := P) (Q := NoPanic Q) hB.1.1 (fun _ _ _ _ _ h => h) fs _ a w.drew hB.2 hS h
  rw [hB.1.2] at this
  simpa using this
section
variable {P : Program} {ops : Array Oper} {Q : Exit → Act → World → Prop} {S : World → Prop} {fs : List (Nat × Bool)} {k : Nat} {o : Oper} {a : Act} {w : World}
theorem mixH_take (h0 : ops[k]? = some o) (hw : Region.wanted o (yielded ops a.tmps) = true) (h : ∃ v, (∀ w1, S w1 → (execOp a.eval o).run P w1 = .ok (.value v) w1) ∧ mWalk P ops Q S fs (a.put o.dst v) w) : mWalk P ops Q S ((k, true) :: fs) a w := by
  unfold mWalk at h ⊢; obtain ⟨v, hv, hn⟩ := h
  exact ⟨o, v, h0, .inl ⟨hw, hv⟩, hn⟩
theorem mixH_skip {b : Bool} (h0 : ops[k]? = some o) (hw : Region.wanted o (yielded ops a.tmps) = false) (h : mWalk P ops Q S fs (a.put o.dst undef) w) : mWalk P ops Q S ((k, b) :: fs) a w := by
  unfold mWalk at h ⊢
  cases b
  · refine ⟨o, h0, ?_⟩
    rw [if_neg (by rw [hw]; exact Bool.false_ne_true)]
    exact h
  · exact ⟨o, undef, h0, .inr ⟨hw, rfl⟩, h⟩
theorem mixH_go (h0 : ops[k]? = some o) (hw : Region.wanted o (yielded ops a.tmps) = true) (h : ∀ K : Act → World → Prop, (∀ a w, S w → mWalk P ops Q S fs a w → K a w) → o.wp P a w K Q) : mWalk P ops Q S ((k, false) :: fs) a w := by
  unfold mWalk at h ⊢; refine ⟨o, h0, ?_⟩; rw [if_pos hw]
  exact h _ fun _ _ hs h => ⟨hs, h⟩
theorem mixH_nil (h : Q .normal a w) : mWalk P ops (NoPanic Q) S [] a w := by
  unfold mWalk
  exact h
end
end Go.Proofs.Ytjdoealcmokakaa

namespace Go.Proofs.Ytjdoealcmokakaa
set_option maxRecDepth 100000
open Go.RowKit
set_option maxHeartbeats 4000000 in
theorem tbSeq_same (Ac : Option Addr) (nc cc : Nat) (Aw : Option Addr) (nw cw : Nat) (Al : Option Addr) (nl cl : Nat) (s : Sq) (Bc : Option Addr) (dc : Nat) (Bw : Option Addr) (dw : Nat) (Bl : Option Addr) (dl : Nat) (w : World)
    (h1 : nc ≤ 1000000000) (h2 : nw ≤ 1000000000) (h3 : nl ≤ 1000000000) (h : SqV w Ac nc Aw nw Al nl s) (h' : SqV w Bc nc Bw nw Bl nl s) :
    Calls Try.prog 16 #[.agg #[.slice Ac nc cc, .slice Aw nw cw, .slice Al nl cl], .agg #[.slice Bc nc dc, .slice Bw nw dw, .slice Bl nl dl]] w fun x w' => x = .returned (.bool true) ∧ Up w w' := by
  have HC := Lib.hid h.comps
  have HD := Lib.hid h'.comps
  have X0 := Lib.hid ((Box3.new w (.slice Ac nc cc) (.slice Aw nw cw) (.slice Al nl cl) 36).up ((Up.refl _).alloc (.cells #[.slice Bc nc dc, .slice Bw nw dw, .slice Bl nl dl] 36)))
  have X1 := Lib.hid (Box3.new (w.alloc (.cells #[.slice Ac nc cc, .slice Aw nw cw, .slice Al nl cl] 36)) (.slice Bc nc dc) (.slice Bw nw dw) (.slice Bl nl dl) 36)
  simp only [World.size_alloc] at X1
  have ua := Lib.hid (((Up.refl w).alloc (.cells #[.slice Ac nc cc, .slice Aw nw cw, .slice Al nl cl] 36)).alloc (.cells #[.slice Bc nc dc, .slice Bw nw dw, .slice Bl nl dl] 36))
  have CE := Lib.hid (fun W (u : Up w W) => tbEvts_any Aw Bw nw nw cw dw s.wait s.wait W h2 (h.wait.up u) (h'.wait.up u))
  rw [decide_eq_true (rfl : s.wait = s.wait)] at CE
  have CR := Lib.hid (fun W (u : Up w W) => tbRecs_same Al Bl nl cl dl s.log W h3 (h.log.up u) (h'.log.up u))
  have CN := Lib.hid (fun p W => neq_cst p p W)
  have gd := guard_cst
  clear h h'
  go_enter Try.func16, Try.ntmps16
  go_wp2_with fail
  generalize (w.alloc (.cells #[.slice Ac nc cc, .slice Aw nw cw, .slice Al nl cl] 36)).alloc (.cells #[.slice Bc nc dc, .slice Bw nw dw, .slice Bl nl dl] 36) = W at *
  generalize hb1 : w.heap.size + 1 = b1 at *
  generalize hb0 : w.heap.size = b0 at *
  clear hb0 hb1; refine (CE.out _ ua.out).mono ?_; rintro x wA ⟨rfl, uA⟩
  have ua := Lib.hid (ua.out.trans uA)
  have X0 := Lib.hid (X0.out.up uA)
  have X1 := Lib.hid (X1.out.up uA)
  clear uA; obtain ⟨k0, k1, k2⟩ := And.intro X0.out.c0 (And.intro X0.out.c1 X0.out.c2); obtain ⟨r0, r1, r2⟩ := And.intro X1.out.c0 (And.intro X1.out.c1 X1.out.c2)
  have l0 := X0.out.lt
  have l1 := X1.out.lt
  go_wp2_with fail
  refine (CR.out _ ua.out).mono ?_; rintro x wB ⟨rfl, uB⟩
  have U1 := Lib.hid (ua.out.trans uB)
  have X0 := Lib.hid (X0.out.up uB)
  have X1 := Lib.hid (X1.out.up uB)
  clear uB k0 k1 k2 r0 r1 r2 l0 l1; go_wp2
  go_loopw [5] (fun i wr => (∃ k : Nat, k ≤ nc ∧ i = .int .i64 k) ∧ Up wB wr) (fun i _ => nc - (intOf i).toNat)
  case atStart => exact ⟨⟨0, by omega, rfl⟩, Up.refl _⟩
  case round =>
    obtain ⟨⟨k, hk, rfl⟩, ur⟩ := hrel; obtain ⟨k0, k1, k2⟩ := And.intro (X0.out.up ur).c0 (And.intro (X0.out.up ur).c1 (X0.out.up ur).c2); obtain ⟨r0, r1, r2⟩ := And.intro (X1.out.up ur).c0 (And.intro (X1.out.up ur).c1 (X1.out.up ur).c2)
    have l0 := (X0.out.up ur).lt
    have l1 := (X1.out.up ur).lt
    by_cases hlt : k < nc
    · obtain ⟨b, off, hA, hb, hc⟩ := (HC.out.up (U1.out.trans ur)).2 (by omega)
      obtain ⟨b2, off2, hA2, hb2, hc2⟩ := (HD.out.up (U1.out.trans ur)).2 (by omega); subst hA hA2
      have a0 := hc k hlt
      have a1 := hc2 k hlt
      clear hc hc2
      have cl := CN.out (s.comps.getD k default)
      rw [eqD_refl] at cl
      generalize s.comps.getD k default = p at a0 a1 cl
      unfold CstAt at a0 a1; unfold Cst.v at cl; obtain ⟨p0, p1, p2⟩ := a0; obtain ⟨q0, q1, q2⟩ := a1
      have i4 : (k : Int) < nc := by omega
      go_wp2; refine region_up (by kernel_rfl) (by kernel_rfl) ?_; refine up_step rfl ?_; apply Exists.intro; refine ⟨fun w1 hw1 => ?_, ?_⟩
      · go_simp
        try rfl
      go_simp; refine up_step rfl ?_; apply Exists.intro; refine ⟨fun w1 hw1 => ?_, ?_⟩
      · obtain ⟨hc, hf, hz⟩ := hw1.facts
        try simp at hz
        go_simp
        try rfl
      go_simp; refine up_step rfl ?_; apply Exists.intro; refine ⟨fun w1 hw1 => ?_, ?_⟩
      · go_simp
        try rfl
      go_simp; refine up_step rfl ?_; apply Exists.intro; refine ⟨fun w1 hw1 => ?_, ?_⟩
      · go_simp
        try rfl
      go_simp; refine up_step rfl ?_; apply Exists.intro; refine ⟨fun w1 hw1 => ?_, ?_⟩
      · obtain ⟨hc, hf, hz⟩ := hw1.facts
        try simp at hz
        go_simp
        try rfl
      go_simp; refine up_step rfl ?_; apply Exists.intro; refine ⟨fun w1 hw1 => ?_, ?_⟩
      · go_simp
        try rfl
      go_simp; refine up_step rfl ?_; apply Exists.intro; refine ⟨fun w1 hw1 => ?_, ?_⟩
      · obtain ⟨hc, hf, hz⟩ := hw1.facts
        try simp at hz
        go_simp
        try rfl
      go_simp; refine up_step rfl ?_; apply Exists.intro; refine ⟨fun w1 hw1 => ?_, ?_⟩
      · go_simp
        try rfl
      go_simp; refine up_step rfl ?_; apply Exists.intro; refine ⟨fun w1 hw1 => ?_, ?_⟩
      · go_simp
        try rfl
      go_simp; refine up_step rfl ?_; apply Exists.intro; refine ⟨fun w1 hw1 => ?_, ?_⟩
      · obtain ⟨hc, hf, hz⟩ := hw1.facts
        try simp at hz
        go_simp
        try rfl
      go_simp; refine up_step rfl ?_; apply Exists.intro; refine ⟨fun w1 hw1 => ?_, ?_⟩
      · go_simp
        try rfl
      go_simp; refine wpQuiet_nil ?_; intro wA uA; clear i4 p0 p1 p2 q0 q1 q2 k0 k1 k2 r0 r1 r2 l0 l1 cl; go_wp2
      go_roundw
      case rel => exact ⟨⟨k + 1, by omega, by go_num⟩, ur.trans uA⟩
      case measure => simp [intOf]; omega
    · go_wp2
      go_ret
      exact ⟨rfl, U1.out.trans ur⟩
end Go.Proofs.Ytjdoealcmokakaa

namespace Go.Proofs.Ytjdoealcmokakaa
set_option maxRecDepth 100000
open Go.RowKit
def Row (w : World) (g N : Nat) (f : Nat → Evt) : Prop :=
  g < w.heap.size ∧ (∀ i, i < N → EvAt w g (i * 6) (f i)) ∧ ∀ j, j < N * 6 → w.frozen? ⟨g, j, none⟩ = false
theorem Row.up {w w' : World} {g N : Nat} {f : Nat → Evt} (h : Row w g N f) (u : Up w w') : Row w' g N f :=
  ⟨Nat.lt_of_lt_of_le h.1 u.size, fun i hi => (h.2.1 i hi).up u h.1, fun j hj => (u.frozens _ _ h.1).trans (h.2.2 j hj)⟩
theorem Row.as_ {w : World} {g N : Nat} {f f' : Nat → Evt} (h : Row w g N f) (e : ∀ i, i < N → f i = f' i) : Row w g N f' :=
  ⟨h.1, fun i hi => e i hi ▸ h.2.1 i hi, h.2.2⟩
theorem Row.somes {w : World} {g N i : Nat} {f : Nat → Evt} (h : Row w g N f) (hi : i < N) : ∀ k, k < 6 → ∃ v, w.cell? ⟨g, i * 6 + k, none⟩ = some v := fun k hk => by
  obtain ⟨h0, h1, h2, h3, h4, h5⟩ := h.2.1 i hi
  have e : k = 0 ∨ k = 1 ∨ k = 2 ∨ k = 3 ∨ k = 4 ∨ k = 5 := by omega
  rcases e with rfl | rfl | rfl | rfl | rfl | rfl
  · exact ⟨_, h0⟩
  · exact ⟨_, h1⟩
  · exact ⟨_, h2⟩
  · exact ⟨_, h3⟩
  · exact ⟨_, h4⟩
  · exact ⟨_, h5⟩
theorem Row.put {w : World} {g N k : Nat} {f : Nat → Evt} {e : Evt} (h : Row w g N f) (hk : k < N) : Row (putEv w g (k * 6) e) g N (fun i => if i = k then e else f i) := by
  refine ⟨by rw [putEv_size]; exact h.1, fun i hi => ?_, fun j hj => (putEv_frozen _ _ _ _ _).trans (h.2.2 j hj)⟩
  show EvAt _ _ _ (if i = k then e else f i)
  by_cases hik : i = k
  · subst hik
    rw [if_pos rfl]
    exact putEv_at (h.somes hi)
  · rw [if_neg hik]
    exact (h.2.1 i hi).putEv_far (by omega)
end Go.Proofs.Ytjdoealcmokakaa

namespace Go.Proofs.Ytjdoealcmokakaa
set_option maxRecDepth 100000
open Go.RowKit
theorem Row.of_own {w : World} {base g n c : Nat} {es : List Evt} (h : w.ownsRow base 39 6 (.slice (some ⟨g, 0, none⟩) n c) n (flat es)) (hn : 0 < n) : Row w g n (fun i => es.getD i default) := by
  obtain ⟨b, off, hA, hb, hc⟩ := (own_evs h).2 hn
  injection hA with hA
  injection hA with h1 h2 _
  subst h1 h2
  exact ⟨hb, fun i hi => by have := hc i hi; rwa [Nat.zero_add] at this, fun j _ => h.frozenAt j⟩
end Go.Proofs.Ytjdoealcmokakaa

namespace Go.Proofs.Ytjdoealcmokakaa
set_option maxRecDepth 100000
open Go.RowKit
/-- b is not less than a. -/
def leE (a b : Evt) : Prop := ltE b a = false
theorem leE_refl (a : Evt) : leE a a := ltE_irr a
theorem ltE_le {a b : Evt} (h : ltE a b = true) : leE a b := ltE_asym a b h
theorem eqB_eq {a b : Evt} (h : eqB a b = true) : a = b := by
  obtain ⟨a0, a1, a2, a3, a4, a5⟩ := a; obtain ⟨b0, b1, b2, b3, b4, b5⟩ := b; rw [eqB_iff] at h; simp only at h; obtain ⟨rfl, rfl, rfl, rfl, rfl, rfl⟩ := h
  rfl
theorem leE_trans {a b c : Evt} (h1 : leE a b) (h2 : leE b c) : leE a c := by
  unfold leE at *
  cases h : ltE c a with
  | false => rfl
  | true =>
    cases hab : ltE a b with
    | true =>
      have := ltE_trans c a b h hab
      rw [this] at h2
      cases h2
    | false =>
      have e := eqB_eq (ltE_total a b hab h1)
      subst e; rw [h] at h2
      cases h2
theorem leE_antisymm {a b : Evt} (h1 : leE a b) (h2 : leE b a) : a = b := (eqB_eq (ltE_total b a h1 h2)).symm
/-- The stretch from a up to b rises, or stays. -/
def SortF (f : Nat → Evt) (a b : Nat) : Prop := ∀ k, a ≤ k → k + 1 < b → leE (f k) (f (k + 1))
theorem SortF.le {f : Nat → Evt} {a b : Nat} (h : SortF f a b) : ∀ d i, a ≤ i → i + d < b → leE (f i) (f (i + d))
  | 0, i, _, _ => leE_refl _
  | d + 1, i, h1, h2 => leE_trans (SortF.le h d i h1 (by omega)) (h (i + d) (by omega) (by omega))
theorem SortF.le' {f : Nat → Evt} {a b i j : Nat} (h : SortF f a b) (h1 : a ≤ i) (h2 : i ≤ j) (h3 : j < b) : leE (f i) (f j) := by
  have := h.le (j - i) i h1 (by omega)
  rwa [show i + (j - i) = j by omega] at this
theorem SortF.join {f : Nat → Evt} {a m b : Nat} (h1 : SortF f a m) (h2 : SortF f m b) (hx : ∀ i j, a ≤ i → i < m → m ≤ j → j < b → leE (f i) (f j)) : SortF f a b := fun k hk hb => by
  by_cases hm : k + 1 < m
  · exact h1 k hk hm
  · by_cases hm2 : m ≤ k
    · exact h2 k hm2 hb
    · exact hx k (k + 1) hk (by omega) (by omega) hb
/-- Changed in the stretch from a up to b alone, none lost. -/
structure Arr (f f' : Nat → Evt) (a b N : Nat) : Prop where
  perm : ((List.range N).map f).Perm ((List.range N).map f')
  out : ∀ i, i < a ∨ b ≤ i → f' i = f i
  mem : ∀ i, a ≤ i → i < b → ∃ j, a ≤ j ∧ j < b ∧ f' i = f j
theorem Arr.refl (f : Nat → Evt) (a b N : Nat) : Arr f f a b N := ⟨List.Perm.refl _, fun _ _ => rfl, fun i h1 h2 => ⟨i, h1, h2, rfl⟩⟩
theorem Arr.trans {f f' f'' : Nat → Evt} {a b N : Nat} (h : Arr f f' a b N) (k : Arr f' f'' a b N) : Arr f f'' a b N :=
  ⟨h.perm.trans k.perm, fun i hi => (k.out i hi).trans (h.out i hi), fun i h1 h2 => by
    obtain ⟨j, j1, j2, e⟩ := k.mem i h1 h2; obtain ⟨l, l1, l2, e'⟩ := h.mem j j1 j2
    exact ⟨l, l1, l2, e.trans e'⟩⟩
theorem Arr.widen {f f' : Nat → Evt} {a b a' b' N : Nat} (h : Arr f f' a b N) (ha : a' ≤ a) (hb : b ≤ b') : Arr f f' a' b' N :=
  ⟨h.perm, fun i hi => h.out i (by omega), fun i h1 h2 => by
    by_cases hi : a ≤ i ∧ i < b
    · obtain ⟨j, j1, j2, e⟩ := h.mem i hi.1 hi.2
      exact ⟨j, by omega, by omega, e⟩
    · exact ⟨i, h1, h2, h.out i (by omega)⟩⟩
/-- Two change places. -/
def swp (f : Nat → Evt) (i j : Nat) : Nat → Evt := fun k => if k = i then f j else if k = j then f i else f k
theorem swp_perm (f : Nat → Evt) {i j : Nat} (hij : i < j) : ∀ N, j < N → ((List.range N).map f).Perm ((List.range N).map (swp f i j)) := by
  intro N hj
  have cong : ∀ (f' : Nat → Evt) (l : List Nat), (∀ x ∈ l, f x = f' x) → l.map f = l.map f' := fun f' l h => List.map_congr_left h
  have split : List.range N = List.range i ++ ([i] ++ (List.range' (i + 1) (j - (i + 1)) ++ ([j] ++ List.range' (j + 1) (N - (j + 1))))) := by
    rw [List.range_eq_range', List.range_eq_range']; rw [show [i] = List.range' i 1 from rfl, show [j] = List.range' j 1 from rfl]
    have e1 := @List.range'_append_1 j 1 (N - (j + 1))
    have e2 := @List.range'_append_1 (i + 1) (j - (i + 1)) (1 + (N - (j + 1)))
    have e3 := @List.range'_append_1 i 1 ((j - (i + 1)) + (1 + (N - (j + 1))))
    have e4 := @List.range'_append_1 0 i (1 + ((j - (i + 1)) + (1 + (N - (j + 1)))))
    rw [show i + 1 + (j - (i + 1)) = j by omega] at e2; rw [Nat.zero_add] at e4; rw [e1, e2, e3, e4]
    congr 1
    omega
  rw [split]; simp only [List.map_append, List.map_cons, List.map_nil]
  rw [← cong (swp f i j) (List.range i) (fun x hx => by have := List.mem_range.1 hx; unfold swp; rw [if_neg (by omega), if_neg (by omega)]),
    ← cong (swp f i j) (List.range' (i + 1) (j - (i + 1))) (fun x hx => by have := List.mem_range'_1.1 hx; unfold swp; rw [if_neg (by omega), if_neg (by omega)]),
    ← cong (swp f i j) (List.range' (j + 1) (N - (j + 1))) (fun x hx => by have := List.mem_range'_1.1 hx; unfold swp; rw [if_neg (by omega), if_neg (by omega)])]
  rw [show swp f i j i = f j by simp [swp], show swp f i j j = f i by unfold swp; rw [if_neg (by omega), if_pos rfl]]; refine List.Perm.append_left _ ?_
  generalize (List.range' (i + 1) (j - (i + 1))).map f = l
  generalize (List.range' (j + 1) (N - (j + 1))).map f = r
  generalize f i = x
  generalize f j = y
  show (x :: (l ++ y :: r)).Perm (y :: (l ++ x :: r))
  refine ((List.perm_middle (a := y) (l₁ := l) (l₂ := r)).cons x).trans ?_; refine (List.Perm.swap y x _).trans ?_
  exact ((List.perm_middle (a := x) (l₁ := l) (l₂ := r)).symm).cons y
theorem swp_arr (f : Nat → Evt) {i j a b N : Nat} (hij : i < j) (ha : a ≤ i) (hb : j < b) (hN : j < N) : Arr f (swp f i j) a b N :=
  ⟨swp_perm f hij N hN, fun k hk => by unfold swp; rw [if_neg (by omega), if_neg (by omega)], fun k h1 h2 => by
    unfold swp
    by_cases e : k = i
    · exact ⟨j, by omega, by omega, by rw [if_pos e]⟩
    · rw [if_neg e]
      by_cases e2 : k = j
      · exact ⟨i, by omega, by omega, by rw [if_pos e2]⟩
      · exact ⟨k, h1, h2, by rw [if_neg e2]⟩⟩
/-- Sorted but for the pair at j, on the way down. -/
structure NearF (f : Nat → Evt) (a j i : Nat) : Prop where
  pairs : ∀ k, a ≤ k → k + 1 ≤ i → k + 1 ≠ j → leE (f k) (f (k + 1))
  over : a < j → j < i → leE (f (j - 1)) (f (j + 1))
theorem NearF.start {f : Nat → Evt} {a i : Nat} (h : SortF f a i) : NearF f a i i := ⟨fun k h1 h2 h3 => h k h1 (by omega), fun _ h => absurd h (by omega)⟩
theorem NearF.stop {f : Nat → Evt} {a j i : Nat} (h : NearF f a j i) (hs : a < j → leE (f (j - 1)) (f j)) : SortF f a (i + 1) := fun k h1 h2 => by
  by_cases e : k + 1 = j
  · have := hs (by omega)
    rw [show j - 1 = k by omega, ← e] at this
    exact this
  · exact h.pairs k h1 (by omega) e
theorem NearF.step {f : Nat → Evt} {a k i : Nat} (h : NearF f a (k + 1) i) (ha : a ≤ k) (hk : k + 1 ≤ i) (hl : ltE (f (k + 1)) (f k) = true) : NearF (swp f k (k + 1)) a k i := by
  have s0 : swp f k (k + 1) k = f (k + 1) := by simp [swp]
  have s1 : swp f k (k + 1) (k + 1) = f k := by simp [swp]
  have s2 : ∀ l, l ≠ k → l ≠ k + 1 → swp f k (k + 1) l = f l := fun l h1 h2 => by unfold swp; rw [if_neg h1, if_neg h2]
  refine ⟨fun l h1 h2 h3 => ?_, fun h1 _ => ?_⟩
  · by_cases e : l = k
    · subst e
      rw [s0, s1]
      exact ltE_le hl
    · by_cases e2 : l = k + 1
      · subst e2
        rw [s1, s2 (k + 1 + 1) (by omega) (by omega)]
        exact h.over (by omega) (by omega)
      · rw [s2 l e e2, s2 (l + 1) (by omega) (by omega)]
        exact h.pairs l h1 h2 (by omega)
  · rw [s1, s2 (k - 1) (by omega) (by omega)]
    have := h.pairs (k - 1) (by omega) (by omega) (by omega)
    rwa [show k - 1 + 1 = k by omega] at this
end Go.Proofs.Ytjdoealcmokakaa

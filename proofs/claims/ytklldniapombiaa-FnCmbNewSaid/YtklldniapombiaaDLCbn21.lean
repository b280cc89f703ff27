/-
  What tbRecs says of the same records that lie in memory twice, in one sentence: the same; for every list.
  What tbEvts returns, in one sentence: whether two lists of events are the same; for every two lists that lie in memory.
  What both CmpOk and toCmpState return, in one sentence: the bool that the bounds give, the same three numbers; for every component state.
  Two component states compared by the language's own sign, in one sentence: are they different; for every two.
-/
import Derived.Test.YtklldniapombiaaDLCbn06
import Derived.Test.YtklldniapombiaaDLCbn08
import Derived.Test.YtklldniapombiaaDLCbn13
import Derived.Test.YtklldniapombiaaDLCbn20
namespace Go.Proofs.Ytklldniapombiaa
set_option maxRecDepth 100000
open Go.RowKit
set_option maxHeartbeats 2000000 in
theorem tbRecs_same (A B : Option Addr) (n capa capb : Nat) (xs : List Rec) (w : World) (hn : n ≤ 1000000000) (hE : Recs w A n xs) (hF : Recs w B n xs) :
    Calls Try.prog 103 #[.slice A n capa, .slice B n capb] w fun x w' => x = .returned (.bool true) ∧ Up w w' := by
  have HE := Lib.hid hE
  have HF := Lib.hid hF
  have CL := Lib.hid (fun p W => neq_rec p W)
  have gd := guard_rec
  clear hE hF
  go_enter Try.func103, Try.ntmps103
  go_wp2
  go_loopw [5] (fun i wr => (∃ k : Nat, k ≤ n ∧ i = .int .i64 k) ∧ Up w wr) (fun i _ => n - (intOf i).toNat)
  case atStart => exact ⟨⟨0, by omega, rfl⟩, Up.refl _⟩
  case round =>
    obtain ⟨⟨k, hk, rfl⟩, ur⟩ := hrel
    by_cases hlt : k < n
    · obtain ⟨b, off, hA, hb, hc⟩ := HE.out.2 (by omega)
      obtain ⟨b2, off2, hA2, hb2, hc2⟩ := HF.out.2 (by omega); subst hA hA2
      have a0 := (hc k hlt).up ur hb
      have a1 := (hc2 k hlt).up ur hb2
      have hb' : b < wr.heap.size := by have := ur.size; omega
      have hb2' : b2 < wr.heap.size := by have := ur.size; omega
      clear hc hc2
      have cl := CL.out (xs.getD k default)
      generalize xs.getD k default = p at a0 a1 cl
      unfold RecAt at a0 a1; unfold Rec.v at cl; obtain ⟨p0, p1, p2, p3, p4, p5, p6⟩ := a0; obtain ⟨q0, q1, q2, q3, q4, q5, q6⟩ := a1
      have i4 : (k : Int) < n := by omega
      go_wp2; refine region_up (by kernel_rfl) (by kernel_rfl) ?_; refine up_step rfl ?_; apply Exists.intro; refine ⟨fun w1 hw1 => ?_, ?_⟩
      · go_simp
        try rfl
      go_simp; refine up_step rfl ?_; apply Exists.intro; refine ⟨fun w1 hw1 => ?_, ?_⟩
      · go_simp
        try rfl
      go_simp; refine up_step rfl ?_; apply Exists.intro; refine ⟨fun w1 hw1 => ?_, ?_⟩
      · go_simp
        try rfl
      go_simp; refine up_step rfl ?_; apply Exists.intro; refine ⟨fun w1 hw1 => ?_, ?_⟩
      · obtain ⟨hc, hf, hz⟩ := hw1.facts
        try simp at hz
        go_simp
        try rfl
      go_simp; refine up_step rfl ?_; apply Exists.intro; refine ⟨fun w1 hw1 => ?_, ?_⟩
      · go_simp
        try rfl
      go_simp; refine up_step rfl ?_; apply Exists.intro; refine ⟨fun w1 hw1 => ?_, ?_⟩
      · go_simp
        try rfl
      go_simp; refine up_step rfl ?_; apply Exists.intro; refine ⟨fun w1 hw1 => ?_, ?_⟩
      · go_simp
        try rfl
      go_simp; refine up_step rfl ?_; apply Exists.intro; refine ⟨fun w1 hw1 => ?_, ?_⟩
      · obtain ⟨hc, hf, hz⟩ := hw1.facts
        try simp at hz
        go_simp
        try rfl
      go_simp; refine up_step rfl ?_; apply Exists.intro; refine ⟨fun w1 hw1 => ?_, ?_⟩
      · go_simp
        try rfl
      go_simp; refine wpQuiet_nil ?_; intro wA uA; clear i4 p0 p1 p2 p3 p4 p5 p6 q0 q1 q2 q3 q4 q5 q6 cl; go_wp2
      go_roundw
      case rel => exact ⟨⟨k + 1, by omega, by go_num⟩, ur.trans uA⟩
      case measure => simp [intOf]; omega
    · go_wp2
      go_ret
      exact ⟨rfl, ur⟩
end Go.Proofs.Ytklldniapombiaa

namespace Go.Proofs.Ytklldniapombiaa
set_option maxRecDepth 100000
open Go.RowKit
set_option maxHeartbeats 1000000 in
theorem tbEvts_any (A B : Option Addr) (n m capa capb : Nat) (es fs : List Evt) (w : World) (hn : n ≤ 1000000000) (hE : Evs w A n es) (hF : Evs w B m fs) :
    Calls Try.prog 35 #[.slice A n capa, .slice B m capb] w fun x w' => x = .returned (.bool (decide (es = fs))) ∧ Up w w' := by
  by_cases hnm : n = m
  · subst hnm
    have H0 := Lib.hid (show decide (es.drop 0 = fs.drop 0) = decide (es = fs) from rfl)
    have ST := Lib.hid (eqL_drop es fs (by rw [hE.1, hF.1]))
    have HE := Lib.hid hE
    have HF := Lib.hid hF
    have LE := Lib.hid hE.1
    have LF := Lib.hid hF.1
    have CL := Lib.hid (fun p q W => neq_evt p q W)
    have gd := guard_evt
    generalize hr : decide (es = fs) = res at H0 ⊢
    clear hE hF hr
    go_enter Try.func35, Try.ntmps35
    go_wp2
    go_loopw [5] (fun i wr => (∃ k : Nat, k ≤ n ∧ i = .int .i64 k ∧ decide (es.drop k = fs.drop k) = res) ∧ Up w wr) (fun i _ => n - (intOf i).toNat)
    case atStart => exact ⟨⟨0, by omega, rfl, H0.out⟩, Up.refl _⟩
    case round =>
      obtain ⟨⟨k, hk, rfl, hr⟩, ur⟩ := hrel
      have HR := Lib.hid hr
      clear hr
      by_cases hlt : k < n
      · obtain ⟨b, off, hA, hb, hc⟩ := HE.out.2 (by omega)
        obtain ⟨b2, off2, hA2, hb2, hc2⟩ := HF.out.2 (by omega); subst hA hA2
        have a0 := (hc k hlt).up ur hb
        have a1 := (hc2 k hlt).up ur hb2
        have hb' : b < wr.heap.size := by have := ur.size; omega
        have hb2' : b2 < wr.heap.size := by have := ur.size; omega
        clear hc hc2
        have S := ST.out k (by rw [LE.out]; exact hlt)
        have cl := CL.out (es.getD k default) (fs.getD k default)
        generalize es.getD k default = p at a0 S cl
        generalize fs.getD k default = q at a1 S cl
        have S' := Lib.hid S
        clear S
        generalize eqB p q = r at S' cl
        obtain ⟨pt, pto, pfr, psq, pkd, pdt⟩ := p; obtain ⟨qt, qto, qfr, qsq, qkd, qdt⟩ := q; unfold EvAt at a0 a1; unfold Evt.v at cl; dsimp only at a0 a1 cl; obtain ⟨p0, p1, p2, p3, p4, p5⟩ := a0; obtain ⟨q0, q1, q2, q3, q4, q5⟩ := a1
        have i4 : (k : Int) < n := by omega
        go_wp2; refine region_up (by kernel_rfl) (by kernel_rfl) ?_; refine up_step rfl ?_; apply Exists.intro; refine ⟨fun w1 hw1 => ?_, ?_⟩
        · go_simp
          try rfl
        go_simp; refine up_step rfl ?_; apply Exists.intro; refine ⟨fun w1 hw1 => ?_, ?_⟩
        · go_simp
          try rfl
        go_simp; refine up_step rfl ?_; apply Exists.intro; refine ⟨fun w1 hw1 => ?_, ?_⟩
        · go_simp
          try rfl
        go_simp; refine up_step rfl ?_; apply Exists.intro; refine ⟨fun w1 hw1 => ?_, ?_⟩
        · obtain ⟨hc, hf, hz⟩ := hw1.facts
          try simp at hz
          go_simp
          try rfl
        go_simp; refine up_step rfl ?_; apply Exists.intro; refine ⟨fun w1 hw1 => ?_, ?_⟩
        · go_simp
          try rfl
        go_simp; refine up_step rfl ?_; apply Exists.intro; refine ⟨fun w1 hw1 => ?_, ?_⟩
        · go_simp
          try rfl
        go_simp; refine up_step rfl ?_; apply Exists.intro; refine ⟨fun w1 hw1 => ?_, ?_⟩
        · go_simp
          try rfl
        go_simp; refine up_step rfl ?_; apply Exists.intro; refine ⟨fun w1 hw1 => ?_, ?_⟩
        · obtain ⟨hc, hf, hz⟩ := hw1.facts
          try simp at hz
          go_simp
          try rfl
        go_simp; refine up_step rfl ?_; apply Exists.intro; refine ⟨fun w1 hw1 => ?_, ?_⟩
        · go_simp
          try rfl
        go_simp; refine wpQuiet_nil ?_; intro wA uA; clear i4 p0 p1 p2 p3 p4 p5 q0 q1 q2 q3 q4 q5 cl
        cases r
        · go_wp2
          go_ret
          exact ⟨ret_bool (by rw [← HR.out, S'.out]; rfl), ur.trans uA⟩
        · go_wp2
          go_roundw
          case rel => exact ⟨⟨k + 1, by omega, by go_num, by rw [← HR.out, S'.out]; rfl⟩, ur.trans uA⟩
          case measure => simp [intOf]; omega
      · have e : decide (es.drop k = fs.drop k) = true := by rw [List.drop_eq_nil_of_le (by rw [LE.out]; omega), List.drop_eq_nil_of_le (by rw [LF.out]; omega)]; rfl
        have E := Lib.hid e
        clear e; go_wp2; go_ret
        exact ⟨ret_bool (by rw [← HR.out, E.out]), ur⟩
  · have hf := Lib.hid (show decide (es = fs) = false from decide_eq_false fun h => hnm (by rw [← hE.1, ← hF.1, h]))
    generalize decide (es = fs) = r at hf ⊢
    have hne : ((n : Int) != (m : Int)) = true := by rw [bne_iff_ne]; omega
    have HN := Lib.hid hnm
    clear hE hF hnm
    go_enter Try.func35, Try.ntmps35
    go_wp2; go_ret
    exact ⟨ret_bool hf.out.symm, Up.refl _⟩
end Go.Proofs.Ytklldniapombiaa

namespace Go.Proofs.Ytklldniapombiaa
set_option maxRecDepth 100000
open Go.RowKit
theorem implCst_any (c : Cst) (w : World) :
    Calls Try.prog 92 #[c.v] w fun x w' => x = .returned (.bool (cstB c)) ∧ Up w w' := by
  unfold cstB; obtain ⟨s, q, n⟩ := c; unfold Cst.v; dsimp only
  go_enter Try.func92, Try.ntmps92
  go_wp2_with (go_at_call 73; refine (within_any _ _ _ _).mono ?_; rintro e w' ⟨rfl, rfl⟩)
  all_goals go_ret
  all_goals exact ⟨ret_bool (by simp [*]), (Up.refl _).alloc _⟩
end Go.Proofs.Ytklldniapombiaa

namespace Go.Proofs.Ytklldniapombiaa
set_option maxRecDepth 100000
open Go.RowKit
def eqD (a b : Cst) : Bool := decide (a.s = b.s) && decide (a.sq = b.sq) && decide (a.ct = b.ct)
theorem eqD_refl (a : Cst) : eqD a a = true := by simp [eqD]
theorem equalIn_cst (a b : Cst) (w : World) : (Op.equalIn 10000 76 a.v b.v).run Try.prog w = .ok (eqD a b) w := by
  obtain ⟨z0, z1, z2⟩ := a; obtain ⟨y0, y1, y2⟩ := b
  have u3 := Try.underlying3
  have a3 := Try.isAgg3
  have s3 := Try.sizeOf3
  have hS : Try.prog.underlying 76 = some (.struct (Try.prog.fieldsOf 76)) := by kernel_rfl
  have hp : Try.prog.stoodInHeld 76 = false := by kernel_rfl
  unfold Cst.v eqD; dsimp only; rw [show (10000 : Nat) = 9999 + 1 from rfl, run_equalIn_agg w 9999 76 _ _ hS hp]; simp only [Program.fieldsOf, Try.underlying76]; go_simp
  by_cases h0 : z0 = y0 <;> by_cases h1 : z1 = y1 <;> by_cases h2 : z2 = y2 <;> simp [h0, h1, h2]
theorem neq_cst (a b : Cst) (w : World) : (binOp .neq 76 a.v b.v).run Try.prog w = .ok (.bool (!eqD a b)) w := by
  have h := equalIn_cst a b w
  unfold Cst.v at h ⊢; rw [run_neq_struct, h]
  rfl
theorem guard_cst (op : BinOp) (x y : Operand) (xs ys : Array Value) (w : World) : (eqGuard op 76 x y (.agg xs) (.agg ys)).run Try.prog w = .ok () w :=
  run_eqGuard_agg w op 76 x y xs ys (by kernel_rfl)
end Go.Proofs.Ytklldniapombiaa

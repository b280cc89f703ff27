/-
  What tbItems says of the same items that lie in memory twice, in one sentence: the same; for every list.
-/
import Derived.Test.YtkfjemgelmbcfaaKRecNe
namespace Go.Proofs.Ytkfjemgelmbcfaa
set_option maxRecDepth 100000
open Go.RowKit

theorem equalIn_itm (a : Rec) (w : World) : (Op.equalIn 10000 94 a.v a.v).run Try.prog w = .ok true w := by
  obtain ⟨e, s⟩ := a
  have u3 := Try.underlying3
  have a3 := Try.isAgg3
  have s3 := Try.sizeOf3
  have hS : Try.prog.underlying 94 = some (.struct (Try.prog.fieldsOf 94)) := by kernel_rfl
  have hp : Try.prog.stoodInHeld 94 = false := by kernel_rfl
  have hE := equalIn_evt_f e e 9997 w
  unfold Evt.v at hE
  unfold Rec.v
  dsimp only
  rw [show (10000 : Nat) = 9999 + 1 from rfl, run_equalIn_agg w 9999 94 _ _ hS hp]
  simp only [Program.fieldsOf, Try.underlying94]
  go_simp
theorem neq_itm (a : Rec) (w : World) : (binOp .neq 94 a.v a.v).run Try.prog w = .ok (.bool false) w := by
  have h := equalIn_itm a w
  unfold Rec.v at h ⊢
  rw [run_neq_struct, h]
  rfl
theorem guard_itm (op : BinOp) (x y : Operand) (xs ys : Array Value) (w : World) : (eqGuard op 94 x y (.agg xs) (.agg ys)).run Try.prog w = .ok () w :=
  run_eqGuard_agg w op 94 x y xs ys (by kernel_rfl)

set_option maxHeartbeats 2000000 in
theorem tbItems_same (A B : Option Addr) (n capa capb : Nat) (xs : List Rec) (w : World) (hn : n ≤ 1000000000) (hE : Recs w A n xs) (hF : Recs w B n xs) :
    Calls Try.prog 104 #[.slice A n capa, .slice B n capb] w fun x w' => x = .returned (.bool true) ∧ Up w w' := by
  have HE := Lib.hid hE
  have HF := Lib.hid hF
  have CL := Lib.hid (fun p W => neq_itm p W)
  have gd := guard_itm
  clear hE hF
  go_enter Try.func104, Try.ntmps104
  go_wp2
  go_loopw [5] (fun i wr => (∃ k : Nat, k ≤ n ∧ i = .int .i64 k) ∧ Up w wr) (fun i _ => n - (intOf i).toNat)
  case atStart => exact ⟨⟨0, by omega, rfl⟩, Up.refl _⟩
  case round =>
    obtain ⟨⟨k, hk, rfl⟩, ur⟩ := hrel
    by_cases hlt : k < n
    · obtain ⟨b, off, hA, hb, hc⟩ := HE.out.2 (by omega)
      obtain ⟨b2, off2, hA2, hb2, hc2⟩ := HF.out.2 (by omega)
      subst hA hA2
      have a0 := (hc k hlt).up ur hb
      have a1 := (hc2 k hlt).up ur hb2
      have hb' : b < wr.heap.size := by have := ur.size; omega
      have hb2' : b2 < wr.heap.size := by have := ur.size; omega
      clear hc hc2
      have cl := CL.out (xs.getD k default)
      generalize xs.getD k default = p at a0 a1 cl
      unfold RecAt at a0 a1
      unfold Rec.v at cl
      obtain ⟨p0, p1, p2, p3, p4, p5, p6⟩ := a0
      obtain ⟨q0, q1, q2, q3, q4, q5, q6⟩ := a1
      have i4 : (k : Int) < n := by omega
      go_wp2
      refine region_up (by kernel_rfl) (by kernel_rfl) ?_
      refine up_step rfl ?_
      apply Exists.intro
      refine ⟨fun w1 hw1 => ?_, ?_⟩
      · go_simp
        try rfl
      go_simp
      refine up_step rfl ?_
      apply Exists.intro
      refine ⟨fun w1 hw1 => ?_, ?_⟩
      · go_simp
        try rfl
      go_simp
      refine up_step rfl ?_
      apply Exists.intro
      refine ⟨fun w1 hw1 => ?_, ?_⟩
      · go_simp
        try rfl
      go_simp
      refine up_step rfl ?_
      apply Exists.intro
      refine ⟨fun w1 hw1 => ?_, ?_⟩
      · obtain ⟨hc, hf, hz⟩ := hw1.facts
        try simp at hz
        go_simp
        try rfl
      go_simp
      refine up_step rfl ?_
      apply Exists.intro
      refine ⟨fun w1 hw1 => ?_, ?_⟩
      · go_simp
        try rfl
      go_simp
      refine up_step rfl ?_
      apply Exists.intro
      refine ⟨fun w1 hw1 => ?_, ?_⟩
      · go_simp
        try rfl
      go_simp
      refine up_step rfl ?_
      apply Exists.intro
      refine ⟨fun w1 hw1 => ?_, ?_⟩
      · go_simp
        try rfl
      go_simp
      refine up_step rfl ?_
      apply Exists.intro
      refine ⟨fun w1 hw1 => ?_, ?_⟩
      · obtain ⟨hc, hf, hz⟩ := hw1.facts
        try simp at hz
        go_simp
        try rfl
      go_simp
      refine up_step rfl ?_
      apply Exists.intro
      refine ⟨fun w1 hw1 => ?_, ?_⟩
      · go_simp
        try rfl
      go_simp
      refine wpQuiet_nil ?_
      intro wA uA
      clear i4 p0 p1 p2 p3 p4 p5 p6 q0 q1 q2 q3 q4 q5 q6 cl
      go_wp2
      go_roundw
      case rel => exact ⟨⟨k + 1, by omega, by go_num⟩, ur.trans uA⟩
      case measure => simp [intOf]; omega
    · go_wp2
      go_ret
      exact ⟨rfl, ur⟩

end Go.Proofs.Ytkfjemgelmbcfaa

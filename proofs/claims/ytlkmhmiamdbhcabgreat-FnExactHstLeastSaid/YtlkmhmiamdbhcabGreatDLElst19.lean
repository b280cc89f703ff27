/-
  How much a component sends, in one sentence: two at most; for every valid model.
  Two component states compared by the language's own sign, in one sentence: are they different; for every two.
-/
import Derived.Test.YtlkmhmiamdbhcabGreatDLElst02
import Derived.Test.YtlkmhmiamdbhcabGreatDLElst07
namespace Go.Proofs.YtlkmhmiamdbhcabGreat
set_option maxRecDepth 100000
open Go.RowKit
theorem sendsE_most (til s : Int) (e : Evt) : ∀ (xs : List Evt) (q : Int), (sendsE til s e xs q).1.length ≤ xs.length
  | [], _ => Nat.le_refl _
  | x :: xs, q => by
    rw [sendsE]
    split
    · exact Nat.le_succ_of_le (sendsE_most til s e xs q)
    · split
      · exact Nat.succ_le_succ (sendsE_most til s e xs (q + 1))
      · exact Nat.le_succ_of_le (sendsE_most til s e xs (q + 1))
theorem ruleOf_rule (kd many : Int) : ∀ (rs : List Rule) (bf : Int) (r : Rule), rulesB many bf rs = true → ruleOf kd rs = some r → ruleB r many = true
  | [], _, _, _, h => by cases h
  | x :: rs, bf, r, h, hr => by
    rw [rulesB, Bool.and_eq_true, Bool.and_eq_true] at h; rw [ruleOf] at hr
    split at hr
    · injection hr with hr
      exact hr ▸ h.1.2
    · exact ruleOf_rule kd many rs x.kd r h.2 hr
theorem doE_len {m : Mdl} {c : Cst} {e : Evt} (h : mdlB m = true) : (doE m c e).2.length ≤ 2 := by
  unfold doE
  split
  · simp
  · rename_i r hr
    refine Nat.le_trans (sendsE_most _ _ _ _ _) ?_; simp only [mdlB, Bool.and_eq_true] at h
    have hm : rulesB m.rules.length (-1) (m.rules.getD e.to.toNat []) = true := by
      by_cases hl : e.to.toNat < m.rules.length
      · have := List.all_eq_true.1 h.2 (m.rules[e.to.toNat]) (List.getElem_mem hl)
        simpa [List.getD, hl] using this
      · simp [List.getD, hl, rulesB]
    have := ruleOf_rule _ _ _ _ _ hm hr
    simp only [ruleB, Bool.and_eq_true, decide_eq_true_eq] at this
    omega
end Go.Proofs.YtlkmhmiamdbhcabGreat

namespace Go.Proofs.YtlkmhmiamdbhcabGreat
set_option maxRecDepth 100000
open Go.RowKit
def eqD (a b : Cst) : Bool := decide (a.s = b.s) && decide (a.sq = b.sq) && decide (a.ct = b.ct)
theorem eqD_refl (a : Cst) : eqD a a = true := by simp [eqD]
theorem equalIn_cst (a b : Cst) (w : World) : (Op.equalIn 10000 41 a.v b.v).run Tryz.prog w = .ok (eqD a b) w := by
  obtain ⟨z0, z1, z2⟩ := a; obtain ⟨y0, y1, y2⟩ := b
  have u3 := Tryz.underlying3
  have a3 := Tryz.isAgg3
  have s3 := Tryz.sizeOf3
  have hS : Tryz.prog.underlying 41 = some (.struct (Tryz.prog.fieldsOf 41)) := by kernel_rfl
  have hp : Tryz.prog.stoodInHeld 41 = false := by kernel_rfl
  unfold Cst.v eqD; dsimp only; rw [show (10000 : Nat) = 9999 + 1 from rfl, run_equalIn_agg w 9999 41 _ _ hS hp]; simp only [Program.fieldsOf, Tryz.underlying41]; go_simp
  by_cases h0 : z0 = y0 <;> by_cases h1 : z1 = y1 <;> by_cases h2 : z2 = y2 <;> simp [h0, h1, h2]
theorem neq_cst (a b : Cst) (w : World) : (binOp .neq 41 a.v b.v).run Tryz.prog w = .ok (.bool (!eqD a b)) w := by
  have h := equalIn_cst a b w
  unfold Cst.v at h ⊢; rw [run_neq_struct, h]
  rfl
theorem guard_cst (op : BinOp) (x y : Operand) (xs ys : Array Value) (w : World) : (eqGuard op 41 x y (.agg xs) (.agg ys)).run Tryz.prog w = .ok () w :=
  run_eqGuard_agg w op 41 x y xs ys (by kernel_rfl)
end Go.Proofs.YtlkmhmiamdbhcabGreat

/-
  The walk of a region that draws, kept shut, in one sentence: as region_up, but no tactic looks into what is left to walk.
-/
import Derived.Test.YtojnphchkdjafaaUp
namespace Go.Proofs.Ytojnphchkdjafaa
set_option maxRecDepth 100000
open Go.RowKit

/-- What is left to walk. -/
@[irreducible] def qWalk (P : Program) (ops : Array Oper) (C : World → Prop) (Q : Act → Prop) (l : List Oper) (a : Act) : Prop := wpQuiet P ops C Q l a

theorem qWalk_step {P : Program} {ops : Array Oper} {C : World → Prop} {Q : Act → Prop} {a : Act} {o : Oper} {rest : List Oper}
    (h : ∀ K : Act → Prop, (∀ a, qWalk P ops C Q rest a → K a) → if Region.wanted o (yielded ops a.tmps) then o.quiet P a C K else K (a.put o.dst undef)) : qWalk P ops C Q (o :: rest) a := by
  unfold qWalk at h ⊢
  exact wpQuiet_step h
theorem qWalk_nil {P : Program} {ops : Array Oper} {C : World → Prop} {Q : Act → Prop} {a : Act} (h : Q a) : qWalk P ops C Q [] a := by
  unfold qWalk
  exact wpQuiet_nil h
theorem region_qw {P : Program} {id : Nat} {Q : Exit → Act → World → Prop} {a : Act} {w : World} {l : List Oper} (hm : P.follows .mixedOrders = true) (hB : Region.lexB .any l.toArray = true)
    (h : qWalk P l.toArray (Up w) (fun a' => ∀ w', Up w w' → Q .normal a' w') l a) : (Code.region id l.toArray true).wp P Q a w := by
  unfold qWalk at h
  exact region_up hm hB h

end Go.Proofs.Ytojnphchkdjafaa

/-
  The region of spec.l2Do that finds the rule: its slots' relations, in one sentence: one row a slot; no condition is made.
-/
import Derived.Test.YtakmlfgkppekoaaDLCud16
namespace Go.Proofs.Ytakmlfgkppekoaa
set_option maxRecDepth 100000
open Go.RowKit
theorem dR_0 {b3 b5 : Nat} {A : Option Addr} {n c bA off : Nat} {e : Evt} {A' : Option Addr} {n' c' : Nat} {r : Rule} {s : Value} {ok : Bool} {B : Nat} {v : Value} {w : World} : dR b3 b5 A n c bA off e A' n' c' r s ok B 0 v w = (v = .pointer (some ⟨b3, 0, none⟩)) := by simp [dR, dP]
theorem dR_1 {b3 b5 : Nat} {A : Option Addr} {n c bA off : Nat} {e : Evt} {A' : Option Addr} {n' c' : Nat} {r : Rule} {s : Value} {ok : Bool} {B : Nat} {v : Value} {w : World} : dR b3 b5 A n c bA off e A' n' c' r s ok B 1 v w = (v = .slice A n c) := by simp [dR, dP]
theorem dR_2 {b3 b5 : Nat} {A : Option Addr} {n c bA off : Nat} {e : Evt} {A' : Option Addr} {n' c' : Nat} {r : Rule} {s : Value} {ok : Bool} {B : Nat} {v : Value} {w : World} : dR b3 b5 A n c bA off e A' n' c' r s ok B 2 v w = (v = .pointer (some ⟨b5, 1, none⟩)) := by simp [dR, dP]
theorem dR_3 {b3 b5 : Nat} {A : Option Addr} {n c bA off : Nat} {e : Evt} {A' : Option Addr} {n' c' : Nat} {r : Rule} {s : Value} {ok : Bool} {B : Nat} {v : Value} {w : World} : dR b3 b5 A n c bA off e A' n' c' r s ok B 3 v w = (v = .int .i64 e.to) := by simp [dR, dP]
theorem dR_4 {b3 b5 : Nat} {A : Option Addr} {n c bA off : Nat} {e : Evt} {A' : Option Addr} {n' c' : Nat} {r : Rule} {s : Value} {ok : Bool} {B : Nat} {v : Value} {w : World} : dR b3 b5 A n c bA off e A' n' c' r s ok B 4 v w = (v = .pointer (some ⟨bA, off + e.to.toNat, none⟩)) := by simp [dR, dP]
theorem dR_5 {b3 b5 : Nat} {A : Option Addr} {n c bA off : Nat} {e : Evt} {A' : Option Addr} {n' c' : Nat} {r : Rule} {s : Value} {ok : Bool} {B : Nat} {v : Value} {w : World} : dR b3 b5 A n c bA off e A' n' c' r s ok B 5 v w = (v = .slice A' n' c') := by simp [dR, dP]
theorem dR_6 {b3 b5 : Nat} {A : Option Addr} {n c bA off : Nat} {e : Evt} {A' : Option Addr} {n' c' : Nat} {r : Rule} {s : Value} {ok : Bool} {B : Nat} {v : Value} {w : World} : dR b3 b5 A n c bA off e A' n' c' r s ok B 6 v w = (v = .pointer (some ⟨b5, 4, none⟩)) := by simp [dR, dP]
theorem dR_7 {b3 b5 : Nat} {A : Option Addr} {n c bA off : Nat} {e : Evt} {A' : Option Addr} {n' c' : Nat} {r : Rule} {s : Value} {ok : Bool} {B : Nat} {v : Value} {w : World} : dR b3 b5 A n c bA off e A' n' c' r s ok B 7 v w = (v = .int .i64 e.kd) := by simp [dR, dP]
theorem dR_8 {b3 b5 : Nat} {A : Option Addr} {n c bA off : Nat} {e : Evt} {A' : Option Addr} {n' c' : Nat} {r : Rule} {s : Value} {ok : Bool} {B : Nat} {v : Value} {w : World} : dR b3 b5 A n c bA off e A' n' c' r s ok B 8 v w = (v = .tuple #[r.v s, .bool ok]) := by simp [dR, dP]
theorem dR_9 {b3 b5 : Nat} {A : Option Addr} {n c bA off : Nat} {e : Evt} {A' : Option Addr} {n' c' : Nat} {r : Rule} {s : Value} {ok : Bool} {B : Nat} {v : Value} {w : World} : dR b3 b5 A n c bA off e A' n' c' r s ok B 9 v w = (v = .tuple #[r.v s, .bool ok]) := by simp [dR, dP]
theorem dR_10 {b3 b5 : Nat} {A : Option Addr} {n c bA off : Nat} {e : Evt} {A' : Option Addr} {n' c' : Nat} {r : Rule} {s : Value} {ok : Bool} {B : Nat} {v : Value} {w : World} : dR b3 b5 A n c bA off e A' n' c' r s ok B 10 v w = (v = r.v s) := by simp [dR, dP]
theorem dR_11 {b3 b5 : Nat} {A : Option Addr} {n c bA off : Nat} {e : Evt} {A' : Option Addr} {n' c' : Nat} {r : Rule} {s : Value} {ok : Bool} {B : Nat} {v : Value} {w : World} : dR b3 b5 A n c bA off e A' n' c' r s ok B 11 v w = (v = .bool ok) := by simp [dR, dP]
theorem dR_12 {b3 b5 : Nat} {A : Option Addr} {n c bA off : Nat} {e : Evt} {A' : Option Addr} {n' c' : Nat} {r : Rule} {s : Value} {ok : Bool} {B : Nat} {v : Value} {w : World} : dR b3 b5 A n c bA off e A' n' c' r s ok B 12 v w = (IsNew5 B v w) := by simp [dR]
theorem dR_13 {b3 b5 : Nat} {A : Option Addr} {n c bA off : Nat} {e : Evt} {A' : Option Addr} {n' c' : Nat} {r : Rule} {s : Value} {ok : Bool} {B : Nat} {v : Value} {w : World} : dR b3 b5 A n c bA off e A' n' c' r s ok B 13 v w = (∃ b, v = .pointer (some ⟨b, 0, none⟩) ∧ Laid5 w b (.int .i64 r.kd) (.int .i64 r.a) (.int .i64 r.b) (.int .i64 r.c) s) := by simp [dR]
theorem dR_lays {b3 b5 : Nat} {A : Option Addr} {n c bA off : Nat} {e : Evt} {A' : Option Addr} {n' c' : Nat} {r : Rule} {s : Value} {ok : Bool} {B : Nat} {v : Value} {w : World} (d : Nat) {w' : World} (h : dR b3 b5 A n c bA off e A' n' c' r s ok B d v w) (u : Lays (.int .i64 r.kd) (.int .i64 r.a) (.int .i64 r.b) (.int .i64 r.c) s w w') : dR b3 b5 A n c bA off e A' n' c' r s ok B d v w' := by
  unfold dR at h ⊢
  by_cases h1 : d = 12
  · rw [if_pos h1] at h ⊢
    exact h.lays u
  · rw [if_neg h1] at h ⊢
    by_cases h2 : d = 13
    · rw [if_pos h2] at h ⊢
      obtain ⟨b, hb, hl⟩ := h
      exact ⟨b, hb, u.laid b hl⟩
    · rw [if_neg h2] at h ⊢
      exact h
end Go.Proofs.Ytakmlfgkppekoaa

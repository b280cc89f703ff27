/-
  What a component does, in one sentence: its new state and what it sends, as lists and numbers; no condition is made.
  The region of spec.l2Do that finds the rule: its slots' relations, in one sentence: one row a slot; no condition is made.
  A region that draws its order and whose effects are forced into one order, in one sentence: one walk in the order of the text serves every order, where each operation yields in every world or is the only one that may come up.
  A region that draws its order, walked by relations, in one sentence: each of the first n operations is shown once, in any frame whose slots bear what its forerunners' relations say; the rest comes up in one order.
-/
import Derived.Deep.AppendLies
import Derived.Deep.Draws
import Derived.Deep.RegionHeld3
import Derived.Laws.OwnMore
import Derived.Maps.AppendAt
import Derived.OwnWalk
import Derived.RegionTactic
import Derived.Test.YtakmlfgkppekoaaDLEbak01
import Derived.Test.YtakmlfgkppekoaaDLEbak02
import Derived.Test.YtakmlfgkppekoaaDLEbak03
import Derived.Test.YtakmlfgkppekoaaDLEbak04
namespace Go.Proofs.Ytakmlfgkppekoaa
set_option maxRecDepth 100000
open Go.RowKit
theorem Found.some_ {A0 : Option Addr} {kd : Int} {rs : List Rule} {r : Rule} {w w' : World} {x : Ending} (h : Found A0 kd rs w x w') (hr : ruleOf kd rs = some r) : ∃ A n c, x = .returned (.tuple #[r.v (.slice A n c), .bool true]) ∧ n ≤ 9223372036854775807 ∧ Evs w' A n r.sends ∧ Up w w' ∧ ∀ b off, A0 = some ⟨b, off, none⟩ → w.cell? ⟨b, off + ixOf kd rs * 5 + 4, none⟩ = some (.slice A n c) := by
  obtain ⟨u, ⟨r', A, n, c, h1, rfl, h3, h4, h5⟩ | ⟨h1, rfl⟩⟩ := h
  · rw [hr] at h1
    injection h1 with h1
    subst h1
    exact ⟨A, n, c, rfl, h3, h4, u, h5⟩
  · rw [hr] at h1; cases h1
theorem Found.none_ {A0 : Option Addr} {kd : Int} {rs : List Rule} {w w' : World} {x : Ending} (h : Found A0 kd rs w x w') (hr : ruleOf kd rs = none) : x = .returned (.tuple #[.agg #[.int .i64 0, .int .i64 0, .int .i64 0, .int .i64 0, .slice none 0 0], .bool false]) ∧ Up w w' := by
  obtain ⟨u, ⟨r', A, n, c, h1, rfl, h3, h4, h5⟩ | ⟨h1, rfl⟩⟩ := h
  · rw [hr] at h1; cases h1
  · exact ⟨rfl, u⟩
/-- A new block of a rule's cells. -/
def IsNew5 (B : Nat) (v : Value) (w : World) : Prop :=
  ∃ b : Nat, v = .pointer (some ⟨b, 0, none⟩) ∧ B ≤ b ∧ b < w.heap.size ∧ (∀ j, j < 5 → ∃ u, w.cell? ⟨b, j, none⟩ = some u) ∧ ∀ j, w.frozen? ⟨b, j, none⟩ = false
theorem IsNew5.new {B : Nat} (w : World) (x y z u v : Value) (t : TypeId) (hB : B ≤ w.heap.size) : IsNew5 B (.pointer (some ⟨w.heap.size, 0, none⟩)) (w.alloc (.cells #[x, y, z, u, v] t)) := by
  have hh := heap_alloc_new w (.cells #[x, y, z, u, v] t)
  refine ⟨w.heap.size, rfl, hB, by simp, fun j hj => somes_new w #[x, y, z, u, v] t j (by simpa using hj), fun j => ?_⟩; unfold World.frozen?; rw [hh]; simp
/-- The cells of a rule, laid. -/
def Laid5 (w : World) (b : Nat) (x y z u v : Value) : Prop :=
  b < w.heap.size ∧ w.cell? ⟨b, 0, none⟩ = some x ∧ w.cell? ⟨b, 1, none⟩ = some y ∧ w.cell? ⟨b, 2, none⟩ = some z ∧ w.cell? ⟨b, 3, none⟩ = some u ∧ w.cell? ⟨b, 4, none⟩ = some v
/-- Steps that make blocks, or lay these five values in a block. -/
structure Lays (x y z u v : Value) (w w' : World) : Prop where
  size : w.heap.size ≤ w'.heap.size
  ex : ∀ b j, b < w.heap.size → (∃ t, w.cell? ⟨b, j, none⟩ = some t) → ∃ t, w'.cell? ⟨b, j, none⟩ = some t
  fr : ∀ b j, b < w.heap.size → w'.frozen? ⟨b, j, none⟩ = w.frozen? ⟨b, j, none⟩
  laid : ∀ b, Laid5 w b x y z u v → Laid5 w' b x y z u v
theorem Up.lays {w w' : World} (h : Up w w') (x y z u v : Value) : Lays x y z u v w w' :=
  ⟨h.size, fun _ _ hb ⟨t, ht⟩ => ⟨t, (h.cells _ _ hb).trans ht⟩, fun _ _ hb => h.frozens _ _ hb, fun _ ⟨hb, h0, h1, h2, h3, h4⟩ => ⟨Nat.lt_of_lt_of_le hb h.size, (h.cells _ _ hb).trans h0, (h.cells _ _ hb).trans h1, (h.cells _ _ hb).trans h2, (h.cells _ _ hb).trans h3, (h.cells _ _ hb).trans h4⟩⟩
theorem IsNew5.lays {B : Nat} {t : Value} {x y z u v : Value} {w w' : World} (h : IsNew5 B t w) (m : Lays x y z u v w w') : IsNew5 B t w' := by
  obtain ⟨b, hv, h2, h3, h4, h5⟩ := h
  exact ⟨b, hv, h2, Nat.lt_of_lt_of_le h3 m.size, fun j hj => m.ex b j h3 (h4 j hj), fun j => (m.fr b j h3).trans (h5 j)⟩
/-- The laying. -/
theorem lays_put {w : World} {b : Nat} (r : Rule) (s : Value) (hl : b < w.heap.size) (hs : ∀ j, j < 5 → ∃ u, w.cell? ⟨b, j, none⟩ = some u) :
    Lays (.int .i64 r.kd) (.int .i64 r.a) (.int .i64 r.b) (.int .i64 r.c) s w (putR w b 0 r s) ∧ Laid5 (putR w b 0 r s) b (.int .i64 r.kd) (.int .i64 r.a) (.int .i64 r.b) (.int .i64 r.c) s := by
  obtain ⟨k0, k1, k2, k3, k4⟩ := putR_at (r := r) (s := s) (o := 0) (fun k hk => by rw [Nat.zero_add]; exact hs k hk); simp only [Nat.zero_add] at k0 k1 k2 k3 k4
  have hL : Laid5 (putR w b 0 r s) b (.int .i64 r.kd) (.int .i64 r.a) (.int .i64 r.b) (.int .i64 r.c) s := ⟨by rw [putR_size]; exact hl, k0, k1, k2, k3, k4⟩
  refine ⟨⟨by rw [putR_size]; exact Nat.le_refl _, fun b' j _ ⟨t, ht⟩ => ?_, fun b' j _ => putR_frozen _ _ _ _ _ _, fun b' h' => ?_⟩, hL⟩
  · unfold putR
    obtain ⟨v1, h1⟩ := setCell_some (p := ⟨b, 0, none⟩) (u := .int .i64 r.kd) ht; obtain ⟨v2, h2⟩ := setCell_some (p := ⟨b, 0 + 1, none⟩) (u := .int .i64 r.a) h1; obtain ⟨v3, h3⟩ := setCell_some (p := ⟨b, 0 + 2, none⟩) (u := .int .i64 r.b) h2; obtain ⟨v4, h4⟩ := setCell_some (p := ⟨b, 0 + 3, none⟩) (u := .int .i64 r.c) h3
    exact setCell_some h4
  · by_cases hbb : b = b'
    · subst hbb
      exact hL
    · obtain ⟨h0, h1, h2, h3, h4, h5⟩ := h'
      have f : ∀ j, (putR w b 0 r s).cell? ⟨b', j, none⟩ = w.cell? ⟨b', j, none⟩ := fun j => putR_other _ _ _ _ _ _ _ (.inl hbb)
      exact ⟨by rw [putR_size]; exact h0, (f 0).trans h1, (f 1).trans h2, (f 2).trans h3, (f 3).trans h4, (f 4).trans h5⟩
theorem rulesB_of {many kd : Int} : ∀ {bf : Int} {rs : List Rule} {r : Rule}, rulesB many bf rs = true → ruleOf kd rs = some r → ruleB r many = true
  | _, [], _, _, h => by cases h
  | bf, x :: rs, r, hb, h => by
    rw [rulesB, Bool.and_eq_true, Bool.and_eq_true] at hb; rw [ruleOf] at h
    by_cases hk : x.kd = kd
    · rw [if_pos hk] at h
      injection h with h
      subst h
      exact hb.1.2
    · rw [if_neg hk] at h
      exact rulesB_of hb.2 h
theorem mdlB_rule {m : Mdl} {i : Nat} {kd : Int} {r : Rule} (hm : mdlB m = true) (hi : i < m.rules.length) (h : ruleOf kd (m.rules.getD i []) = some r) : ruleB r m.rules.length = true := by
  simp only [mdlB, Bool.and_eq_true, List.all_eq_true] at hm; refine rulesB_of (hm.2 (m.rules.getD i []) ?_) h; rw [List.getD, List.getElem?_eq_getElem hi]
  exact List.getElem_mem hi
theorem mdlB_til {m : Mdl} (hm : mdlB m = true) : 0 ≤ m.til ∧ m.til ≤ 99 := by
  simp only [mdlB, Bool.and_eq_true] at hm
  exact inB_iff.1 hm.1.1.2
theorem ruleB_parts {r : Rule} {many : Int} (h : ruleB r many = true) : (∀ i, i < r.sends.length → sndB (r.sends.getD i default) many = true) ∧ r.sends.length ≤ 2 ∧ (0 ≤ r.a ∧ r.a ≤ 96) ∧ (0 ≤ r.b ∧ r.b ≤ 96) ∧ (0 ≤ r.c ∧ r.c ≤ 96) := by
  simp only [ruleB, Bool.and_eq_true, decide_eq_true_eq, inB_iff, List.all_eq_true] at h; obtain ⟨⟨⟨⟨⟨h1, h2⟩, _⟩, h4⟩, h5⟩, h6⟩ := h; refine ⟨fun i hi => h1 _ ?_, by omega, h4, h5, h6⟩; rw [List.getD, List.getElem?_eq_getElem hi]
  exact List.getElem_mem hi
theorem sndB_parts {x : Evt} {many : Int} (h : sndB x many = true) : (1 ≤ x.to ∧ x.to ≤ 9) ∧ (0 ≤ x.sq ∧ x.sq ≤ 96) ∧ (1 ≤ x.kd ∧ x.kd ≤ 9) := by
  simp only [sndB, Bool.and_eq_true, inB_iff] at h; obtain ⟨⟨⟨⟨⟨_, h1⟩, _⟩, h2⟩, h3⟩, _⟩ := h
  exact ⟨h1, h2, h3⟩
section
variable {w w' : World} {b3 b4 b5 b6 b9 : Nat} {x y z : Value} {S q ct : Int} {e : Evt} {u0 u1 u2 u3 u4 : Value}
theorem Laid5.keep {b : Nat} (h : Laid5 w b u0 u1 u2 u3 u4) (hs : w.heap.size ≤ w'.heap.size) (hc : ∀ o, w'.cell? ⟨b, o, none⟩ = w.cell? ⟨b, o, none⟩) : Laid5 w' b u0 u1 u2 u3 u4 :=
  ⟨Nat.lt_of_lt_of_le h.1 hs, (hc 0).trans h.2.1, (hc 1).trans h.2.2.1, (hc 2).trans h.2.2.2.1, (hc 3).trans h.2.2.2.2.1, (hc 4).trans h.2.2.2.2.2⟩
theorem Box3.keep {b : Nat} (h : Box3 w b x y z) (hs : w.heap.size ≤ w'.heap.size) (hc : ∀ o, w'.cell? ⟨b, o, none⟩ = w.cell? ⟨b, o, none⟩) : Box3 w' b x y z :=
  ⟨Nat.lt_of_lt_of_le h.lt hs, (hc 0).trans h.c0, (hc 1).trans h.c1, (hc 2).trans h.c2⟩
theorem Cell3.keep {b : Nat} {i j l : Int} (h : Cell3 w b i j l) (hs : w.heap.size ≤ w'.heap.size) (hc : ∀ o, w'.cell? ⟨b, o, none⟩ = w.cell? ⟨b, o, none⟩) (hf : ∀ o, w'.frozen? ⟨b, o, none⟩ = w.frozen? ⟨b, o, none⟩) : Cell3 w' b i j l :=
  ⟨Nat.lt_of_lt_of_le h.lt hs, (hc 0).trans h.c0, (hc 1).trans h.c1, (hc 2).trans h.c2, fun o => (hf o).trans (h.f o)⟩
end
/-- The operations of the region that finds the rule. -/
def dP (b3 b5 : Nat) (A : Option Addr) (n c : Nat) (bA off : Nat) (e : Evt) (A' : Option Addr) (n' c' : Nat) (U : Value) (ok : Bool) (i : Nat) (v : Value) : Prop :=
  if i = 0 then v = .pointer (some ⟨b3, 0, none⟩) else if i = 1 then v = .slice A n c else if i = 2 then v = .pointer (some ⟨b5, 1, none⟩) else if i = 3 then v = .int .i64 e.to
  else if i = 4 then v = .pointer (some ⟨bA, off + e.to.toNat, none⟩) else if i = 5 then v = .slice A' n' c' else if i = 6 then v = .pointer (some ⟨b5, 4, none⟩) else if i = 7 then v = .int .i64 e.kd
  else if i = 8 ∨ i = 9 then v = .tuple #[U, .bool ok] else if i = 10 then v = U else v = .bool ok
def dR (b3 b5 : Nat) (A : Option Addr) (n c : Nat) (bA off : Nat) (e : Evt) (A' : Option Addr) (n' c' : Nat) (r : Rule) (s : Value) (ok : Bool) (B : Nat) (i : Nat) (v : Value) (w : World) : Prop :=
  if i = 12 then IsNew5 B v w else if i = 13 then (∃ b, v = .pointer (some ⟨b, 0, none⟩) ∧ Laid5 w b (.int .i64 r.kd) (.int .i64 r.a) (.int .i64 r.b) (.int .i64 r.c) s) else dP b3 b5 A n c bA off e A' n' c' (r.v s) ok i v
theorem Cell3.up {w w' : World} {b : Nat} {i j l : Int} (h : Cell3 w b i j l) (u : Up w w') : Cell3 w' b i j l := h.keep u.size (fun _ => u.cells _ _ h.lt) (fun _ => u.frozens _ _ h.lt)
end Go.Proofs.Ytakmlfgkppekoaa

namespace Go.Proofs.Ytakmlfgkppekoaa
set_option maxRecDepth 100000
open Go.RowKit
theorem dR_0 {b3 b5 : Nat} {A : Option Addr} {n c bA off : Nat} {e : Evt} {A' : Option Addr} {n' c' : Nat} {r : Rule} {s : Value} {ok : Bool} {B : Nat} {v : Value} {w : World} : dR b3 b5 A n c bA off e A' n' c' r s ok B 0 v w = (v = .pointer (some ⟨b3, 0, none⟩)) := by simp [dR, dP]
theorem dR_1 {b3 b5 : Nat} {A : Option Addr} {n c bA off : Nat} {e : Evt} {A' : Option Addr} {n' c' : Nat} {r : Rule} {s : Value} {ok : Bool} {B : Nat} {v : Value} {w : World} : dR b3 b5 A n c bA off e A' n' c' r s ok B 1 v w = (v = .slice A n c) := by simp [dR, dP]
theorem dR_2 {b3 b5 : Nat} {A : Option Addr} {n c bA off : Nat} {e : Evt} {A' : Option Addr} {n' c' : Nat} {r : Rule} {s : Value} {ok : Bool} {B : Nat} {v : Value} {w : World} : dR b3 b5 A n c bA off e A' n' c' r s ok B 2 v w = (v = .pointer (some ⟨b5, 1, none⟩)) := by simp [dR, dP]
theorem dR_3 {b3 b5 : Nat} {A : Option Addr} {n c bA off : Nat} {e : Evt} {A' : Option Addr} {n' c' : Nat} {r : Rule} {s : Value} {ok : Bool} {B : Nat} {v : Value} {w : World} : dR b3 b5 A n c bA off e A' n' c' r s ok B 3 v w = (v = .int .i64 e.to) := by simp [dR, dP]
theorem dR_4 {b3 b5 : Nat} {A : Option Addr} {n c bA off : Nat} {e : Evt} {A' : Option Addr} {n' c' : Nat} {r : Rule} {s : Value} {ok : Bool} {B : Nat} {v : Value} {w : World} : dR b3 b5 A n c bA off e A' n' c' r s ok B 4 v w = (v = .pointer (some ⟨bA, off + e.to.toNat, none⟩)) := by simp [dR, dP]
theorem dR_5 {b3 b5 : Nat} {A : Option Addr} {n c bA off : Nat} {e : Evt} {A' : Option Addr} {n' c' : Nat} {r : Rule} {s : Value} {ok : Bool} {B : Nat} {v : Value} {w : World} : dR b3 b5 A n c bA off e A' n' c' r s ok B 5 v w = (v = .slice A' n' c') := by simp [dR, dP]
theorem dR_6 {b3 b5 : Nat} {A : Option Addr} {n c bA off : Nat} {e : Evt} {A' : Option Addr} {n' c' : Nat} {r : Rule} {s : Value} {ok : Bool} {B : Nat} {v : Value} {w : World} : dR b3 b5 A n c bA off e A' n' c' r s ok B 6 v w = (v = .pointer (some ⟨b5, 4, none⟩)) := by simp [dR, dP]
theorem dR_7 {b3 b5 : Nat} {A : Option Addr} {n c bA off : Nat} {e : Evt} {A' : Option Addr} {n' c' : Nat} {r : Rule} {s : Value} {ok : Bool} {B : Nat} {v : Value} {w : World} : dR b3 b5 A n c bA off e A' n' c' r s ok B 7 v w = (v = .int .i64 e.kd) := by simp [dR, dP]
theorem dR_8 {b3 b5 : Nat} {A : Option Addr} {n c bA off : Nat} {e : Evt} {A' : Option Addr} {n' c' : Nat} {r : Rule} {s : Value} {ok : Bool} {B : Nat} {v : Value} {w : World} : dR b3 b5 A n c bA off e A' n' c' r s ok B 8 v w = (v = .tuple #[r.v s, .bool ok]) := by simp [dR, dP]
theorem dR_9 {b3 b5 : Nat} {A : Option Addr} {n c bA off : Nat} {e : Evt} {A' : Option Addr} {n' c' : Nat} {r : Rule} {s : Value} {ok : Bool} {B : Nat} {v : Value} {w : World} : dR b3 b5 A n c bA off e A' n' c' r s ok B 9 v w = (v = .tuple #[r.v s, .bool ok]) := by simp [dR, dP]
theorem dR_10 {b3 b5 : Nat} {A : Option Addr} {n c bA off : Nat} {e : Evt} {A' : Option Addr} {n' c' : Nat} {r : Rule} {s : Value} {ok : Bool} {B : Nat} {v : Value} {w : World} : dR b3 b5 A n c bA off e A' n' c' r s ok B 10 v w = (v = r.v s) := by simp [dR, dP]
theorem dR_11 {b3 b5 : Nat} {A : Option Addr} {n c bA off : Nat} {e : Evt} {A' : Option Addr} {n' c' : Nat} {r : Rule} {s : Value} {ok : Bool} {B : Nat} {v : Value} {w : World} : dR b3 b5 A n c bA off e A' n' c' r s ok B 11 v w = (v = .bool ok) := by simp [dR, dP]
theorem dR_12 {b3 b5 : Nat} {A : Option Addr} {n c bA off : Nat} {e : Evt} {A' : Option Addr} {n' c' : Nat} {r : Rule} {s : Value} {ok : Bool} {B : Nat} {v : Value} {w : World} : dR b3 b5 A n c bA off e A' n' c' r s ok B 12 v w = (IsNew5 B v w) := by simp [dR]
theorem dR_13 {b3 b5 : Nat} {A : Option Addr} {n c bA off : Nat} {e : Evt} {A' : Option Addr} {n' c' : Nat} {r : Rule} {s : Value} {ok : Bool} {B : Nat} {v : Value} {w : World} : dR b3 b5 A n c bA off e A' n' c' r s ok B 13 v w = (∃ b, v = .pointer (some ⟨b, 0, none⟩) ∧ Laid5 w b (.int .i64 r.kd) (.int .i64 r.a) (.int .i64 r.b) (.int .i64 r.c) s) := by simp [dR]
theorem dR_lays {b3 b5 : Nat} {A : Option Addr} {n c bA off : Nat} {e : Evt} {A' : Option Addr} {n' c' : Nat} {r : Rule} {s : Value} {ok : Bool} {B : Nat} {v : Value} {w : World} (d : Nat) {w' : World} (h : dR b3 b5 A n c bA off e A' n' c' r s ok B d v w) (u : Lays (.int .i64 r.kd) (.int .i64 r.a) (.int .i64 r.b) (.int .i64 r.c) s w w') : dR b3 b5 A n c bA off e A' n' c' r s ok B d v w' := by
  unfold dR at h ⊢
  by_cases h1 : d = 12
  · rw [if_pos h1] at h ⊢
    exact h.lays u
  · rw [if_neg h1] at h ⊢
    by_cases h2 : d = 13
    · rw [if_pos h2] at h ⊢
      obtain ⟨b, hb, hl⟩ := h
      exact ⟨b, hb, u.laid b hl⟩
    · rw [if_neg h2] at h ⊢
      exact h
end Go.Proofs.Ytakmlfgkppekoaa

namespace Go.Proofs.Ytakmlfgkppekoaa
set_option maxRecDepth 100000
open Go.RowKit
def mixB (ops : Array Oper) : List (Nat × Bool) → Array Bool → Bool
  | [], listed => (Region.ready .any ops listed).isEmpty
  | (k, true) :: fs, listed => decide (k < ops.size) && (Region.ready .any ops listed).contains k && Region.free .any ops listed k && mixB ops fs (listed.setIfInBounds k true)
  | (k, false) :: fs, listed => decide (k < ops.size) && decide (Region.ready .any ops listed = [k]) && mixB ops fs (listed.setIfInBounds k true)
def wpMix (P : Program) (ops : Array Oper) (Q : Exit → Act → World → Prop) : List (Nat × Bool) → Act → World → Prop
  | (k, true) :: fs, a, w => ∃ o v, ops[k]? = some o ∧ Yields P ops o v a ∧ wpMix P ops Q fs (a.put o.dst v) w
  | (k, false) :: fs, a, w => ∃ o, ops[k]? = some o ∧ if Region.wanted o (yielded ops a.tmps) = true then o.wp P a w (wpMix P ops Q fs) Q else wpMix P ops Q fs (a.put o.dst undef) w
  | [], a, w => Q .normal a w
theorem wpAny_of_mix {P : Program} {ops : Array Oper} {Q : Exit → Act → World → Prop} (hsel : Region.noSelect ops = true) (hQ : ∀ c (a : Act) d v w, Q (.panic c) (a.put d v) w → Q (.panic c) a w) :
    ∀ (fs : List (Nat × Bool)) (listed : Array Bool) (a : Act) (w : World), mixB ops fs listed = true → wpMix P ops Q fs a w → wpAny P .any ops Q fs.length listed a w
  | [], _, _, _, hB, h => ⟨by simpa [mixB] using hB, h⟩
  | (k, true) :: fs, listed, a, w, hB, h => by
    simp only [mixB, Bool.and_eq_true] at hB; obtain ⟨o, v, h0, hy, hn⟩ := h
    exact wpAny_take h0 hsel hB.1.2 hB.1.1.2 (fun c a w => hQ c a _ _ w) hy (wpAny_of_mix hsel hQ fs _ _ _ hB.2 hn)
  | (k, false) :: fs, listed, a, w, hB, h => by
    simp only [mixB, Bool.and_eq_true, decide_eq_true_eq] at hB; obtain ⟨o, h0, h⟩ := h
    refine wpAny_all hB.1.2 (by simp) fun i hi => ?_
    obtain rfl : i = k := by simpa using hi
    refine wpOp_mono (K := wpMix P ops Q fs) (fun a' w' h' => wpAny_of_mix hsel hQ fs _ _ _ hB.2 h') ?_; unfold wpOp; simp only [h0]
    split
    · rename_i hw
      rw [if_pos hw] at h
      exact .inl h
    · rename_i hw
      rw [if_neg hw] at h
      exact h
section
variable {P : Program} {ops : Array Oper} {Q : Exit → Act → World → Prop} {fs : List (Nat × Bool)} {k : Nat} {o : Oper} {a : Act} {w : World}
theorem mix_take (h0 : ops[k]? = some o) (hw : Region.wanted o (yielded ops a.tmps) = true) (h : ∃ v, (∀ w1, (execOp a.eval o).run P w1 = .ok (.value v) w1) ∧ wpMix P ops Q fs (a.put o.dst v) w) : wpMix P ops Q ((k, true) :: fs) a w := by
  obtain ⟨v, hv, hn⟩ := h
  exact ⟨o, v, h0, .inl ⟨hw, hv⟩, hn⟩
theorem mix_go (h0 : ops[k]? = some o) (hw : Region.wanted o (yielded ops a.tmps) = true) (h : ∀ K : Act → World → Prop, (∀ a w, wpMix P ops Q fs a w → K a w) → o.wp P a w K Q) : wpMix P ops Q ((k, false) :: fs) a w := by
  refine ⟨o, h0, ?_⟩; rw [if_pos hw]
  exact h _ fun _ _ h => h
theorem mix_nil (h : Q .normal a w) : wpMix P ops (NoPanic Q) [] a w := h
end
end Go.Proofs.Ytakmlfgkppekoaa

namespace Go.Proofs.Ytakmlfgkppekoaa
set_option maxRecDepth 100000
open Go.RowKit
/-- A frame's slots, those of a list laid anew. -/
def mixT (t : Array Value) : List Nat → (Nat → Value) → Array Value
  | [], _ => t
  | d :: ds, X => (mixT t ds X).setIfInBounds d (X d)
theorem mixT_size (t : Array Value) (X : Nat → Value) : ∀ ds, (mixT t ds X).size = t.size
  | [] => rfl
  | d :: ds => by rw [mixT, Array.size_setIfInBounds, mixT_size t X ds]
theorem mixT_get (t : Array Value) (X : Nat → Value) (k : Nat) : ∀ ds, (mixT t ds X)[k]? = if k ∈ ds ∧ k < t.size then some (X k) else t[k]?
  | [] => by simp [mixT]
  | d :: ds => by
    rw [mixT, Array.getElem?_setIfInBounds, mixT_size, mixT_get t X k ds]
    by_cases hk : d = k
    · subst hk
      by_cases hs : d < t.size
      · simp [hs]
      · simp [hs]
    · rw [if_neg hk]
      simp [show k ≠ d from fun e => hk e.symm]
def updX (X : Nat → Value) (d : Nat) (v : Value) : Nat → Value := fun k => if k = d then v else X k
theorem mixT_put (t : Array Value) (X : Nat → Value) (ds : List Nat) (d : Nat) (v : Value) (hd : d ∈ ds) : (mixT t ds X).setIfInBounds d v = mixT t ds (updX X d v) := by
  apply Array.ext_getElem?; intro k; rw [Array.getElem?_setIfInBounds, mixT_size, mixT_get, mixT_get]
  by_cases hk : d = k
  · subst hk
    by_cases hs : d < t.size
    · simp [hs, hd, updX]
    · simp [hs]
  · rw [if_neg hk]
    simp [updX, show k ≠ d from fun e => hk e.symm]
theorem mixT_self (t : Array Value) (ds : List Nat) : mixT t ds (fun d => t.getD d undef) = t := by
  apply Array.ext_getElem?; intro k; rw [mixT_get]
  split
  · rename_i h
    simp [h.2]
  · rfl
def dsts (ops : Array Oper) (n : Nat) : List Nat := (List.range n).filterMap fun i => (ops[i]?).bind (·.dst)
def dstAt (ops : Array Oper) (i : Nat) : Nat := ((ops[i]?).bind (·.dst)).getD 0
def deps (ops : Array Oper) (o : Oper) : List Nat := (o.after.toList.filter (Region.binds .any)).map fun e => dstAt ops e.on
def frontArr (ops : Array Oper) (n : Nat) : Array Bool := (Array.range ops.size).map fun i => decide (i < n)
/-- What an operation has brought. -/
structure DoneR (a : Act) (dst : Option Tmp) (M : World → World → Prop) (Gk : World → Prop) (Rd : Value → World → Prop) (w : World) (a' : Act) (w' : World) : Prop where
  out : ∃ v, a' = a.put dst v ∧ M w w' ∧ Gk w' ∧ Rd v w'
/-- An operation's walk, kept shut: 'refine', 'obtain' and their like reduce a goal to see whether it is a product. -/
@[irreducible] def opW (P : Program) (o : Oper) (a : Act) (w : World) (K : Act → World → Prop) (Q : Exit → Act → World → Prop) : Prop := o.wp P a w K Q
theorem opW_def (P : Program) (o : Oper) (a : Act) (w : World) (K : Act → World → Prop) (Q : Exit → Act → World → Prop) : opW P o a w K Q = o.wp P a w K Q := by
  unfold opW
  rfl
/-- What is asked of one operation. -/
def StepR (P : Program) (ops : Array Oper) (ds : List Nat) (a0 : Act) (G : Nat → World → Prop) (M : World → World → Prop) (R : Nat → Value → World → Prop) (Q : Exit → Act → World → Prop) (o : Oper) : Prop :=
  ∀ X w k, G (k + 1) w → (∀ d ∈ deps ops o, R d (X d) w) →
    opW P o ⟨mixT a0.tmps ds X, a0.defers⟩ w (DoneR ⟨mixT a0.tmps ds X, a0.defers⟩ o.dst M (G k) (R (o.dst.getD 0)) w) Q
end Go.Proofs.Ytakmlfgkppekoaa

/-
  Blocks of three numbers of the call's own, in one sentence: kept, laid and written; no condition is made.
  What a component does, in one sentence: its new state and what it sends, as lists and numbers; no condition is made.
  What toMdlModel returns, in one sentence: the same model over new blocks; for every model that lies in memory and was counted.
-/
import Derived.Test.YtklldniapombiaaDLWev01
import Derived.Test.YtklldniapombiaaDLWev03
import Derived.Test.YtklldniapombiaaDLWev04
import Derived.Test.YtklldniapombiaaDLWev06
import Derived.Test.YtklldniapombiaaDLWev08
import Derived.Test.YtklldniapombiaaDLWev09
import Derived.Test.YtklldniapombiaaDLWev14
namespace Go.Proofs.Ytklldniapombiaa
set_option maxRecDepth 100000
open Go.RowKit
/-- A block of three numbers of the call's own. -/
structure Cell3 (w : World) (b : Nat) (x y z : Int) : Prop where
  lt : b < w.heap.size
  c0 : w.cell? ⟨b, 0, none⟩ = some (.int .i64 x)
  c1 : w.cell? ⟨b, 1, none⟩ = some (.int .i64 y)
  c2 : w.cell? ⟨b, 2, none⟩ = some (.int .i64 z)
  f : ∀ j, w.frozen? ⟨b, j, none⟩ = false
theorem Cell3.mv {w w' : World} {b g : Nat} {x y z : Int} (h : Cell3 w b x y z) (m : Mv g w w') (hb : b ≠ g) : Cell3 w' b x y z :=
  ⟨Nat.lt_of_lt_of_le h.lt m.size, (m.cells _ _ h.lt hb).trans h.c0, (m.cells _ _ h.lt hb).trans h.c1, (m.cells _ _ h.lt hb).trans h.c2, fun j => (m.frozens _ _ h.lt hb).trans (h.f j)⟩
theorem Cell3.new (w : World) (x y z : Int) (t : TypeId) : Cell3 (w.alloc (.cells #[.int .i64 x, .int .i64 y, .int .i64 z] t)) w.heap.size x y z := by
  have hh := heap_alloc_new w (.cells #[.int .i64 x, .int .i64 y, .int .i64 z] t)
  refine ⟨by simp, by rw [cell_of_row _ _ 0 _ _ _ hh]; rfl, by rw [cell_of_row _ _ 1 _ _ _ hh]; rfl, by rw [cell_of_row _ _ 2 _ _ _ hh]; rfl, fun j => ?_⟩; unfold World.frozen?; rw [hh]; simp
theorem Cell3.far {w : World} {b : Nat} {x y z : Int} (h : Cell3 w b x y z) {p : Addr} (hp : p.block ≠ b) (u : Value) : Cell3 (w.setCell p u) b x y z := by
  have k : ∀ j, (w.setCell p u).cell? ⟨b, j, none⟩ = w.cell? ⟨b, j, none⟩ := fun j => World.cell?_setCell_other _ _ _ _ (fun e => hp (by rw [e]))
  exact ⟨by simpa using h.lt, (k 0).trans h.c0, (k 1).trans h.c1, (k 2).trans h.c2, fun j => by have := h.f j; simpa [go_sem] using this⟩
theorem Cell3.set0 {w : World} {b : Nat} {x y z : Int} (h : Cell3 w b x y z) (u : Int) : Cell3 (w.setCell ⟨b, 0, none⟩ (.int .i64 u)) b u y z :=
  ⟨by simpa using h.lt, World.cell?_setCell_same _ _ _ h.c0, (World.cell?_setCell_other _ _ _ _ (addr_ne (by omega))).trans h.c1, (World.cell?_setCell_other _ _ _ _ (addr_ne (by omega))).trans h.c2, fun j => by have := h.f j; simpa [go_sem] using this⟩
theorem Cell3.set1 {w : World} {b : Nat} {x y z : Int} (h : Cell3 w b x y z) (u : Int) : Cell3 (w.setCell ⟨b, 1, none⟩ (.int .i64 u)) b x u z :=
  ⟨by simpa using h.lt, (World.cell?_setCell_other _ _ _ _ (addr_ne (by omega))).trans h.c0, World.cell?_setCell_same _ _ _ h.c1, (World.cell?_setCell_other _ _ _ _ (addr_ne (by omega))).trans h.c2, fun j => by have := h.f j; simpa [go_sem] using this⟩
theorem Cell3.set2 {w : World} {b : Nat} {x y z : Int} (h : Cell3 w b x y z) (u : Int) : Cell3 (w.setCell ⟨b, 2, none⟩ (.int .i64 u)) b x y u :=
  ⟨by simpa using h.lt, (World.cell?_setCell_other _ _ _ _ (addr_ne (by omega))).trans h.c0, (World.cell?_setCell_other _ _ _ _ (addr_ne (by omega))).trans h.c1, World.cell?_setCell_same _ _ _ h.c2, fun j => by have := h.f j; simpa [go_sem] using this⟩
/-- A new block of three, laid. -/
theorem Cell3.laid {w : World} {b : Nat} (hl : b < w.heap.size) (hs : ∀ j, j < 3 → ∃ u, w.cell? ⟨b, j, none⟩ = some u) (hf : ∀ j, w.frozen? ⟨b, j, none⟩ = false) (x y z : Int) :
    Cell3 (((w.setCell ⟨b, 0, none⟩ (.int .i64 x)).setCell ⟨b, 1, none⟩ (.int .i64 y)).setCell ⟨b, 2, none⟩ (.int .i64 z)) b x y z := by
  have ne : ∀ k j, k ≠ j → (⟨b, k, none⟩ : Addr) ≠ ⟨b, j, none⟩ := fun k j hk => addr_ne (by omega)
  obtain ⟨v0, h0⟩ := hs 0 (by omega); obtain ⟨v1, h1⟩ := hs 1 (by omega); obtain ⟨v2, h2⟩ := hs 2 (by omega); refine ⟨by simpa using hl, ?_, ?_, ?_, fun j => by have := hf j; simpa [go_sem] using this⟩
  · rw [World.cell?_setCell_other _ _ _ _ (ne 2 0 (by omega)), World.cell?_setCell_other _ _ _ _ (ne 1 0 (by omega))]
    exact World.cell?_setCell_same _ _ _ h0
  · rw [World.cell?_setCell_other _ _ _ _ (ne 2 1 (by omega))]
    exact World.cell?_setCell_same _ _ _ ((World.cell?_setCell_other _ _ _ _ (ne 0 1 (by omega))).trans h1)
  · exact World.cell?_setCell_same _ _ _ ((World.cell?_setCell_other _ _ _ _ (ne 1 2 (by omega))).trans ((World.cell?_setCell_other _ _ _ _ (ne 0 2 (by omega))).trans h2))
theorem Cell3.laid' {w : World} {b : Nat} {x0 y0 z0 : Int} (h : Cell3 w b x0 y0 z0) (x y z : Int) :
    Cell3 (((w.setCell ⟨b, 0, none⟩ (.int .i64 x)).setCell ⟨b, 1, none⟩ (.int .i64 y)).setCell ⟨b, 2, none⟩ (.int .i64 z)) b x y z :=
  ((h.set0 x).set1 y).set2 z
end Go.Proofs.Ytklldniapombiaa

namespace Go.Proofs.Ytklldniapombiaa
set_option maxRecDepth 100000
open Go.RowKit
/-- What is sent, and the number behind it. -/
def sendsE (til s : Int) (e : Evt) : List Evt → Int → List Evt × Int
  | [], q => ([], q)
  | x :: xs, q =>
    if s % x.kd ≠ x.dt ∨ q = 12 then sendsE til s e xs q
    else if e.t + x.to ≤ til then (⟨e.t + x.to, x.t, e.to, q, x.fr, (s + x.sq) % 97⟩ :: (sendsE til s e xs (q + 1)).1, (sendsE til s e xs (q + 1)).2)
    else sendsE til s e xs (q + 1)
/-- A component behind an event, in a model that is one. -/
def doE (m : Mdl) (c : Cst) (e : Evt) : Cst × List Evt :=
  match ruleOf e.kd (m.rules.getD e.to.toNat []) with
  | none => (⟨c.s, c.sq, IntKind.i64.wrap (c.ct + 1)⟩, [])
  | some r => (⟨(r.a * c.s + r.b * e.dt + r.c) % 97, (sendsE m.til ((r.a * c.s + r.b * e.dt + r.c) % 97) e r.sends c.sq).2, IntKind.i64.wrap (c.ct + 1)⟩, (sendsE m.til ((r.a * c.s + r.b * e.dt + r.c) % 97) e r.sends c.sq).1)
/-- May it? -/
def mayB (m : Mdl) (c : Cst) (e : Evt) : Bool := mdlB m && cstB c && okB e m.rules.length && decide (e.t ≤ m.til)
def doM (m : Mdl) (c : Cst) (e : Evt) : Cst × List Evt := if mayB m c e = true then doE m c e else (⟨0, 0, 0⟩, [])
theorem Found.some_ {A0 : Option Addr} {kd : Int} {rs : List Rule} {r : Rule} {w w' : World} {x : Ending} (h : Found A0 kd rs w x w') (hr : ruleOf kd rs = some r) : ∃ A n c, x = .returned (.tuple #[r.v (.slice A n c), .bool true]) ∧ n ≤ 9223372036854775807 ∧ Evs w' A n r.sends ∧ Up w w' ∧ ∀ b off, A0 = some ⟨b, off, none⟩ → w.cell? ⟨b, off + ixOf kd rs * 5 + 4, none⟩ = some (.slice A n c) := by
  obtain ⟨u, ⟨r', A, n, c, h1, rfl, h3, h4, h5⟩ | ⟨h1, rfl⟩⟩ := h
  · rw [hr] at h1
    injection h1 with h1
    subst h1
    exact ⟨A, n, c, rfl, h3, h4, u, h5⟩
  · rw [hr] at h1; cases h1
theorem Found.none_ {A0 : Option Addr} {kd : Int} {rs : List Rule} {w w' : World} {x : Ending} (h : Found A0 kd rs w x w') (hr : ruleOf kd rs = none) : x = .returned (.tuple #[.agg #[.int .i64 0, .int .i64 0, .int .i64 0, .int .i64 0, .slice none 0 0], .bool false]) ∧ Up w w' := by
  obtain ⟨u, ⟨r', A, n, c, h1, rfl, h3, h4, h5⟩ | ⟨h1, rfl⟩⟩ := h
  · rw [hr] at h1; cases h1
  · exact ⟨rfl, u⟩
/-- A new block of a rule's cells. -/
def IsNew5 (B : Nat) (v : Value) (w : World) : Prop :=
  ∃ b : Nat, v = .pointer (some ⟨b, 0, none⟩) ∧ B ≤ b ∧ b < w.heap.size ∧ (∀ j, j < 5 → ∃ u, w.cell? ⟨b, j, none⟩ = some u) ∧ ∀ j, w.frozen? ⟨b, j, none⟩ = false
theorem IsNew5.new {B : Nat} (w : World) (x y z u v : Value) (t : TypeId) (hB : B ≤ w.heap.size) : IsNew5 B (.pointer (some ⟨w.heap.size, 0, none⟩)) (w.alloc (.cells #[x, y, z, u, v] t)) := by
  have hh := heap_alloc_new w (.cells #[x, y, z, u, v] t)
  refine ⟨w.heap.size, rfl, hB, by simp, fun j hj => somes_new w #[x, y, z, u, v] t j (by simpa using hj), fun j => ?_⟩; unfold World.frozen?; rw [hh]; simp
/-- The cells of a rule, laid. -/
def Laid5 (w : World) (b : Nat) (x y z u v : Value) : Prop :=
  b < w.heap.size ∧ w.cell? ⟨b, 0, none⟩ = some x ∧ w.cell? ⟨b, 1, none⟩ = some y ∧ w.cell? ⟨b, 2, none⟩ = some z ∧ w.cell? ⟨b, 3, none⟩ = some u ∧ w.cell? ⟨b, 4, none⟩ = some v
/-- Steps that make blocks, or lay these five values in a block. -/
structure Lays (x y z u v : Value) (w w' : World) : Prop where
  size : w.heap.size ≤ w'.heap.size
  ex : ∀ b j, b < w.heap.size → (∃ t, w.cell? ⟨b, j, none⟩ = some t) → ∃ t, w'.cell? ⟨b, j, none⟩ = some t
  fr : ∀ b j, b < w.heap.size → w'.frozen? ⟨b, j, none⟩ = w.frozen? ⟨b, j, none⟩
  laid : ∀ b, Laid5 w b x y z u v → Laid5 w' b x y z u v
theorem Up.lays {w w' : World} (h : Up w w') (x y z u v : Value) : Lays x y z u v w w' :=
  ⟨h.size, fun _ _ hb ⟨t, ht⟩ => ⟨t, (h.cells _ _ hb).trans ht⟩, fun _ _ hb => h.frozens _ _ hb, fun _ ⟨hb, h0, h1, h2, h3, h4⟩ => ⟨Nat.lt_of_lt_of_le hb h.size, (h.cells _ _ hb).trans h0, (h.cells _ _ hb).trans h1, (h.cells _ _ hb).trans h2, (h.cells _ _ hb).trans h3, (h.cells _ _ hb).trans h4⟩⟩
theorem IsNew5.lays {B : Nat} {t : Value} {x y z u v : Value} {w w' : World} (h : IsNew5 B t w) (m : Lays x y z u v w w') : IsNew5 B t w' := by
  obtain ⟨b, hv, h2, h3, h4, h5⟩ := h
  exact ⟨b, hv, h2, Nat.lt_of_lt_of_le h3 m.size, fun j hj => m.ex b j h3 (h4 j hj), fun j => (m.fr b j h3).trans (h5 j)⟩
/-- The laying. -/
theorem lays_put {w : World} {b : Nat} (r : Rule) (s : Value) (hl : b < w.heap.size) (hs : ∀ j, j < 5 → ∃ u, w.cell? ⟨b, j, none⟩ = some u) :
    Lays (.int .i64 r.kd) (.int .i64 r.a) (.int .i64 r.b) (.int .i64 r.c) s w (putR w b 0 r s) ∧ Laid5 (putR w b 0 r s) b (.int .i64 r.kd) (.int .i64 r.a) (.int .i64 r.b) (.int .i64 r.c) s := by
  obtain ⟨k0, k1, k2, k3, k4⟩ := putR_at (r := r) (s := s) (o := 0) (fun k hk => by rw [Nat.zero_add]; exact hs k hk); simp only [Nat.zero_add] at k0 k1 k2 k3 k4
  have hL : Laid5 (putR w b 0 r s) b (.int .i64 r.kd) (.int .i64 r.a) (.int .i64 r.b) (.int .i64 r.c) s := ⟨by rw [putR_size]; exact hl, k0, k1, k2, k3, k4⟩
  refine ⟨⟨by rw [putR_size]; exact Nat.le_refl _, fun b' j _ ⟨t, ht⟩ => ?_, fun b' j _ => putR_frozen _ _ _ _ _ _, fun b' h' => ?_⟩, hL⟩
  · unfold putR
    obtain ⟨v1, h1⟩ := setCell_some (p := ⟨b, 0, none⟩) (u := .int .i64 r.kd) ht; obtain ⟨v2, h2⟩ := setCell_some (p := ⟨b, 0 + 1, none⟩) (u := .int .i64 r.a) h1; obtain ⟨v3, h3⟩ := setCell_some (p := ⟨b, 0 + 2, none⟩) (u := .int .i64 r.b) h2; obtain ⟨v4, h4⟩ := setCell_some (p := ⟨b, 0 + 3, none⟩) (u := .int .i64 r.c) h3
    exact setCell_some h4
  · by_cases hbb : b = b'
    · subst hbb
      exact hL
    · obtain ⟨h0, h1, h2, h3, h4, h5⟩ := h'
      have f : ∀ j, (putR w b 0 r s).cell? ⟨b', j, none⟩ = w.cell? ⟨b', j, none⟩ := fun j => putR_other _ _ _ _ _ _ _ (.inl hbb)
      exact ⟨by rw [putR_size]; exact h0, (f 0).trans h1, (f 1).trans h2, (f 2).trans h3, (f 3).trans h4, (f 4).trans h5⟩
theorem rulesB_of {many kd : Int} : ∀ {bf : Int} {rs : List Rule} {r : Rule}, rulesB many bf rs = true → ruleOf kd rs = some r → ruleB r many = true
  | _, [], _, _, h => by cases h
  | bf, x :: rs, r, hb, h => by
    rw [rulesB, Bool.and_eq_true, Bool.and_eq_true] at hb; rw [ruleOf] at h
    by_cases hk : x.kd = kd
    · rw [if_pos hk] at h
      injection h with h
      subst h
      exact hb.1.2
    · rw [if_neg hk] at h
      exact rulesB_of hb.2 h
theorem mdlB_rule {m : Mdl} {i : Nat} {kd : Int} {r : Rule} (hm : mdlB m = true) (hi : i < m.rules.length) (h : ruleOf kd (m.rules.getD i []) = some r) : ruleB r m.rules.length = true := by
  simp only [mdlB, Bool.and_eq_true, List.all_eq_true] at hm; refine rulesB_of (hm.2 (m.rules.getD i []) ?_) h; rw [List.getD, List.getElem?_eq_getElem hi]
  exact List.getElem_mem hi
theorem mdlB_til {m : Mdl} (hm : mdlB m = true) : 0 ≤ m.til ∧ m.til ≤ 99 := by
  simp only [mdlB, Bool.and_eq_true] at hm
  exact inB_iff.1 hm.1.1.2
theorem ruleB_parts {r : Rule} {many : Int} (h : ruleB r many = true) : (∀ i, i < r.sends.length → sndB (r.sends.getD i default) many = true) ∧ r.sends.length ≤ 2 ∧ (0 ≤ r.a ∧ r.a ≤ 96) ∧ (0 ≤ r.b ∧ r.b ≤ 96) ∧ (0 ≤ r.c ∧ r.c ≤ 96) := by
  simp only [ruleB, Bool.and_eq_true, decide_eq_true_eq, inB_iff, List.all_eq_true] at h; obtain ⟨⟨⟨⟨⟨h1, h2⟩, _⟩, h4⟩, h5⟩, h6⟩ := h; refine ⟨fun i hi => h1 _ ?_, by omega, h4, h5, h6⟩; rw [List.getD, List.getElem?_eq_getElem hi]
  exact List.getElem_mem hi
theorem sndB_parts {x : Evt} {many : Int} (h : sndB x many = true) : (1 ≤ x.to ∧ x.to ≤ 9) ∧ (0 ≤ x.sq ∧ x.sq ≤ 96) ∧ (1 ≤ x.kd ∧ x.kd ≤ 9) := by
  simp only [sndB, Bool.and_eq_true, inB_iff] at h; obtain ⟨⟨⟨⟨⟨_, h1⟩, _⟩, h2⟩, h3⟩, _⟩ := h
  exact ⟨h1, h2, h3⟩
theorem sendsE_drop (til s : Int) (e : Evt) (xs : List Evt) (k : Nat) (q : Int) (h : k < xs.length) :
    sendsE til s e (xs.drop k) q = if s % (xs.getD k default).kd ≠ (xs.getD k default).dt ∨ q = 12 then sendsE til s e (xs.drop (k + 1)) q
      else if e.t + (xs.getD k default).to ≤ til then (⟨e.t + (xs.getD k default).to, (xs.getD k default).t, e.to, q, (xs.getD k default).fr, (s + (xs.getD k default).sq) % 97⟩ :: (sendsE til s e (xs.drop (k + 1)) (q + 1)).1, (sendsE til s e (xs.drop (k + 1)) (q + 1)).2)
      else sendsE til s e (xs.drop (k + 1)) (q + 1) := by
  rw [List.drop_eq_getElem_cons h, sendsE]; simp [h]
/-- What the loop over the sends keeps. -/
structure Kept (w : World) (b3 b4 b5 b6 b9 : Nat) (x y z : Value) (S q ct : Int) (e : Evt) (u0 u1 u2 u3 u4 : Value) : Prop where
  k3 : Box3 w b3 x y z
  k4 : Cell3 w b4 S q ct
  k5 : Box w b5 e
  k6 : Cell3 w b6 0 0 0
  k9 : Laid5 w b9 u0 u1 u2 u3 u4
section
variable {w w' : World} {b3 b4 b5 b6 b9 : Nat} {x y z : Value} {S q ct : Int} {e : Evt} {u0 u1 u2 u3 u4 : Value}
theorem Laid5.keep {b : Nat} (h : Laid5 w b u0 u1 u2 u3 u4) (hs : w.heap.size ≤ w'.heap.size) (hc : ∀ o, w'.cell? ⟨b, o, none⟩ = w.cell? ⟨b, o, none⟩) : Laid5 w' b u0 u1 u2 u3 u4 :=
  ⟨Nat.lt_of_lt_of_le h.1 hs, (hc 0).trans h.2.1, (hc 1).trans h.2.2.1, (hc 2).trans h.2.2.2.1, (hc 3).trans h.2.2.2.2.1, (hc 4).trans h.2.2.2.2.2⟩
theorem Box3.keep {b : Nat} (h : Box3 w b x y z) (hs : w.heap.size ≤ w'.heap.size) (hc : ∀ o, w'.cell? ⟨b, o, none⟩ = w.cell? ⟨b, o, none⟩) : Box3 w' b x y z :=
  ⟨Nat.lt_of_lt_of_le h.lt hs, (hc 0).trans h.c0, (hc 1).trans h.c1, (hc 2).trans h.c2⟩
theorem Cell3.keep {b : Nat} {i j l : Int} (h : Cell3 w b i j l) (hs : w.heap.size ≤ w'.heap.size) (hc : ∀ o, w'.cell? ⟨b, o, none⟩ = w.cell? ⟨b, o, none⟩) (hf : ∀ o, w'.frozen? ⟨b, o, none⟩ = w.frozen? ⟨b, o, none⟩) : Cell3 w' b i j l :=
  ⟨Nat.lt_of_lt_of_le h.lt hs, (hc 0).trans h.c0, (hc 1).trans h.c1, (hc 2).trans h.c2, fun o => (hf o).trans (h.f o)⟩
theorem Kept.up (h : Kept w b3 b4 b5 b6 b9 x y z S q ct e u0 u1 u2 u3 u4) (u : Up w w') : Kept w' b3 b4 b5 b6 b9 x y z S q ct e u0 u1 u2 u3 u4 :=
  ⟨h.k3.up u, h.k4.keep u.size (fun _ => u.cells _ _ h.k4.lt) (fun _ => u.frozens _ _ h.k4.lt), h.k5.up u, h.k6.keep u.size (fun _ => u.cells _ _ h.k6.lt) (fun _ => u.frozens _ _ h.k6.lt), h.k9.keep u.size (fun _ => u.cells _ _ h.k9.1)⟩
theorem Kept.grown {row : Option Nat} (h : Kept w b3 b4 b5 b6 b9 x y z S q ct e u0 u1 u2 u3 u4) (hg : w.grownBy w' row) (h3 : some b3 ≠ row) (h4 : some b4 ≠ row) (h5 : some b5 ≠ row) (h6 : some b6 ≠ row) (h9 : some b9 ≠ row) : Kept w' b3 b4 b5 b6 b9 x y z S q ct e u0 u1 u2 u3 u4 :=
  ⟨h.k3.keep hg.size (fun _ => World.cell?_of_block (hg.block b3 h.k3.lt h3)), h.k4.keep hg.size (fun _ => World.cell?_of_block (hg.block b4 h.k4.lt h4)) (fun _ => World.frozen?_of_block (hg.block b4 h.k4.lt h4)), h.k5.grown hg h5, h.k6.keep hg.size (fun _ => World.cell?_of_block (hg.block b6 h.k6.lt h6)) (fun _ => World.frozen?_of_block (hg.block b6 h.k6.lt h6)), h.k9.keep hg.size (fun _ => World.cell?_of_block (hg.block b9 h.k9.1 h9))⟩
theorem Kept.set4 (h : Kept w b3 b4 b5 b6 b9 x y z S q ct e u0 u1 u2 u3 u4) (n3 : b4 ≠ b3) (n5 : b4 ≠ b5) (n6 : b4 ≠ b6) (n9 : b4 ≠ b9) {j : Nat} {t : Value} {S' q' : Int} (hc : Cell3 (w.setCell ⟨b4, j, none⟩ t) b4 S' q' ct) : Kept (w.setCell ⟨b4, j, none⟩ t) b3 b4 b5 b6 b9 x y z S' q' ct e u0 u1 u2 u3 u4 :=
  ⟨h.k3.keep (by simp) (fun _ => World.cell?_setCell_other _ _ _ _ (addr_ne (.inl n3))), hc, h.k5.setFar n5 _, h.k6.far n6 _, h.k9.keep (by simp) (fun _ => World.cell?_setCell_other _ _ _ _ (addr_ne (.inl n9)))⟩
end
/-- The operations of the region that finds the rule. -/
def dP (b3 b5 : Nat) (A : Option Addr) (n c : Nat) (bA off : Nat) (e : Evt) (A' : Option Addr) (n' c' : Nat) (U : Value) (ok : Bool) (i : Nat) (v : Value) : Prop :=
  if i = 0 then v = .pointer (some ⟨b3, 0, none⟩) else if i = 1 then v = .slice A n c else if i = 2 then v = .pointer (some ⟨b5, 1, none⟩) else if i = 3 then v = .int .i64 e.to
  else if i = 4 then v = .pointer (some ⟨bA, off + e.to.toNat, none⟩) else if i = 5 then v = .slice A' n' c' else if i = 6 then v = .pointer (some ⟨b5, 4, none⟩) else if i = 7 then v = .int .i64 e.kd
  else if i = 8 ∨ i = 9 then v = .tuple #[U, .bool ok] else if i = 10 then v = U else v = .bool ok
def dR (b3 b5 : Nat) (A : Option Addr) (n c : Nat) (bA off : Nat) (e : Evt) (A' : Option Addr) (n' c' : Nat) (r : Rule) (s : Value) (ok : Bool) (B : Nat) (i : Nat) (v : Value) (w : World) : Prop :=
  if i = 12 then IsNew5 B v w else if i = 13 then (∃ b, v = .pointer (some ⟨b, 0, none⟩) ∧ Laid5 w b (.int .i64 r.kd) (.int .i64 r.a) (.int .i64 r.b) (.int .i64 r.c) s) else dP b3 b5 A n c bA off e A' n' c' (r.v s) ok i v
theorem Cell3.up {w w' : World} {b : Nat} {i j l : Int} (h : Cell3 w b i j l) (u : Up w w') : Cell3 w' b i j l := h.keep u.size (fun _ => u.cells _ _ h.lt) (fun _ => u.frozens _ _ h.lt)
end Go.Proofs.Ytklldniapombiaa

namespace Go.Proofs.Ytklldniapombiaa
set_option maxRecDepth 100000
open Go.RowKit
theorem set3_at {w : World} {b : Nat} {x y z : Value} (h : ∀ k, k < 3 → ∃ v, w.cell? ⟨b, k, none⟩ = some v) :
    (((w.setCell ⟨b, 0, none⟩ x).setCell ⟨b, 1, none⟩ y).setCell ⟨b, 2, none⟩ z).cell? ⟨b, 0, none⟩ = some x ∧ (((w.setCell ⟨b, 0, none⟩ x).setCell ⟨b, 1, none⟩ y).setCell ⟨b, 2, none⟩ z).cell? ⟨b, 1, none⟩ = some y ∧ (((w.setCell ⟨b, 0, none⟩ x).setCell ⟨b, 1, none⟩ y).setCell ⟨b, 2, none⟩ z).cell? ⟨b, 2, none⟩ = some z := by
  have ne : ∀ k j, k ≠ j → (⟨b, k, none⟩ : Addr) ≠ ⟨b, j, none⟩ := fun k j hk => addr_ne (by omega)
  obtain ⟨v0, h0⟩ := h 0 (by omega); obtain ⟨v1, h1⟩ := h 1 (by omega); obtain ⟨v2, h2⟩ := h 2 (by omega); refine ⟨?_, ?_, ?_⟩
  · rw [World.cell?_setCell_other _ _ _ _ (ne 2 0 (by omega)), World.cell?_setCell_other _ _ _ _ (ne 1 0 (by omega))]
    exact World.cell?_setCell_same _ _ _ h0
  · rw [World.cell?_setCell_other _ _ _ _ (ne 2 1 (by omega))]
    exact World.cell?_setCell_same _ _ _ ((World.cell?_setCell_other _ _ _ _ (ne 0 1 (by omega))).trans h1)
  · exact World.cell?_setCell_same _ _ _ ((World.cell?_setCell_other _ _ _ _ (ne 1 2 (by omega))).trans ((World.cell?_setCell_other _ _ _ _ (ne 0 2 (by omega))).trans h2))
theorem free_new (w : World) (xs : Array Value) (t : TypeId) (j : Nat) : (w.alloc (.cells xs t)).frozen? ⟨w.heap.size, j, none⟩ = false := by
  have hh := heap_alloc_new w (.cells xs t)
  unfold World.frozen?; rw [hh]; simp
end Go.Proofs.Ytklldniapombiaa

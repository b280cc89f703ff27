/-
  Models in memory, in one sentence: what it means that cells hold a rule, rules, rows of rules and a model, and what both MdlOk compute; no condition is made.
-/
import Derived.Test.YtojnphchkdjafaaEvs
import Derived.Test.YtojnphchkdjafaaSOk
namespace Go.Proofs.Ytojnphchkdjafaa
set_option maxRecDepth 100000
open Go.RowKit

/-- A rule: kind, a, b, c, and what it sends (to, delay, kind, plus, mod, rem). -/
structure Rule where
  kd : Int
  a : Int
  b : Int
  c : Int
  sends : List Evt
instance : Inhabited Rule := ⟨⟨0, 0, 0, 0, []⟩⟩
deriving instance DecidableEq for Rule

def Rule.v (r : Rule) (s : Value) : Value := .agg #[.int .i64 r.kd, .int .i64 r.a, .int .i64 r.b, .int .i64 r.c, s]

/-- The five cells of a rule, from o on. -/
def RuleAt (w : World) (b o : Nat) (r : Rule) : Prop :=
  ∃ A n c, (w.cell? ⟨b, o, none⟩ = some (.int .i64 r.kd) ∧ w.cell? ⟨b, o + 1, none⟩ = some (.int .i64 r.a) ∧ w.cell? ⟨b, o + 2, none⟩ = some (.int .i64 r.b) ∧ w.cell? ⟨b, o + 3, none⟩ = some (.int .i64 r.c) ∧ w.cell? ⟨b, o + 4, none⟩ = some (.slice A n c)) ∧
    n ≤ 9223372036854775807 ∧ Evs w A n r.sends
def Rules (w : World) (A : Option Addr) (n : Nat) (rs : List Rule) : Prop :=
  rs.length = n ∧ n ≤ 9223372036854775807 ∧ (0 < n → ∃ b off, A = some ⟨b, off, none⟩ ∧ b < w.heap.size ∧ ∀ i, i < n → RuleAt w b (off + i * 5) (rs.getD i default))
def Rulz (w : World) (A : Option Addr) (n : Nat) (rss : List (List Rule)) : Prop :=
  rss.length = n ∧ n ≤ 9223372036854775807 ∧ (0 < n → ∃ b off, A = some ⟨b, off, none⟩ ∧ b < w.heap.size ∧ ∀ i, i < n → ∃ A' n' c', w.cell? ⟨b, off + i, none⟩ = some (.slice A' n' c') ∧ Rules w A' n' (rss.getD i []))

theorem RuleAt.up {w w' : World} {b o : Nat} {r : Rule} (h : RuleAt w b o r) (u : Up w w') (hb : b < w.heap.size) : RuleAt w' b o r := by
  obtain ⟨A, n, c, ⟨h0, h1, h2, h3, h4⟩, hn, hE⟩ := h
  exact ⟨A, n, c, ⟨(u.cells _ _ hb).trans h0, (u.cells _ _ hb).trans h1, (u.cells _ _ hb).trans h2, (u.cells _ _ hb).trans h3, (u.cells _ _ hb).trans h4⟩, hn, hE.up u⟩
theorem Rules.up {w w' : World} {A : Option Addr} {n : Nat} {rs : List Rule} (h : Rules w A n rs) (u : Up w w') : Rules w' A n rs :=
  ⟨h.1, h.2.1, fun hn => by
    obtain ⟨b, off, hA, hb, hc⟩ := h.2.2 hn
    exact ⟨b, off, hA, by have := u.size; omega, fun i hi => (hc i hi).up u hb⟩⟩
theorem Rulz.up {w w' : World} {A : Option Addr} {n : Nat} {rss : List (List Rule)} (h : Rulz w A n rss) (u : Up w w') : Rulz w' A n rss :=
  ⟨h.1, h.2.1, fun hn => by
    obtain ⟨b, off, hA, hb, hc⟩ := h.2.2 hn
    exact ⟨b, off, hA, by have := u.size; omega, fun i hi => by
      obtain ⟨A', n', c', h1, h2⟩ := hc i hi
      exact ⟨A', n', c', (u.cells _ _ hb).trans h1, h2.up u⟩⟩⟩

/-- A model. -/
structure Mdl where
  rules : List (List Rule)
  starts : List Evt
  til : Int
deriving DecidableEq
/-- Its value, over these slices. -/
structure MdlV (w : World) (A : Option Addr) (n : Nat) (B : Option Addr) (k : Nat) (m : Mdl) : Prop where
  rules : Rulz w A n m.rules
  starts : Evs w B k m.starts
  big : k ≤ 9223372036854775807
theorem MdlV.up {w w' : World} {A B : Option Addr} {n k : Nat} {m : Mdl} (h : MdlV w A n B k m) (u : Up w w') : MdlV w' A n B k m := ⟨h.rules.up u, h.starts.up u, h.big⟩

def ruleB (r : Rule) (many : Int) : Bool :=
  r.sends.all (fun e => sndB e many) && decide ((r.sends.length : Int) ≤ 2) && inB r.kd 0 2 && inB r.a 0 96 && inB r.b 0 96 && inB r.c 0 96
/-- Rules behind one of kind bf. -/
def rulesB (many bf : Int) : List Rule → Bool
  | [] => true
  | r :: rs => decide (bf < r.kd) && ruleB r many && rulesB many r.kd rs
def startB (til many : Int) (e : Evt) : Bool := decide (e.fr = -1) && decide (e.t ≤ til) && okB e many

theorem all_drop {α : Type} {f : α → Bool} {d : α} (es : List α) (k : Nat) (h : k < es.length) : (es.drop k).all f = (f (es.getD k d) && (es.drop (k + 1)).all f) := by
  rw [List.drop_eq_getElem_cons h, List.all_cons]
  simp [h]
theorem all_end {α : Type} {f : α → Bool} (es : List α) (k : Nat) (h : es.length ≤ k) : (es.drop k).all f = true := by
  rw [List.drop_eq_nil_of_le h]; rfl
theorem rulesB_drop (many bf : Int) (rs : List Rule) (k : Nat) (h : k < rs.length) : rulesB many bf (rs.drop k) = (decide (bf < (rs.getD k default).kd) && ruleB (rs.getD k default) many && rulesB many (rs.getD k default).kd (rs.drop (k + 1))) := by
  rw [List.drop_eq_getElem_cons h, rulesB]
  simp [h]
theorem rulesB_end (many bf : Int) (rs : List Rule) (k : Nat) (h : rs.length ≤ k) : rulesB many bf (rs.drop k) = true := by
  rw [List.drop_eq_nil_of_le h]; rfl

end Go.Proofs.Ytojnphchkdjafaa

/-
  What sendOk and l2Send return, in one sentence: the bool that the bounds give; for every send and every number of components in bounds.
  Models in memory, in one sentence: what it means that cells hold a rule, rules, rows of rules and a model, and what both MdlOk compute; no condition is made.
  How a model that came in is opened, in one sentence: by value it gives its rows of rules, its events and its end; no condition is made.
  Component states as values, in one sentence: three numbers, and the bounds that make one valid; no condition is made.
  What both CmpOk and toCmpState return, in one sentence: the bool that the bounds give, the same three numbers; for every component state.
  How a component state that came in is opened, in one sentence: by value it gives its three numbers; no condition is made.
  Blocks of events of the call's own, in one sentence: what the laying of an event's six cells keeps and what it gives; no condition is made.
  What a new row of cells holds, in one sentence: something in each, none frozen; no condition is made.
  What toMdlSend returns, in one sentence: the same six numbers; for every send.
  What toEvtEvt returns, in one sentence: the same six numbers; for every event.
-/
import Derived.Test.YtakmlfgkppekoaaDLEbak01
namespace Go.Proofs.Ytakmlfgkppekoaa
set_option maxRecDepth 100000
open Go.RowKit
/-- What both compute: to, delay, kind, plus, mod, rem. -/
def sndB (e : Evt) (many : Int) : Bool :=
  inB e.t 0 (many - 1) && inB e.to 1 9 && inB e.fr 0 2 && inB e.sq 0 96 && inB e.kd 1 9 && inB e.dt 0 (e.kd - 1)
set_option maxHeartbeats 2000000 in
theorem implSnd_any (e : Evt) (many : Int) (hm1 : 1 ≤ many) (hm2 : many ≤ 4) (w : World) :
    Calls Try.prog 150 #[e.v, .int .i64 many] w fun x w' => x = .returned (.bool (sndB e many)) ∧ Up w w' := by
  unfold sndB; obtain ⟨et, eto, efr, esq, ekd, edt⟩ := e; unfold Evt.v; dsimp only
  by_cases hk : 1 ≤ ekd ∧ ekd ≤ 9
  · have hin : inB ekd 1 9 = true := inB_iff.2 hk
    obtain ⟨hk1, hk2⟩ := hk
    go_enter Try.func150, Try.ntmps150
    go_wp2_with (go_at_call 65; refine (within_any _ _ _ _).mono ?_; rintro e w' ⟨rfl, rfl⟩)
    all_goals go_ret
    all_goals exact ⟨ret_bool (by simp [*]), (Up.refl _).alloc _⟩
  · have hin : inB ekd 1 9 = false := inB_no.2 hk
    clear hk
    go_enter Try.func150, Try.ntmps150
    go_wp2_with (go_at_call 65; refine (within_any _ _ _ _).mono ?_; rintro e w' ⟨rfl, rfl⟩)
    all_goals go_ret
    all_goals exact ⟨ret_bool (by simp [*]), (Up.refl _).alloc _⟩
set_option maxHeartbeats 2000000 in
theorem specSnd_any (e : Evt) (many : Int) (hm1 : 1 ≤ many) (hm2 : many ≤ 4) (w : World) :
    Calls Try.prog 119 #[e.v, .int .i64 many] w fun x w' => x = .returned (.bool (sndB e many)) ∧ Up w w' := by
  unfold sndB; obtain ⟨et, eto, efr, esq, ekd, edt⟩ := e; unfold Evt.v; dsimp only
  by_cases hk : 1 ≤ ekd ∧ ekd ≤ 9
  · have hin : inB ekd 1 9 = true := inB_iff.2 hk
    obtain ⟨hk1, hk2⟩ := hk
    go_enter Try.func119, Try.ntmps119
    go_wp2_with (go_at_call 64; refine (l1In_any _ _ _ _).mono ?_; rintro e w' ⟨rfl, rfl⟩)
    all_goals go_ret
    all_goals exact ⟨ret_bool (by simp [*]), (Up.refl _).alloc _⟩
  · have hin : inB ekd 1 9 = false := inB_no.2 hk
    clear hk
    go_enter Try.func119, Try.ntmps119
    go_wp2_with (go_at_call 64; refine (l1In_any _ _ _ _).mono ?_; rintro e w' ⟨rfl, rfl⟩)
    all_goals go_ret
    all_goals exact ⟨ret_bool (by simp [*]), (Up.refl _).alloc _⟩
end Go.Proofs.Ytakmlfgkppekoaa

namespace Go.Proofs.Ytakmlfgkppekoaa
set_option maxRecDepth 100000
open Go.RowKit
/-- A rule: kind, a, b, c, and what it sends (to, delay, kind, plus, mod, rem). -/
structure Rule where
  kd : Int
  a : Int
  b : Int
  c : Int
  sends : List Evt
instance : Inhabited Rule := ⟨⟨0, 0, 0, 0, []⟩⟩
deriving instance DecidableEq for Rule
def Rule.v (r : Rule) (s : Value) : Value := .agg #[.int .i64 r.kd, .int .i64 r.a, .int .i64 r.b, .int .i64 r.c, s]
/-- The five cells of a rule, from o on. -/
def RuleAt (w : World) (b o : Nat) (r : Rule) : Prop :=
  ∃ A n c, (w.cell? ⟨b, o, none⟩ = some (.int .i64 r.kd) ∧ w.cell? ⟨b, o + 1, none⟩ = some (.int .i64 r.a) ∧ w.cell? ⟨b, o + 2, none⟩ = some (.int .i64 r.b) ∧ w.cell? ⟨b, o + 3, none⟩ = some (.int .i64 r.c) ∧ w.cell? ⟨b, o + 4, none⟩ = some (.slice A n c)) ∧
    n ≤ 9223372036854775807 ∧ Evs w A n r.sends
def Rules (w : World) (A : Option Addr) (n : Nat) (rs : List Rule) : Prop :=
  rs.length = n ∧ n ≤ 9223372036854775807 ∧ (0 < n → ∃ b off, A = some ⟨b, off, none⟩ ∧ b < w.heap.size ∧ ∀ i, i < n → RuleAt w b (off + i * 5) (rs.getD i default))
def Rulz (w : World) (A : Option Addr) (n : Nat) (rss : List (List Rule)) : Prop :=
  rss.length = n ∧ n ≤ 9223372036854775807 ∧ (0 < n → ∃ b off, A = some ⟨b, off, none⟩ ∧ b < w.heap.size ∧ ∀ i, i < n → ∃ A' n' c', w.cell? ⟨b, off + i, none⟩ = some (.slice A' n' c') ∧ Rules w A' n' (rss.getD i []))
theorem RuleAt.up {w w' : World} {b o : Nat} {r : Rule} (h : RuleAt w b o r) (u : Up w w') (hb : b < w.heap.size) : RuleAt w' b o r := by
  obtain ⟨A, n, c, ⟨h0, h1, h2, h3, h4⟩, hn, hE⟩ := h
  exact ⟨A, n, c, ⟨(u.cells _ _ hb).trans h0, (u.cells _ _ hb).trans h1, (u.cells _ _ hb).trans h2, (u.cells _ _ hb).trans h3, (u.cells _ _ hb).trans h4⟩, hn, hE.up u⟩
theorem Rules.up {w w' : World} {A : Option Addr} {n : Nat} {rs : List Rule} (h : Rules w A n rs) (u : Up w w') : Rules w' A n rs :=
  ⟨h.1, h.2.1, fun hn => by
    obtain ⟨b, off, hA, hb, hc⟩ := h.2.2 hn
    exact ⟨b, off, hA, by have := u.size; omega, fun i hi => (hc i hi).up u hb⟩⟩
theorem Rulz.up {w w' : World} {A : Option Addr} {n : Nat} {rss : List (List Rule)} (h : Rulz w A n rss) (u : Up w w') : Rulz w' A n rss :=
  ⟨h.1, h.2.1, fun hn => by
    obtain ⟨b, off, hA, hb, hc⟩ := h.2.2 hn
    exact ⟨b, off, hA, by have := u.size; omega, fun i hi => by
      obtain ⟨A', n', c', h1, h2⟩ := hc i hi
      exact ⟨A', n', c', (u.cells _ _ hb).trans h1, h2.up u⟩⟩⟩
/-- A model. -/
structure Mdl where
  rules : List (List Rule)
  starts : List Evt
  til : Int
deriving DecidableEq
/-- Its value, over these slices. -/
structure MdlV (w : World) (A : Option Addr) (n : Nat) (B : Option Addr) (k : Nat) (m : Mdl) : Prop where
  rules : Rulz w A n m.rules
  starts : Evs w B k m.starts
  big : k ≤ 9223372036854775807
theorem MdlV.up {w w' : World} {A B : Option Addr} {n k : Nat} {m : Mdl} (h : MdlV w A n B k m) (u : Up w w') : MdlV w' A n B k m := ⟨h.rules.up u, h.starts.up u, h.big⟩
def ruleB (r : Rule) (many : Int) : Bool :=
  r.sends.all (fun e => sndB e many) && decide ((r.sends.length : Int) ≤ 2) && inB r.kd 0 2 && inB r.a 0 96 && inB r.b 0 96 && inB r.c 0 96
/-- Rules behind one of kind bf. -/
def rulesB (many bf : Int) : List Rule → Bool
  | [] => true
  | r :: rs => decide (bf < r.kd) && ruleB r many && rulesB many r.kd rs
def startB (til many : Int) (e : Evt) : Bool := decide (e.fr = -1) && decide (e.t ≤ til) && okB e many
theorem all_drop {α : Type} {f : α → Bool} {d : α} (es : List α) (k : Nat) (h : k < es.length) : (es.drop k).all f = (f (es.getD k d) && (es.drop (k + 1)).all f) := by
  rw [List.drop_eq_getElem_cons h, List.all_cons]; simp [h]
theorem all_end {α : Type} {f : α → Bool} (es : List α) (k : Nat) (h : es.length ≤ k) : (es.drop k).all f = true := by
  rw [List.drop_eq_nil_of_le h]; rfl
theorem rulesB_drop (many bf : Int) (rs : List Rule) (k : Nat) (h : k < rs.length) : rulesB many bf (rs.drop k) = (decide (bf < (rs.getD k default).kd) && ruleB (rs.getD k default) many && rulesB many (rs.getD k default).kd (rs.drop (k + 1))) := by
  rw [List.drop_eq_getElem_cons h, rulesB]; simp [h]
theorem rulesB_end (many bf : Int) (rs : List Rule) (k : Nat) (h : rs.length ≤ k) : rulesB many bf (rs.drop k) = true := by
  rw [List.drop_eq_nil_of_le h]; rfl
end Go.Proofs.Ytakmlfgkppekoaa

namespace Go.Proofs.Ytakmlfgkppekoaa
set_option maxRecDepth 100000
open Go.ChangeShapes Go.WideShapes Go.ChangeAt Go.RowKit Go.Joins Go.Deep
set_option linter.unusedVariables false
theorem cells198 : Try.prog.cellsOf 198 = 6 := by kernel_rfl
theorem hone198 : ∃ fs : Array Field, Try.prog.underlying 198 = some (.struct fs) ∧ oneCellFields Try.prog fs = true ∧ fs.size = 6 ∧ fs.map (·.type) = #[3, 3, 3, 3, 3, 3] :=
  ⟨_, Try.underlying198, by kernel_rfl, rfl, by simp⟩
/-- A list of sends that came in. -/
theorem open_sends {H : Type} {enc : TypeId × Value → H} {w : World} {base : Nat} {spare : Nat → Bool} {held : Bool} {A : Option Addr} {n cap : Nat} {d : DataW H} {p : List MemPlace}
    (h : DataW.Trod enc Try.prog w base spare held 172 (.slice A n cap) d p) : ∃ es : List Evt, Evs w A n es ∧ (∀ e ∈ es, e.ok) ∧ n ≤ 9223372036854775807 := by
  obtain ⟨fuel, hf⟩ := h; obtain ⟨fs, hu, hone, hsz, hty⟩ := hone198
  rcases open_slice_fields Try.underlying172 hu hone (by rw [hsz]; exact cells198) hf with ⟨hcs, _⟩ | ⟨a, len, c, m, D, Pl, hcs, _, hl, hm, hmm, _, hi⟩
  · simp [Value.cells] at hcs
    obtain ⟨rfl, rfl, rfl⟩ := hcs
    exact ⟨[], Evs.none_ w, (fun e he => by cases he), by omega⟩
  · simp [Value.cells] at hcs
    obtain ⟨rfl, rfl, rfl⟩ := hcs
    have hnm : n ≤ m := by rw [hmm]; split <;> omega
    have one : ∀ i, i < n → ∃ e : Evt, e.ok ∧ ∀ j, j < 6 → w.cell? (a.add (i * 6 + j)) = some (.int .i64 (e.l.getD j 0)) := by
      intro i hin; obtain ⟨ys, k, _, _, _, hj⟩ := hi i (by omega)
      have f : ∀ j, j < 6 → ∃ z : Int, I64 z ∧ w.cell? (a.add (i * 6 + j)) = some (.int .i64 z) := by
        intro j hj6
        have hjs : j < fs.size := by omega
        have htj : (fs[j]'hjs).type = 3 := by
          have e1 : (fs.map (·.type))[j]? = some (3) := by
            rw [hty]
            have h6 : j = 0 ∨ j = 1 ∨ j = 2 ∨ j = 3 ∨ j = 4 ∨ j = 5 := by omega
            rcases h6 with rfl | rfl | rfl | rfl | rfl | rfl <;> rfl
          simpa [hjs] using e1
        obtain ⟨v, y, hcell, _, ht⟩ := hj j (fs[j]'hjs) (Array.getElem?_eq_getElem hjs); rw [htj] at ht; obtain ⟨z, e, _, wz⟩ := DataW.trod_int Try.underlying3 ht; simp only [List.cons.injEq, and_true] at e; subst e; rw [hsz] at hcell
        exact ⟨z, i64_of_wf wz, hcell⟩
      obtain ⟨z0, w0, g0⟩ := f 0 (by omega); obtain ⟨z1, w1, g1⟩ := f 1 (by omega); obtain ⟨z2, w2, g2⟩ := f 2 (by omega); obtain ⟨z3, w3, g3⟩ := f 3 (by omega); obtain ⟨z4, w4, g4⟩ := f 4 (by omega); obtain ⟨z5, w5, g5⟩ := f 5 (by omega); refine ⟨⟨z0, z1, z2, z3, z4, z5⟩, ⟨w0, w1, w2, w3, w4, w5⟩, fun j hj6 => ?_⟩
      have h6 : j = 0 ∨ j = 1 ∨ j = 2 ∨ j = 3 ∨ j = 4 ∨ j = 5 := by omega
      rcases h6 with rfl | rfl | rfl | rfl | rfl | rfl
      · exact g0
      · exact g1
      · exact g2
      · exact g3
      · exact g4
      · exact g5
    obtain ⟨es, hlen, hes⟩ := list_of n one
    have hmax : n ≤ 9223372036854775807 := by unfold maxLen at hm; omega
    refine ⟨es, ⟨hlen, fun hn => ?_⟩, (fun e he => ?_), hmax⟩
    · obtain ⟨b, off, spot⟩ := a
      have c0 := (hes 0 hn).2 0 (by omega)
      have hspot : spot = none := by simpa [Addr.add] using World.cell?_spot c0
      subst hspot
      have c0' : w.cell? ⟨b, off, none⟩ = some (.int .i64 ((es.getD 0 default).l.getD 0 0)) := by simpa [Addr.add] using c0
      have add : ∀ k, (⟨b, off, none⟩ : Addr).add k = ⟨b, off + k, none⟩ := fun k => by
        unfold Addr.add
        split
        · rename_i h0; subst h0; rfl
        · rfl
      refine ⟨b, off, rfl, block_lt c0', fun i hin => ?_⟩
      have g := (hes i hin).2
      simp only [add] at g
      generalize es.getD i default = e at g
      obtain ⟨z0, z1, z2, z3, z4, z5⟩ := e
      exact ⟨g 0 (by omega), by have := g 1 (by omega); simpa [Nat.add_assoc, Evt.l] using this, by have := g 2 (by omega); simpa [Nat.add_assoc, Evt.l] using this, by have := g 3 (by omega); simpa [Nat.add_assoc, Evt.l] using this, by have := g 4 (by omega); simpa [Nat.add_assoc, Evt.l] using this, by have := g 5 (by omega); simpa [Nat.add_assoc, Evt.l] using this⟩
    · obtain ⟨i, hi2, rfl⟩ := List.getElem_of_mem he
      have := (hes i (by omega)).1
      simpa [hi2] using this
theorem cells174 : Try.prog.cellsOf 174 = 5 := by kernel_rfl
theorem hone174 : ∃ fs : Array Field, Try.prog.underlying 174 = some (.struct fs) ∧ oneCellFields Try.prog fs = true ∧ fs.size = 5 ∧ fs.map (·.type) = #[3, 3, 3, 3, 172] :=
  ⟨_, Try.underlying174, by kernel_rfl, rfl, by simp⟩
theorem add_plain (b off k : Nat) : (⟨b, off, none⟩ : Addr).add k = ⟨b, off + k, none⟩ := by
  unfold Addr.add
  split
  · rename_i h0; subst h0; rfl
  · rfl
/-- Rules that came in. -/
theorem open_rules {H : Type} {enc : TypeId × Value → H} {w : World} {base : Nat} {spare : Nat → Bool} {held : Bool} {v : Value} {fuel : Nat} {y : DataW H × List MemPlace}
    (hf : DataW.trod enc Try.prog w base spare held fuel 136 [v] = some y) : ∃ A n c rs, v = .slice A n c ∧ Rules w A n rs := by
  obtain ⟨fs, hu, hone, hsz, hty⟩ := hone174
  rcases open_slice_fields Try.underlying136 hu hone (by rw [hsz]; exact cells174) hf with ⟨hcs, _⟩ | ⟨a, len, c, m, D, Pl, hcs, _, hl, hm, hmm, _, hi⟩
  · simp only [List.cons.injEq, and_true] at hcs
    exact ⟨none, 0, 0, [], hcs, rfl, by omega, fun h => absurd h (by omega)⟩
  · simp only [List.cons.injEq, and_true] at hcs
    have hnm : len ≤ m := by rw [hmm]; split <;> omega
    have one : ∀ i, i < len → ∃ r : Rule, (∃ z0 z1 z2 z3 A n c, (w.cell? (a.add (i * 5)) = some (.int .i64 z0) ∧ w.cell? (a.add (i * 5 + 1)) = some (.int .i64 z1) ∧ w.cell? (a.add (i * 5 + 2)) = some (.int .i64 z2) ∧ w.cell? (a.add (i * 5 + 3)) = some (.int .i64 z3) ∧ w.cell? (a.add (i * 5 + 4)) = some (.slice A n c)) ∧ n ≤ 9223372036854775807 ∧ Evs w A n r.sends ∧ r.kd = z0 ∧ r.a = z1 ∧ r.b = z2 ∧ r.c = z3) := by
      intro i hin; obtain ⟨ys, k, _, _, _, hj⟩ := hi i (by omega); rw [hsz] at hj
      have ty : ∀ j (h : j < fs.size), (fs[j]'h).type = (#[3, 3, 3, 3, 172] : Array TypeId)[j]! := by
        intro j h
        have e1 : (fs.map (·.type))[j]! = (fs[j]'h).type := by simp [h]
        rw [← e1, hty]
      have f : ∀ j, j < 4 → ∃ z : Int, w.cell? (a.add (i * 5 + j)) = some (.int .i64 z) := by
        intro j hj4
        have hjs : j < fs.size := by omega
        obtain ⟨v, y, hcell, _, ht⟩ := hj j (fs[j]'hjs) (Array.getElem?_eq_getElem hjs); rw [ty j hjs] at ht
        have e : (#[3, 3, 3, 3, 172] : Array TypeId)[j]! = 3 := by
          have h4 : j = 0 ∨ j = 1 ∨ j = 2 ∨ j = 3 := by omega
          rcases h4 with rfl | rfl | rfl | rfl <;> rfl
        rw [e] at ht; obtain ⟨z, e, _, wz⟩ := DataW.trod_int Try.underlying3 ht; simp only [List.cons.injEq, and_true] at e; subst e
        exact ⟨z, hcell⟩
      obtain ⟨z0, g0⟩ := f 0 (by omega); obtain ⟨z1, g1⟩ := f 1 (by omega); obtain ⟨z2, g2⟩ := f 2 (by omega); obtain ⟨z3, g3⟩ := f 3 (by omega)
      have hjs : 4 < fs.size := by omega
      obtain ⟨v4, y4, hcell, _, ht⟩ := hj 4 (fs[4]'hjs) (Array.getElem?_eq_getElem hjs); rw [ty 4 hjs] at ht
      have ht : DataW.trod enc Try.prog w base spare held k 172 [v4] = some y4 := ht
      have hv : ∃ A n c, v4 = .slice A n c := by
        rcases open_slice Try.underlying172 ht with ⟨h, _⟩ | ⟨a, l, c, _, _, _, _, h, _⟩
        · exact ⟨none, 0, 0, by simpa using h⟩
        · exact ⟨some a, l, c, by simpa using h⟩
      obtain ⟨A, n, c, rfl⟩ := hv; obtain ⟨es, he, _, hn⟩ := open_sends (d := y4.1) (p := y4.2) (A := A) (n := n) (cap := c) ⟨k, by simpa [Value.cells] using ht⟩
      exact ⟨⟨z0, z1, z2, z3, es⟩, z0, z1, z2, z3, A, n, c, ⟨g0, g1, g2, g3, hcell⟩, hn, he, rfl, rfl, rfl, rfl⟩
    obtain ⟨rs, hlen, hrs⟩ := list_of len one
    have hmax : len ≤ 9223372036854775807 := by unfold maxLen at hm; omega
    refine ⟨some a, len, c, rs, hcs, hlen, hmax, fun hn => ?_⟩; obtain ⟨z0, z1, z2, z3, A, n, c', ⟨c0, _⟩, _⟩ := hrs 0 hn; obtain ⟨b, off, spot⟩ := a
    have hspot : spot = none := by simpa [Addr.add] using World.cell?_spot c0
    subst hspot; simp only [add_plain] at hrs c0; refine ⟨b, off, rfl, block_lt c0, fun i hin => ?_⟩; obtain ⟨z0, z1, z2, z3, A, n, c', ⟨k0, k1, k2, k3, k4⟩, hn', he, e0, e1, e2, e3⟩ := hrs i hin; subst e0 e1 e2 e3
    exact ⟨A, n, c', ⟨k0, by simpa [Nat.add_assoc] using k1, by simpa [Nat.add_assoc] using k2, by simpa [Nat.add_assoc] using k3, by simpa [Nat.add_assoc] using k4⟩, hn', he⟩
/-- Rows of rules that came in. -/
theorem open_rulz {H : Type} {enc : TypeId × Value → H} {w : World} {base : Nat} {spare : Nat → Bool} {held : Bool} {v : Value} {fuel : Nat} {y : DataW H × List MemPlace}
    (hf : DataW.trod enc Try.prog w base spare held fuel 24 [v] = some y) : ∃ A n c rss, v = .slice A n c ∧ Rulz w A n rss := by
  rcases open_slice1 Try.underlying24 (by kernel_rfl) hf with ⟨hcs, _⟩ | ⟨a, len, c, m, k, V, D, Pl, hcs, _, hl, hm, hmm, _, hi⟩
  · simp only [List.cons.injEq, and_true] at hcs
    exact ⟨none, 0, 0, [], hcs, rfl, by omega, fun h => absurd h (by omega)⟩
  · simp only [List.cons.injEq, and_true] at hcs
    have hnm : len ≤ m := by rw [hmm]; split <;> omega
    have one : ∀ i, i < len → ∃ rs : List Rule, ∃ A n c, w.cell? (a.add i) = some (.slice A n c) ∧ Rules w A n rs := by
      intro i hin; obtain ⟨hc, ht⟩ := hi i (by omega); obtain ⟨A, n, c, rs, hv, hr⟩ := open_rules ht
      exact ⟨rs, A, n, c, hv ▸ hc, hr⟩
    obtain ⟨rss, hlen, hrs⟩ := list_of len one
    have hmax : len ≤ 9223372036854775807 := by unfold maxLen at hm; omega
    refine ⟨some a, len, c, rss, hcs, hlen, hmax, fun hn => ?_⟩; obtain ⟨A, n, c', c0, _⟩ := hrs 0 hn; obtain ⟨b, off, spot⟩ := a
    have hspot : spot = none := by simpa [Addr.add] using World.cell?_spot c0
    subst hspot; simp only [add_plain] at hrs c0
    exact ⟨b, off, rfl, block_lt c0, fun i hin => hrs i hin⟩
theorem cells27 : Try.prog.cellsOf 27 = 3 := by kernel_rfl
theorem open_mdl {H : Type} {enc : TypeId × Value → H} {w : World} {base b0 : Nat} {spare : Nat → Bool} {held : Bool} {r : Reach} {v : Value} {d : DataW H} {p : List MemPlace}
    (hv : Value.okWide Try.prog w r b0 27 v) (h : DataW.Trod enc Try.prog w base spare held 27 v d p) :
    ∃ m : Mdl, ∃ A n c B k d, v = .agg #[.slice A n c, .slice B k d, .int .i64 m.til] ∧ MdlV w A n B k m := by
  obtain ⟨c0, c1, c2, y0, y1, y2, f, rfl, rfl, rfl, h0, h1, h2⟩ := open_agg3 Try.underlying27 (by kernel_rfl) cells27 hv h; obtain ⟨A, n, c, rss, rfl, hr⟩ := open_rulz h0
  have hv1 : ∃ B k d, c1 = .slice B k d := by
    rcases open_slice Try.underlying25 h1 with ⟨h, _⟩ | ⟨a, l, c, _, _, _, _, h, _⟩
    · exact ⟨none, 0, 0, by simpa using h⟩
    · exact ⟨some a, l, c, by simpa using h⟩
  obtain ⟨B, k, d, rfl⟩ := hv1; obtain ⟨es, he, _, hn⟩ := open_evts (d := y1.1) (p := y1.2) (A := B) (n := k) (cap := d) ⟨f, by simpa [Value.cells] using h1⟩; obtain ⟨z, e2, -, _⟩ := DataW.trod_int Try.underlying3 h2; simp only [List.cons.injEq, and_true] at e2; subst e2
  exact ⟨⟨rss, es, z⟩, A, n, c, B, k, d, rfl, ⟨hr, he, hn⟩⟩
end Go.Proofs.Ytakmlfgkppekoaa

namespace Go.Proofs.Ytakmlfgkppekoaa
set_option maxRecDepth 100000
open Go.RowKit
/-- A component's state: its three numbers. -/
structure Cst where
  s : Int
  sq : Int
  ct : Int
deriving DecidableEq
instance : Inhabited Cst := ⟨⟨0, 0, 0⟩⟩
def Cst.v (c : Cst) : Value := .agg #[.int .i64 c.s, .int .i64 c.sq, .int .i64 c.ct]
def Cst.ok (c : Cst) : Prop := I64 c.s ∧ I64 c.sq ∧ I64 c.ct
/-- What both CmpOk compute. -/
def cstB (c : Cst) : Bool := inB c.s 0 96 && inB c.sq 0 12 && decide (0 ≤ c.ct)
end Go.Proofs.Ytakmlfgkppekoaa

namespace Go.Proofs.Ytakmlfgkppekoaa
set_option maxRecDepth 100000
open Go.RowKit
theorem implCst_any (c : Cst) (w : World) :
    Calls Try.prog 75 #[c.v] w fun x w' => x = .returned (.bool (cstB c)) ∧ Up w w' := by
  unfold cstB; obtain ⟨s, q, n⟩ := c; unfold Cst.v; dsimp only
  go_enter Try.func75, Try.ntmps75
  go_wp2_with (go_at_call 65; refine (within_any _ _ _ _).mono ?_; rintro e w' ⟨rfl, rfl⟩)
  all_goals go_ret
  all_goals exact ⟨ret_bool (by simp [*]), (Up.refl _).alloc _⟩
theorem specCst_any (c : Cst) (w : World) :
    Calls Try.prog 39 #[c.v] w fun x w' => x = .returned (.bool (cstB c)) ∧ Up w w' := by
  unfold cstB; obtain ⟨s, q, n⟩ := c; unfold Cst.v; dsimp only
  go_enter Try.func39, Try.ntmps39
  go_wp2_with (go_at_call 64; refine (l1In_any _ _ _ _).mono ?_; rintro e w' ⟨rfl, rfl⟩)
  all_goals go_ret
  all_goals exact ⟨ret_bool (by simp [*]), (Up.refl _).alloc _⟩
theorem toCst_any (c : Cst) (w : World) :
    Calls Try.prog 24 #[c.v] w fun x w' => x = .returned c.v ∧ Up w w' := by
  obtain ⟨s, q, n⟩ := c; unfold Cst.v; dsimp only
  go_enter Try.func24, Try.ntmps24
  go_wp2; refine bodyPost_ret (v := .agg #[.int .i64 s, .int .i64 q, .int .i64 n]) (by simp [results, Try.results24, go_sem]) rfl ⟨rfl, (((Up.refl _).alloc _).alloc _).alloc _⟩
end Go.Proofs.Ytakmlfgkppekoaa

namespace Go.Proofs.Ytakmlfgkppekoaa
set_option maxRecDepth 100000
open Go.ChangeShapes Go.WideShapes Go.ChangeAt Go.RowKit Go.Joins Go.Deep
set_option linter.unusedVariables false
theorem cells38 : Try.prog.cellsOf 38 = 3 := by kernel_rfl
theorem open_cst {H : Type} {enc : TypeId × Value → H} {w : World} {base b0 : Nat} {spare : Nat → Bool} {held : Bool} {r : Reach} {v : Value} {d : DataW H} {p : List MemPlace}
    (hv : Value.okWide Try.prog w r b0 38 v) (h : DataW.Trod enc Try.prog w base spare held 38 v d p) :
    ∃ c : Cst, v = c.v ∧ c.ok := by
  obtain ⟨c0, c1, c2, y0, y1, y2, m, rfl, rfl, rfl, h0, h1, h2⟩ := open_agg3 Try.underlying38 (by kernel_rfl) cells38 hv h; obtain ⟨a0, e0, -, w0⟩ := DataW.trod_int Try.underlying3 h0; obtain ⟨a1, e1, -, w1⟩ := DataW.trod_int Try.underlying3 h1; obtain ⟨a2, e2, -, w2⟩ := DataW.trod_int Try.underlying3 h2; simp only [List.cons.injEq, and_true] at e0 e1 e2; subst e0 e1 e2
  exact ⟨⟨a0, a1, a2⟩, rfl, i64_of_wf w0, i64_of_wf w1, i64_of_wf w2⟩
end Go.Proofs.Ytakmlfgkppekoaa

namespace Go.Proofs.Ytakmlfgkppekoaa
set_option maxRecDepth 100000
open Go.RowKit
/-- The block g of n events, of the call's own: it holds the list, and may be written. -/
def Own (w : World) (g n : Nat) (es : List Evt) : Prop :=
  es.length = n ∧ g < w.heap.size ∧ (∀ i, i < n → EvAt w g (i * 6) (es.getD i default)) ∧ ∀ j, j < n * 6 → w.frozen? ⟨g, j, none⟩ = false
/-- A new slice of these events. -/
def NewEvs (es : List Evt) (n : Nat) (w : World) (x : Ending) (w' : World) : Prop :=
  ∃ g, x = .returned (.slice (some ⟨g, 0, none⟩) n n) ∧ w.heap.size ≤ g ∧ Own w' g n es ∧ Up w w'
/-- The block g on the way: k of its n events are laid. -/
def Part (w : World) (g n k : Nat) (es : List Evt) : Prop :=
  g < w.heap.size ∧ (∀ i, i < k → EvAt w g (i * 6) (es.getD i default)) ∧ ∀ j, j < n * 6 → (∃ v, w.cell? ⟨g, j, none⟩ = some v) ∧ w.frozen? ⟨g, j, none⟩ = false
theorem Part.up {w w' : World} {g n k : Nat} {es : List Evt} (h : Part w g n k es) (u : Up w w') : Part w' g n k es :=
  ⟨by have := u.size; have := h.1; omega, fun i hi => (h.2.1 i hi).up u h.1, fun j hj => by
    obtain ⟨⟨v, c⟩, f⟩ := h.2.2 j hj
    exact ⟨⟨v, (u.cells _ _ h.1).trans c⟩, (u.frozens _ _ h.1).trans f⟩⟩
/-- The world with an event's six cells laid. -/
def putEv (w : World) (b o : Nat) (e : Evt) : World :=
  (((((w.setCell ⟨b, o, none⟩ (.int .i64 e.t)).setCell ⟨b, o + 1, none⟩ (.int .i64 e.to)).setCell ⟨b, o + 2, none⟩ (.int .i64 e.fr)).setCell ⟨b, o + 3, none⟩ (.int .i64 e.sq)).setCell ⟨b, o + 4, none⟩ (.int .i64 e.kd)).setCell ⟨b, o + 5, none⟩ (.int .i64 e.dt)
theorem addr_ne {b b' o o' : Nat} (h : b ≠ b' ∨ o ≠ o') : (⟨b, o, none⟩ : Addr) ≠ ⟨b', o', none⟩ := by
  intro e
  injection e with e1 e2
  rcases h with h | h
  · exact h e1
  · exact h e2
theorem putEv_other (w : World) (b o : Nat) (e : Evt) (b' o' : Nat) (h : b ≠ b' ∨ o' < o ∨ o + 6 ≤ o') : (putEv w b o e).cell? ⟨b', o', none⟩ = w.cell? ⟨b', o', none⟩ := by
  unfold putEv
  have f : ∀ k, k < 6 → (⟨b, o + k, none⟩ : Addr) ≠ ⟨b', o', none⟩ := fun k hk => addr_ne (by omega)
  have f0 : (⟨b, o, none⟩ : Addr) ≠ ⟨b', o', none⟩ := addr_ne (by omega)
  rw [World.cell?_setCell_other _ _ _ _ (f 5 (by omega)), World.cell?_setCell_other _ _ _ _ (f 4 (by omega)), World.cell?_setCell_other _ _ _ _ (f 3 (by omega)), World.cell?_setCell_other _ _ _ _ (f 2 (by omega)), World.cell?_setCell_other _ _ _ _ (f 1 (by omega)), World.cell?_setCell_other _ _ _ _ f0]
theorem putEv_frozen (w : World) (b o : Nat) (e : Evt) (a : Addr) : (putEv w b o e).frozen? a = w.frozen? a := by
  unfold putEv; simp [go_sem]
theorem putEv_size (w : World) (b o : Nat) (e : Evt) : (putEv w b o e).heap.size = w.heap.size := by
  unfold putEv; simp
theorem Up.putEv {a w : World} (h : Up a w) {b o : Nat} {e : Evt} (hb : a.heap.size ≤ b) : Up a (putEv w b o e) :=
  (((((h.setCell hb _).setCell hb _).setCell hb _).setCell hb _).setCell hb _).setCell hb _
/-- What a cell of the row holds behind the laying: something. -/
theorem setCell_some {w : World} {p q : Addr} {u v : Value} (h : w.cell? q = some v) : ∃ v', (w.setCell p u).cell? q = some v' := by
  by_cases e : p = q
  · subst e
    exact ⟨u, World.cell?_setCell_same _ _ _ h⟩
  · exact ⟨v, (World.cell?_setCell_other _ _ _ _ e).trans h⟩
theorem putEv_at {w : World} {b o : Nat} {e : Evt} (h : ∀ k, k < 6 → ∃ v, w.cell? ⟨b, o + k, none⟩ = some v) : EvAt (putEv w b o e) b o e := by
  have ne : ∀ k j, k ≠ j → (⟨b, o + k, none⟩ : Addr) ≠ ⟨b, o + j, none⟩ := fun k j hk => addr_ne (by omega)
  have nez : ∀ k, k ≠ 0 → (⟨b, o + k, none⟩ : Addr) ≠ ⟨b, o, none⟩ := fun k hk => addr_ne (by omega)
  unfold putEv; obtain ⟨v0, h0⟩ := h 0 (by omega); obtain ⟨v1, h1⟩ := h 1 (by omega); obtain ⟨v2, h2⟩ := h 2 (by omega); obtain ⟨v3, h3⟩ := h 3 (by omega); obtain ⟨v4, h4⟩ := h 4 (by omega); obtain ⟨v5, h5⟩ := h 5 (by omega)
  have s0 := World.cell?_setCell_same _ _ (.int .i64 e.t) h0
  have s0 : (w.setCell ⟨b, o, none⟩ (.int .i64 e.t)).cell? ⟨b, o, none⟩ = some (.int .i64 e.t) := s0
  have ne0 : ∀ j, 0 ≠ j → (⟨b, o, none⟩ : Addr) ≠ ⟨b, o + j, none⟩ := fun j hj => addr_ne (by omega)
  generalize hw0 : w.setCell ⟨b, o, none⟩ (.int .i64 e.t) = w0 at s0 ⊢
  have g1 : w0.cell? ⟨b, o + 1, none⟩ = some v1 := by rw [← hw0, World.cell?_setCell_other _ _ _ _ (ne0 1 (by omega))]; exact h1
  have g2 : w0.cell? ⟨b, o + 2, none⟩ = some v2 := by rw [← hw0, World.cell?_setCell_other _ _ _ _ (ne0 2 (by omega))]; exact h2
  have g3 : w0.cell? ⟨b, o + 3, none⟩ = some v3 := by rw [← hw0, World.cell?_setCell_other _ _ _ _ (ne0 3 (by omega))]; exact h3
  have g4 : w0.cell? ⟨b, o + 4, none⟩ = some v4 := by rw [← hw0, World.cell?_setCell_other _ _ _ _ (ne0 4 (by omega))]; exact h4
  have g5 : w0.cell? ⟨b, o + 5, none⟩ = some v5 := by rw [← hw0, World.cell?_setCell_other _ _ _ _ (ne0 5 (by omega))]; exact h5
  simp only [EvAt]; refine ⟨?_, ?_, ?_, ?_, ?_, ?_⟩
  · rw [World.cell?_setCell_other _ _ _ _ (nez 5 (by omega)), World.cell?_setCell_other _ _ _ _ (nez 4 (by omega)), World.cell?_setCell_other _ _ _ _ (nez 3 (by omega)), World.cell?_setCell_other _ _ _ _ (nez 2 (by omega)), World.cell?_setCell_other _ _ _ _ (nez 1 (by omega))]
    exact s0
  · rw [World.cell?_setCell_other _ _ _ _ (ne 5 1 (by omega)), World.cell?_setCell_other _ _ _ _ (ne 4 1 (by omega)), World.cell?_setCell_other _ _ _ _ (ne 3 1 (by omega)), World.cell?_setCell_other _ _ _ _ (ne 2 1 (by omega))]
    exact World.cell?_setCell_same _ _ _ g1
  · rw [World.cell?_setCell_other _ _ _ _ (ne 5 2 (by omega)), World.cell?_setCell_other _ _ _ _ (ne 4 2 (by omega)), World.cell?_setCell_other _ _ _ _ (ne 3 2 (by omega))]
    exact World.cell?_setCell_same _ _ _ ((World.cell?_setCell_other _ _ _ _ (ne 1 2 (by omega))).trans g2)
  · rw [World.cell?_setCell_other _ _ _ _ (ne 5 3 (by omega)), World.cell?_setCell_other _ _ _ _ (ne 4 3 (by omega))]
    exact World.cell?_setCell_same _ _ _ ((World.cell?_setCell_other _ _ _ _ (ne 2 3 (by omega))).trans ((World.cell?_setCell_other _ _ _ _ (ne 1 3 (by omega))).trans g3))
  · rw [World.cell?_setCell_other _ _ _ _ (ne 5 4 (by omega))]
    exact World.cell?_setCell_same _ _ _ ((World.cell?_setCell_other _ _ _ _ (ne 3 4 (by omega))).trans ((World.cell?_setCell_other _ _ _ _ (ne 2 4 (by omega))).trans ((World.cell?_setCell_other _ _ _ _ (ne 1 4 (by omega))).trans g4)))
  · exact World.cell?_setCell_same _ _ _ ((World.cell?_setCell_other _ _ _ _ (ne 4 5 (by omega))).trans ((World.cell?_setCell_other _ _ _ _ (ne 3 5 (by omega))).trans ((World.cell?_setCell_other _ _ _ _ (ne 2 5 (by omega))).trans ((World.cell?_setCell_other _ _ _ _ (ne 1 5 (by omega))).trans g5))))
theorem EvAt.putEv_far {w : World} {b o b' o' : Nat} {e e' : Evt} (h : EvAt w b' o' e') (hne : b ≠ b' ∨ o' + 6 ≤ o ∨ o + 6 ≤ o') : EvAt (putEv w b o e) b' o' e' := by
  obtain ⟨h0, h1, h2, h3, h4, h5⟩ := h
  exact ⟨(putEv_other _ _ _ _ _ _ (by omega)).trans h0, (putEv_other _ _ _ _ _ _ (by omega)).trans h1, (putEv_other _ _ _ _ _ _ (by omega)).trans h2, (putEv_other _ _ _ _ _ _ (by omega)).trans h3, (putEv_other _ _ _ _ _ _ (by omega)).trans h4, (putEv_other _ _ _ _ _ _ (by omega)).trans h5⟩
theorem putEv_some {w : World} {b o : Nat} {e : Evt} {q : Addr} (h : ∃ v, w.cell? q = some v) : ∃ v, (putEv w b o e).cell? q = some v := by
  obtain ⟨v, h⟩ := h; unfold putEv; obtain ⟨v, h⟩ := setCell_some (p := ⟨b, o, none⟩) (u := .int .i64 e.t) h; obtain ⟨v, h⟩ := setCell_some (p := ⟨b, o + 1, none⟩) (u := .int .i64 e.to) h; obtain ⟨v, h⟩ := setCell_some (p := ⟨b, o + 2, none⟩) (u := .int .i64 e.fr) h; obtain ⟨v, h⟩ := setCell_some (p := ⟨b, o + 3, none⟩) (u := .int .i64 e.sq) h; obtain ⟨v, h⟩ := setCell_some (p := ⟨b, o + 4, none⟩) (u := .int .i64 e.kd) h
  exact setCell_some h
theorem Part.put {w : World} {g n k : Nat} {es : List Evt} {e : Evt} (h : Part w g n k es) (he : es.getD k default = e) (hk : k < n) : Part (putEv w g (k * 6) e) g n (k + 1) es := by
  subst he; refine ⟨by rw [putEv_size]; exact h.1, fun i hi => ?_, fun j hj => ?_⟩
  · by_cases hik : i = k
    · subst hik
      exact putEv_at fun j hj => (h.2.2 (i * 6 + j) (by omega)).1
    · exact (h.2.1 i (by omega)).putEv_far (by omega)
  · obtain ⟨c, f⟩ := h.2.2 j hj
    exact ⟨putEv_some c, (putEv_frozen _ _ _ _ _).trans f⟩
theorem Part.own {w : World} {g n k : Nat} {es : List Evt} (h : Part w g n k es) (hl : es.length = n) (hk : n ≤ k) : Own w g n es :=
  ⟨hl, h.1, fun i hi => h.2.1 i (by omega), fun j hj => (h.2.2 j hj).2⟩
theorem Part.start (w : World) (n : Nat) (es : List Evt) : Part (w.alloc (.cells (madeCells #[.int .i64 0, .int .i64 0, .int .i64 0, .int .i64 0, .int .i64 0, .int .i64 0] (n * 6)) 45)) w.heap.size n 0 es := by
  refine ⟨by simp, fun i hi => absurd hi (by omega), fun j hj => ?_⟩
  have hh := heap_alloc_new w (.cells (madeCells #[.int .i64 0, .int .i64 0, .int .i64 0, .int .i64 0, .int .i64 0, .int .i64 0] (n * 6)) 45)
  refine ⟨?_, ?_⟩
  · rw [cell_of_row _ _ j _ _ _ hh]
    have : j < (madeCells #[.int .i64 0, .int .i64 0, .int .i64 0, .int .i64 0, .int .i64 0, .int .i64 0] (n * 6)).size := by rw [size_madeCells]; exact hj
    exact ⟨_, Array.getElem?_eq_getElem this⟩
  · unfold World.frozen?
    rw [hh]; simp
end Go.Proofs.Ytakmlfgkppekoaa

namespace Go.Proofs.Ytakmlfgkppekoaa
set_option maxRecDepth 100000
open Go.RowKit
theorem made_cell (w : World) (z : Array Value) (N : Nat) (t : TypeId) (j : Nat) (hj : j < N) : (∃ v, (w.alloc (.cells (madeCells z N) t)).cell? ⟨w.heap.size, j, none⟩ = some v) ∧ (w.alloc (.cells (madeCells z N) t)).frozen? ⟨w.heap.size, j, none⟩ = false := by
  have hh := heap_alloc_new w (.cells (madeCells z N) t)
  refine ⟨?_, ?_⟩
  · rw [cell_of_row _ _ j _ _ _ hh]
    have : j < (madeCells z N).size := by rw [size_madeCells]; exact hj
    exact ⟨_, Array.getElem?_eq_getElem this⟩
  · unfold World.frozen?
    rw [hh]; simp
theorem Part.begin (w : World) (n : Nat) (t : TypeId) (es : List Evt) : Part (w.alloc (.cells (madeCells #[.int .i64 0, .int .i64 0, .int .i64 0, .int .i64 0, .int .i64 0, .int .i64 0] (n * 6)) t)) w.heap.size n 0 es :=
  ⟨by simp, fun i hi => absurd hi (by omega), fun j hj => made_cell w _ _ t j hj⟩
end Go.Proofs.Ytakmlfgkppekoaa

namespace Go.Proofs.Ytakmlfgkppekoaa
set_option maxRecDepth 100000
open Go.RowKit
theorem toSnd_any (e : Evt) (w : World) :
    Calls Try.prog 157 #[e.v] w fun x w' => x = .returned e.v ∧ Up w w' := by
  obtain ⟨et, eto, efr, esq, ekd, edt⟩ := e; unfold Evt.v; dsimp only
  go_enter Try.func157, Try.ntmps157
  go_wp2; refine bodyPost_ret (v := .agg #[.int .i64 et, .int .i64 eto, .int .i64 efr, .int .i64 esq, .int .i64 ekd, .int .i64 edt]) (by simp [results, Try.results157, go_sem]) rfl ⟨rfl, (((Up.refl _).alloc _).alloc _).alloc _⟩
end Go.Proofs.Ytakmlfgkppekoaa

namespace Go.Proofs.Ytakmlfgkppekoaa
set_option maxRecDepth 100000
open Go.RowKit
theorem toEvt_any (e : Evt) (w : World) :
    Calls Try.prog 25 #[e.v] w fun x w' => x = .returned e.v ∧ Up w w' := by
  obtain ⟨et, eto, efr, esq, ekd, edt⟩ := e; unfold Evt.v; dsimp only
  go_enter Try.func25, Try.ntmps25
  go_wp2; refine bodyPost_ret (v := .agg #[.int .i64 et, .int .i64 eto, .int .i64 efr, .int .i64 esq, .int .i64 ekd, .int .i64 edt]) (by simp [results, Try.results25, go_sem]) rfl ⟨rfl, (((Up.refl _).alloc _).alloc _).alloc _⟩
end Go.Proofs.Ytakmlfgkppekoaa

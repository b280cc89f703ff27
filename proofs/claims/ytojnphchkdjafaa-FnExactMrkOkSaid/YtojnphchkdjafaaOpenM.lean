/-
  How a model that came in is opened, in one sentence: by value it gives its rows of rules, its events and its end; no condition is made.
-/
import Derived.Test.YtojnphchkdjafaaOpenA
import Derived.Test.YtojnphchkdjafaaMDef
namespace Go.Proofs.Ytojnphchkdjafaa
set_option maxRecDepth 100000
open Go.ChangeShapes Go.WideShapes Go.ChangeAt Go.RowKit Go.Joins Go.Deep
set_option linter.unusedVariables false

theorem cells193 : Try.prog.cellsOf 193 = 6 := by kernel_rfl
theorem hone193 : ∃ fs : Array Field, Try.prog.underlying 193 = some (.struct fs) ∧ oneCellFields Try.prog fs = true ∧ fs.size = 6 ∧ fs.map (·.type) = #[3, 3, 3, 3, 3, 3] :=
  ⟨_, Try.underlying193, by kernel_rfl, rfl, by simp⟩

/-- A list of sends that came in. -/
theorem open_sends {H : Type} {enc : TypeId × Value → H} {w : World} {base : Nat} {spare : Nat → Bool} {held : Bool} {A : Option Addr} {n cap : Nat} {d : DataW H} {p : List MemPlace}
    (h : DataW.Trod enc Try.prog w base spare held 144 (.slice A n cap) d p) : ∃ es : List Evt, Evs w A n es ∧ (∀ e ∈ es, e.ok) ∧ n ≤ 9223372036854775807 := by
  obtain ⟨fuel, hf⟩ := h
  obtain ⟨fs, hu, hone, hsz, hty⟩ := hone193
  rcases open_slice_fields Try.underlying144 hu hone (by rw [hsz]; exact cells193) hf with ⟨hcs, _⟩ | ⟨a, len, c, m, D, Pl, hcs, _, hl, hm, hmm, _, hi⟩
  · simp [Value.cells] at hcs
    obtain ⟨rfl, rfl, rfl⟩ := hcs
    exact ⟨[], Evs.none_ w, (fun e he => by cases he), by omega⟩
  · simp [Value.cells] at hcs
    obtain ⟨rfl, rfl, rfl⟩ := hcs
    have hnm : n ≤ m := by rw [hmm]; split <;> omega
    have one : ∀ i, i < n → ∃ e : Evt, e.ok ∧ ∀ j, j < 6 → w.cell? (a.add (i * 6 + j)) = some (.int .i64 (e.l.getD j 0)) := by
      intro i hin
      obtain ⟨ys, k, _, _, _, hj⟩ := hi i (by omega)
      have f : ∀ j, j < 6 → ∃ z : Int, I64 z ∧ w.cell? (a.add (i * 6 + j)) = some (.int .i64 z) := by
        intro j hj6
        have hjs : j < fs.size := by omega
        have htj : (fs[j]'hjs).type = 3 := by
          have e1 : (fs.map (·.type))[j]? = some (3) := by
            rw [hty]
            have h6 : j = 0 ∨ j = 1 ∨ j = 2 ∨ j = 3 ∨ j = 4 ∨ j = 5 := by omega
            rcases h6 with rfl | rfl | rfl | rfl | rfl | rfl <;> rfl
          simpa [hjs] using e1
        obtain ⟨v, y, hcell, _, ht⟩ := hj j (fs[j]'hjs) (Array.getElem?_eq_getElem hjs)
        rw [htj] at ht
        obtain ⟨z, e, _, wz⟩ := DataW.trod_int Try.underlying3 ht
        simp only [List.cons.injEq, and_true] at e
        subst e
        rw [hsz] at hcell
        exact ⟨z, i64_of_wf wz, hcell⟩
      obtain ⟨z0, w0, g0⟩ := f 0 (by omega)
      obtain ⟨z1, w1, g1⟩ := f 1 (by omega)
      obtain ⟨z2, w2, g2⟩ := f 2 (by omega)
      obtain ⟨z3, w3, g3⟩ := f 3 (by omega)
      obtain ⟨z4, w4, g4⟩ := f 4 (by omega)
      obtain ⟨z5, w5, g5⟩ := f 5 (by omega)
      refine ⟨⟨z0, z1, z2, z3, z4, z5⟩, ⟨w0, w1, w2, w3, w4, w5⟩, fun j hj6 => ?_⟩
      have h6 : j = 0 ∨ j = 1 ∨ j = 2 ∨ j = 3 ∨ j = 4 ∨ j = 5 := by omega
      rcases h6 with rfl | rfl | rfl | rfl | rfl | rfl
      · exact g0
      · exact g1
      · exact g2
      · exact g3
      · exact g4
      · exact g5
    obtain ⟨es, hlen, hes⟩ := list_of n one
    have hmax : n ≤ 9223372036854775807 := by unfold maxLen at hm; omega
    refine ⟨es, ⟨hlen, fun hn => ?_⟩, (fun e he => ?_), hmax⟩
    · obtain ⟨b, off, spot⟩ := a
      have c0 := (hes 0 hn).2 0 (by omega)
      have hspot : spot = none := by simpa [Addr.add] using World.cell?_spot c0
      subst hspot
      have c0' : w.cell? ⟨b, off, none⟩ = some (.int .i64 ((es.getD 0 default).l.getD 0 0)) := by simpa [Addr.add] using c0
      have add : ∀ k, (⟨b, off, none⟩ : Addr).add k = ⟨b, off + k, none⟩ := fun k => by
        unfold Addr.add
        split
        · rename_i h0; subst h0; rfl
        · rfl
      refine ⟨b, off, rfl, block_lt c0', fun i hin => ?_⟩
      have g := (hes i hin).2
      simp only [add] at g
      generalize es.getD i default = e at g
      obtain ⟨z0, z1, z2, z3, z4, z5⟩ := e
      exact ⟨g 0 (by omega), by have := g 1 (by omega); simpa [Nat.add_assoc, Evt.l] using this, by have := g 2 (by omega); simpa [Nat.add_assoc, Evt.l] using this, by have := g 3 (by omega); simpa [Nat.add_assoc, Evt.l] using this, by have := g 4 (by omega); simpa [Nat.add_assoc, Evt.l] using this, by have := g 5 (by omega); simpa [Nat.add_assoc, Evt.l] using this⟩
    · obtain ⟨i, hi2, rfl⟩ := List.getElem_of_mem he
      have := (hes i (by omega)).1
      simpa [hi2] using this


theorem cells146 : Try.prog.cellsOf 146 = 5 := by kernel_rfl
theorem hone146 : ∃ fs : Array Field, Try.prog.underlying 146 = some (.struct fs) ∧ oneCellFields Try.prog fs = true ∧ fs.size = 5 ∧ fs.map (·.type) = #[3, 3, 3, 3, 144] :=
  ⟨_, Try.underlying146, by kernel_rfl, rfl, by simp⟩

theorem add_plain (b off k : Nat) : (⟨b, off, none⟩ : Addr).add k = ⟨b, off + k, none⟩ := by
  unfold Addr.add
  split
  · rename_i h0; subst h0; rfl
  · rfl

/-- Rules that came in. -/
theorem open_rules {H : Type} {enc : TypeId × Value → H} {w : World} {base : Nat} {spare : Nat → Bool} {held : Bool} {v : Value} {fuel : Nat} {y : DataW H × List MemPlace}
    (hf : DataW.trod enc Try.prog w base spare held fuel 129 [v] = some y) : ∃ A n c rs, v = .slice A n c ∧ Rules w A n rs := by
  obtain ⟨fs, hu, hone, hsz, hty⟩ := hone146
  rcases open_slice_fields Try.underlying129 hu hone (by rw [hsz]; exact cells146) hf with ⟨hcs, _⟩ | ⟨a, len, c, m, D, Pl, hcs, _, hl, hm, hmm, _, hi⟩
  · simp only [List.cons.injEq, and_true] at hcs
    exact ⟨none, 0, 0, [], hcs, rfl, by omega, fun h => absurd h (by omega)⟩
  · simp only [List.cons.injEq, and_true] at hcs
    have hnm : len ≤ m := by rw [hmm]; split <;> omega
    have one : ∀ i, i < len → ∃ r : Rule, (∃ z0 z1 z2 z3 A n c, (w.cell? (a.add (i * 5)) = some (.int .i64 z0) ∧ w.cell? (a.add (i * 5 + 1)) = some (.int .i64 z1) ∧ w.cell? (a.add (i * 5 + 2)) = some (.int .i64 z2) ∧ w.cell? (a.add (i * 5 + 3)) = some (.int .i64 z3) ∧ w.cell? (a.add (i * 5 + 4)) = some (.slice A n c)) ∧ n ≤ 9223372036854775807 ∧ Evs w A n r.sends ∧ r.kd = z0 ∧ r.a = z1 ∧ r.b = z2 ∧ r.c = z3) := by
      intro i hin
      obtain ⟨ys, k, _, _, _, hj⟩ := hi i (by omega)
      rw [hsz] at hj
      have ty : ∀ j (h : j < fs.size), (fs[j]'h).type = (#[3, 3, 3, 3, 144] : Array TypeId)[j]! := by
        intro j h
        have e1 : (fs.map (·.type))[j]! = (fs[j]'h).type := by simp [h]
        rw [← e1, hty]
      have f : ∀ j, j < 4 → ∃ z : Int, w.cell? (a.add (i * 5 + j)) = some (.int .i64 z) := by
        intro j hj4
        have hjs : j < fs.size := by omega
        obtain ⟨v, y, hcell, _, ht⟩ := hj j (fs[j]'hjs) (Array.getElem?_eq_getElem hjs)
        rw [ty j hjs] at ht
        have e : (#[3, 3, 3, 3, 144] : Array TypeId)[j]! = 3 := by
          have h4 : j = 0 ∨ j = 1 ∨ j = 2 ∨ j = 3 := by omega
          rcases h4 with rfl | rfl | rfl | rfl <;> rfl
        rw [e] at ht
        obtain ⟨z, e, _, wz⟩ := DataW.trod_int Try.underlying3 ht
        simp only [List.cons.injEq, and_true] at e
        subst e
        exact ⟨z, hcell⟩
      obtain ⟨z0, g0⟩ := f 0 (by omega)
      obtain ⟨z1, g1⟩ := f 1 (by omega)
      obtain ⟨z2, g2⟩ := f 2 (by omega)
      obtain ⟨z3, g3⟩ := f 3 (by omega)
      have hjs : 4 < fs.size := by omega
      obtain ⟨v4, y4, hcell, _, ht⟩ := hj 4 (fs[4]'hjs) (Array.getElem?_eq_getElem hjs)
      rw [ty 4 hjs] at ht
      have ht : DataW.trod enc Try.prog w base spare held k 144 [v4] = some y4 := ht
      have hv : ∃ A n c, v4 = .slice A n c := by
        rcases open_slice Try.underlying144 ht with ⟨h, _⟩ | ⟨a, l, c, _, _, _, _, h, _⟩
        · exact ⟨none, 0, 0, by simpa using h⟩
        · exact ⟨some a, l, c, by simpa using h⟩
      obtain ⟨A, n, c, rfl⟩ := hv
      obtain ⟨es, he, _, hn⟩ := open_sends (d := y4.1) (p := y4.2) (A := A) (n := n) (cap := c) ⟨k, by simpa [Value.cells] using ht⟩
      exact ⟨⟨z0, z1, z2, z3, es⟩, z0, z1, z2, z3, A, n, c, ⟨g0, g1, g2, g3, hcell⟩, hn, he, rfl, rfl, rfl, rfl⟩
    obtain ⟨rs, hlen, hrs⟩ := list_of len one
    have hmax : len ≤ 9223372036854775807 := by unfold maxLen at hm; omega
    refine ⟨some a, len, c, rs, hcs, hlen, hmax, fun hn => ?_⟩
    obtain ⟨z0, z1, z2, z3, A, n, c', ⟨c0, _⟩, _⟩ := hrs 0 hn
    obtain ⟨b, off, spot⟩ := a
    have hspot : spot = none := by simpa [Addr.add] using World.cell?_spot c0
    subst hspot
    simp only [add_plain] at hrs c0
    refine ⟨b, off, rfl, block_lt c0, fun i hin => ?_⟩
    obtain ⟨z0, z1, z2, z3, A, n, c', ⟨k0, k1, k2, k3, k4⟩, hn', he, e0, e1, e2, e3⟩ := hrs i hin
    subst e0 e1 e2 e3
    exact ⟨A, n, c', ⟨k0, by simpa [Nat.add_assoc] using k1, by simpa [Nat.add_assoc] using k2, by simpa [Nat.add_assoc] using k3, by simpa [Nat.add_assoc] using k4⟩, hn', he⟩

/-- Rows of rules that came in. -/
theorem open_rulz {H : Type} {enc : TypeId × Value → H} {w : World} {base : Nat} {spare : Nat → Bool} {held : Bool} {v : Value} {fuel : Nat} {y : DataW H × List MemPlace}
    (hf : DataW.trod enc Try.prog w base spare held fuel 44 [v] = some y) : ∃ A n c rss, v = .slice A n c ∧ Rulz w A n rss := by
  rcases open_slice1 Try.underlying44 (by kernel_rfl) hf with ⟨hcs, _⟩ | ⟨a, len, c, m, k, V, D, Pl, hcs, _, hl, hm, hmm, _, hi⟩
  · simp only [List.cons.injEq, and_true] at hcs
    exact ⟨none, 0, 0, [], hcs, rfl, by omega, fun h => absurd h (by omega)⟩
  · simp only [List.cons.injEq, and_true] at hcs
    have hnm : len ≤ m := by rw [hmm]; split <;> omega
    have one : ∀ i, i < len → ∃ rs : List Rule, ∃ A n c, w.cell? (a.add i) = some (.slice A n c) ∧ Rules w A n rs := by
      intro i hin
      obtain ⟨hc, ht⟩ := hi i (by omega)
      obtain ⟨A, n, c, rs, hv, hr⟩ := open_rules ht
      exact ⟨rs, A, n, c, hv ▸ hc, hr⟩
    obtain ⟨rss, hlen, hrs⟩ := list_of len one
    have hmax : len ≤ 9223372036854775807 := by unfold maxLen at hm; omega
    refine ⟨some a, len, c, rss, hcs, hlen, hmax, fun hn => ?_⟩
    obtain ⟨A, n, c', c0, _⟩ := hrs 0 hn
    obtain ⟨b, off, spot⟩ := a
    have hspot : spot = none := by simpa [Addr.add] using World.cell?_spot c0
    subst hspot
    simp only [add_plain] at hrs c0
    exact ⟨b, off, rfl, block_lt c0, fun i hin => hrs i hin⟩

theorem cells47 : Try.prog.cellsOf 47 = 3 := by kernel_rfl

theorem open_mdl {H : Type} {enc : TypeId × Value → H} {w : World} {base b0 : Nat} {spare : Nat → Bool} {held : Bool} {r : Reach} {v : Value} {d : DataW H} {p : List MemPlace}
    (hv : Value.okWide Try.prog w r b0 47 v) (h : DataW.Trod enc Try.prog w base spare held 47 v d p) :
    ∃ m : Mdl, ∃ A n c B k d, v = .agg #[.slice A n c, .slice B k d, .int .i64 m.til] ∧ MdlV w A n B k m := by
  obtain ⟨c0, c1, c2, y0, y1, y2, f, rfl, rfl, rfl, h0, h1, h2⟩ := open_agg3 Try.underlying47 (by kernel_rfl) cells47 hv h
  obtain ⟨A, n, c, rss, rfl, hr⟩ := open_rulz h0
  have hv1 : ∃ B k d, c1 = .slice B k d := by
    rcases open_slice Try.underlying45 h1 with ⟨h, _⟩ | ⟨a, l, c, _, _, _, _, h, _⟩
    · exact ⟨none, 0, 0, by simpa using h⟩
    · exact ⟨some a, l, c, by simpa using h⟩
  obtain ⟨B, k, d, rfl⟩ := hv1
  obtain ⟨es, he, _, hn⟩ := open_evts (d := y1.1) (p := y1.2) (A := B) (n := k) (cap := d) ⟨f, by simpa [Value.cells] using h1⟩
  obtain ⟨z, e2, -, _⟩ := DataW.trod_int Try.underlying3 h2
  simp only [List.cons.injEq, and_true] at e2
  subst e2
  exact ⟨⟨rss, es, z⟩, A, n, c, B, k, d, rfl, ⟨hr, he, hn⟩⟩

end Go.Proofs.Ytojnphchkdjafaa

/-
  How a law's arguments are opened, in one sentence: an event by value gives its six numbers, a slice of events its cells; no condition is made.
  How a struct of three fields that came in is opened, in one sentence: by value it gives its fields; no condition is made.
  How a code that came in is opened, in one sentence: its bytes lie in memory; no condition is made.
  How a model that came in is opened, in one sentence: by value it gives its rows of rules, its events and its end; no condition is made.
-/
import Derived.Test.YtpainlcehgiokaaKA
import Derived.Test.YtpainlcehgiokaaChecked
import Derived.ProofKit
import Derived.OpenShut
import Derived.ShutString
import Derived.ChangeOld
import Derived.Below
import Derived.Lib.SmallJoins
import Derived.Deep.Slices
import Derived.Deep.Fields
import Derived.ChangeSame
namespace Go.Proofs.Ytpainlcehgiokaa
set_option maxRecDepth 100000
open Go.ChangeShapes Go.WideShapes Go.ChangeAt Go.RowKit Go.Joins Go.Deep
set_option linter.unusedVariables false

theorem own : ownKnob Try.prog.godebug = none := by kernel_rfl
theorem laidOut : laidOutB Try.prog = true := by kernel_rfl

section
variable {H : Type} {enc : TypeId × Value → H} {P : Program} {w : World} {base : Nat} {spare : Nat → Bool} {held : Bool}
theorem open_slice_fields {t e : TypeId} {fs : Array Field} {fuel : Nat} {cs : List Value} {x : DataW H × List MemPlace} (ht : P.underlying t = some (.slice e)) (he : P.underlying e = some (.struct fs))
    (hone : oneCellFields P fs = true) (hC : P.cellsOf e = fs.size) (h : DataW.trod enc P w base spare held fuel t cs = some x) :
    (cs = [.slice none 0 0] ∧ x = (.nil, [])) ∨
    ∃ (a : Addr) (len cap m : Nat) (D : Nat → DataW H) (Pl : Nat → List MemPlace), cs = [.slice (some a) len cap] ∧ base ≤ a.block ∧ len ≤ cap ∧ cap ≤ maxLen ∧ m = (if spare a.block then cap else len) ∧
      x = (.slice ((List.range len).map D) ((List.range (m - len)).map fun j => D (len + j)), MemPlace.row a (m * fs.size) ++ (List.range m).flatMap Pl) ∧
      ∀ i, i < m → ∃ (ys : List (DataW H × List MemPlace)) (n : Nat), D i = .agg (ys.map (·.1)) ∧ Pl i = ys.flatMap (·.2) ∧ ys.length = fs.size ∧
        ∀ (j : Nat) (f : Field), fs[j]? = some f → ∃ (v : Value) (y : DataW H × List MemPlace), w.cell? (a.add (i * fs.size + j)) = some v ∧ ys[j]? = some y ∧ DataW.trod enc P w base spare held n f.type [v] = some y := by
  rcases open_slice ht h with h0 | ⟨a, len, cap, m, n, D, Pl, hcs, hb, hl, hm, hmm, hx, hi⟩
  · exact .inl h0
  · refine .inr ⟨a, len, cap, m, D, Pl, hcs, hb, hl, hm, hmm, by rw [hC] at hx; exact hx, fun i him => ?_⟩
    obtain ⟨cs', hc, ht'⟩ := hi i him
    rw [hC] at hc
    obtain ⟨ys, n', hn', hy, hlen, hyl, hf⟩ := DataW.trod_struct he ht'
    obtain ⟨_, hcl, hat⟩ := World.cells?_some hc
    simp only [Prod.mk.injEq] at hy
    refine ⟨ys, n', hy.1, hy.2, hyl, fun j f hj => ?_⟩
    obtain ⟨ho, hk⟩ := hone_of hone j f hj
    have hjl : j < fs.size := (Array.getElem?_eq_some_iff.1 hj).1
    have hcell := hat j hjl
    have hv : cs'[j]? = some (cs'[j]'(by omega)) := List.getElem?_eq_getElem (by omega)
    have h1 := hf j f hj
    rw [ho, hk] at h1
    have hone' : (cs'.drop j).take 1 = [cs'[j]'(by omega)] := by
      rw [List.drop_eq_getElem_cons (by omega)]
      rfl
    rw [hone'] at h1
    have hys : ys[j]? = some (ys[j]'(by omega)) := List.getElem?_eq_getElem (by omega)
    refine ⟨_, _, ?_, hys, h1.trans hys⟩
    rw [← Go.Deep.add_add, hcell, hv]

theorem open_agg6 {r : Reach} {b0 : Nat} {t : TypeId} {f0 f1 f2 f3 f4 f5 : Field} {v : Value} {d : DataW H} {p : List MemPlace} (hs : P.underlying t = some (.struct #[f0, f1, f2, f3, f4, f5])) (hone : oneCellFields P #[f0, f1, f2, f3, f4, f5] = true) (hC : P.cellsOf t = 6)
    (hv : Value.okWide P w r b0 t v) (h : DataW.Trod enc P w base spare held t v d p) :
    ∃ (v0 v1 v2 v3 v4 v5 : Value) (y0 y1 y2 y3 y4 y5 : DataW H × List MemPlace) (n : Nat), v = .agg #[v0, v1, v2, v3, v4, v5] ∧ d = .agg [y0.1, y1.1, y2.1, y3.1, y4.1, y5.1] ∧ p = y0.2 ++ (y1.2 ++ (y2.2 ++ (y3.2 ++ (y4.2 ++ y5.2)))) ∧
      DataW.trod enc P w base spare held n f0.type [v0] = some y0 ∧ DataW.trod enc P w base spare held n f1.type [v1] = some y1 ∧ DataW.trod enc P w base spare held n f2.type [v2] = some y2 ∧ DataW.trod enc P w base spare held n f3.type [v3] = some y3 ∧ DataW.trod enc P w base spare held n f4.type [v4] = some y4 ∧ DataW.trod enc P w base spare held n f5.type [v5] = some y5 := by
  obtain ⟨cs, rfl, hsz⟩ := okWide_struct hs hv
  obtain ⟨l⟩ := cs
  match l, hsz.trans hC with
  | [c0, c1, c2, c3, c4, c5], _ =>
    obtain ⟨fuel, hf⟩ := h
    obtain ⟨xs, n, _, hx, _, hlen, hg⟩ := DataW.trod_struct hs hf
    obtain ⟨o0, k0⟩ := hone_of hone 0 f0 rfl
    obtain ⟨o1, k1⟩ := hone_of hone 1 f1 rfl
    obtain ⟨o2, k2⟩ := hone_of hone 2 f2 rfl
    obtain ⟨o3, k3⟩ := hone_of hone 3 f3 rfl
    obtain ⟨o4, k4⟩ := hone_of hone 4 f4 rfl
    obtain ⟨o5, k5⟩ := hone_of hone 5 f5 rfl
    match xs, hlen with
    | [y0, y1, y2, y3, y4, y5], _ =>
      simp only [Prod.mk.injEq] at hx
      exact ⟨c0, c1, c2, c3, c4, c5, y0, y1, y2, y3, y4, y5, n, rfl, by simpa using hx.1, by simpa using hx.2, by simpa [Value.cells, o0, k0] using hg 0 f0 rfl, by simpa [Value.cells, o1, k1] using hg 1 f1 rfl, by simpa [Value.cells, o2, k2] using hg 2 f2 rfl, by simpa [Value.cells, o3, k3] using hg 3 f3 rfl, by simpa [Value.cells, o4, k4] using hg 4 f4 rfl, by simpa [Value.cells, o5, k5] using hg 5 f5 rfl⟩
end

theorem i64_of_wf {n : Int} (h : (Lit.int .i64 n).wf = true) : I64 n := by
  simpa [I64, Lit.wf, IntKind.min, IntKind.max, IntKind.signed, IntKind.bits] using h

theorem cells108 : Try.prog.cellsOf 108 = 6 := by kernel_rfl

/-- An event that came in, by value. -/
theorem open_evt {H : Type} {enc : TypeId × Value → H} {w : World} {base b0 : Nat} {spare : Nat → Bool} {held : Bool} {r : Reach} {v : Value} {d : DataW H} {p : List MemPlace}
    (hv : Value.okWide Try.prog w r b0 108 v) (h : DataW.Trod enc Try.prog w base spare held 108 v d p) :
    ∃ e : Evt, v = e.v ∧ e.ok := by
  obtain ⟨c0, c1, c2, c3, c4, c5, y0, y1, y2, y3, y4, y5, m, rfl, rfl, rfl, h0, h1, h2, h3, h4, h5⟩ := open_agg6 Try.underlying108 (by kernel_rfl) cells108 hv h
  obtain ⟨a0, e0, -, w0⟩ := DataW.trod_int Try.underlying3 h0
  obtain ⟨a1, e1, -, w1⟩ := DataW.trod_int Try.underlying3 h1
  obtain ⟨a2, e2, -, w2⟩ := DataW.trod_int Try.underlying3 h2
  obtain ⟨a3, e3, -, w3⟩ := DataW.trod_int Try.underlying3 h3
  obtain ⟨a4, e4, -, w4⟩ := DataW.trod_int Try.underlying3 h4
  obtain ⟨a5, e5, -, w5⟩ := DataW.trod_int Try.underlying3 h5
  simp only [List.cons.injEq, and_true] at e0 e1 e2 e3 e4 e5
  subst e0 e1 e2 e3 e4 e5
  exact ⟨⟨a0, a1, a2, a3, a4, a5⟩, rfl, i64_of_wf w0, i64_of_wf w1, i64_of_wf w2, i64_of_wf w3, i64_of_wf w4, i64_of_wf w5⟩

theorem list_of {α : Type} [Inhabited α] {R : Nat → α → Prop} : ∀ n, (∀ i, i < n → ∃ x, R i x) → ∃ l : List α, l.length = n ∧ ∀ i, i < n → R i (l.getD i default)
  | 0, _ => ⟨[], rfl, fun i h => absurd h (by omega)⟩
  | n + 1, h => by
    obtain ⟨l, hl, hr⟩ := list_of n fun i hi => h i (by omega)
    obtain ⟨x, hx⟩ := h n (by omega)
    refine ⟨l ++ [x], by simp [hl], fun i hi => ?_⟩
    by_cases hin : i < n
    · have := hr i hin
      simpa [List.getElem?_append, hl, hin] using this
    · obtain rfl : i = n := by omega
      subst hl
      simpa using hx

theorem block_lt {w : World} {b o : Nat} {v : Value} (h : w.cell? ⟨b, o, none⟩ = some v) : b < w.heap.size := by
  rcases Nat.lt_or_ge b w.heap.size with hlt | hge
  · exact hlt
  · simp [World.cell?, Array.getElem?_eq_none hge] at h

theorem hone108 : ∃ fs : Array Field, Try.prog.underlying 108 = some (.struct fs) ∧ oneCellFields Try.prog fs = true ∧ fs.size = 6 ∧ fs.map (·.type) = #[3, 3, 3, 3, 3, 3] :=
  ⟨_, Try.underlying108, by kernel_rfl, rfl, by simp⟩

/-- A list of events that came in. -/
theorem open_evts {H : Type} {enc : TypeId × Value → H} {w : World} {base : Nat} {spare : Nat → Bool} {held : Bool} {A : Option Addr} {n cap : Nat} {d : DataW H} {p : List MemPlace}
    (h : DataW.Trod enc Try.prog w base spare held 38 (.slice A n cap) d p) : ∃ es : List Evt, Evs w A n es ∧ (∀ e ∈ es, e.ok) ∧ n ≤ 9223372036854775807 := by
  obtain ⟨fuel, hf⟩ := h
  obtain ⟨fs, hu, hone, hsz, hty⟩ := hone108
  rcases open_slice_fields Try.underlying38 hu hone (by rw [hsz]; exact cells108) hf with ⟨hcs, _⟩ | ⟨a, len, c, m, D, Pl, hcs, _, hl, hm, hmm, _, hi⟩
  · simp [Value.cells] at hcs
    obtain ⟨rfl, rfl, rfl⟩ := hcs
    exact ⟨[], Evs.none_ w, (fun e he => by cases he), by omega⟩
  · simp [Value.cells] at hcs
    obtain ⟨rfl, rfl, rfl⟩ := hcs
    have hnm : n ≤ m := by rw [hmm]; split <;> omega
    have one : ∀ i, i < n → ∃ e : Evt, e.ok ∧ ∀ j, j < 6 → w.cell? (a.add (i * 6 + j)) = some (.int .i64 (e.l.getD j 0)) := by
      intro i hin
      obtain ⟨ys, k, _, _, _, hj⟩ := hi i (by omega)
      have f : ∀ j, j < 6 → ∃ z : Int, I64 z ∧ w.cell? (a.add (i * 6 + j)) = some (.int .i64 z) := by
        intro j hj6
        have hjs : j < fs.size := by omega
        have htj : (fs[j]'hjs).type = 3 := by
          have e1 : (fs.map (·.type))[j]? = some (3) := by
            rw [hty]
            have h6 : j = 0 ∨ j = 1 ∨ j = 2 ∨ j = 3 ∨ j = 4 ∨ j = 5 := by omega
            rcases h6 with rfl | rfl | rfl | rfl | rfl | rfl <;> rfl
          simpa [hjs] using e1
        obtain ⟨v, y, hcell, _, ht⟩ := hj j (fs[j]'hjs) (Array.getElem?_eq_getElem hjs)
        rw [htj] at ht
        obtain ⟨z, e, _, wz⟩ := DataW.trod_int Try.underlying3 ht
        simp only [List.cons.injEq, and_true] at e
        subst e
        rw [hsz] at hcell
        exact ⟨z, i64_of_wf wz, hcell⟩
      obtain ⟨z0, w0, g0⟩ := f 0 (by omega)
      obtain ⟨z1, w1, g1⟩ := f 1 (by omega)
      obtain ⟨z2, w2, g2⟩ := f 2 (by omega)
      obtain ⟨z3, w3, g3⟩ := f 3 (by omega)
      obtain ⟨z4, w4, g4⟩ := f 4 (by omega)
      obtain ⟨z5, w5, g5⟩ := f 5 (by omega)
      refine ⟨⟨z0, z1, z2, z3, z4, z5⟩, ⟨w0, w1, w2, w3, w4, w5⟩, fun j hj6 => ?_⟩
      have h6 : j = 0 ∨ j = 1 ∨ j = 2 ∨ j = 3 ∨ j = 4 ∨ j = 5 := by omega
      rcases h6 with rfl | rfl | rfl | rfl | rfl | rfl
      · exact g0
      · exact g1
      · exact g2
      · exact g3
      · exact g4
      · exact g5
    obtain ⟨es, hlen, hes⟩ := list_of n one
    have hmax : n ≤ 9223372036854775807 := by unfold maxLen at hm; omega
    refine ⟨es, ⟨hlen, fun hn => ?_⟩, (fun e he => ?_), hmax⟩
    · obtain ⟨b, off, spot⟩ := a
      have c0 := (hes 0 hn).2 0 (by omega)
      have hspot : spot = none := by simpa [Addr.add] using World.cell?_spot c0
      subst hspot
      have c0' : w.cell? ⟨b, off, none⟩ = some (.int .i64 ((es.getD 0 default).l.getD 0 0)) := by simpa [Addr.add] using c0
      have add : ∀ k, (⟨b, off, none⟩ : Addr).add k = ⟨b, off + k, none⟩ := fun k => by
        unfold Addr.add
        split
        · rename_i h0; subst h0; rfl
        · rfl
      refine ⟨b, off, rfl, block_lt c0', fun i hin => ?_⟩
      have g := (hes i hin).2
      simp only [add] at g
      generalize es.getD i default = e at g
      obtain ⟨z0, z1, z2, z3, z4, z5⟩ := e
      exact ⟨g 0 (by omega), by have := g 1 (by omega); simpa [Nat.add_assoc, Evt.l] using this, by have := g 2 (by omega); simpa [Nat.add_assoc, Evt.l] using this, by have := g 3 (by omega); simpa [Nat.add_assoc, Evt.l] using this, by have := g 4 (by omega); simpa [Nat.add_assoc, Evt.l] using this, by have := g 5 (by omega); simpa [Nat.add_assoc, Evt.l] using this⟩
    · obtain ⟨i, hi2, rfl⟩ := List.getElem_of_mem he
      have := (hes i (by omega)).1
      simpa [hi2] using this

end Go.Proofs.Ytpainlcehgiokaa

namespace Go.Proofs.Ytpainlcehgiokaa
set_option maxRecDepth 100000
open Go.ChangeShapes Go.WideShapes Go.ChangeAt Go.RowKit Go.Joins Go.Deep
set_option linter.unusedVariables false

section
variable {H : Type} {enc : TypeId × Value → H} {P : Program} {w : World} {base : Nat} {spare : Nat → Bool} {held : Bool}
theorem open_agg3 {r : Reach} {b0 : Nat} {t : TypeId} {f0 f1 f2 : Field} {v : Value} {d : DataW H} {p : List MemPlace} (hs : P.underlying t = some (.struct #[f0, f1, f2])) (hone : oneCellFields P #[f0, f1, f2] = true) (hC : P.cellsOf t = 3)
    (hv : Value.okWide P w r b0 t v) (h : DataW.Trod enc P w base spare held t v d p) :
    ∃ (v0 v1 v2 : Value) (y0 y1 y2 : DataW H × List MemPlace) (n : Nat), v = .agg #[v0, v1, v2] ∧ d = .agg [y0.1, y1.1, y2.1] ∧ p = y0.2 ++ (y1.2 ++ y2.2) ∧
      DataW.trod enc P w base spare held n f0.type [v0] = some y0 ∧ DataW.trod enc P w base spare held n f1.type [v1] = some y1 ∧ DataW.trod enc P w base spare held n f2.type [v2] = some y2 := by
  obtain ⟨cs, rfl, hsz⟩ := okWide_struct hs hv
  obtain ⟨l⟩ := cs
  match l, hsz.trans hC with
  | [c0, c1, c2], _ =>
    obtain ⟨fuel, hf⟩ := h
    obtain ⟨xs, n, _, hx, _, hlen, hg⟩ := DataW.trod_struct hs hf
    obtain ⟨o0, k0⟩ := hone_of hone 0 f0 rfl
    obtain ⟨o1, k1⟩ := hone_of hone 1 f1 rfl
    obtain ⟨o2, k2⟩ := hone_of hone 2 f2 rfl
    match xs, hlen with
    | [y0, y1, y2], _ =>
      simp only [Prod.mk.injEq] at hx
      exact ⟨c0, c1, c2, y0, y1, y2, n, rfl, by simpa using hx.1, by simpa using hx.2, by simpa [Value.cells, o0, k0] using hg 0 f0 rfl, by simpa [Value.cells, o1, k1] using hg 1 f1 rfl, by simpa [Value.cells, o2, k2] using hg 2 f2 rfl⟩
end

end Go.Proofs.Ytpainlcehgiokaa

namespace Go.Proofs.Ytpainlcehgiokaa
set_option maxRecDepth 100000
open Go.ChangeShapes Go.WideShapes Go.ChangeAt Go.RowKit Go.Joins Go.Deep
set_option linter.unusedVariables false

/-- A code that came in. -/
theorem open_bytes {H : Type} {enc : TypeId × Value → H} {w : World} {base : Nat} {spare : Nat → Bool} {held : Bool} {A : Option Addr} {n cap : Nat} {d : DataW H} {p : List MemPlace}
    (h : DataW.Trod enc Try.prog w base spare held 22 (.slice A n cap) d p) : Bys w A n w.heap.size ∧ n ≤ cap ∧ cap ≤ 9223372036854775807 := by
  obtain ⟨fuel, hf⟩ := h
  rcases open_ints Try.underlying22 Try.underlying5 (by kernel_rfl) hf with ⟨hcs, _⟩ | ⟨x, l, c, zs, hcs, _, hl, hm, hz, _, hcell, hwz⟩
  · simp [Value.cells] at hcs
    obtain ⟨rfl, rfl, rfl⟩ := hcs
    exact ⟨fun h0 => absurd h0 (by omega), by omega, by omega⟩
  · simp [Value.cells] at hcs
    obtain ⟨rfl, rfl, rfl⟩ := hcs
    refine ⟨fun h0 => ?_, hl, by unfold maxLen at hm; omega⟩
    have hlen : n ≤ zs.length := by rw [hz]; split <;> omega
    obtain ⟨b, off, spot⟩ := x
    have c0 := hcell 0 (by omega)
    have hspot : spot = none := by simpa [Addr.add] using World.cell?_spot c0
    subst hspot
    have c0' : w.cell? ⟨b, off, none⟩ = some (.int .u8 (zs.getD 0 0)) := by simpa [Addr.add] using c0
    refine ⟨b, off, rfl, block_lt c0', fun i hi => ?_⟩
    have ci := hcell i (by omega)
    have ad : (⟨b, off, none⟩ : Addr).add i = ⟨b, off + i, none⟩ := by
      unfold Addr.add
      split
      · rename_i h0; subst h0; rfl
      · rfl
    rw [ad] at ci
    have hmem : zs.getD i 0 ∈ zs := by
      have : i < zs.length := by omega
      simp [this]
    have wf := hwz _ hmem
    generalize zs.getD i 0 = z at ci wf
    have hz2 : 0 ≤ z ∧ z ≤ 255 := by simpa [Lit.wf, IntKind.min, IntKind.max, IntKind.signed, IntKind.bits] using wf
    exact ⟨z.toNat, by omega, by rw [ci]; congr 2; omega⟩

end Go.Proofs.Ytpainlcehgiokaa

namespace Go.Proofs.Ytpainlcehgiokaa
set_option maxRecDepth 100000
open Go.ChangeShapes Go.WideShapes Go.ChangeAt Go.RowKit Go.Joins Go.Deep
set_option linter.unusedVariables false

theorem cells128 : Try.prog.cellsOf 128 = 6 := by kernel_rfl
theorem hone128 : ∃ fs : Array Field, Try.prog.underlying 128 = some (.struct fs) ∧ oneCellFields Try.prog fs = true ∧ fs.size = 6 ∧ fs.map (·.type) = #[3, 3, 3, 3, 3, 3] :=
  ⟨_, Try.underlying128, by kernel_rfl, rfl, by simp⟩

/-- A list of sends that came in. -/
theorem open_sends {H : Type} {enc : TypeId × Value → H} {w : World} {base : Nat} {spare : Nat → Bool} {held : Bool} {A : Option Addr} {n cap : Nat} {d : DataW H} {p : List MemPlace}
    (h : DataW.Trod enc Try.prog w base spare held 114 (.slice A n cap) d p) : ∃ es : List Evt, Evs w A n es ∧ (∀ e ∈ es, e.ok) ∧ n ≤ 9223372036854775807 := by
  obtain ⟨fuel, hf⟩ := h
  obtain ⟨fs, hu, hone, hsz, hty⟩ := hone128
  rcases open_slice_fields Try.underlying114 hu hone (by rw [hsz]; exact cells128) hf with ⟨hcs, _⟩ | ⟨a, len, c, m, D, Pl, hcs, _, hl, hm, hmm, _, hi⟩
  · simp [Value.cells] at hcs
    obtain ⟨rfl, rfl, rfl⟩ := hcs
    exact ⟨[], Evs.none_ w, (fun e he => by cases he), by omega⟩
  · simp [Value.cells] at hcs
    obtain ⟨rfl, rfl, rfl⟩ := hcs
    have hnm : n ≤ m := by rw [hmm]; split <;> omega
    have one : ∀ i, i < n → ∃ e : Evt, e.ok ∧ ∀ j, j < 6 → w.cell? (a.add (i * 6 + j)) = some (.int .i64 (e.l.getD j 0)) := by
      intro i hin
      obtain ⟨ys, k, _, _, _, hj⟩ := hi i (by omega)
      have f : ∀ j, j < 6 → ∃ z : Int, I64 z ∧ w.cell? (a.add (i * 6 + j)) = some (.int .i64 z) := by
        intro j hj6
        have hjs : j < fs.size := by omega
        have htj : (fs[j]'hjs).type = 3 := by
          have e1 : (fs.map (·.type))[j]? = some (3) := by
            rw [hty]
            have h6 : j = 0 ∨ j = 1 ∨ j = 2 ∨ j = 3 ∨ j = 4 ∨ j = 5 := by omega
            rcases h6 with rfl | rfl | rfl | rfl | rfl | rfl <;> rfl
          simpa [hjs] using e1
        obtain ⟨v, y, hcell, _, ht⟩ := hj j (fs[j]'hjs) (Array.getElem?_eq_getElem hjs)
        rw [htj] at ht
        obtain ⟨z, e, _, wz⟩ := DataW.trod_int Try.underlying3 ht
        simp only [List.cons.injEq, and_true] at e
        subst e
        rw [hsz] at hcell
        exact ⟨z, i64_of_wf wz, hcell⟩
      obtain ⟨z0, w0, g0⟩ := f 0 (by omega)
      obtain ⟨z1, w1, g1⟩ := f 1 (by omega)
      obtain ⟨z2, w2, g2⟩ := f 2 (by omega)
      obtain ⟨z3, w3, g3⟩ := f 3 (by omega)
      obtain ⟨z4, w4, g4⟩ := f 4 (by omega)
      obtain ⟨z5, w5, g5⟩ := f 5 (by omega)
      refine ⟨⟨z0, z1, z2, z3, z4, z5⟩, ⟨w0, w1, w2, w3, w4, w5⟩, fun j hj6 => ?_⟩
      have h6 : j = 0 ∨ j = 1 ∨ j = 2 ∨ j = 3 ∨ j = 4 ∨ j = 5 := by omega
      rcases h6 with rfl | rfl | rfl | rfl | rfl | rfl
      · exact g0
      · exact g1
      · exact g2
      · exact g3
      · exact g4
      · exact g5
    obtain ⟨es, hlen, hes⟩ := list_of n one
    have hmax : n ≤ 9223372036854775807 := by unfold maxLen at hm; omega
    refine ⟨es, ⟨hlen, fun hn => ?_⟩, (fun e he => ?_), hmax⟩
    · obtain ⟨b, off, spot⟩ := a
      have c0 := (hes 0 hn).2 0 (by omega)
      have hspot : spot = none := by simpa [Addr.add] using World.cell?_spot c0
      subst hspot
      have c0' : w.cell? ⟨b, off, none⟩ = some (.int .i64 ((es.getD 0 default).l.getD 0 0)) := by simpa [Addr.add] using c0
      have add : ∀ k, (⟨b, off, none⟩ : Addr).add k = ⟨b, off + k, none⟩ := fun k => by
        unfold Addr.add
        split
        · rename_i h0; subst h0; rfl
        · rfl
      refine ⟨b, off, rfl, block_lt c0', fun i hin => ?_⟩
      have g := (hes i hin).2
      simp only [add] at g
      generalize es.getD i default = e at g
      obtain ⟨z0, z1, z2, z3, z4, z5⟩ := e
      exact ⟨g 0 (by omega), by have := g 1 (by omega); simpa [Nat.add_assoc, Evt.l] using this, by have := g 2 (by omega); simpa [Nat.add_assoc, Evt.l] using this, by have := g 3 (by omega); simpa [Nat.add_assoc, Evt.l] using this, by have := g 4 (by omega); simpa [Nat.add_assoc, Evt.l] using this, by have := g 5 (by omega); simpa [Nat.add_assoc, Evt.l] using this⟩
    · obtain ⟨i, hi2, rfl⟩ := List.getElem_of_mem he
      have := (hes i (by omega)).1
      simpa [hi2] using this


theorem cells116 : Try.prog.cellsOf 116 = 5 := by kernel_rfl
theorem hone116 : ∃ fs : Array Field, Try.prog.underlying 116 = some (.struct fs) ∧ oneCellFields Try.prog fs = true ∧ fs.size = 5 ∧ fs.map (·.type) = #[3, 3, 3, 3, 114] :=
  ⟨_, Try.underlying116, by kernel_rfl, rfl, by simp⟩

theorem add_plain (b off k : Nat) : (⟨b, off, none⟩ : Addr).add k = ⟨b, off + k, none⟩ := by
  unfold Addr.add
  split
  · rename_i h0; subst h0; rfl
  · rfl

/-- Rules that came in. -/
theorem open_rules {H : Type} {enc : TypeId × Value → H} {w : World} {base : Nat} {spare : Nat → Bool} {held : Bool} {v : Value} {fuel : Nat} {y : DataW H × List MemPlace}
    (hf : DataW.trod enc Try.prog w base spare held fuel 105 [v] = some y) : ∃ A n c rs, v = .slice A n c ∧ Rules w A n rs := by
  obtain ⟨fs, hu, hone, hsz, hty⟩ := hone116
  rcases open_slice_fields Try.underlying105 hu hone (by rw [hsz]; exact cells116) hf with ⟨hcs, _⟩ | ⟨a, len, c, m, D, Pl, hcs, _, hl, hm, hmm, _, hi⟩
  · simp only [List.cons.injEq, and_true] at hcs
    exact ⟨none, 0, 0, [], hcs, rfl, by omega, fun h => absurd h (by omega)⟩
  · simp only [List.cons.injEq, and_true] at hcs
    have hnm : len ≤ m := by rw [hmm]; split <;> omega
    have one : ∀ i, i < len → ∃ r : Rule, (∃ z0 z1 z2 z3 A n c, (w.cell? (a.add (i * 5)) = some (.int .i64 z0) ∧ w.cell? (a.add (i * 5 + 1)) = some (.int .i64 z1) ∧ w.cell? (a.add (i * 5 + 2)) = some (.int .i64 z2) ∧ w.cell? (a.add (i * 5 + 3)) = some (.int .i64 z3) ∧ w.cell? (a.add (i * 5 + 4)) = some (.slice A n c)) ∧ n ≤ 9223372036854775807 ∧ Evs w A n r.sends ∧ r.kd = z0 ∧ r.a = z1 ∧ r.b = z2 ∧ r.c = z3) := by
      intro i hin
      obtain ⟨ys, k, _, _, _, hj⟩ := hi i (by omega)
      rw [hsz] at hj
      have ty : ∀ j (h : j < fs.size), (fs[j]'h).type = (#[3, 3, 3, 3, 114] : Array TypeId)[j]! := by
        intro j h
        have e1 : (fs.map (·.type))[j]! = (fs[j]'h).type := by simp [h]
        rw [← e1, hty]
      have f : ∀ j, j < 4 → ∃ z : Int, w.cell? (a.add (i * 5 + j)) = some (.int .i64 z) := by
        intro j hj4
        have hjs : j < fs.size := by omega
        obtain ⟨v, y, hcell, _, ht⟩ := hj j (fs[j]'hjs) (Array.getElem?_eq_getElem hjs)
        rw [ty j hjs] at ht
        have e : (#[3, 3, 3, 3, 114] : Array TypeId)[j]! = 3 := by
          have h4 : j = 0 ∨ j = 1 ∨ j = 2 ∨ j = 3 := by omega
          rcases h4 with rfl | rfl | rfl | rfl <;> rfl
        rw [e] at ht
        obtain ⟨z, e, _, wz⟩ := DataW.trod_int Try.underlying3 ht
        simp only [List.cons.injEq, and_true] at e
        subst e
        exact ⟨z, hcell⟩
      obtain ⟨z0, g0⟩ := f 0 (by omega)
      obtain ⟨z1, g1⟩ := f 1 (by omega)
      obtain ⟨z2, g2⟩ := f 2 (by omega)
      obtain ⟨z3, g3⟩ := f 3 (by omega)
      have hjs : 4 < fs.size := by omega
      obtain ⟨v4, y4, hcell, _, ht⟩ := hj 4 (fs[4]'hjs) (Array.getElem?_eq_getElem hjs)
      rw [ty 4 hjs] at ht
      have ht : DataW.trod enc Try.prog w base spare held k 114 [v4] = some y4 := ht
      have hv : ∃ A n c, v4 = .slice A n c := by
        rcases open_slice Try.underlying114 ht with ⟨h, _⟩ | ⟨a, l, c, _, _, _, _, h, _⟩
        · exact ⟨none, 0, 0, by simpa using h⟩
        · exact ⟨some a, l, c, by simpa using h⟩
      obtain ⟨A, n, c, rfl⟩ := hv
      obtain ⟨es, he, _, hn⟩ := open_sends (d := y4.1) (p := y4.2) (A := A) (n := n) (cap := c) ⟨k, by simpa [Value.cells] using ht⟩
      exact ⟨⟨z0, z1, z2, z3, es⟩, z0, z1, z2, z3, A, n, c, ⟨g0, g1, g2, g3, hcell⟩, hn, he, rfl, rfl, rfl, rfl⟩
    obtain ⟨rs, hlen, hrs⟩ := list_of len one
    have hmax : len ≤ 9223372036854775807 := by unfold maxLen at hm; omega
    refine ⟨some a, len, c, rs, hcs, hlen, hmax, fun hn => ?_⟩
    obtain ⟨z0, z1, z2, z3, A, n, c', ⟨c0, _⟩, _⟩ := hrs 0 hn
    obtain ⟨b, off, spot⟩ := a
    have hspot : spot = none := by simpa [Addr.add] using World.cell?_spot c0
    subst hspot
    simp only [add_plain] at hrs c0
    refine ⟨b, off, rfl, block_lt c0, fun i hin => ?_⟩
    obtain ⟨z0, z1, z2, z3, A, n, c', ⟨k0, k1, k2, k3, k4⟩, hn', he, e0, e1, e2, e3⟩ := hrs i hin
    subst e0 e1 e2 e3
    exact ⟨A, n, c', ⟨k0, by simpa [Nat.add_assoc] using k1, by simpa [Nat.add_assoc] using k2, by simpa [Nat.add_assoc] using k3, by simpa [Nat.add_assoc] using k4⟩, hn', he⟩

/-- Rows of rules that came in. -/
theorem open_rulz {H : Type} {enc : TypeId × Value → H} {w : World} {base : Nat} {spare : Nat → Bool} {held : Bool} {v : Value} {fuel : Nat} {y : DataW H × List MemPlace}
    (hf : DataW.trod enc Try.prog w base spare held fuel 37 [v] = some y) : ∃ A n c rss, v = .slice A n c ∧ Rulz w A n rss := by
  rcases open_slice1 Try.underlying37 (by kernel_rfl) hf with ⟨hcs, _⟩ | ⟨a, len, c, m, k, V, D, Pl, hcs, _, hl, hm, hmm, _, hi⟩
  · simp only [List.cons.injEq, and_true] at hcs
    exact ⟨none, 0, 0, [], hcs, rfl, by omega, fun h => absurd h (by omega)⟩
  · simp only [List.cons.injEq, and_true] at hcs
    have hnm : len ≤ m := by rw [hmm]; split <;> omega
    have one : ∀ i, i < len → ∃ rs : List Rule, ∃ A n c, w.cell? (a.add i) = some (.slice A n c) ∧ Rules w A n rs := by
      intro i hin
      obtain ⟨hc, ht⟩ := hi i (by omega)
      obtain ⟨A, n, c, rs, hv, hr⟩ := open_rules ht
      exact ⟨rs, A, n, c, hv ▸ hc, hr⟩
    obtain ⟨rss, hlen, hrs⟩ := list_of len one
    have hmax : len ≤ 9223372036854775807 := by unfold maxLen at hm; omega
    refine ⟨some a, len, c, rss, hcs, hlen, hmax, fun hn => ?_⟩
    obtain ⟨A, n, c', c0, _⟩ := hrs 0 hn
    obtain ⟨b, off, spot⟩ := a
    have hspot : spot = none := by simpa [Addr.add] using World.cell?_spot c0
    subst hspot
    simp only [add_plain] at hrs c0
    exact ⟨b, off, rfl, block_lt c0, fun i hin => hrs i hin⟩

theorem cells40 : Try.prog.cellsOf 40 = 3 := by kernel_rfl

theorem open_mdl {H : Type} {enc : TypeId × Value → H} {w : World} {base b0 : Nat} {spare : Nat → Bool} {held : Bool} {r : Reach} {v : Value} {d : DataW H} {p : List MemPlace}
    (hv : Value.okWide Try.prog w r b0 40 v) (h : DataW.Trod enc Try.prog w base spare held 40 v d p) :
    ∃ m : Mdl, ∃ A n c B k d, v = .agg #[.slice A n c, .slice B k d, .int .i64 m.til] ∧ MdlV w A n B k m := by
  obtain ⟨c0, c1, c2, y0, y1, y2, f, rfl, rfl, rfl, h0, h1, h2⟩ := open_agg3 Try.underlying40 (by kernel_rfl) cells40 hv h
  obtain ⟨A, n, c, rss, rfl, hr⟩ := open_rulz h0
  have hv1 : ∃ B k d, c1 = .slice B k d := by
    rcases open_slice Try.underlying38 h1 with ⟨h, _⟩ | ⟨a, l, c, _, _, _, _, h, _⟩
    · exact ⟨none, 0, 0, by simpa using h⟩
    · exact ⟨some a, l, c, by simpa using h⟩
  obtain ⟨B, k, d, rfl⟩ := hv1
  obtain ⟨es, he, _, hn⟩ := open_evts (d := y1.1) (p := y1.2) (A := B) (n := k) (cap := d) ⟨f, by simpa [Value.cells] using h1⟩
  obtain ⟨z, e2, -, _⟩ := DataW.trod_int Try.underlying3 h2
  simp only [List.cons.injEq, and_true] at e2
  subst e2
  exact ⟨⟨rss, es, z⟩, A, n, c, B, k, d, rfl, ⟨hr, he, hn⟩⟩

end Go.Proofs.Ytpainlcehgiokaa

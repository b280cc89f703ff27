/-
  How a simulator that came in is opened, in one sentence: by value it gives its component states, its events and its records; no condition is made.
  The order of events, in one sentence: it is irreflexive, total, asymmetric and transitive, and an earlier time is less; and what == and != of two events give; for all events.
  Rows of events as functions, in one sentence: a block of the call's own whose events are f 0, f 1, ..; and what a rising stretch with one event more becomes.
  Slices of events given back, in one sentence: a slice of these events; a list in a block of the call's own as a row; no condition is made.
  Rows of events as functions, in one sentence: changed within a stretch, none lost; sorted stretches; a swap; no condition is made.
  Sorted permutations of events, in one sentence: there is but one; and a slice of these events in a block of the call's own; no condition is made.
  Heaps of events as rows, in one sentence: the first is least, a sorted row is one, and moving up or down mends what one event disturbs; no condition is made.
-/
import Derived.Laws.StructEq
import Derived.Test.YtlikekmhccnilaaGreatDLEsst01
import Derived.Test.YtlikekmhccnilaaGreatDLEsst02
import Derived.Test.YtlikekmhccnilaaGreatDLEsst04
import Derived.Test.YtlikekmhccnilaaGreatDLEsst09
import Derived.Test.YtlikekmhccnilaaGreatDLEsst14
namespace Go.Proofs.YtlikekmhccnilaaGreat
set_option maxRecDepth 100000
open Go.ChangeShapes Go.WideShapes Go.ChangeAt Go.RowKit Go.Joins Go.Deep
set_option linter.unusedVariables false
section
variable {H : Type} {enc : TypeId × Value → H} {P : Program} {w : World} {base : Nat} {spare : Nat → Bool} {held : Bool}
/-- A slice whose elements are s numbers each. -/
theorem open_nums {t e : TypeId} {s fuel : Nat} {v : Value} {y : DataW H × List MemPlace} (ht : P.underlying t = some (.slice e)) (hC : P.cellsOf e = s) (hs : 0 < s)
    (hI : ∀ fuel cs x, cs.length = s → DataW.trod enc P w base spare held fuel e cs = some x → ∀ j, j < s → ∃ z, cs[j]? = some (.int .i64 z)) (hf : DataW.trod enc P w base spare held fuel t [v] = some y) :
    ∃ A len c, v = .slice A len c ∧ len ≤ 9223372036854775807 ∧ (0 < len → ∃ b off, A = some ⟨b, off, none⟩ ∧ b < w.heap.size) ∧ ∀ i, i < len → ∃ b off, A = some ⟨b, off, none⟩ ∧ ∀ j, j < s → ∃ z, w.cell? ⟨b, off + i * s + j, none⟩ = some (.int .i64 z) := by
  rcases open_slice ht hf with ⟨hcs, _⟩ | ⟨a, len, c, m, n, D, Pl, hcs, _, hl, hm, hmm, _, hi⟩
  · simp only [List.cons.injEq, and_true] at hcs
    exact ⟨none, 0, 0, hcs, by omega, fun h => absurd h (by omega), fun i h => absurd h (by omega)⟩
  · simp only [List.cons.injEq, and_true] at hcs
    have hnm : len ≤ m := by rw [hmm]; split <;> omega
    have one : ∀ i, i < len → ∀ j, j < s → ∃ z, w.cell? (a.add (i * s + j)) = some (.int .i64 z) := by
      intro i hin j hj; obtain ⟨cs', hc, ht'⟩ := hi i (by omega); rw [hC] at hc; obtain ⟨_, hcl, hat⟩ := World.cells?_some hc; obtain ⟨z, hz⟩ := hI _ cs' _ hcl ht' j hj
      have := hat j hj
      rw [hz, Go.Deep.add_add] at this
      exact ⟨z, this⟩
    obtain ⟨b, off, spot⟩ := a
    have nosp : 0 < len → spot = none := fun h0 => by
      obtain ⟨z, hz⟩ := one 0 h0 0 hs
      simpa [Addr.add] using World.cell?_spot hz
    have ad : ∀ k, (⟨b, off, none⟩ : Addr).add k = ⟨b, off + k, none⟩ := fun k => by
      unfold Addr.add
      split
      · rename_i h0; subst h0; rfl
      · rfl
    refine ⟨_, len, c, hcs, by unfold maxLen at hm; omega, fun h0 => ?_, fun i hin => ?_⟩
    · obtain rfl := nosp h0
      obtain ⟨z, hz⟩ := one 0 h0 0 hs; rw [ad] at hz
      exact ⟨b, off, rfl, block_lt hz⟩
    · obtain rfl := nosp (by omega)
      refine ⟨b, off, rfl, fun j hj => ?_⟩; obtain ⟨z, hz⟩ := one i hin j hj; rw [ad] at hz
      exact ⟨z, by rw [← hz]; congr 2; omega⟩
/-- The value of a field, where all fields are one cell. -/
theorem nums_fields {e : TypeId} {fs : Array Field} {fuel : Nat} {cs : List Value} {x : DataW H × List MemPlace} (he : P.underlying e = some (.struct fs)) (hone : oneCellFields P fs = true)
    (hcl : cs.length = fs.size) (h : DataW.trod enc P w base spare held fuel e cs = some x) (j : Nat) (f : Field) (hj : fs[j]? = some f) :
    ∃ k y v, cs[j]? = some v ∧ DataW.trod enc P w base spare held k f.type [v] = some y := by
  obtain ⟨ys, n', _, _, _, hyl, hf⟩ := DataW.trod_struct he h; obtain ⟨ho, hk⟩ := hone_of hone j f hj
  have hjl : j < fs.size := (Array.getElem?_eq_some_iff.1 hj).1
  have h1 := hf j f hj
  rw [ho, hk] at h1
  have hone' : (cs.drop j).take 1 = [cs[j]'(by omega)] := by
    rw [List.drop_eq_getElem_cons (by omega)]
    rfl
  rw [hone'] at h1
  exact ⟨n', ys[j]'(by omega), cs[j]'(by omega), List.getElem?_eq_getElem (by omega), h1.trans (List.getElem?_eq_getElem (by omega))⟩
end
theorem ev_nums {H : Type} {enc : TypeId × Value → H} {w : World} {base : Nat} {spare : Nat → Bool} {held : Bool} (fuel : Nat) (cs : List Value) (x : DataW H × List MemPlace) (hcl : cs.length = 6)
    (h : DataW.trod enc Tryz.prog w base spare held fuel 204 cs = some x) (j : Nat) (hj : j < 6) : ∃ z, cs[j]? = some (.int .i64 z) := by
  obtain ⟨fs, hu, hone, hsz, hty⟩ := hone204; obtain ⟨k, y, v, hv, ht⟩ := nums_fields hu hone (by omega) h j (fs[j]'(by omega)) (Array.getElem?_eq_getElem (by omega))
  have htj : (fs[j]'(by omega)).type = 3 := by
    have e1 : (fs.map (·.type))[j]? = some (3) := by
      rw [hty]
      have h6 : j = 0 ∨ j = 1 ∨ j = 2 ∨ j = 3 ∨ j = 4 ∨ j = 5 := by omega
      rcases h6 with rfl | rfl | rfl | rfl | rfl | rfl <;> rfl
    simpa [show j < fs.size by omega] using e1
  rw [htj] at ht; obtain ⟨z, e, _, _⟩ := DataW.trod_int Tryz.underlying3 ht; simp only [List.cons.injEq, and_true] at e
  exact ⟨z, by rw [hv, e]⟩
theorem cst_nums {H : Type} {enc : TypeId × Value → H} {w : World} {base : Nat} {spare : Nat → Bool} {held : Bool} (fuel : Nat) (cs : List Value) (x : DataW H × List MemPlace) (hcl : cs.length = 3)
    (h : DataW.trod enc Tryz.prog w base spare held fuel 56 cs = some x) (j : Nat) (hj : j < 3) : ∃ z, cs[j]? = some (.int .i64 z) := by
  obtain ⟨fs, hu, hone, hsz, hty⟩ := (⟨_, Tryz.underlying56, by kernel_rfl, rfl, by simp⟩ : ∃ fs : Array Field, Tryz.prog.underlying 56 = some (.struct fs) ∧ oneCellFields Tryz.prog fs = true ∧ fs.size = 3 ∧ fs.map (·.type) = #[3, 3, 3]); obtain ⟨k, y, v, hv, ht⟩ := nums_fields hu hone (by omega) h j (fs[j]'(by omega)) (Array.getElem?_eq_getElem (by omega))
  have htj : (fs[j]'(by omega)).type = 3 := by
    have e1 : (fs.map (·.type))[j]? = some (3) := by
      rw [hty]
      have h6 : j = 0 ∨ j = 1 ∨ j = 2 := by omega
      rcases h6 with rfl | rfl | rfl <;> rfl
    simpa [show j < fs.size by omega] using e1
  rw [htj] at ht; obtain ⟨z, e, _, _⟩ := DataW.trod_int Tryz.underlying3 ht; simp only [List.cons.injEq, and_true] at e
  exact ⟨z, by rw [hv, e]⟩
theorem cells207 : Tryz.prog.cellsOf 207 = 7 := by kernel_rfl
theorem rec_nums {H : Type} {enc : TypeId × Value → H} {w : World} {base : Nat} {spare : Nat → Bool} {held : Bool} (fuel : Nat) (cs : List Value) (x : DataW H × List MemPlace) (hcl : cs.length = 7)
    (h : DataW.trod enc Tryz.prog w base spare held fuel 207 cs = some x) (j : Nat) (hj : j < 7) : ∃ z, cs[j]? = some (.int .i64 z) := by
  obtain ⟨f0, f1, hu, ho0, ho1, ht0, ht1⟩ := (⟨_, _, Tryz.underlying207, rfl, rfl, rfl, rfl⟩ : ∃ f0 f1 : Field, Tryz.prog.underlying 207 = some (.struct #[f0, f1]) ∧ f0.offset = 0 ∧ f1.offset = 6 ∧ f0.type = 204 ∧ f1.type = 3); obtain ⟨ys, n', _, _, _, hyl, hf⟩ := DataW.trod_struct hu h
  have hyl : ys.length = 2 := hyl
  by_cases hj6 : j < 6
  · have h1 := hf 0 f0 rfl
    rw [ho0, ht0, cells204, List.getElem?_eq_getElem (by omega : 0 < ys.length)] at h1; obtain ⟨z, hz⟩ := ev_nums _ _ _ (by simp; omega) h1 j hj6; refine ⟨z, ?_⟩; rw [← hz]; simp [hj6]
  · obtain rfl : j = 6 := by omega
    have h1 := hf 1 f1 rfl
    rw [ho1, ht1, show Tryz.prog.cellsOf 3 = 1 by kernel_rfl, List.getElem?_eq_getElem (by omega : 1 < ys.length)] at h1
    have h2 : (cs.drop 6).take 1 = [cs[6]'(by omega)] := by
      rw [List.drop_eq_getElem_cons (by omega)]
      rfl
    rw [h2] at h1; obtain ⟨z, e, _, _⟩ := DataW.trod_int Tryz.underlying3 h1; simp only [List.cons.injEq, and_true] at e
    exact ⟨z, by rw [List.getElem?_eq_getElem (by omega), e]⟩
theorem open_csts {H : Type} {enc : TypeId × Value → H} {w : World} {base : Nat} {spare : Nat → Bool} {held : Bool} {v : Value} {fuel : Nat} {y : DataW H × List MemPlace}
    (hf : DataW.trod enc Tryz.prog w base spare held fuel 26 [v] = some y) : ∃ A n c xs, v = .slice A n c ∧ n ≤ 9223372036854775807 ∧ Csts w A n xs := by
  obtain ⟨A, n, c, rfl, hbig, hA, hi⟩ := open_nums Tryz.underlying26 cells56 (by omega) cst_nums hf
  have one : ∀ i, i < n → ∃ x : Cst, ∃ b off, A = some ⟨b, off, none⟩ ∧ CstAt w b (off + i * 3) x := by
    intro i hin; obtain ⟨b, off, rfl, f⟩ := hi i hin; obtain ⟨z0, g0⟩ := f 0 (by omega); obtain ⟨z1, g1⟩ := f 1 (by omega); obtain ⟨z2, g2⟩ := f 2 (by omega)
    exact ⟨⟨z0, z1, z2⟩, b, off, rfl, g0, g1, g2⟩
  obtain ⟨xs, hlen, hxs⟩ := list_of n one; refine ⟨A, n, c, xs, rfl, hbig, hlen, fun hn => ?_⟩; obtain ⟨b, off, rfl, hb⟩ := hA hn; refine ⟨b, off, rfl, hb, fun i hin => ?_⟩; obtain ⟨b', off', e, h⟩ := hxs i hin
  injection e with e
  injection e with e1 e2 _
  subst e1 e2
  exact h
theorem open_recs {H : Type} {enc : TypeId × Value → H} {w : World} {base : Nat} {spare : Nat → Bool} {held : Bool} {v : Value} {fuel : Nat} {y : DataW H × List MemPlace}
    (hf : DataW.trod enc Tryz.prog w base spare held fuel 27 [v] = some y) : ∃ A n c xs, v = .slice A n c ∧ n ≤ 9223372036854775807 ∧ Recs w A n xs := by
  obtain ⟨A, n, c, rfl, hbig, hA, hi⟩ := open_nums Tryz.underlying27 cells207 (by omega) rec_nums hf
  have one : ∀ i, i < n → ∃ x : Rec, ∃ b off, A = some ⟨b, off, none⟩ ∧ RecAt w b (off + i * 7) x := by
    intro i hin; obtain ⟨b, off, rfl, f⟩ := hi i hin; obtain ⟨z0, g0⟩ := f 0 (by omega); obtain ⟨z1, g1⟩ := f 1 (by omega); obtain ⟨z2, g2⟩ := f 2 (by omega); obtain ⟨z3, g3⟩ := f 3 (by omega); obtain ⟨z4, g4⟩ := f 4 (by omega); obtain ⟨z5, g5⟩ := f 5 (by omega); obtain ⟨z6, g6⟩ := f 6 (by omega)
    exact ⟨⟨⟨z0, z1, z2, z3, z4, z5⟩, z6⟩, b, off, rfl, g0, g1, g2, g3, g4, g5, g6⟩
  obtain ⟨xs, hlen, hxs⟩ := list_of n one; refine ⟨A, n, c, xs, rfl, hbig, hlen, fun hn => ?_⟩; obtain ⟨b, off, rfl, hb⟩ := hA hn; refine ⟨b, off, rfl, hb, fun i hin => ?_⟩; obtain ⟨b', off', e, h⟩ := hxs i hin
  injection e with e
  injection e with e1 e2 _
  subst e1 e2
  exact h
theorem cells29 : Tryz.prog.cellsOf 29 = 3 := by kernel_rfl
/-- A simulator that came in, by value. -/
theorem open_sq {H : Type} {enc : TypeId × Value → H} {w : World} {base b0 : Nat} {spare : Nat → Bool} {held : Bool} {r : Reach} {v : Value} {d : DataW H} {p : List MemPlace}
    (hv : Value.okWide Tryz.prog w r b0 29 v) (h : DataW.Trod enc Tryz.prog w base spare held 29 v d p) :
    ∃ s : Sq, ∃ Ac nc cc Aw nw cw Al nl cl, v = .agg #[.slice Ac nc cc, .slice Aw nw cw, .slice Al nl cl] ∧ (nc ≤ 9223372036854775807 ∧ nw ≤ 9223372036854775807 ∧ nl ≤ 9223372036854775807) ∧ SqV w Ac nc Aw nw Al nl s := by
  obtain ⟨c0, c1, c2, y0, y1, y2, f, rfl, rfl, rfl, h0, h1, h2⟩ := open_agg3 Tryz.underlying29 (by kernel_rfl) cells29 hv h; obtain ⟨Ac, nc, cc, xs, rfl, bc, hc⟩ := open_csts h0
  have hv1 : ∃ B k d, c1 = .slice B k d := by
    rcases open_slice Tryz.underlying23 h1 with ⟨h, _⟩ | ⟨a, l, c, _, _, _, _, h, _⟩
    · exact ⟨none, 0, 0, by simpa using h⟩
    · exact ⟨some a, l, c, by simpa using h⟩
  obtain ⟨B, k, d, rfl⟩ := hv1; obtain ⟨es, he, _, hn⟩ := open_evts (d := y1.1) (p := y1.2) (A := B) (n := k) (cap := d) ⟨f, by simpa [Value.cells] using h1⟩; obtain ⟨Al, nl, cl, rs, rfl, bl, hl⟩ := open_recs h2
  exact ⟨⟨xs, es, rs⟩, Ac, nc, cc, B, k, d, Al, nl, cl, rfl, ⟨bc, hn, bl⟩, ⟨hc, he, hl⟩⟩
end Go.Proofs.YtlikekmhccnilaaGreat

namespace Go.Proofs.YtlikekmhccnilaaGreat
set_option maxRecDepth 100000
open Go.RowKit
theorem orL_lt (x : Int) (r : List Int) : orL (x :: r) < 0 ↔ x < 0 ∨ (x = 0 ∧ orL r < 0) := by
  rw [orL]
  split <;> omega
theorem ltE_iff (a b : Evt) : ltE a b = true ↔ a.t < b.t ∨ (a.t = b.t ∧ (a.to < b.to ∨ (a.to = b.to ∧ (a.fr < b.fr ∨ (a.fr = b.fr ∧ (a.sq < b.sq ∨ (a.sq = b.sq ∧ (a.kd < b.kd ∨ (a.kd = b.kd ∧ a.dt < b.dt))))))))) := by
  unfold ltE cmpE; rw [decide_eq_true_iff, orL_lt, orL_lt, orL_lt, orL_lt, orL_lt, orL_lt]; simp only [cmpI_lt, cmpI_eq, orL]
  omega
theorem ltE_no (a b : Evt) : ltE a b = false ↔ ¬ (a.t < b.t ∨ (a.t = b.t ∧ (a.to < b.to ∨ (a.to = b.to ∧ (a.fr < b.fr ∨ (a.fr = b.fr ∧ (a.sq < b.sq ∨ (a.sq = b.sq ∧ (a.kd < b.kd ∨ (a.kd = b.kd ∧ a.dt < b.dt)))))))))) := by
  rw [← ltE_iff]; simp
theorem eqB_iff (a b : Evt) : eqB a b = true ↔ a.t = b.t ∧ a.to = b.to ∧ a.fr = b.fr ∧ a.sq = b.sq ∧ a.kd = b.kd ∧ a.dt = b.dt := by
  obtain ⟨z0, z1, z2, z3, z4, z5⟩ := a; obtain ⟨y0, y1, y2, y3, y4, y5⟩ := b; simp [eqB]
theorem ltE_irr (a : Evt) : ltE a a = false := by rw [ltE_no]; omega
theorem ltE_trans (a b c : Evt) (h1 : ltE a b = true) (h2 : ltE b c = true) : ltE a c = true := by
  rw [ltE_iff] at *
  omega
theorem ltE_asym (a b : Evt) (h1 : ltE a b = true) : ltE b a = false := by
  rw [ltE_no]; rw [ltE_iff] at h1
  omega
theorem ltE_total (a b : Evt) (h1 : ltE a b = false) (h2 : ltE b a = false) : eqB a b = true := by
  rw [eqB_iff]; rw [ltE_no] at h1 h2
  omega
end Go.Proofs.YtlikekmhccnilaaGreat

namespace Go.Proofs.YtlikekmhccnilaaGreat
set_option maxRecDepth 100000
open Go.RowKit
def Row (w : World) (g N : Nat) (f : Nat → Evt) : Prop :=
  g < w.heap.size ∧ (∀ i, i < N → EvAt w g (i * 6) (f i)) ∧ ∀ j, j < N * 6 → w.frozen? ⟨g, j, none⟩ = false
theorem Row.up {w w' : World} {g N : Nat} {f : Nat → Evt} (h : Row w g N f) (u : Up w w') : Row w' g N f :=
  ⟨Nat.lt_of_lt_of_le h.1 u.size, fun i hi => (h.2.1 i hi).up u h.1, fun j hj => (u.frozens _ _ h.1).trans (h.2.2 j hj)⟩
theorem Row.as_ {w : World} {g N : Nat} {f f' : Nat → Evt} (h : Row w g N f) (e : ∀ i, i < N → f i = f' i) : Row w g N f' :=
  ⟨h.1, fun i hi => e i hi ▸ h.2.1 i hi, h.2.2⟩
theorem Row.somes {w : World} {g N i : Nat} {f : Nat → Evt} (h : Row w g N f) (hi : i < N) : ∀ k, k < 6 → ∃ v, w.cell? ⟨g, i * 6 + k, none⟩ = some v := fun k hk => by
  obtain ⟨h0, h1, h2, h3, h4, h5⟩ := h.2.1 i hi
  have e : k = 0 ∨ k = 1 ∨ k = 2 ∨ k = 3 ∨ k = 4 ∨ k = 5 := by omega
  rcases e with rfl | rfl | rfl | rfl | rfl | rfl
  · exact ⟨_, h0⟩
  · exact ⟨_, h1⟩
  · exact ⟨_, h2⟩
  · exact ⟨_, h3⟩
  · exact ⟨_, h4⟩
  · exact ⟨_, h5⟩
theorem Row.put {w : World} {g N k : Nat} {f : Nat → Evt} {e : Evt} (h : Row w g N f) (hk : k < N) : Row (putEv w g (k * 6) e) g N (fun i => if i = k then e else f i) := by
  refine ⟨by rw [putEv_size]; exact h.1, fun i hi => ?_, fun j hj => (putEv_frozen _ _ _ _ _).trans (h.2.2 j hj)⟩
  show EvAt _ _ _ (if i = k then e else f i)
  by_cases hik : i = k
  · subst hik
    rw [if_pos rfl]
    exact putEv_at (h.somes hi)
  · rw [if_neg hik]
    exact (h.2.1 i hi).putEv_far (by omega)
end Go.Proofs.YtlikekmhccnilaaGreat

namespace Go.Proofs.YtlikekmhccnilaaGreat
set_option maxRecDepth 100000
open Go.RowKit
theorem Row.of_own {w : World} {base g n c : Nat} {es : List Evt} (h : w.ownsRow base 130 6 (.slice (some ⟨g, 0, none⟩) n c) n (flat es)) (hn : 0 < n) : Row w g n (fun i => es.getD i default) := by
  obtain ⟨b, off, hA, hb, hc⟩ := (own_evs h).2 hn
  injection hA with hA
  injection hA with h1 h2 _
  subst h1 h2
  exact ⟨hb, fun i hi => by have := hc i hi; rwa [Nat.zero_add] at this, fun j _ => h.frozenAt j⟩
end Go.Proofs.YtlikekmhccnilaaGreat

namespace Go.Proofs.YtlikekmhccnilaaGreat
set_option maxRecDepth 100000
open Go.RowKit
/-- b is not less than a. -/
def leE (a b : Evt) : Prop := ltE b a = false
theorem leE_refl (a : Evt) : leE a a := ltE_irr a
theorem ltE_le {a b : Evt} (h : ltE a b = true) : leE a b := ltE_asym a b h
theorem eqB_eq {a b : Evt} (h : eqB a b = true) : a = b := by
  obtain ⟨a0, a1, a2, a3, a4, a5⟩ := a; obtain ⟨b0, b1, b2, b3, b4, b5⟩ := b; rw [eqB_iff] at h; simp only at h; obtain ⟨rfl, rfl, rfl, rfl, rfl, rfl⟩ := h
  rfl
theorem leE_trans {a b c : Evt} (h1 : leE a b) (h2 : leE b c) : leE a c := by
  unfold leE at *
  cases h : ltE c a with
  | false => rfl
  | true =>
    cases hab : ltE a b with
    | true =>
      have := ltE_trans c a b h hab
      rw [this] at h2
      cases h2
    | false =>
      have e := eqB_eq (ltE_total a b hab h1)
      subst e; rw [h] at h2
      cases h2
theorem leE_antisymm {a b : Evt} (h1 : leE a b) (h2 : leE b a) : a = b := (eqB_eq (ltE_total b a h1 h2)).symm
/-- The stretch from a up to b rises, or stays. -/
def SortF (f : Nat → Evt) (a b : Nat) : Prop := ∀ k, a ≤ k → k + 1 < b → leE (f k) (f (k + 1))
theorem SortF.le {f : Nat → Evt} {a b : Nat} (h : SortF f a b) : ∀ d i, a ≤ i → i + d < b → leE (f i) (f (i + d))
  | 0, i, _, _ => leE_refl _
  | d + 1, i, h1, h2 => leE_trans (SortF.le h d i h1 (by omega)) (h (i + d) (by omega) (by omega))
theorem SortF.le' {f : Nat → Evt} {a b i j : Nat} (h : SortF f a b) (h1 : a ≤ i) (h2 : i ≤ j) (h3 : j < b) : leE (f i) (f j) := by
  have := h.le (j - i) i h1 (by omega)
  rwa [show i + (j - i) = j by omega] at this
theorem SortF.join {f : Nat → Evt} {a m b : Nat} (h1 : SortF f a m) (h2 : SortF f m b) (hx : ∀ i j, a ≤ i → i < m → m ≤ j → j < b → leE (f i) (f j)) : SortF f a b := fun k hk hb => by
  by_cases hm : k + 1 < m
  · exact h1 k hk hm
  · by_cases hm2 : m ≤ k
    · exact h2 k hm2 hb
    · exact hx k (k + 1) hk (by omega) (by omega) hb
/-- Changed in the stretch from a up to b alone, none lost. -/
structure Arr (f f' : Nat → Evt) (a b N : Nat) : Prop where
  perm : ((List.range N).map f).Perm ((List.range N).map f')
  out : ∀ i, i < a ∨ b ≤ i → f' i = f i
  mem : ∀ i, a ≤ i → i < b → ∃ j, a ≤ j ∧ j < b ∧ f' i = f j
theorem Arr.refl (f : Nat → Evt) (a b N : Nat) : Arr f f a b N := ⟨List.Perm.refl _, fun _ _ => rfl, fun i h1 h2 => ⟨i, h1, h2, rfl⟩⟩
theorem Arr.trans {f f' f'' : Nat → Evt} {a b N : Nat} (h : Arr f f' a b N) (k : Arr f' f'' a b N) : Arr f f'' a b N :=
  ⟨h.perm.trans k.perm, fun i hi => (k.out i hi).trans (h.out i hi), fun i h1 h2 => by
    obtain ⟨j, j1, j2, e⟩ := k.mem i h1 h2; obtain ⟨l, l1, l2, e'⟩ := h.mem j j1 j2
    exact ⟨l, l1, l2, e.trans e'⟩⟩
theorem Arr.widen {f f' : Nat → Evt} {a b a' b' N : Nat} (h : Arr f f' a b N) (ha : a' ≤ a) (hb : b ≤ b') : Arr f f' a' b' N :=
  ⟨h.perm, fun i hi => h.out i (by omega), fun i h1 h2 => by
    by_cases hi : a ≤ i ∧ i < b
    · obtain ⟨j, j1, j2, e⟩ := h.mem i hi.1 hi.2
      exact ⟨j, by omega, by omega, e⟩
    · exact ⟨i, h1, h2, h.out i (by omega)⟩⟩
/-- Two change places. -/
def swp (f : Nat → Evt) (i j : Nat) : Nat → Evt := fun k => if k = i then f j else if k = j then f i else f k
theorem swp_perm (f : Nat → Evt) {i j : Nat} (hij : i < j) : ∀ N, j < N → ((List.range N).map f).Perm ((List.range N).map (swp f i j)) := by
  intro N hj
  have cong : ∀ (f' : Nat → Evt) (l : List Nat), (∀ x ∈ l, f x = f' x) → l.map f = l.map f' := fun f' l h => List.map_congr_left h
  have split : List.range N = List.range i ++ ([i] ++ (List.range' (i + 1) (j - (i + 1)) ++ ([j] ++ List.range' (j + 1) (N - (j + 1))))) := by
    rw [List.range_eq_range', List.range_eq_range']; rw [show [i] = List.range' i 1 from rfl, show [j] = List.range' j 1 from rfl]
    have e1 := @List.range'_append_1 j 1 (N - (j + 1))
    have e2 := @List.range'_append_1 (i + 1) (j - (i + 1)) (1 + (N - (j + 1)))
    have e3 := @List.range'_append_1 i 1 ((j - (i + 1)) + (1 + (N - (j + 1))))
    have e4 := @List.range'_append_1 0 i (1 + ((j - (i + 1)) + (1 + (N - (j + 1)))))
    rw [show i + 1 + (j - (i + 1)) = j by omega] at e2; rw [Nat.zero_add] at e4; rw [e1, e2, e3, e4]
    congr 1
    omega
  rw [split]; simp only [List.map_append, List.map_cons, List.map_nil]
  rw [← cong (swp f i j) (List.range i) (fun x hx => by have := List.mem_range.1 hx; unfold swp; rw [if_neg (by omega), if_neg (by omega)]),
    ← cong (swp f i j) (List.range' (i + 1) (j - (i + 1))) (fun x hx => by have := List.mem_range'_1.1 hx; unfold swp; rw [if_neg (by omega), if_neg (by omega)]),
    ← cong (swp f i j) (List.range' (j + 1) (N - (j + 1))) (fun x hx => by have := List.mem_range'_1.1 hx; unfold swp; rw [if_neg (by omega), if_neg (by omega)])]
  rw [show swp f i j i = f j by simp [swp], show swp f i j j = f i by unfold swp; rw [if_neg (by omega), if_pos rfl]]; refine List.Perm.append_left _ ?_
  generalize (List.range' (i + 1) (j - (i + 1))).map f = l
  generalize (List.range' (j + 1) (N - (j + 1))).map f = r
  generalize f i = x
  generalize f j = y
  show (x :: (l ++ y :: r)).Perm (y :: (l ++ x :: r))
  refine ((List.perm_middle (a := y) (l₁ := l) (l₂ := r)).cons x).trans ?_; refine (List.Perm.swap y x _).trans ?_
  exact ((List.perm_middle (a := x) (l₁ := l) (l₂ := r)).symm).cons y
theorem swp_arr (f : Nat → Evt) {i j a b N : Nat} (hij : i < j) (ha : a ≤ i) (hb : j < b) (hN : j < N) : Arr f (swp f i j) a b N :=
  ⟨swp_perm f hij N hN, fun k hk => by unfold swp; rw [if_neg (by omega), if_neg (by omega)], fun k h1 h2 => by
    unfold swp
    by_cases e : k = i
    · exact ⟨j, by omega, by omega, by rw [if_pos e]⟩
    · rw [if_neg e]
      by_cases e2 : k = j
      · exact ⟨i, by omega, by omega, by rw [if_pos e2]⟩
      · exact ⟨k, h1, h2, by rw [if_neg e2]⟩⟩
/-- Sorted but for the pair at j, on the way down. -/
structure NearF (f : Nat → Evt) (a j i : Nat) : Prop where
  pairs : ∀ k, a ≤ k → k + 1 ≤ i → k + 1 ≠ j → leE (f k) (f (k + 1))
  over : a < j → j < i → leE (f (j - 1)) (f (j + 1))
theorem NearF.start {f : Nat → Evt} {a i : Nat} (h : SortF f a i) : NearF f a i i := ⟨fun k h1 h2 h3 => h k h1 (by omega), fun _ h => absurd h (by omega)⟩
theorem NearF.stop {f : Nat → Evt} {a j i : Nat} (h : NearF f a j i) (hs : a < j → leE (f (j - 1)) (f j)) : SortF f a (i + 1) := fun k h1 h2 => by
  by_cases e : k + 1 = j
  · have := hs (by omega)
    rw [show j - 1 = k by omega, ← e] at this
    exact this
  · exact h.pairs k h1 (by omega) e
theorem NearF.step {f : Nat → Evt} {a k i : Nat} (h : NearF f a (k + 1) i) (ha : a ≤ k) (hk : k + 1 ≤ i) (hl : ltE (f (k + 1)) (f k) = true) : NearF (swp f k (k + 1)) a k i := by
  have s0 : swp f k (k + 1) k = f (k + 1) := by simp [swp]
  have s1 : swp f k (k + 1) (k + 1) = f k := by simp [swp]
  have s2 : ∀ l, l ≠ k → l ≠ k + 1 → swp f k (k + 1) l = f l := fun l h1 h2 => by unfold swp; rw [if_neg h1, if_neg h2]
  refine ⟨fun l h1 h2 h3 => ?_, fun h1 _ => ?_⟩
  · by_cases e : l = k
    · subst e
      rw [s0, s1]
      exact ltE_le hl
    · by_cases e2 : l = k + 1
      · subst e2
        rw [s1, s2 (k + 1 + 1) (by omega) (by omega)]
        exact h.over (by omega) (by omega)
      · rw [s2 l e e2, s2 (l + 1) (by omega) (by omega)]
        exact h.pairs l h1 h2 (by omega)
  · rw [s1, s2 (k - 1) (by omega) (by omega)]
    have := h.pairs (k - 1) (by omega) (by omega) (by omega)
    rwa [show k - 1 + 1 = k by omega] at this
end Go.Proofs.YtlikekmhccnilaaGreat

namespace Go.Proofs.YtlikekmhccnilaaGreat
set_option maxRecDepth 100000
open Go.RowKit
theorem ins_perm (e : Evt) : ∀ l : List Evt, (ins e l).Perm (e :: l)
  | [] => List.Perm.refl _
  | x :: r => by
    rw [ins]
    split
    · exact List.Perm.refl _
    · exact ((ins_perm e r).cons x).trans (List.Perm.swap e x r)
theorem rise_pairwise : ∀ l : List Evt, riseB l = true → l.Pairwise leE
  | [], _ => List.Pairwise.nil
  | [a], _ => List.pairwise_singleton _ _
  | a :: b :: r, h => by
    rw [riseB, Bool.and_eq_true] at h
    have ih := rise_pairwise (b :: r) h.2
    refine List.Pairwise.cons (fun x hx => ?_) ih
    rcases List.mem_cons.1 hx with rfl | hx
    · exact ltE_le h.1
    · exact leE_trans (ltE_le h.1) ((List.pairwise_cons.1 ih).1 x hx)
theorem ins_pairwise (e : Evt) : ∀ l : List Evt, l.Pairwise leE → (ins e l).Pairwise leE
  | [], _ => List.pairwise_singleton _ _
  | x :: r, h => by
    have h2 := List.pairwise_cons.1 h
    rw [ins]
    split
    · rename_i hl
      refine List.Pairwise.cons (fun y hy => ?_) h
      rcases List.mem_cons.1 hy with rfl | hy
      · exact ltE_le hl
      · exact leE_trans (ltE_le hl) (h2.1 y hy)
    · rename_i hl
      refine List.Pairwise.cons (fun y hy => ?_) (ins_pairwise e r h2.2)
      rcases List.mem_cons.1 ((ins_perm e r).mem_iff.1 hy) with rfl | hy
      · exact Bool.eq_false_iff.2 hl
      · exact h2.1 y hy
theorem perm_sorted : ∀ (l l' : List Evt), l.Perm l' → l.Pairwise leE → l'.Pairwise leE → l = l'
  | [], l', h, _, _ => (List.Perm.nil_eq h)
  | x :: xs, [], h, _, _ => by
    have := h.length_eq
    simp at this
  | x :: xs, y :: ys, h, h1, h2 => by
    have k1 := List.pairwise_cons.1 h1
    have k2 := List.pairwise_cons.1 h2
    have e : x = y := by
      have m1 := List.mem_cons.1 (h.mem_iff.1 (List.mem_cons_self (a := x) (l := xs)))
      have m2 := List.mem_cons.1 (h.mem_iff.2 (List.mem_cons_self (a := y) (l := ys)))
      rcases m1 with m1 | m1
      · exact m1
      · rcases m2 with m2 | m2
        · exact m2.symm
        · exact leE_antisymm (k1.1 y m2) (k2.1 x m1)
    subst e; rw [perm_sorted xs ys (List.Perm.cons_inv h) k1.2 k2.2]
theorem sortF_pairwise {F : Nat → Evt} {N : Nat} (h : SortF F 0 N) : ((List.range N).map F).Pairwise leE := by
  rw [List.pairwise_iff_getElem]; intro i j hi hj hij; simp only [List.length_map, List.length_range] at hi hj; simp only [List.getElem_map, List.getElem_range]
  exact h.le' (Nat.zero_le _) (by omega) hj
theorem range_getD (es : List Evt) : (List.range es.length).map (fun i => es.getD i default) = es := by
  apply List.ext_getElem
  · simp
  · intro i h1 h2
    simp [h2]
end Go.Proofs.YtlikekmhccnilaaGreat

namespace Go.Proofs.YtlikekmhccnilaaGreat
set_option maxRecDepth 100000
open Go.RowKit
/-- No event is less than the one at half its place. -/
def HeapF (F : Nat → Evt) (n : Nat) : Prop := ∀ i, 0 < i → i < n → leE (F ((i - 1) / 2)) (F i)
theorem swp_l (f : Nat → Evt) (i j : Nat) : swp f i j i = f j := by simp [swp]
theorem swp_r (f : Nat → Evt) (i j : Nat) : swp f i j j = f i := by
  unfold swp
  split
  · rename_i h; rw [h]
  · rw [if_pos rfl]
theorem swp_o (f : Nat → Evt) {i j k : Nat} (h1 : k ≠ i) (h2 : k ≠ j) : swp f i j k = f k := by
  unfold swp; rw [if_neg h1, if_neg h2]
/-- A heap but for the event at j, which may be too small. -/
structure UpF (F : Nat → Evt) (n j : Nat) : Prop where
  pairs : ∀ i, 0 < i → i < n → i ≠ j → leE (F ((i - 1) / 2)) (F i)
  over : 0 < j → ∀ i, 0 < i → i < n → (i - 1) / 2 = j → leE (F ((j - 1) / 2)) (F i)
theorem UpF.start {F : Nat → Evt} {n : Nat} (h : HeapF F n) : UpF F (n + 1) n := ⟨fun i h0 hi hne => h i h0 (by omega), fun _ i _ hi hp => by omega⟩
theorem UpF.stop {F : Nat → Evt} {n j : Nat} (h : UpF F n j) (hs : 0 < j → leE (F ((j - 1) / 2)) (F j)) : HeapF F n := fun i h0 hi => by
  by_cases e : i = j
  · subst e
    exact hs h0
  · exact h.pairs i h0 hi e
theorem UpF.step {F : Nat → Evt} {n j p : Nat} (h : UpF F n j) (hp : p = (j - 1) / 2) (hj : 0 < j) (hn : j < n) (hl : ltE (F j) (F p) = true) : UpF (swp F p j) n p := by
  have hlt : p < j := by omega
  refine ⟨fun i h0 hi hne => ?_, fun h0 i hi0 hi hpi => ?_⟩
  · by_cases e : i = j
    · subst e
      rw [← hp, swp_l, swp_r]
      exact ltE_le hl
    · rw [swp_o F hne e]
      by_cases e1 : (i - 1) / 2 = j
      · rw [e1, swp_r]
        have := h.over hj i h0 hi e1
        rwa [← hp] at this
      · by_cases e2 : (i - 1) / 2 = p
        · rw [e2, swp_l]
          have := h.pairs i h0 hi e
          rw [e2] at this
          exact leE_trans (ltE_le hl) this
        · rw [swp_o F e2 e1]
          exact h.pairs i h0 hi e
  · have hpp : leE (F ((p - 1) / 2)) (F p) := h.pairs p h0 (by omega) (by omega)
    rw [swp_o F (show (p - 1) / 2 ≠ p by omega) (show (p - 1) / 2 ≠ j by omega)]
    by_cases e : i = j
    · subst e
      rw [swp_r]
      exact hpp
    · rw [swp_o F (show i ≠ p by omega) e]
      have := h.pairs i hi0 hi e
      rw [hpi] at this
      exact leE_trans hpp this
/-- A heap but for the event at i, which may be too great. -/
structure DownF (F : Nat → Evt) (n i : Nat) : Prop where
  pairs : ∀ k, 0 < k → k < n → (k - 1) / 2 ≠ i → leE (F ((k - 1) / 2)) (F k)
  over : 0 < i → ∀ k, 0 < k → k < n → (k - 1) / 2 = i → leE (F ((i - 1) / 2)) (F k)
theorem DownF.start {F : Nat → Evt} {n : Nat} (h : HeapF F (n + 1)) : DownF (swp F 0 n) n 0 :=
  ⟨fun k h0 hk hne => by
    rw [swp_o F hne (show (k - 1) / 2 ≠ n by omega), swp_o F (show k ≠ 0 by omega) (show k ≠ n by omega)]
    exact h k h0 (by omega), fun h => absurd h (by omega)⟩
theorem DownF.stop {F : Nat → Evt} {n i : Nat} (h : DownF F n i) (hs : ∀ k, 0 < k → k < n → (k - 1) / 2 = i → leE (F i) (F k)) : HeapF F n := fun k h0 hk => by
  by_cases e : (k - 1) / 2 = i
  · rw [e]
    exact hs k h0 hk e
  · exact h.pairs k h0 hk e
theorem DownF.step {F : Nat → Evt} {n i j : Nat} (h : DownF F n i) (h0 : 0 < j) (hn : j < n) (hp : (j - 1) / 2 = i) (hl : ltE (F j) (F i) = true) (hm : ∀ k, 0 < k → k < n → (k - 1) / 2 = i → leE (F j) (F k)) : DownF (swp F i j) n j := by
  have hlt : i < j := by omega
  refine ⟨fun k k0 hk hne => ?_, fun _ k k0 hk hpk => ?_⟩
  · by_cases e : (k - 1) / 2 = i
    · rw [e, swp_l]
      by_cases e1 : k = j
      · subst e1
        rw [swp_r]
        exact ltE_le hl
      · rw [swp_o F (show k ≠ i by omega) e1]
        exact hm k k0 hk e
    · rw [swp_o F e hne]
      by_cases e2 : k = i
      · subst e2
        rw [swp_l]
        exact h.over k0 j h0 hn hp
      · have e3 : k ≠ j := fun e3 => e (by rw [e3]; exact hp)
        rw [swp_o F e2 e3]
        exact h.pairs k k0 hk e
  · rw [hp, swp_l, swp_o F (show k ≠ i by omega) (show k ≠ j by omega)]
    have := h.pairs k k0 hk (by omega)
    rwa [hpk] at this
end Go.Proofs.YtlikekmhccnilaaGreat

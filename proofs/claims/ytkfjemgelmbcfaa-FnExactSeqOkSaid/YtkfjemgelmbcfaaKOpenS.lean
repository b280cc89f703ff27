/-
  How a simulator that came in is opened, in one sentence: by value it gives its component states, its events and its records; no condition is made.
-/
import Derived.Test.YtkfjemgelmbcfaaKB
import Derived.Test.YtkfjemgelmbcfaaKZ2
namespace Go.Proofs.Ytkfjemgelmbcfaa
set_option maxRecDepth 100000
open Go.ChangeShapes Go.WideShapes Go.ChangeAt Go.RowKit Go.Joins Go.Deep
set_option linter.unusedVariables false

section
variable {H : Type} {enc : TypeId × Value → H} {P : Program} {w : World} {base : Nat} {spare : Nat → Bool} {held : Bool}
/-- A slice whose elements are s numbers each. -/
theorem open_nums {t e : TypeId} {s fuel : Nat} {v : Value} {y : DataW H × List MemPlace} (ht : P.underlying t = some (.slice e)) (hC : P.cellsOf e = s) (hs : 0 < s)
    (hI : ∀ fuel cs x, cs.length = s → DataW.trod enc P w base spare held fuel e cs = some x → ∀ j, j < s → ∃ z, cs[j]? = some (.int .i64 z)) (hf : DataW.trod enc P w base spare held fuel t [v] = some y) :
    ∃ A len c, v = .slice A len c ∧ len ≤ 9223372036854775807 ∧ (0 < len → ∃ b off, A = some ⟨b, off, none⟩ ∧ b < w.heap.size) ∧ ∀ i, i < len → ∃ b off, A = some ⟨b, off, none⟩ ∧ ∀ j, j < s → ∃ z, w.cell? ⟨b, off + i * s + j, none⟩ = some (.int .i64 z) := by
  rcases open_slice ht hf with ⟨hcs, _⟩ | ⟨a, len, c, m, n, D, Pl, hcs, _, hl, hm, hmm, _, hi⟩
  · simp only [List.cons.injEq, and_true] at hcs
    exact ⟨none, 0, 0, hcs, by omega, fun h => absurd h (by omega), fun i h => absurd h (by omega)⟩
  · simp only [List.cons.injEq, and_true] at hcs
    have hnm : len ≤ m := by rw [hmm]; split <;> omega
    have one : ∀ i, i < len → ∀ j, j < s → ∃ z, w.cell? (a.add (i * s + j)) = some (.int .i64 z) := by
      intro i hin j hj
      obtain ⟨cs', hc, ht'⟩ := hi i (by omega)
      rw [hC] at hc
      obtain ⟨_, hcl, hat⟩ := World.cells?_some hc
      obtain ⟨z, hz⟩ := hI _ cs' _ hcl ht' j hj
      have := hat j hj
      rw [hz, Go.Deep.add_add] at this
      exact ⟨z, this⟩
    obtain ⟨b, off, spot⟩ := a
    have nosp : 0 < len → spot = none := fun h0 => by
      obtain ⟨z, hz⟩ := one 0 h0 0 hs
      simpa [Addr.add] using World.cell?_spot hz
    have ad : ∀ k, (⟨b, off, none⟩ : Addr).add k = ⟨b, off + k, none⟩ := fun k => by
      unfold Addr.add
      split
      · rename_i h0; subst h0; rfl
      · rfl
    refine ⟨_, len, c, hcs, by unfold maxLen at hm; omega, fun h0 => ?_, fun i hin => ?_⟩
    · obtain rfl := nosp h0
      obtain ⟨z, hz⟩ := one 0 h0 0 hs
      rw [ad] at hz
      exact ⟨b, off, rfl, block_lt hz⟩
    · obtain rfl := nosp (by omega)
      refine ⟨b, off, rfl, fun j hj => ?_⟩
      obtain ⟨z, hz⟩ := one i hin j hj
      rw [ad] at hz
      exact ⟨z, by rw [← hz]; congr 2; omega⟩

/-- The value of a field, where all fields are one cell. -/
theorem nums_fields {e : TypeId} {fs : Array Field} {fuel : Nat} {cs : List Value} {x : DataW H × List MemPlace} (he : P.underlying e = some (.struct fs)) (hone : oneCellFields P fs = true)
    (hcl : cs.length = fs.size) (h : DataW.trod enc P w base spare held fuel e cs = some x) (j : Nat) (f : Field) (hj : fs[j]? = some f) :
    ∃ k y v, cs[j]? = some v ∧ DataW.trod enc P w base spare held k f.type [v] = some y := by
  obtain ⟨ys, n', _, _, _, hyl, hf⟩ := DataW.trod_struct he h
  obtain ⟨ho, hk⟩ := hone_of hone j f hj
  have hjl : j < fs.size := (Array.getElem?_eq_some_iff.1 hj).1
  have h1 := hf j f hj
  rw [ho, hk] at h1
  have hone' : (cs.drop j).take 1 = [cs[j]'(by omega)] := by
    rw [List.drop_eq_getElem_cons (by omega)]
    rfl
  rw [hone'] at h1
  exact ⟨n', ys[j]'(by omega), cs[j]'(by omega), List.getElem?_eq_getElem (by omega), h1.trans (List.getElem?_eq_getElem (by omega))⟩
end

theorem ev_nums {H : Type} {enc : TypeId × Value → H} {w : World} {base : Nat} {spare : Nat → Bool} {held : Bool} (fuel : Nat) (cs : List Value) (x : DataW H × List MemPlace) (hcl : cs.length = 6)
    (h : DataW.trod enc Try.prog w base spare held fuel 56 cs = some x) (j : Nat) (hj : j < 6) : ∃ z, cs[j]? = some (.int .i64 z) := by
  obtain ⟨fs, hu, hone, hsz, hty⟩ := hone56
  obtain ⟨k, y, v, hv, ht⟩ := nums_fields hu hone (by omega) h j (fs[j]'(by omega)) (Array.getElem?_eq_getElem (by omega))
  have htj : (fs[j]'(by omega)).type = 3 := by
    have e1 : (fs.map (·.type))[j]? = some (3) := by
      rw [hty]
      have h6 : j = 0 ∨ j = 1 ∨ j = 2 ∨ j = 3 ∨ j = 4 ∨ j = 5 := by omega
      rcases h6 with rfl | rfl | rfl | rfl | rfl | rfl <;> rfl
    simpa [show j < fs.size by omega] using e1
  rw [htj] at ht
  obtain ⟨z, e, _, _⟩ := DataW.trod_int Try.underlying3 ht
  simp only [List.cons.injEq, and_true] at e
  exact ⟨z, by rw [hv, e]⟩

theorem cst_nums {H : Type} {enc : TypeId × Value → H} {w : World} {base : Nat} {spare : Nat → Bool} {held : Bool} (fuel : Nat) (cs : List Value) (x : DataW H × List MemPlace) (hcl : cs.length = 3)
    (h : DataW.trod enc Try.prog w base spare held fuel 61 cs = some x) (j : Nat) (hj : j < 3) : ∃ z, cs[j]? = some (.int .i64 z) := by
  obtain ⟨fs, hu, hone, hsz, hty⟩ := (⟨_, Try.underlying61, by kernel_rfl, rfl, by simp⟩ : ∃ fs : Array Field, Try.prog.underlying 61 = some (.struct fs) ∧ oneCellFields Try.prog fs = true ∧ fs.size = 3 ∧ fs.map (·.type) = #[3, 3, 3])
  obtain ⟨k, y, v, hv, ht⟩ := nums_fields hu hone (by omega) h j (fs[j]'(by omega)) (Array.getElem?_eq_getElem (by omega))
  have htj : (fs[j]'(by omega)).type = 3 := by
    have e1 : (fs.map (·.type))[j]? = some (3) := by
      rw [hty]
      have h6 : j = 0 ∨ j = 1 ∨ j = 2 := by omega
      rcases h6 with rfl | rfl | rfl <;> rfl
    simpa [show j < fs.size by omega] using e1
  rw [htj] at ht
  obtain ⟨z, e, _, _⟩ := DataW.trod_int Try.underlying3 ht
  simp only [List.cons.injEq, and_true] at e
  exact ⟨z, by rw [hv, e]⟩

theorem cells174 : Try.prog.cellsOf 174 = 7 := by kernel_rfl
theorem rec_nums {H : Type} {enc : TypeId × Value → H} {w : World} {base : Nat} {spare : Nat → Bool} {held : Bool} (fuel : Nat) (cs : List Value) (x : DataW H × List MemPlace) (hcl : cs.length = 7)
    (h : DataW.trod enc Try.prog w base spare held fuel 174 cs = some x) (j : Nat) (hj : j < 7) : ∃ z, cs[j]? = some (.int .i64 z) := by
  obtain ⟨f0, f1, hu, ho0, ho1, ht0, ht1⟩ := (⟨_, _, Try.underlying174, rfl, rfl, rfl, rfl⟩ : ∃ f0 f1 : Field, Try.prog.underlying 174 = some (.struct #[f0, f1]) ∧ f0.offset = 0 ∧ f1.offset = 6 ∧ f0.type = 56 ∧ f1.type = 3)
  obtain ⟨ys, n', _, _, _, hyl, hf⟩ := DataW.trod_struct hu h
  have hyl : ys.length = 2 := hyl
  by_cases hj6 : j < 6
  · have h1 := hf 0 f0 rfl
    rw [ho0, ht0, cells56, List.getElem?_eq_getElem (by omega : 0 < ys.length)] at h1
    obtain ⟨z, hz⟩ := ev_nums _ _ _ (by simp; omega) h1 j hj6
    refine ⟨z, ?_⟩
    rw [← hz]
    simp [hj6]
  · obtain rfl : j = 6 := by omega
    have h1 := hf 1 f1 rfl
    rw [ho1, ht1, show Try.prog.cellsOf 3 = 1 by kernel_rfl, List.getElem?_eq_getElem (by omega : 1 < ys.length)] at h1
    have h2 : (cs.drop 6).take 1 = [cs[6]'(by omega)] := by
      rw [List.drop_eq_getElem_cons (by omega)]
      rfl
    rw [h2] at h1
    obtain ⟨z, e, _, _⟩ := DataW.trod_int Try.underlying3 h1
    simp only [List.cons.injEq, and_true] at e
    exact ⟨z, by rw [List.getElem?_eq_getElem (by omega), e]⟩

theorem open_csts {H : Type} {enc : TypeId × Value → H} {w : World} {base : Nat} {spare : Nat → Bool} {held : Bool} {v : Value} {fuel : Nat} {y : DataW H × List MemPlace}
    (hf : DataW.trod enc Try.prog w base spare held fuel 76 [v] = some y) : ∃ A n c xs, v = .slice A n c ∧ n ≤ 9223372036854775807 ∧ Csts w A n xs := by
  obtain ⟨A, n, c, rfl, hbig, hA, hi⟩ := open_nums Try.underlying76 cells61 (by omega) cst_nums hf
  have one : ∀ i, i < n → ∃ x : Cst, ∃ b off, A = some ⟨b, off, none⟩ ∧ CstAt w b (off + i * 3) x := by
    intro i hin
    obtain ⟨b, off, rfl, f⟩ := hi i hin
    obtain ⟨z0, g0⟩ := f 0 (by omega)
    obtain ⟨z1, g1⟩ := f 1 (by omega)
    obtain ⟨z2, g2⟩ := f 2 (by omega)
    exact ⟨⟨z0, z1, z2⟩, b, off, rfl, g0, g1, g2⟩
  obtain ⟨xs, hlen, hxs⟩ := list_of n one
  refine ⟨A, n, c, xs, rfl, hbig, hlen, fun hn => ?_⟩
  obtain ⟨b, off, rfl, hb⟩ := hA hn
  refine ⟨b, off, rfl, hb, fun i hin => ?_⟩
  obtain ⟨b', off', e, h⟩ := hxs i hin
  injection e with e
  injection e with e1 e2 _
  subst e1 e2
  exact h

theorem open_recs {H : Type} {enc : TypeId × Value → H} {w : World} {base : Nat} {spare : Nat → Bool} {held : Bool} {v : Value} {fuel : Nat} {y : DataW H × List MemPlace}
    (hf : DataW.trod enc Try.prog w base spare held fuel 77 [v] = some y) : ∃ A n c xs, v = .slice A n c ∧ n ≤ 9223372036854775807 ∧ Recs w A n xs := by
  obtain ⟨A, n, c, rfl, hbig, hA, hi⟩ := open_nums Try.underlying77 cells174 (by omega) rec_nums hf
  have one : ∀ i, i < n → ∃ x : Rec, ∃ b off, A = some ⟨b, off, none⟩ ∧ RecAt w b (off + i * 7) x := by
    intro i hin
    obtain ⟨b, off, rfl, f⟩ := hi i hin
    obtain ⟨z0, g0⟩ := f 0 (by omega)
    obtain ⟨z1, g1⟩ := f 1 (by omega)
    obtain ⟨z2, g2⟩ := f 2 (by omega)
    obtain ⟨z3, g3⟩ := f 3 (by omega)
    obtain ⟨z4, g4⟩ := f 4 (by omega)
    obtain ⟨z5, g5⟩ := f 5 (by omega)
    obtain ⟨z6, g6⟩ := f 6 (by omega)
    exact ⟨⟨⟨z0, z1, z2, z3, z4, z5⟩, z6⟩, b, off, rfl, g0, g1, g2, g3, g4, g5, g6⟩
  obtain ⟨xs, hlen, hxs⟩ := list_of n one
  refine ⟨A, n, c, xs, rfl, hbig, hlen, fun hn => ?_⟩
  obtain ⟨b, off, rfl, hb⟩ := hA hn
  refine ⟨b, off, rfl, hb, fun i hin => ?_⟩
  obtain ⟨b', off', e, h⟩ := hxs i hin
  injection e with e
  injection e with e1 e2 _
  subst e1 e2
  exact h

theorem cells79 : Try.prog.cellsOf 79 = 3 := by kernel_rfl

/-- A simulator that came in, by value. -/
theorem open_sq {H : Type} {enc : TypeId × Value → H} {w : World} {base b0 : Nat} {spare : Nat → Bool} {held : Bool} {r : Reach} {v : Value} {d : DataW H} {p : List MemPlace}
    (hv : Value.okWide Try.prog w r b0 79 v) (h : DataW.Trod enc Try.prog w base spare held 79 v d p) :
    ∃ s : Sq, ∃ Ac nc cc Aw nw cw Al nl cl, v = .agg #[.slice Ac nc cc, .slice Aw nw cw, .slice Al nl cl] ∧ (nc ≤ 9223372036854775807 ∧ nw ≤ 9223372036854775807 ∧ nl ≤ 9223372036854775807) ∧ SqV w Ac nc Aw nw Al nl s := by
  obtain ⟨c0, c1, c2, y0, y1, y2, f, rfl, rfl, rfl, h0, h1, h2⟩ := open_agg3 Try.underlying79 (by kernel_rfl) cells79 hv h
  obtain ⟨Ac, nc, cc, xs, rfl, bc, hc⟩ := open_csts h0
  have hv1 : ∃ B k d, c1 = .slice B k d := by
    rcases open_slice Try.underlying36 h1 with ⟨h, _⟩ | ⟨a, l, c, _, _, _, _, h, _⟩
    · exact ⟨none, 0, 0, by simpa using h⟩
    · exact ⟨some a, l, c, by simpa using h⟩
  obtain ⟨B, k, d, rfl⟩ := hv1
  obtain ⟨es, he, _, hn⟩ := open_evts (d := y1.1) (p := y1.2) (A := B) (n := k) (cap := d) ⟨f, by simpa [Value.cells] using h1⟩
  obtain ⟨Al, nl, cl, rs, rfl, bl, hl⟩ := open_recs h2
  exact ⟨⟨xs, es, rs⟩, Ac, nc, cc, B, k, d, Al, nl, cl, rfl, ⟨bc, hn, bl⟩, ⟨hc, he, hl⟩⟩

end Go.Proofs.Ytkfjemgelmbcfaa

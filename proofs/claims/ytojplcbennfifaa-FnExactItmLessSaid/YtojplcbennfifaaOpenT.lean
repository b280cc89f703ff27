/-
  How an item that came in is opened, in one sentence: by value it gives its seven numbers; no condition is made.
-/
import Derived.Test.YtojplcbennfifaaOpenC
import Derived.Test.YtojplcbennfifaaItm
namespace Go.Proofs.Ytojplcbennfifaa
set_option maxRecDepth 100000
open Go.ChangeShapes Go.WideShapes Go.ChangeAt Go.RowKit Go.Joins Go.Deep
set_option linter.unusedVariables false

section
variable {H : Type} {enc : TypeId × Value → H} {P : Program} {w : World} {base : Nat} {spare : Nat → Bool} {held : Bool}
/-- The value of a field, where all fields are one cell. -/
theorem one_fields {e : TypeId} {fs : Array Field} {fuel : Nat} {cs : List Value} {x : DataW H × List MemPlace} (he : P.underlying e = some (.struct fs)) (hone : oneCellFields P fs = true)
    (hcl : cs.length = fs.size) (h : DataW.trod enc P w base spare held fuel e cs = some x) (j : Nat) (f : Field) (hj : fs[j]? = some f) :
    ∃ k y v, cs[j]? = some v ∧ DataW.trod enc P w base spare held k f.type [v] = some y := by
  obtain ⟨ys, n', _, _, _, hyl, hf⟩ := DataW.trod_struct he h
  obtain ⟨ho, hk⟩ := hone_of hone j f hj
  have hjl : j < fs.size := (Array.getElem?_eq_some_iff.1 hj).1
  have h1 := hf j f hj
  rw [ho, hk] at h1
  have hone' : (cs.drop j).take 1 = [cs[j]'(by omega)] := by
    rw [List.drop_eq_getElem_cons (by omega)]
    rfl
  rw [hone'] at h1
  exact ⟨n', ys[j]'(by omega), cs[j]'(by omega), List.getElem?_eq_getElem (by omega), h1.trans (List.getElem?_eq_getElem (by omega))⟩
end

theorem evt_nums {H : Type} {enc : TypeId × Value → H} {w : World} {base : Nat} {spare : Nat → Bool} {held : Bool} (fuel : Nat) (cs : List Value) (x : DataW H × List MemPlace) (hcl : cs.length = 6)
    (h : DataW.trod enc Try.prog w base spare held fuel 76 cs = some x) (j : Nat) (hj : j < 6) : ∃ z, cs[j]? = some (.int .i64 z) := by
  obtain ⟨fs, hu, hone, hsz, hty⟩ := hone76
  obtain ⟨k, y, v, hv, ht⟩ := one_fields hu hone (by omega) h j (fs[j]'(by omega)) (Array.getElem?_eq_getElem (by omega))
  have htj : (fs[j]'(by omega)).type = 3 := by
    have e1 : (fs.map (·.type))[j]? = some (3) := by
      rw [hty]
      have h6 : j = 0 ∨ j = 1 ∨ j = 2 ∨ j = 3 ∨ j = 4 ∨ j = 5 := by omega
      rcases h6 with rfl | rfl | rfl | rfl | rfl | rfl <;> rfl
    simpa [show j < fs.size by omega] using e1
  rw [htj] at ht
  obtain ⟨z, e, _, _⟩ := DataW.trod_int Try.underlying3 ht
  simp only [List.cons.injEq, and_true] at e
  exact ⟨z, by rw [hv, e]⟩

theorem cells78 : Try.prog.cellsOf 78 = 7 := by kernel_rfl
theorem itm_nums {H : Type} {enc : TypeId × Value → H} {w : World} {base : Nat} {spare : Nat → Bool} {held : Bool} (fuel : Nat) (cs : List Value) (x : DataW H × List MemPlace) (hcl : cs.length = 7)
    (h : DataW.trod enc Try.prog w base spare held fuel 78 cs = some x) (j : Nat) (hj : j < 7) : ∃ z, cs[j]? = some (.int .i64 z) := by
  obtain ⟨f0, f1, hu, ho0, ho1, ht0, ht1⟩ := (⟨_, _, Try.underlying78, rfl, rfl, rfl, rfl⟩ : ∃ f0 f1 : Field, Try.prog.underlying 78 = some (.struct #[f0, f1]) ∧ f0.offset = 0 ∧ f1.offset = 6 ∧ f0.type = 76 ∧ f1.type = 3)
  obtain ⟨ys, n', _, _, _, hyl, hf⟩ := DataW.trod_struct hu h
  have hyl : ys.length = 2 := hyl
  by_cases hj6 : j < 6
  · have h1 := hf 0 f0 rfl
    rw [ho0, ht0, cells76, List.getElem?_eq_getElem (by omega : 0 < ys.length)] at h1
    obtain ⟨z, hz⟩ := evt_nums _ _ _ (by simp; omega) h1 j hj6
    refine ⟨z, ?_⟩
    rw [← hz]
    simp [hj6]
  · obtain rfl : j = 6 := by omega
    have h1 := hf 1 f1 rfl
    rw [ho1, ht1, show Try.prog.cellsOf 3 = 1 by kernel_rfl, List.getElem?_eq_getElem (by omega : 1 < ys.length)] at h1
    have h2 : (cs.drop 6).take 1 = [cs[6]'(by omega)] := by
      rw [List.drop_eq_getElem_cons (by omega)]
      rfl
    rw [h2] at h1
    obtain ⟨z, e, _, _⟩ := DataW.trod_int Try.underlying3 h1
    simp only [List.cons.injEq, and_true] at e
    exact ⟨z, by rw [List.getElem?_eq_getElem (by omega), e]⟩

theorem open_itm {H : Type} {enc : TypeId × Value → H} {w : World} {base b0 : Nat} {spare : Nat → Bool} {held : Bool} {r : Reach} {v : Value} {d : DataW H} {p : List MemPlace}
    (hv : Value.okWide Try.prog w r b0 78 v) (h : DataW.Trod enc Try.prog w base spare held 78 v d p) : ∃ a : Itm, v = a.v ∧ True := by
  obtain ⟨cs, rfl, hsz⟩ := okWide_struct Try.underlying78 hv
  obtain ⟨l⟩ := cs
  match l, hsz.trans cells78 with
  | [c0, c1, c2, c3, c4, c5, c6], _ =>
    obtain ⟨fuel, hf⟩ := h
    have f := fun j hj => itm_nums fuel [c0, c1, c2, c3, c4, c5, c6] _ rfl hf j hj
    obtain ⟨z0, h0⟩ := f 0 (by omega)
    obtain ⟨z1, h1⟩ := f 1 (by omega)
    obtain ⟨z2, h2⟩ := f 2 (by omega)
    obtain ⟨z3, h3⟩ := f 3 (by omega)
    obtain ⟨z4, h4⟩ := f 4 (by omega)
    obtain ⟨z5, h5⟩ := f 5 (by omega)
    obtain ⟨z6, h6⟩ := f 6 (by omega)
    injection h0 with h0
    injection h1 with h1
    injection h2 with h2
    injection h3 with h3
    injection h4 with h4
    injection h5 with h5
    injection h6 with h6
    subst h0 h1 h2 h3 h4 h5 h6
    exact ⟨⟨⟨z0, z1, z2, z3, z4, z5⟩, z6⟩, rfl, trivial⟩

end Go.Proofs.Ytojplcbennfifaa

/-
  What markSeqState, heldSeqState and eqSeqState return, in one sentence: the marks are laid one behind the other in three blocks, are held, and when two are the same; for simulators of the call's own.
  How a simulator that came in is opened, in one sentence: by value it gives its component states, its events and its records; no condition is made.
  Heaps whose blocks are typed, in one sentence: of each block from a S on whose element type a table lists, every cell holds what the table says, and what each step keeps of it; no condition is made.
  Models in typed heaps, in one sentence: the table of a model's blocks, and that slices of rows of rules in such a heap hold some model; no condition is made.
  What is kept where one block alone is written, in one sentence: lists of events elsewhere, their blocks, the reader; no condition is made.
  What stands in the slots of regions over a typed heap, in one sentence: numbers, arrays of numbers, aggregates, slices in typed blocks, each kept by every step; no condition is made.
  The machine's map of rules, in one sentence: a block that is a map by component and kind has the values that a function tells; looked up, stored into, kept; no condition is made.
-/
import Derived.ArgAppend
import Derived.DeepKeys4
import Derived.Maps.OwnSet
import Derived.Test.YtklldniapombiaaDLEwev01
import Derived.Test.YtklldniapombiaaDLEwev02
import Derived.Test.YtklldniapombiaaDLEwev03
import Derived.Test.YtklldniapombiaaDLEwev08
import Derived.Test.YtklldniapombiaaDLEwev10
namespace Go.Proofs.Ytklldniapombiaa
set_option maxRecDepth 100000
open Go.RowKit
/-- The same, in a block of any type. -/
def Mkc (w : World) (lo : Nat) (A : Option Addr) (n s : Nat) : Prop := 0 < n → ∃ g, A = some ⟨g, 0, none⟩ ∧ lo ≤ g ∧ IntsOwn w g (n * s)
theorem Mkc.up {w w' : World} {lo : Nat} {A : Option Addr} {n s : Nat} (h : Mkc w lo A n s) (u : Up w w') : Mkc w' lo A n s := fun hn => by
  obtain ⟨g, hA, hl, ho⟩ := h hn
  exact ⟨g, hA, hl, ho.up u⟩
/-- Its block alone was written, if it has any. -/
def Wr (lo : Nat) (A : Option Addr) (n : Nat) (w w' : World) : Prop := (n = 0 ∧ Up w w') ∨ (0 < n ∧ ∃ g, A = some ⟨g, 0, none⟩ ∧ lo ≤ g ∧ Mv g w w')
/-- Two slices lie in two blocks. -/
def Ap (A : Option Addr) (n : Nat) (A' : Option Addr) (n' : Nat) : Prop := 0 < n → 0 < n' → ∀ b o b' o', A = some ⟨b, o, none⟩ → A' = some ⟨b', o', none⟩ → b ≠ b'
theorem Ap.symm {A A' : Option Addr} {n n' : Nat} (h : Ap A n A' n') : Ap A' n' A n := fun h1 h2 b o b' o' e1 e2 e => h h2 h1 b' o' b o e2 e1 e.symm
theorem Wr.up {lo : Nat} {A : Option Addr} {n : Nat} {a w w' : World} (h : Wr lo A n w w') (k : Up a w) (hl : a.heap.size ≤ lo) : Up a w' := by
  rcases h with ⟨_, u⟩ | ⟨_, g, _, hg, m⟩
  · exact k.trans u
  · exact m.up k (by omega)
theorem Wr.size {lo : Nat} {A : Option Addr} {n : Nat} {w w' : World} (h : Wr lo A n w w') : w.heap.size ≤ w'.heap.size := by
  rcases h with ⟨_, u⟩ | ⟨_, g, _, _, m⟩
  · exact u.size
  · exact m.size
theorem Mkc.wr {w w' : World} {lo lo' : Nat} {A A' : Option Addr} {n n' s : Nat} (h : Mkc w lo A n s) (hw : Wr lo' A' n' w w') (ha : Ap A n A' n') : Mkc w' lo A n s := by
  rcases hw with ⟨_, u⟩ | ⟨hn', g', hA', _, m⟩
  · exact h.up u
  · intro hn
    obtain ⟨g, hA, hl, ho⟩ := h hn
    have hne := ha hn hn' g 0 g' 0 hA hA'
    exact ⟨g, hA, hl, ho.mv m hne⟩
theorem Held.wr {w w' : World} {lo' : Nat} {A A' : Option Addr} {n n' s : Nat} {k0 : Int} (h : Held w A n s k0) (hw : Wr lo' A' n' w w') (ha : Ap A n A' n') : Held w' A n s k0 := by
  rcases hw with ⟨_, u⟩ | ⟨hn', g', hA', _, m⟩
  · exact h.up u
  · intro hn
    exact (h.mv m (fun b off hA => ha hn hn' b off g' 0 hA hA')) hn
theorem Box3.wr {w w' : World} {lo b : Nat} {A : Option Addr} {n : Nat} {x y z : Value} (h : Box3 w b x y z) (hw : Wr lo A n w w') (hne : 0 < n → ∀ g, A = some ⟨g, 0, none⟩ → g ≠ b) : Box3 w' b x y z := by
  rcases hw with ⟨_, u⟩ | ⟨hn, g, hA, _, m⟩
  · exact h.up u
  · have := hne hn g hA
    exact h.keep m.size (fun o => m.cells b o h.lt (by omega))
/-- A simulator's value, over these slices. -/
structure SqV (w : World) (Ac : Option Addr) (nc : Nat) (Aw : Option Addr) (nw : Nat) (Al : Option Addr) (nl : Nat) (s : Sq) : Prop where
  comps : Csts w Ac nc s.comps
  wait : Evs w Aw nw s.wait
  log : Recs w Al nl s.log
theorem SqV.up {w w' : World} {Ac Aw Al : Option Addr} {nc nw nl : Nat} {s : Sq} (h : SqV w Ac nc Aw nw Al nl s) (u : Up w w') : SqV w' Ac nc Aw nw Al nl s := ⟨h.comps.up u, h.wait.up u, h.log.up u⟩
set_option maxHeartbeats 4000000 in
theorem eqSq_any (Ac : Option Addr) (nc cc : Nat) (Aw : Option Addr) (nw cw : Nat) (Al : Option Addr) (nl cl : Nat) (s : Sq) (Bc : Option Addr) (mc dc : Nat) (Bw : Option Addr) (mw dw : Nat) (Bl : Option Addr) (ml dl : Nat) (s' : Sq) (w : World)
    (h1 : nc ≤ 1000000000) (h2 : nw ≤ 1000000000) (h3 : nl ≤ 1000000000) (h : SqV w Ac nc Aw nw Al nl s) (h' : SqV w Bc mc Bw mw Bl ml s') :
    Calls Try.prog 29 #[.agg #[.slice Ac nc cc, .slice Aw nw cw, .slice Al nl cl], .agg #[.slice Bc mc dc, .slice Bw mw dw, .slice Bl ml dl]] w fun x w' => x = .returned (.bool (decide (s = s'))) ∧ Up w w' := by
  have hf := Lib.hid (show decide (s = s') = (decide (s.comps = s'.comps) && (decide (s.wait = s'.wait) && decide (s.log = s'.log))) by
    obtain ⟨a, b, c⟩ := s; obtain ⟨a', b', c'⟩ := s'; rw [Bool.eq_iff_iff]
    simp)
  have H := Lib.hid h
  have H' := Lib.hid h'
  have X0 := Lib.hid ((Box3.new w (.slice Ac nc cc) (.slice Aw nw cw) (.slice Al nl cl) 62).up ((Up.refl _).alloc (.cells #[.slice Bc mc dc, .slice Bw mw dw, .slice Bl ml dl] 62)))
  have X1 := Lib.hid (Box3.new (w.alloc (.cells #[.slice Ac nc cc, .slice Aw nw cw, .slice Al nl cl] 62)) (.slice Bc mc dc) (.slice Bw mw dw) (.slice Bl ml dl) 62)
  simp only [World.size_alloc] at X1
  have ua := Lib.hid (((Up.refl w).alloc (.cells #[.slice Ac nc cc, .slice Aw nw cw, .slice Al nl cl] 62)).alloc (.cells #[.slice Bc mc dc, .slice Bw mw dw, .slice Bl ml dl] 62))
  have C1 := Lib.hid (fun W (u : Up w W) => eqC_any Ac Bc nc mc cc dc s.comps s'.comps W h1 (h.comps.up u) (h'.comps.up u))
  have C2 := Lib.hid (fun W (u : Up w W) => eqS_any Aw Bw nw mw cw dw s.wait s'.wait W h2 (h.wait.up u) (h'.wait.up u))
  have C3 := Lib.hid (fun W (u : Up w W) => eqR_any Al Bl nl ml cl dl s.log s'.log W h3 (h.log.up u) (h'.log.up u))
  generalize decide (s = s') = r at hf ⊢
  generalize decide (s.comps = s'.comps) = r1 at hf C1
  generalize decide (s.wait = s'.wait) = r2 at hf C2
  generalize decide (s.log = s'.log) = r3 at hf C3
  clear h h'
  go_enter Try.func29, Try.ntmps29
  go_wp2_with fail
  generalize (w.alloc (.cells #[.slice Ac nc cc, .slice Aw nw cw, .slice Al nl cl] 62)).alloc (.cells #[.slice Bc mc dc, .slice Bw mw dw, .slice Bl ml dl] 62) = W at *
  refine (C1.out _ ua.out).mono ?_; rintro x w1 ⟨rfl, u1⟩
  have ua := Lib.hid (ua.out.trans u1)
  have X0 := Lib.hid (X0.out.up u1)
  have X1 := Lib.hid (X1.out.up u1)
  clear u1
  cases r1
  · have HR := Lib.hid (show r = false by rw [hf.out]; rfl)
    clear hf; go_wp2; go_ret
    exact ⟨ret_bool HR.out.symm, ua.out⟩
  · obtain ⟨q0, q1, q2⟩ := And.intro X0.out.c0 (And.intro X0.out.c1 X0.out.c2)
    obtain ⟨p0, p1, p2⟩ := And.intro X1.out.c0 (And.intro X1.out.c1 X1.out.c2)
    go_wp2_with fail
    refine (C2.out _ ua.out).mono ?_; rintro x w2 ⟨rfl, u1⟩
    have ua := Lib.hid (ua.out.trans u1)
    have X0 := Lib.hid (X0.out.up u1)
    have X1 := Lib.hid (X1.out.up u1)
    clear u1 q0 q1 q2 p0 p1 p2
    cases r2
    · have HR := Lib.hid (show r = false by rw [hf.out]; rfl)
      clear hf; go_wp2; go_ret
      exact ⟨ret_bool HR.out.symm, ua.out⟩
    · obtain ⟨q0, q1, q2⟩ := And.intro X0.out.c0 (And.intro X0.out.c1 X0.out.c2)
      obtain ⟨p0, p1, p2⟩ := And.intro X1.out.c0 (And.intro X1.out.c1 X1.out.c2)
      go_wp2_with fail
      refine (C3.out _ ua.out).mono ?_; rintro x w3 ⟨rfl, u1⟩
      have ua := Lib.hid (ua.out.trans u1)
      have HR := Lib.hid (show r = r3 by rw [hf.out]; rfl)
      clear u1 q0 q1 q2 p0 p1 p2 hf
      cases r3
      · go_wp2
        go_ret
        exact ⟨ret_bool HR.out.symm, ua.out⟩
      · go_wp2
        go_ret
        exact ⟨ret_bool HR.out.symm, ua.out⟩
end Go.Proofs.Ytklldniapombiaa

namespace Go.Proofs.Ytklldniapombiaa
set_option maxRecDepth 100000
open Go.ChangeShapes Go.WideShapes Go.ChangeAt Go.RowKit Go.Joins Go.Deep
set_option linter.unusedVariables false
section
variable {H : Type} {enc : TypeId × Value → H} {P : Program} {w : World} {base : Nat} {spare : Nat → Bool} {held : Bool}
/-- A slice whose elements are s numbers each. -/
theorem open_nums {t e : TypeId} {s fuel : Nat} {v : Value} {y : DataW H × List MemPlace} (ht : P.underlying t = some (.slice e)) (hC : P.cellsOf e = s) (hs : 0 < s)
    (hI : ∀ fuel cs x, cs.length = s → DataW.trod enc P w base spare held fuel e cs = some x → ∀ j, j < s → ∃ z, cs[j]? = some (.int .i64 z)) (hf : DataW.trod enc P w base spare held fuel t [v] = some y) :
    ∃ A len c, v = .slice A len c ∧ len ≤ 9223372036854775807 ∧ (0 < len → ∃ b off, A = some ⟨b, off, none⟩ ∧ b < w.heap.size) ∧ ∀ i, i < len → ∃ b off, A = some ⟨b, off, none⟩ ∧ ∀ j, j < s → ∃ z, w.cell? ⟨b, off + i * s + j, none⟩ = some (.int .i64 z) := by
  rcases open_slice ht hf with ⟨hcs, _⟩ | ⟨a, len, c, m, n, D, Pl, hcs, _, hl, hm, hmm, _, hi⟩
  · simp only [List.cons.injEq, and_true] at hcs
    exact ⟨none, 0, 0, hcs, by omega, fun h => absurd h (by omega), fun i h => absurd h (by omega)⟩
  · simp only [List.cons.injEq, and_true] at hcs
    have hnm : len ≤ m := by rw [hmm]; split <;> omega
    have one : ∀ i, i < len → ∀ j, j < s → ∃ z, w.cell? (a.add (i * s + j)) = some (.int .i64 z) := by
      intro i hin j hj; obtain ⟨cs', hc, ht'⟩ := hi i (by omega); rw [hC] at hc; obtain ⟨_, hcl, hat⟩ := World.cells?_some hc; obtain ⟨z, hz⟩ := hI _ cs' _ hcl ht' j hj
      have := hat j hj
      rw [hz, Go.Deep.add_add] at this
      exact ⟨z, this⟩
    obtain ⟨b, off, spot⟩ := a
    have nosp : 0 < len → spot = none := fun h0 => by
      obtain ⟨z, hz⟩ := one 0 h0 0 hs
      simpa [Addr.add] using World.cell?_spot hz
    have ad : ∀ k, (⟨b, off, none⟩ : Addr).add k = ⟨b, off + k, none⟩ := fun k => by
      unfold Addr.add
      split
      · rename_i h0; subst h0; rfl
      · rfl
    refine ⟨_, len, c, hcs, by unfold maxLen at hm; omega, fun h0 => ?_, fun i hin => ?_⟩
    · obtain rfl := nosp h0
      obtain ⟨z, hz⟩ := one 0 h0 0 hs; rw [ad] at hz
      exact ⟨b, off, rfl, block_lt hz⟩
    · obtain rfl := nosp (by omega)
      refine ⟨b, off, rfl, fun j hj => ?_⟩; obtain ⟨z, hz⟩ := one i hin j hj; rw [ad] at hz
      exact ⟨z, by rw [← hz]; congr 2; omega⟩
/-- The value of a field, where all fields are one cell. -/
theorem nums_fields {e : TypeId} {fs : Array Field} {fuel : Nat} {cs : List Value} {x : DataW H × List MemPlace} (he : P.underlying e = some (.struct fs)) (hone : oneCellFields P fs = true)
    (hcl : cs.length = fs.size) (h : DataW.trod enc P w base spare held fuel e cs = some x) (j : Nat) (f : Field) (hj : fs[j]? = some f) :
    ∃ k y v, cs[j]? = some v ∧ DataW.trod enc P w base spare held k f.type [v] = some y := by
  obtain ⟨ys, n', _, _, _, hyl, hf⟩ := DataW.trod_struct he h; obtain ⟨ho, hk⟩ := hone_of hone j f hj
  have hjl : j < fs.size := (Array.getElem?_eq_some_iff.1 hj).1
  have h1 := hf j f hj
  rw [ho, hk] at h1
  have hone' : (cs.drop j).take 1 = [cs[j]'(by omega)] := by
    rw [List.drop_eq_getElem_cons (by omega)]
    rfl
  rw [hone'] at h1
  exact ⟨n', ys[j]'(by omega), cs[j]'(by omega), List.getElem?_eq_getElem (by omega), h1.trans (List.getElem?_eq_getElem (by omega))⟩
end
theorem ev_nums {H : Type} {enc : TypeId × Value → H} {w : World} {base : Nat} {spare : Nat → Bool} {held : Bool} (fuel : Nat) (cs : List Value) (x : DataW H × List MemPlace) (hcl : cs.length = 6)
    (h : DataW.trod enc Try.prog w base spare held fuel 157 cs = some x) (j : Nat) (hj : j < 6) : ∃ z, cs[j]? = some (.int .i64 z) := by
  obtain ⟨fs, hu, hone, hsz, hty⟩ := hone157; obtain ⟨k, y, v, hv, ht⟩ := nums_fields hu hone (by omega) h j (fs[j]'(by omega)) (Array.getElem?_eq_getElem (by omega))
  have htj : (fs[j]'(by omega)).type = 3 := by
    have e1 : (fs.map (·.type))[j]? = some (3) := by
      rw [hty]
      have h6 : j = 0 ∨ j = 1 ∨ j = 2 ∨ j = 3 ∨ j = 4 ∨ j = 5 := by omega
      rcases h6 with rfl | rfl | rfl | rfl | rfl | rfl <;> rfl
    simpa [show j < fs.size by omega] using e1
  rw [htj] at ht; obtain ⟨z, e, _, _⟩ := DataW.trod_int Try.underlying3 ht; simp only [List.cons.injEq, and_true] at e
  exact ⟨z, by rw [hv, e]⟩
theorem cst_nums {H : Type} {enc : TypeId × Value → H} {w : World} {base : Nat} {spare : Nat → Bool} {held : Bool} (fuel : Nat) (cs : List Value) (x : DataW H × List MemPlace) (hcl : cs.length = 3)
    (h : DataW.trod enc Try.prog w base spare held fuel 152 cs = some x) (j : Nat) (hj : j < 3) : ∃ z, cs[j]? = some (.int .i64 z) := by
  obtain ⟨fs, hu, hone, hsz, hty⟩ := (⟨_, Try.underlying152, by kernel_rfl, rfl, by simp⟩ : ∃ fs : Array Field, Try.prog.underlying 152 = some (.struct fs) ∧ oneCellFields Try.prog fs = true ∧ fs.size = 3 ∧ fs.map (·.type) = #[3, 3, 3]); obtain ⟨k, y, v, hv, ht⟩ := nums_fields hu hone (by omega) h j (fs[j]'(by omega)) (Array.getElem?_eq_getElem (by omega))
  have htj : (fs[j]'(by omega)).type = 3 := by
    have e1 : (fs.map (·.type))[j]? = some (3) := by
      rw [hty]
      have h6 : j = 0 ∨ j = 1 ∨ j = 2 := by omega
      rcases h6 with rfl | rfl | rfl <;> rfl
    simpa [show j < fs.size by omega] using e1
  rw [htj] at ht; obtain ⟨z, e, _, _⟩ := DataW.trod_int Try.underlying3 ht; simp only [List.cons.injEq, and_true] at e
  exact ⟨z, by rw [hv, e]⟩
theorem cells183 : Try.prog.cellsOf 183 = 7 := by kernel_rfl
theorem rec_nums {H : Type} {enc : TypeId × Value → H} {w : World} {base : Nat} {spare : Nat → Bool} {held : Bool} (fuel : Nat) (cs : List Value) (x : DataW H × List MemPlace) (hcl : cs.length = 7)
    (h : DataW.trod enc Try.prog w base spare held fuel 183 cs = some x) (j : Nat) (hj : j < 7) : ∃ z, cs[j]? = some (.int .i64 z) := by
  obtain ⟨f0, f1, hu, ho0, ho1, ht0, ht1⟩ := (⟨_, _, Try.underlying183, rfl, rfl, rfl, rfl⟩ : ∃ f0 f1 : Field, Try.prog.underlying 183 = some (.struct #[f0, f1]) ∧ f0.offset = 0 ∧ f1.offset = 6 ∧ f0.type = 157 ∧ f1.type = 3); obtain ⟨ys, n', _, _, _, hyl, hf⟩ := DataW.trod_struct hu h
  have hyl : ys.length = 2 := hyl
  by_cases hj6 : j < 6
  · have h1 := hf 0 f0 rfl
    rw [ho0, ht0, cells157, List.getElem?_eq_getElem (by omega : 0 < ys.length)] at h1; obtain ⟨z, hz⟩ := ev_nums _ _ _ (by simp; omega) h1 j hj6; refine ⟨z, ?_⟩; rw [← hz]; simp [hj6]
  · obtain rfl : j = 6 := by omega
    have h1 := hf 1 f1 rfl
    rw [ho1, ht1, show Try.prog.cellsOf 3 = 1 by kernel_rfl, List.getElem?_eq_getElem (by omega : 1 < ys.length)] at h1
    have h2 : (cs.drop 6).take 1 = [cs[6]'(by omega)] := by
      rw [List.drop_eq_getElem_cons (by omega)]
      rfl
    rw [h2] at h1; obtain ⟨z, e, _, _⟩ := DataW.trod_int Try.underlying3 h1; simp only [List.cons.injEq, and_true] at e
    exact ⟨z, by rw [List.getElem?_eq_getElem (by omega), e]⟩
theorem open_csts {H : Type} {enc : TypeId × Value → H} {w : World} {base : Nat} {spare : Nat → Bool} {held : Bool} {v : Value} {fuel : Nat} {y : DataW H × List MemPlace}
    (hf : DataW.trod enc Try.prog w base spare held fuel 53 [v] = some y) : ∃ A n c xs, v = .slice A n c ∧ n ≤ 9223372036854775807 ∧ Csts w A n xs := by
  obtain ⟨A, n, c, rfl, hbig, hA, hi⟩ := open_nums Try.underlying53 cells152 (by omega) cst_nums hf
  have one : ∀ i, i < n → ∃ x : Cst, ∃ b off, A = some ⟨b, off, none⟩ ∧ CstAt w b (off + i * 3) x := by
    intro i hin; obtain ⟨b, off, rfl, f⟩ := hi i hin; obtain ⟨z0, g0⟩ := f 0 (by omega); obtain ⟨z1, g1⟩ := f 1 (by omega); obtain ⟨z2, g2⟩ := f 2 (by omega)
    exact ⟨⟨z0, z1, z2⟩, b, off, rfl, g0, g1, g2⟩
  obtain ⟨xs, hlen, hxs⟩ := list_of n one; refine ⟨A, n, c, xs, rfl, hbig, hlen, fun hn => ?_⟩; obtain ⟨b, off, rfl, hb⟩ := hA hn; refine ⟨b, off, rfl, hb, fun i hin => ?_⟩; obtain ⟨b', off', e, h⟩ := hxs i hin
  injection e with e
  injection e with e1 e2 _
  subst e1 e2
  exact h
theorem open_recs {H : Type} {enc : TypeId × Value → H} {w : World} {base : Nat} {spare : Nat → Bool} {held : Bool} {v : Value} {fuel : Nat} {y : DataW H × List MemPlace}
    (hf : DataW.trod enc Try.prog w base spare held fuel 54 [v] = some y) : ∃ A n c xs, v = .slice A n c ∧ n ≤ 9223372036854775807 ∧ Recs w A n xs := by
  obtain ⟨A, n, c, rfl, hbig, hA, hi⟩ := open_nums Try.underlying54 cells183 (by omega) rec_nums hf
  have one : ∀ i, i < n → ∃ x : Rec, ∃ b off, A = some ⟨b, off, none⟩ ∧ RecAt w b (off + i * 7) x := by
    intro i hin; obtain ⟨b, off, rfl, f⟩ := hi i hin; obtain ⟨z0, g0⟩ := f 0 (by omega); obtain ⟨z1, g1⟩ := f 1 (by omega); obtain ⟨z2, g2⟩ := f 2 (by omega); obtain ⟨z3, g3⟩ := f 3 (by omega); obtain ⟨z4, g4⟩ := f 4 (by omega); obtain ⟨z5, g5⟩ := f 5 (by omega); obtain ⟨z6, g6⟩ := f 6 (by omega)
    exact ⟨⟨⟨z0, z1, z2, z3, z4, z5⟩, z6⟩, b, off, rfl, g0, g1, g2, g3, g4, g5, g6⟩
  obtain ⟨xs, hlen, hxs⟩ := list_of n one; refine ⟨A, n, c, xs, rfl, hbig, hlen, fun hn => ?_⟩; obtain ⟨b, off, rfl, hb⟩ := hA hn; refine ⟨b, off, rfl, hb, fun i hin => ?_⟩; obtain ⟨b', off', e, h⟩ := hxs i hin
  injection e with e
  injection e with e1 e2 _
  subst e1 e2
  exact h
theorem cells56 : Try.prog.cellsOf 56 = 3 := by kernel_rfl
/-- A simulator that came in, by value. -/
theorem open_sq {H : Type} {enc : TypeId × Value → H} {w : World} {base b0 : Nat} {spare : Nat → Bool} {held : Bool} {r : Reach} {v : Value} {d : DataW H} {p : List MemPlace}
    (hv : Value.okWide Try.prog w r b0 56 v) (h : DataW.Trod enc Try.prog w base spare held 56 v d p) :
    ∃ s : Sq, ∃ Ac nc cc Aw nw cw Al nl cl, v = .agg #[.slice Ac nc cc, .slice Aw nw cw, .slice Al nl cl] ∧ (nc ≤ 9223372036854775807 ∧ nw ≤ 9223372036854775807 ∧ nl ≤ 9223372036854775807) ∧ SqV w Ac nc Aw nw Al nl s := by
  obtain ⟨c0, c1, c2, y0, y1, y2, f, rfl, rfl, rfl, h0, h1, h2⟩ := open_agg3 Try.underlying56 (by kernel_rfl) cells56 hv h; obtain ⟨Ac, nc, cc, xs, rfl, bc, hc⟩ := open_csts h0
  have hv1 : ∃ B k d, c1 = .slice B k d := by
    rcases open_slice Try.underlying23 h1 with ⟨h, _⟩ | ⟨a, l, c, _, _, _, _, h, _⟩
    · exact ⟨none, 0, 0, by simpa using h⟩
    · exact ⟨some a, l, c, by simpa using h⟩
  obtain ⟨B, k, d, rfl⟩ := hv1; obtain ⟨es, he, _, hn⟩ := open_evts (d := y1.1) (p := y1.2) (A := B) (n := k) (cap := d) ⟨f, by simpa [Value.cells] using h1⟩; obtain ⟨Al, nl, cl, rs, rfl, bl, hl⟩ := open_recs h2
  exact ⟨⟨xs, es, rs⟩, Ac, nc, cc, B, k, d, Al, nl, cl, rfl, ⟨bc, hn, bl⟩, ⟨hc, he, hl⟩⟩
end Go.Proofs.Ytklldniapombiaa

namespace Go.Proofs.Ytklldniapombiaa
set_option maxRecDepth 100000
open Go.RowKit
/-- What a cell may hold: a number; a slice of at most mx elements of type e, of so many cells each. -/
inductive CK where
  | num
  | sl (e size mx : Nat)
/-- A slice of n elements of type e in a block of the call's own. -/
def Gs (w : World) (S : Nat → Prop) (e size n : Nat) (v : Value) : Prop :=
  (v = .slice none 0 0 ∧ n = 0) ∨ ∃ b cap arr, v = .slice (some ⟨b, 0, none⟩) n cap ∧ S b ∧ w.heap[b]? = some (.cells arr e (0, 0)) ∧ n ≤ cap ∧ cap ≤ maxLen ∧ arr.size = cap * size
def COk (w : World) (S : Nat → Prop) : CK → Value → Prop
  | .num, v => ∃ z, v = .int .i64 z
  | .sl e size mx, v => ∃ n, n ≤ mx ∧ Gs w S e size n v
abbrev Tbl := Nat → List CK
/-- The cell at j of a block of type e holds what the table says. -/
def TC (T : Tbl) (w : World) (S : Nat → Prop) (e j : Nat) (v : Value) : Prop := ∃ k, (T e)[j % (T e).length]? = some k ∧ COk w S k v
def TH (T : Tbl) (S : Nat → Prop) (w : World) : Prop :=
  ∀ (b : Nat) (arr : Array Value) (e : Nat) (fz : Nat × Nat), S b → w.heap[b]? = some (.cells arr e fz) → T e ≠ [] → fz = (0, 0) ∧ ∀ j v, arr[j]? = some v → TC T w S e j v
section
variable {T : Tbl} {S : Nat → Prop} {g : Nat} {w w' w'' : World}
end
end Go.Proofs.Ytklldniapombiaa

namespace Go.Proofs.Ytklldniapombiaa
set_option maxRecDepth 100000
open Go.RowKit
/-- The table of a model: sends, rules, rows of rules. -/
def TM (K : Nat) : Tbl := fun e =>
  if e = 168 then [.num, .num, .num, .num, .num, .num]
  else if e = 166 then [.num, .num, .num, .num, .sl 168 6 K]
  else if e = 118 then [.sl 166 5 K]
  else []
section
variable {S : Nat → Prop} {K : Nat} {w : World}
end
end Go.Proofs.Ytklldniapombiaa

namespace Go.Proofs.Ytklldniapombiaa
set_option maxRecDepth 100000
open Go.RowKit
theorem Evs.mv {w w' : World} {A : Option Addr} {n g : Nat} {es : List Evt} (h : Evs w A n es) (m : Mv g w w') (hne : ∀ b off, A = some ⟨b, off, none⟩ → b ≠ g) : Evs w' A n es :=
  ⟨h.1, fun hn => by
    obtain ⟨b, off, hA, hb, hc⟩ := h.2 hn
    have hbg := hne b off hA
    refine ⟨b, off, hA, Nat.lt_of_lt_of_le hb m.size, fun i hi => ?_⟩; obtain ⟨h0, h1, h2, h3, h4, h5⟩ := hc i hi
    exact ⟨(m.cells _ _ hb hbg).trans h0, (m.cells _ _ hb hbg).trans h1, (m.cells _ _ hb hbg).trans h2, (m.cells _ _ hb hbg).trans h3, (m.cells _ _ hb hbg).trans h4, (m.cells _ _ hb hbg).trans h5⟩⟩
end Go.Proofs.Ytklldniapombiaa

namespace Go.Proofs.Ytklldniapombiaa
set_option maxRecDepth 100000
open Go.RowKit
section
variable {S : Nat → Prop} {K g N0 : Nat} {W0 w w' : World}
end
section
variable {T : Tbl} {S S' : Nat → Prop} {g : Nat} {w w' : World}
/-- A block known whole. -/
def Blk (w : World) (b e : Nat) (arr : Array Value) : Prop := w.heap[b]? = some (.cells arr e (0, 0))
theorem Blk.cell {b e j : Nat} {arr : Array Value} {v : Value} (h : Blk w b e arr) (hv : arr[j]? = some v) : w.cell? ⟨b, j, none⟩ = some v := by
  unfold World.cell?; dsimp only; rw [h]
  exact hv
theorem Blk.lt {b e : Nat} {arr : Array Value} (h : Blk w b e arr) : b < w.heap.size := (Array.getElem?_eq_some_iff.1 h).1
theorem Blk.up {b e : Nat} {arr : Array Value} (h : Blk w b e arr) (k : Up w w') : Blk w' b e arr := (k.below.block b h.lt).trans h
theorem Blk.alloc {b e : Nat} {arr : Array Value} (h : Blk w b e arr) (o : Obj) : Blk (w.alloc o) b e arr := (heap_alloc_old w _ h.lt).trans h
theorem Blk.new (w : World) (arr : Array Value) (e : Nat) : Blk (w.alloc (.cells arr e)) w.heap.size e arr := heap_alloc_new w _
end
end Go.Proofs.Ytklldniapombiaa

namespace Go.Proofs.Ytklldniapombiaa
set_option maxRecDepth 100000
open Go.RowKit
open Go.Maps (Keyed)
/-- A key. -/
def keyV (c k : Int) : Value := .agg #[.int .i64 c, .int .i64 k]
/-- What an element reads as: itself. -/
def valR (v : Value) : Option (DataW Value × List MemPlace) := some (.held v, [])
def ZRv : Value := .agg #[.int .i64 0, .int .i64 0, .int .i64 0, .int .i64 0, .slice none 0 0]
theorem laidOut_ : laidOutB Try.prog = true := by kernel_rfl
theorem keyLaw : Keyed Try.prog 170 :=
  Keyed.of_law (deep_law_laid laidOut_ (m := 2) (by omega) (of_decide_eq_true (by kernel_rfl)) (by kernel_rfl) (by kernel_rfl))
theorem keyCells : Try.prog.cellsOf 170 = 2 := by kernel_rfl
theorem keyType_ : Try.prog.keyType 170 = true := by kernel_rfl
theorem intCells : Try.prog.cellsOf 3 = 1 := by kernel_rfl
theorem typesMany : 2 ≤ Try.prog.types.size := of_decide_eq_true (by kernel_rfl)
theorem zeroRule (w : World) : (zeroValue 166).run Try.prog w = .ok ZRv w := by kernel_rfl
theorem key_ex (c k : Int) (hc : I64 c) (hk : I64 k) : ∃ l, keyOf Try.prog 170 (keyV c k) = some l := by
  obtain ⟨n, hn⟩ := Nat.exists_eq_add_of_le typesMany
  have wc : (Lit.int .i64 c).wf = true := by unfold I64 at hc; simp [Lit.wf, IntKind.min, IntKind.max, IntKind.signed, IntKind.bits]; omega
  have wk : (Lit.int .i64 k).wf = true := by unfold I64 at hk; simp [Lit.wf, IntKind.min, IntKind.max, IntKind.signed, IntKind.bits]; omega
  have e : Try.prog.types.size + 1 = n + 1 + 1 + 1 := by omega
  unfold keyOf keyV; rw [Try.underlying170]; dsimp only; rw [keyType_, e]; simp [Value.formed, Try.underlying170, Try.underlying3, keyCells, intCells, Program.keyLits, Value.cells, wc, wk]
/-- Block b is a map of at most n entries that has the values of f. -/
def RMap (w : World) (b n : Nat) (f : Int → Int → Option Value) : Prop :=
  ∃ D : DataW Value, w.ownsMap Try.prog 170 valR b n D ∧ Maps.IsMap D ∧ ∀ c k l, keyOf Try.prog 170 (keyV c k) = some l → (∀ zd, D.atKey l zd = match f c k with | some v => .held v | none => zd) ∧ Maps.has D l = (f c k).isSome
theorem RMap.made (w : World) : RMap (w.alloc (.map #[] 0)) w.heap.size 0 (fun _ _ => none) :=
  ⟨.map [], World.ownsMap_made w _ _ _, Maps.isMap_empty, fun _ _ _ _ => ⟨fun _ => rfl, rfl⟩⟩
theorem RMap.lt {w : World} {b n : Nat} {f : Int → Int → Option Value} (h : RMap w b n f) : b < w.heap.size := by
  obtain ⟨D, h, _⟩ := h
  exact h.lt
theorem RMap.block {w w' : World} {b n : Nat} {f : Int → Int → Option Value} (h : RMap w b n f) (e : w'.heap[b]? = w.heap[b]?) : RMap w' b n f := by
  obtain ⟨D, ⟨es, cl, hb, F, hs, hD⟩, hr⟩ := h
  exact ⟨D, ⟨es, cl, e.trans hb, F, hs, hD⟩, hr⟩
theorem RMap.up {w w' : World} {b n : Nat} {f : Int → Int → Option Value} (h : RMap w b n f) (u : Up w w') : RMap w' b n f := h.block (u.below.block b h.lt)
theorem RMap.setFar {w : World} {b n : Nat} {f : Int → Int → Option Value} (h : RMap w b n f) {p : Addr} (hp : p.block ≠ b) (u : Value) : RMap (w.setCell p u) b n f := h.block (Below.heap_setCell w p u b (fun e => hp e.symm))
theorem mapTurned_mv {w w' : World} {b : Nat} (h : w.mapTurned w' b) : Mv b w w' := by
  obtain ⟨es, clock, es', clock', hb, rfl⟩ := h
  exact ⟨rfl, rfl, rfl, by simp [ChangeMaps.setBlock], fun k _ hne => ChangeMaps.heap_setBlock_other hb _ hne⟩
theorem RMap.store {w : World} {b n : Nat} {f : Int → Int → Option Value} (h : RMap w b n f) (hn : n < maxLen) (c k : Int) (hc : I64 c) (hk : I64 k) (v : Value) :
    ∃ w', (Instr.mapUpdate 107 (.map (some b)) (.agg #[.int .i64 c, .int .i64 k]) v).run Try.prog w = .ok () w' ∧ RMap w' b (n + 1) (fun c' k' => if c' = c ∧ k' = k then some v else f c' k') ∧ Mv b w w' := by
  obtain ⟨D, ho, hm, hr⟩ := h; obtain ⟨l, hl⟩ := key_ex c k hc hk; obtain ⟨w', hrun, ho', ht⟩ := ho.store keyLaw Try.underlying107 hn (val := v) (d := .held v) (ps := []) hl rfl; refine ⟨w', hrun, ⟨D.put l (.held v), ho', hm.put _ _, fun c' k' l' hl' => ?_⟩, mapTurned_mv ht⟩
  by_cases e : l' = l
  · subst e
    have hkk := keyLaw.inj hl' hl
    simp only [keyV, Value.agg.injEq] at hkk
    have h0 := congrArg (fun a => a[0]?) hkk
    have h1 := congrArg (fun a => a[1]?) hkk
    simp at h0 h1; simp only [if_pos (And.intro h0 h1)]
    exact ⟨fun zd => Maps.atKey_put_same hm (keyLaw.key hl) _ _, Maps.has_put_same hm (keyLaw.key hl) _⟩
  · have hne : ¬ (c' = c ∧ k' = k) := fun ⟨h0, h1⟩ => by
      subst h0 h1; rw [hl] at hl'
      injection hl' with hl'
      exact e hl'.symm
    simp only [if_neg hne]; obtain ⟨h1, h2⟩ := hr c' k' l' hl'
    exact ⟨fun zd => (Maps.atKey_put_other e _ _).trans (h1 zd), (Maps.has_put_other e _).trans h2⟩
end Go.Proofs.Ytklldniapombiaa

/-
  What impl.CmpDo returns, in one sentence: the new state and what is sent in a new block, nothing where one of the three is not ok; for every model that lies in memory.
  What stands in the slots of FnExactCmpDo's regions, in one sentence: copies in new blocks, results, new blocks; no condition is made.
-/
import Derived.Test.YtkfjemgelmbcfaaKX
import Derived.Test.YtkfjemgelmbcfaaKW
import Derived.Test.YtkfjemgelmbcfaaKC
import Derived.Test.YtkfjemgelmbcfaaKV
import Derived.Test.YtkfjemgelmbcfaaKP
namespace Go.Proofs.Ytkfjemgelmbcfaa
set_option maxRecDepth 100000
open Go.RowKit

def ImplDoPost (m : Mdl) (s : Cst) (e : Evt) (w : World) (x : Ending) (w' : World) : Prop :=
  ∃ v, x = .returned (.tuple #[(doM m s e).1.v, v]) ∧ w'.ownsRow w.heap.size 50 6 v (doM m s e).2.length (flat (doM m s e).2) ∧ Up w w'

set_option maxHeartbeats 8000000 in
theorem implCmpDo_any (A : Option Addr) (n c : Nat) (B : Option Addr) (k d : Nat) (m : Mdl) (s : Cst) (e : Evt) (w : World) (hM : MdlV w A n B k m) :
    Calls Try.prog 38 #[.agg #[.slice A n c, .slice B k d, .int .i64 m.til], s.v, e.v] w (ImplDoPost m s e w) := by
  have hnr := hM.rules.1
  obtain ⟨et, eto, efr, esq, ekd, edt⟩ := e
  have MB := Lib.hid (show mayB m s ⟨et, eto, efr, esq, ekd, edt⟩ = (mdlB m && cstB s && (okB ⟨et, eto, efr, esq, ekd, edt⟩ m.rules.length && decide (et ≤ m.til))) by simp only [mayB, Bool.and_assoc])
  have CM := Lib.hid (fun W (u : Up w W) => newMachine_any A n c B k d m W (hM.up u))
  have CC := Lib.hid (fun W => implCst_any s W)
  have CD := Lib.hid (fun mb W (h : Mach W mb m) ho => process_any mb m.rules.length m s ⟨et, eto, efr, esq, ekd, edt⟩ W h ho)
  have U0 := Lib.hid ((((Up.refl w).alloc (.cells #[.slice A n c, .slice B k d, .int .i64 m.til] 26)).alloc (.cells #[.int .i64 s.s, .int .i64 s.sq, .int .i64 s.ct] 62)).alloc (.cells #[.int .i64 et, .int .i64 eto, .int .i64 efr, .int .i64 esq, .int .i64 ekd, .int .i64 edt] 50) |>.alloc (.cells #[.int .i64 0, .int .i64 0, .int .i64 0] 62))
  have X3 := Lib.hid ((((Box3.new w (.slice A n c) (.slice B k d) (.int .i64 m.til) 26).up ((Up.refl _).alloc (.cells #[.int .i64 s.s, .int .i64 s.sq, .int .i64 s.ct] 62))).up ((Up.refl _).alloc (.cells #[.int .i64 et, .int .i64 eto, .int .i64 efr, .int .i64 esq, .int .i64 ekd, .int .i64 edt] 50))).up ((Up.refl _).alloc (.cells #[.int .i64 0, .int .i64 0, .int .i64 0] 62)))
  have X4 := Lib.hid (((Box3.new (w.alloc (.cells #[.slice A n c, .slice B k d, .int .i64 m.til] 26)) (.int .i64 s.s) (.int .i64 s.sq) (.int .i64 s.ct) 62).up ((Up.refl _).alloc (.cells #[.int .i64 et, .int .i64 eto, .int .i64 efr, .int .i64 esq, .int .i64 ekd, .int .i64 edt] 50))).up ((Up.refl _).alloc (.cells #[.int .i64 0, .int .i64 0, .int .i64 0] 62)))
  have X5 := Lib.hid ((Box.new ((w.alloc (.cells #[.slice A n c, .slice B k d, .int .i64 m.til] 26)).alloc (.cells #[.int .i64 s.s, .int .i64 s.sq, .int .i64 s.ct] 62)) ⟨et, eto, efr, esq, ekd, edt⟩ 50).up ((Up.refl _).alloc (.cells #[.int .i64 0, .int .i64 0, .int .i64 0] 62)))
  have X6 := Lib.hid (Cell3.new (((w.alloc (.cells #[.slice A n c, .slice B k d, .int .i64 m.til] 26)).alloc (.cells #[.int .i64 s.s, .int .i64 s.sq, .int .i64 s.ct] 62)).alloc (.cells #[.int .i64 et, .int .i64 eto, .int .i64 efr, .int .i64 esq, .int .i64 ekd, .int .i64 edt] 50)) 0 0 0 62)
  simp only [World.size_alloc] at X4 X5 X6
  generalize hmb : mdlB m = g1 at MB
  have HG1 := Lib.hid hmb
  generalize hcb : cstB s = g2 at MB CC
  unfold Cst.v at CC CD ⊢
  unfold Evt.v at CD ⊢
  dsimp only at CC CD ⊢
  clear hM hnr hmb hcb
  go_enter Try.func38, Try.ntmps38
  go_wp2_with fail
  refine (CM.out _ U0.out).mono ?_
  rintro x w1 ⟨u1, ho⟩
  have UU := Lib.hid (U0.out.trans u1)
  have X4 := Lib.hid (X4.out.up u1)
  have X5 := Lib.hid (X5.out.up u1)
  have X6 := Lib.hid (X6.out.up u1)
  generalize hb6 : w.heap.size + 1 + 1 + 1 = b6 at X6 ⊢
  have hb6w : w.heap.size ≤ b6 := by omega
  clear u1
  rcases ho with ⟨hg, rfl⟩ | ⟨hg, mb, rfl, hmbw, hmach⟩
  · obtain rfl : g1 = false := HG1.out.symm.trans hg
    clear hg
    have DN := Lib.hid (show doM m s ⟨et, eto, efr, esq, ekd, edt⟩ = (⟨0, 0, 0⟩, []) by unfold doM; rw [if_neg (by rw [MB.out]; simp)])
    obtain ⟨q0, q1, q2⟩ := And.intro X6.out.c0 (And.intro X6.out.c1 X6.out.c2)
    have qf := X6.out.f
    have ql := X6.out.lt
    have XA := (X6.out.laid' 0 0 0).up ((Up.refl _).alloc (.cells #[.map none, .int .i64 0, .int .i64 0] 119))
    obtain ⟨k0, k1, k2⟩ := And.intro XA.c0 (And.intro XA.c1 XA.c2)
    have UE := Lib.hid ((((UU.out.setCell (p := ⟨b6, 0, none⟩) hb6w (.int .i64 0)).setCell (p := ⟨b6, 1, none⟩) hb6w (.int .i64 0)).setCell (p := ⟨b6, 2, none⟩) hb6w (.int .i64 0)).alloc (.cells #[.map none, .int .i64 0, .int .i64 0] 119))
    clear XA
    go_wp2
    exact bodyPost_ret (v := .tuple #[.agg #[.int .i64 0, .int .i64 0, .int .i64 0], .slice none 0 0]) (by simp [results, Try.results38, go_sem, k0, k1, k2]) rfl (by
      unfold ImplDoPost
      rw [DN.out]
      exact ⟨.slice none 0 0, rfl, ⟨rfl, .inl ⟨rfl, rfl⟩⟩, UE.out⟩)
  · obtain rfl : g1 = true := HG1.out.symm.trans hg
    have HMA := Lib.hid hmach
    clear hg hmach hmbw
    obtain ⟨p0, p1, p2⟩ := And.intro X4.out.c0 (And.intro X4.out.c1 X4.out.c2)
    have pl := X4.out.lt
    have u3 : Up w1 (w1.alloc (.cells #[.map (some mb), .int .i64 m.rules.length, .int .i64 m.til] 119)) := (Up.refl _).alloc _
    have X7 := Lib.hid (Box3.new w1 (.map (some mb)) (.int .i64 m.rules.length) (.int .i64 m.til) 119)
    go_wp2_with fail
    refine (CC.out _).mono ?_
    rintro x w2 ⟨rfl, u2⟩
    have X7 := Lib.hid (X7.out.up u2)
    have u2 := u3.trans u2
    have UU := Lib.hid (UU.out.trans u2)
    have X4 := Lib.hid (X4.out.up u2)
    have X5 := Lib.hid (X5.out.up u2)
    have X6 := Lib.hid (X6.out.up u2)
    have HMA := Lib.hid (HMA.out.up u2)
    clear u2 u3 p0 p1 p2 pl
    generalize w1.heap.size = b8 at X7 ⊢
    cases g2
    · have DN := Lib.hid (show doM m s ⟨et, eto, efr, esq, ekd, edt⟩ = (⟨0, 0, 0⟩, []) by unfold doM; rw [if_neg (by rw [MB.out]; simp)])
      obtain ⟨q0, q1, q2⟩ := And.intro X6.out.c0 (And.intro X6.out.c1 X6.out.c2)
      have qf := X6.out.f
      have ql := X6.out.lt
      have XA := (X6.out.laid' 0 0 0).up (Up.refl _)
      obtain ⟨k0, k1, k2⟩ := And.intro XA.c0 (And.intro XA.c1 XA.c2)
      have UE := Lib.hid ((((UU.out.setCell (p := ⟨b6, 0, none⟩) hb6w (.int .i64 0)).setCell (p := ⟨b6, 1, none⟩) hb6w (.int .i64 0)).setCell (p := ⟨b6, 2, none⟩) hb6w (.int .i64 0)))
      clear XA
      go_wp2
      exact bodyPost_ret (v := .tuple #[.agg #[.int .i64 0, .int .i64 0, .int .i64 0], .slice none 0 0]) (by simp [results, Try.results38, go_sem, k0, k1, k2]) rfl (by
        unfold ImplDoPost
        rw [DN.out]
        exact ⟨.slice none 0 0, rfl, ⟨rfl, .inl ⟨rfl, rfl⟩⟩, UE.out⟩)
    · obtain ⟨t0, t1, t2⟩ := And.intro X7.out.c0 (And.intro X7.out.c1 X7.out.c2)
      obtain ⟨⟨y0, y1, y2, y3, y4, y5⟩, -⟩ := X5.out.mk6
      have TK := Lib.hid (fun W => takes_any _ m.rules.length m.til ⟨et, eto, efr, esq, ekd, edt⟩ (some mb) rfl W)
      generalize hok : (okB ⟨et, eto, efr, esq, ekd, edt⟩ m.rules.length && decide (et ≤ m.til)) = g3 at MB
      have HOK := Lib.hid hok
      have TK2 := Lib.hid (fun W => (show Calls Try.prog 87 #[.agg #[.map (some mb), .int .i64 m.rules.length, .int .i64 m.til], .agg #[.int .i64 et, .int .i64 eto, .int .i64 efr, .int .i64 esq, .int .i64 ekd, .int .i64 edt]] W fun z w' => z = .returned (.bool g3) ∧ Up W w' by have h := TK.out W; rw [HOK.out] at h; exact h))
      clear TK hok
      go_wp2_with fail
      refine (TK2.out _).mono ?_
      rintro x w3 ⟨rfl, u2⟩
      have X7 := Lib.hid (X7.out.up u2)
      have UU := Lib.hid (UU.out.trans u2)
      have X4 := Lib.hid (X4.out.up u2)
      have X5 := Lib.hid (X5.out.up u2)
      have X6 := Lib.hid (X6.out.up u2)
      have HMA := Lib.hid (HMA.out.up u2)
      clear u2 t0 t1 t2 y0 y1 y2 y3 y4 y5
      cases g3
      · have DN := Lib.hid (show doM m s ⟨et, eto, efr, esq, ekd, edt⟩ = (⟨0, 0, 0⟩, []) by unfold doM; rw [if_neg (by rw [MB.out]; simp)])
        obtain ⟨q0, q1, q2⟩ := And.intro X6.out.c0 (And.intro X6.out.c1 X6.out.c2)
        have qf := X6.out.f
        have ql := X6.out.lt
        have XA := (X6.out.laid' 0 0 0).up (Up.refl _)
        obtain ⟨k0, k1, k2⟩ := And.intro XA.c0 (And.intro XA.c1 XA.c2)
        have UE := Lib.hid ((((UU.out.setCell (p := ⟨b6, 0, none⟩) hb6w (.int .i64 0)).setCell (p := ⟨b6, 1, none⟩) hb6w (.int .i64 0)).setCell (p := ⟨b6, 2, none⟩) hb6w (.int .i64 0)))
        clear XA
        go_wp2
        exact bodyPost_ret (v := .tuple #[.agg #[.int .i64 0, .int .i64 0, .int .i64 0], .slice none 0 0]) (by simp [results, Try.results38, go_sem, k0, k1, k2]) rfl (by
          unfold ImplDoPost
          rw [DN.out]
          exact ⟨.slice none 0 0, rfl, ⟨rfl, .inl ⟨rfl, rfl⟩⟩, UE.out⟩)
      · obtain ⟨p0, p1, p2⟩ := And.intro X4.out.c0 (And.intro X4.out.c1 X4.out.c2)
        obtain ⟨t0, t1, t2⟩ := And.intro X7.out.c0 (And.intro X7.out.c1 X7.out.c2)
        obtain ⟨⟨y0, y1, y2, y3, y4, y5⟩, -⟩ := X5.out.mk6
        have HM1 : mayB m s ⟨et, eto, efr, esq, ekd, edt⟩ = true := by rw [MB.out]; rfl
        have DD := Lib.hid (show doM m s ⟨et, eto, efr, esq, ekd, edt⟩ = doE m s ⟨et, eto, efr, esq, ekd, edt⟩ from if_pos HM1)
        have CD := Lib.hid (CD.out mb w3 HMA.out HM1)
        clear HM1
        go_wp2_with fail
        refine CD.out.mono ?_
        rintro x w4 ⟨v, rfl, ho, u4⟩
        rw [← DD.out] at ho ⊢
        generalize hdm : doM m s ⟨et, eto, efr, esq, ekd, edt⟩ = dm at ho ⊢
        obtain ⟨⟨z0, z1, z2⟩, out⟩ := dm
        unfold Cst.v
        dsimp only at ho ⊢
        have HD := Lib.hid hdm
        have hl3 : b6 < w3.heap.size := X6.out.lt
        have X6 := Lib.hid (X6.out.up u4)
        have hw3 := UU.out.size
        have UU := Lib.hid (UU.out.trans u4)
        obtain ⟨q0, q1, q2⟩ := And.intro X6.out.c0 (And.intro X6.out.c1 X6.out.c2)
        have qf := X6.out.f
        have ql := X6.out.lt
        obtain ⟨k0, k1, k2⟩ := And.intro (X6.out.laid' z0 z1 z2).c0 (And.intro (X6.out.laid' z0 z1 z2).c1 (X6.out.laid' z0 z1 z2).c2)
        have UE := Lib.hid (((UU.out.setCell (p := ⟨b6, 0, none⟩) hb6w (.int .i64 z0)).setCell (p := ⟨b6, 1, none⟩) hb6w (.int .i64 z1)).setCell (p := ⟨b6, 2, none⟩) hb6w (.int .i64 z2))
        have b67 : ∀ j, (⟨b6, j, none⟩ : Addr).block < w3.heap.size := fun j => hl3
        have OZ := Lib.hid (own_mono (ownsRow_setCell_below (ownsRow_setCell_below (ownsRow_setCell_below ho (b67 0) (.int .i64 z0)) (b67 1) (.int .i64 z1)) (b67 2) (.int .i64 z2)) hw3)
        clear u4 ho hdm b67
        go_wp2
        exact bodyPost_ret (v := .tuple #[.agg #[.int .i64 z0, .int .i64 z1, .int .i64 z2], v]) (by simp [results, Try.results38, go_sem, k0, k1, k2]) rfl (by
          unfold ImplDoPost
          rw [HD.out]
          exact ⟨v, rfl, OZ.out, UE.out⟩)

end Go.Proofs.Ytkfjemgelmbcfaa

namespace Go.Proofs.Ytkfjemgelmbcfaa
set_option maxRecDepth 100000
open Go.RowKit

/-- A model over new blocks, as a value. -/
def IsMdl (lo : Nat) (m : Mdl) (n k : Nat) (v : Value) (w : World) : Prop :=
  ∃ g1 g2, v = .agg #[.slice (some ⟨g1, 0, none⟩) n n, .slice (some ⟨g2, 0, none⟩) k k, .int .i64 m.til] ∧ lo ≤ g1 ∧ lo ≤ g2 ∧ RulzF w g1 n m.rules ∧ Own w g2 k m.starts
theorem IsMdl.up {lo : Nat} {m : Mdl} {n k : Nat} {v : Value} {w w' : World} (h : IsMdl lo m n k v w) (u : Up w w') : IsMdl lo m n k v w' := by
  obtain ⟨g1, g2, h0, h1, h2, h3, h4⟩ := h
  exact ⟨g1, g2, h0, h1, h2, h3.up u, h4.up' u⟩
/-- A list of events, as a value. -/
def IsList (out : List Evt) (v : Value) (w : World) : Prop := ∃ A c, v = .slice A out.length c ∧ out.length ≤ c ∧ c ≤ 9223372036854775807 ∧ Evs w A out.length out
theorem IsList.up {out : List Evt} {v : Value} {w w' : World} (h : IsList out v w) (u : Up w w') : IsList out v w' := by
  obtain ⟨A, c, h0, h1, h2, h3⟩ := h
  exact ⟨A, c, h0, h1, h2, h3.up u⟩
/-- .. in a block of the call's own. -/
def IsOwnL (lo : Nat) (out : List Evt) (v : Value) (w : World) : Prop := w.ownsRow lo 50 6 v out.length (flat out)
theorem IsOwnL.up {lo : Nat} {out : List Evt} {v : Value} {w w' : World} (h : IsOwnL lo out v w) (u : Up w w') : IsOwnL lo out v w' := own_up h u
theorem IsOwnL.list {lo : Nat} {out : List Evt} {v : Value} {w : World} (h : IsOwnL lo out v w) : IsList out v w := by
  obtain ⟨_, A, c, rfl, h1, h2⟩ := own_slice h
  exact ⟨A, c, rfl, h1, h2, own_evs h⟩
def IsDo (s : Cst) (out : List Evt) (v : Value) (w : World) : Prop := ∃ x, v = .tuple #[s.v, x] ∧ IsList out x w
theorem IsDo.up {s : Cst} {out : List Evt} {v : Value} {w w' : World} (h : IsDo s out v w) (u : Up w w') : IsDo s out v w' := by
  obtain ⟨x, h0, h1⟩ := h
  exact ⟨x, h0, h1.up u⟩
def IsDoO (lo : Nat) (s : Cst) (out : List Evt) (v : Value) (w : World) : Prop := ∃ x, v = .tuple #[s.v, x] ∧ IsOwnL lo out x w
theorem IsDoO.up {lo : Nat} {s : Cst} {out : List Evt} {v : Value} {w w' : World} (h : IsDoO lo s out v w) (u : Up w w') : IsDoO lo s out v w' := by
  obtain ⟨x, h0, h1⟩ := h
  exact ⟨x, h0, h1.up u⟩
/-- A new block of n cells of this type that may be written. -/
def NewB (n t lo : Nat) (v : Value) (w : World) : Prop :=
  ∃ (b : Nat) (xs : Array Value), v = .pointer (some ⟨b, 0, none⟩) ∧ lo ≤ b ∧ w.heap[b]? = some (.cells xs t) ∧ xs.size = n
theorem NewB.up {n t lo : Nat} {v : Value} {w w' : World} (h : NewB n t lo v w) (u : Up w w') : NewB n t lo v w' := by
  obtain ⟨b, xs, hv, h2, h3, h4⟩ := h
  exact ⟨b, xs, hv, h2, (u.below.block b (Array.getElem?_eq_some_iff.1 h3).1).trans h3, h4⟩
theorem NewB.new {lo : Nat} (w : World) (xs : Array Value) (t : TypeId) (n : Nat) (hn : xs.size = n) (hB : lo ≤ w.heap.size) : NewB n t lo (.pointer (some ⟨w.heap.size, 0, none⟩)) (w.alloc (.cells xs t)) :=
  ⟨w.heap.size, xs, rfl, hB, heap_alloc_new w (.cells xs t), hn⟩
theorem NewB.parts {n t lo : Nat} {v : Value} {w : World} (h : NewB n t lo v w) :
    ∃ b : Nat, v = .pointer (some ⟨b, 0, none⟩) ∧ lo ≤ b ∧ b < w.heap.size ∧ (∀ j, j < n → ∃ u, w.cell? ⟨b, j, none⟩ = some u) ∧ (∀ j, w.frozen? ⟨b, j, none⟩ = false) ∧ (∀ j, n ≤ j → w.cell? ⟨b, j, none⟩ = none) ∧ ∃ xs, w.heap[b]? = some (.cells xs t) := by
  obtain ⟨b, xs, hv, h2, h3, h4⟩ := h
  refine ⟨b, hv, h2, (Array.getElem?_eq_some_iff.1 h3).1, fun j hj => ?_, fun j => ?_, fun j hj => ?_, xs, h3⟩
  · exact ⟨_, by rw [cell_of_row _ _ j _ _ _ h3]; exact Array.getElem?_eq_getElem (by omega)⟩
  · unfold World.frozen?
    rw [h3]
    simp
  · rw [cell_of_row _ _ j _ _ _ h3]
    exact Array.getElem?_eq_none (by omega)
/-- A list of events lies elsewhere than in a block of few cells. -/
theorem Evs.far {w w' : World} {A : Option Addr} {n g k : Nat} {es : List Evt} (h : Evs w A n es) (m : Mv g w w') (hk : k ≤ 5) (hg : ∀ j, k ≤ j → w.cell? ⟨g, j, none⟩ = none) : Evs w' A n es :=
  ⟨h.1, fun hn => by
    obtain ⟨b, off, hA, hb, hc⟩ := h.2 hn
    have hbg : b ≠ g := by
      intro e
      subst e
      have := (hc 0 hn).2.2.2.2.2
      rw [hg _ (by omega)] at this
      cases this
    refine ⟨b, off, hA, Nat.lt_of_lt_of_le hb m.size, fun i hi => ?_⟩
    obtain ⟨h0, h1, h2, h3, h4, h5⟩ := hc i hi
    exact ⟨(m.cells _ _ hb hbg).trans h0, (m.cells _ _ hb hbg).trans h1, (m.cells _ _ hb hbg).trans h2, (m.cells _ _ hb hbg).trans h3, (m.cells _ _ hb hbg).trans h4, (m.cells _ _ hb hbg).trans h5⟩⟩
theorem Mv.grown {g : Nat} {w w' : World} (m : Mv g w w') : w.grownBy w' (some g) := ⟨m.os, m.tape, m.output, m.size, fun k hk hne => m.block k hk (fun e => hne (by rw [e]))⟩
/-- A list in a block of its own lies elsewhere than in a block of another type. -/
theorem own_far {w w' : World} {b e size n g t : Nat} {v : Value} {xs : List Value} (h : w.ownsRow b e size v n xs) (m : Mv g w w') (hg : ∃ cs, w.heap[g]? = some (.cells cs t)) (ht : t ≠ e) : w'.ownsRow b e size v n xs := by
  refine h.kept (row := some g) m.grown (.inr fun he => ?_)
  obtain ⟨_, h2⟩ := h
  rcases h2 with ⟨rfl, _⟩ | ⟨g', cap, cur, rfl, _, hh, _⟩
  · simp [Value.ownBlock] at he
  · simp [Value.ownBlock] at he
    subst he
    obtain ⟨cs, hcs⟩ := hg
    rw [hh] at hcs
    injection hcs with hcs
    injection hcs with _ h2
    exact ht h2.symm

theorem two_up {w w' : World} {b0 b1 : Nat} {x0 x1 x2 y0 y1 y2 : Value} (u : Up w w')
    (h : b0 < w.heap.size ∧ b1 < w.heap.size ∧ w.cell? ⟨b0, 0, none⟩ = some x0 ∧ w.cell? ⟨b0, 1, none⟩ = some x1 ∧ w.cell? ⟨b0, 2, none⟩ = some x2 ∧ w.cell? ⟨b1, 0, none⟩ = some y0 ∧ w.cell? ⟨b1, 1, none⟩ = some y1 ∧ w.cell? ⟨b1, 2, none⟩ = some y2) :
    b0 < w'.heap.size ∧ b1 < w'.heap.size ∧ w'.cell? ⟨b0, 0, none⟩ = some x0 ∧ w'.cell? ⟨b0, 1, none⟩ = some x1 ∧ w'.cell? ⟨b0, 2, none⟩ = some x2 ∧ w'.cell? ⟨b1, 0, none⟩ = some y0 ∧ w'.cell? ⟨b1, 1, none⟩ = some y1 ∧ w'.cell? ⟨b1, 2, none⟩ = some y2 := by
  obtain ⟨h0, h1, k0, k1, k2, l0, l1, l2⟩ := h
  have := u.size
  exact ⟨by omega, by omega, (u.cells _ _ h0).trans k0, (u.cells _ _ h0).trans k1, (u.cells _ _ h0).trans k2, (u.cells _ _ h1).trans l0, (u.cells _ _ h1).trans l1, (u.cells _ _ h1).trans l2⟩
theorem own_ints {lo hi : Nat} {w w' : World} {b e size n : Nat} {v : Value} {xs : List Value} (h : w.ownsRow b e size v n xs) (m : Ints lo hi w w') (hb : hi ≤ b) : w'.ownsRow b e size v n xs := by
  obtain ⟨h1, h2⟩ := h
  refine ⟨h1, ?_⟩
  rcases h2 with h2 | ⟨g, cap, cur, hv, hg, hh, hr⟩
  · exact .inl h2
  · exact .inr ⟨g, cap, cur, hv, hg, (m.block g (Array.getElem?_eq_some_iff.1 hh).1 (.inr (by omega))).trans hh, hr⟩
theorem Cell3.ints {lo hi : Nat} {w w' : World} {b : Nat} {i j l : Int} (h : Cell3 w b i j l) (m : Ints lo hi w w') (hb : hi ≤ b) : Cell3 w' b i j l :=
  h.keep m.size (fun o => m.cells b o h.lt (.inr hb)) (fun o => m.frozen b o h.lt)
theorem Box3.ints {lo hi : Nat} {w w' : World} {b : Nat} {i j l : Value} (h : Box3 w b i j l) (m : Ints lo hi w w') (hb : hi ≤ b) : Box3 w' b i j l :=
  h.keep m.size (fun o => m.cells b o h.lt (.inr hb))

theorem eqCst_any (a b : Cst) (w : World) : Calls Try.prog 39 #[a.v, b.v] w fun x w' => x = .returned (.bool (decide (a = b))) ∧ Up w w' := by
  obtain ⟨a0, a1, a2⟩ := a
  obtain ⟨b0, b1, b2⟩ := b
  have hf := Lib.hid (show decide ((⟨a0, a1, a2⟩ : Cst) = ⟨b0, b1, b2⟩) = (decide (a0 = b0) && (decide (a1 = b1) && decide (a2 = b2))) by rw [Bool.eq_iff_iff]; simp)
  generalize decide ((⟨a0, a1, a2⟩ : Cst) = ⟨b0, b1, b2⟩) = r at hf ⊢
  unfold Cst.v
  dsimp only
  by_cases h0 : a0 = b0
  · by_cases h1 : a1 = b1
    · by_cases h2 : a2 = b2
      · have HR := Lib.hid (show r = true by rw [hf.out]; simp [h0, h1, h2])
        subst h0 h1 h2
        clear hf
        go_enter Try.func39, Try.ntmps39
        go_wp2
        go_ret
        exact ⟨ret_bool HR.out.symm, ((Up.refl _).alloc _).alloc _⟩
      · have HR := Lib.hid (show r = false by rw [hf.out]; simp [h2])
        have h2' : (a2 != b2) = true := by simp [h2]
        subst h0 h1
        clear hf
        go_enter Try.func39, Try.ntmps39
        go_wp2
        go_ret
        exact ⟨ret_bool HR.out.symm, ((Up.refl _).alloc _).alloc _⟩
    · have HR := Lib.hid (show r = false by rw [hf.out]; simp [h1])
      have h1' : (a1 != b1) = true := by simp [h1]
      subst h0
      clear hf
      go_enter Try.func39, Try.ntmps39
      go_wp2
      go_ret
      exact ⟨ret_bool HR.out.symm, ((Up.refl _).alloc _).alloc _⟩
  · have HR := Lib.hid (show r = false by rw [hf.out]; simp [h0])
    have h0' : (a0 != b0) = true := by simp [h0]
    clear hf
    go_enter Try.func39, Try.ntmps39
    go_wp2
    go_ret
    exact ⟨ret_bool HR.out.symm, ((Up.refl _).alloc _).alloc _⟩

theorem sendsE_len (til s : Int) (e : Evt) : ∀ (xs : List Evt) (q : Int), (sendsE til s e xs q).1.length ≤ xs.length
  | [], q => by simp [sendsE]
  | x :: xs, q => by
    rw [sendsE]
    have h1 := sendsE_len til s e xs q
    have h2 := sendsE_len til s e xs (q + 1)
    split
    · simp only [List.length_cons]; omega
    · split
      · simp only [List.length_cons]; omega
      · simp only [List.length_cons]; omega
theorem doM_len (m : Mdl) (s : Cst) (e : Evt) : (doM m s e).2.length ≤ 2 := by
  unfold doM
  split
  · rename_i h
    simp only [mayB, okB, Bool.and_eq_true, inB_iff] at h
    obtain ⟨⟨⟨hm, _⟩, hev⟩, _⟩ := h
    unfold doE
    split
    · simp
    · rename_i r hr
      have hb := mdlB_rule (i := e.to.toNat) hm (by omega) hr
      have := (ruleB_parts hb).2.1
      have h1 := sendsE_len m.til ((r.a * s.s + r.b * e.dt + r.c) % 97) e r.sends s.sq
      dsimp only
      omega
  · simp

def cdA (lo : Nat) (VM VC VE : Value) (m : Mdl) (n k : Nat) (s : Cst) (out : List Evt) (d : Nat) (v : Value) (w : World) : Prop :=
  if d = 24 then v = VM else if d = 25 then IsMdl lo m n k v w else if d = 26 then v = VC else if d = 27 then v = VC else if d = 28 then v = VE else if d = 29 then v = VE else if d = 30 then IsDo s out v w else if d = 23 then IsDo s out v w else if d = 31 then v = s.v else if d = 32 then IsList out v w else if d = 8 then NewB 3 62 lo v w else True
theorem cdA_24 (lo : Nat) (VM VC VE : Value) (m : Mdl) (n k : Nat) (s : Cst) (out : List Evt) (v : Value) (w : World) : cdA lo VM VC VE m n k s out 24 v w = (v = VM) := by simp [cdA]
theorem cdA_25 (lo : Nat) (VM VC VE : Value) (m : Mdl) (n k : Nat) (s : Cst) (out : List Evt) (v : Value) (w : World) : cdA lo VM VC VE m n k s out 25 v w = (IsMdl lo m n k v w) := by simp [cdA]
theorem cdA_26 (lo : Nat) (VM VC VE : Value) (m : Mdl) (n k : Nat) (s : Cst) (out : List Evt) (v : Value) (w : World) : cdA lo VM VC VE m n k s out 26 v w = (v = VC) := by simp [cdA]
theorem cdA_27 (lo : Nat) (VM VC VE : Value) (m : Mdl) (n k : Nat) (s : Cst) (out : List Evt) (v : Value) (w : World) : cdA lo VM VC VE m n k s out 27 v w = (v = VC) := by simp [cdA]
theorem cdA_28 (lo : Nat) (VM VC VE : Value) (m : Mdl) (n k : Nat) (s : Cst) (out : List Evt) (v : Value) (w : World) : cdA lo VM VC VE m n k s out 28 v w = (v = VE) := by simp [cdA]
theorem cdA_29 (lo : Nat) (VM VC VE : Value) (m : Mdl) (n k : Nat) (s : Cst) (out : List Evt) (v : Value) (w : World) : cdA lo VM VC VE m n k s out 29 v w = (v = VE) := by simp [cdA]
theorem cdA_30 (lo : Nat) (VM VC VE : Value) (m : Mdl) (n k : Nat) (s : Cst) (out : List Evt) (v : Value) (w : World) : cdA lo VM VC VE m n k s out 30 v w = (IsDo s out v w) := by simp [cdA]
theorem cdA_23 (lo : Nat) (VM VC VE : Value) (m : Mdl) (n k : Nat) (s : Cst) (out : List Evt) (v : Value) (w : World) : cdA lo VM VC VE m n k s out 23 v w = (IsDo s out v w) := by simp [cdA]
theorem cdA_31 (lo : Nat) (VM VC VE : Value) (m : Mdl) (n k : Nat) (s : Cst) (out : List Evt) (v : Value) (w : World) : cdA lo VM VC VE m n k s out 31 v w = (v = s.v) := by simp [cdA]
theorem cdA_32 (lo : Nat) (VM VC VE : Value) (m : Mdl) (n k : Nat) (s : Cst) (out : List Evt) (v : Value) (w : World) : cdA lo VM VC VE m n k s out 32 v w = (IsList out v w) := by simp [cdA]
theorem cdA_8 (lo : Nat) (VM VC VE : Value) (m : Mdl) (n k : Nat) (s : Cst) (out : List Evt) (v : Value) (w : World) : cdA lo VM VC VE m n k s out 8 v w = (NewB 3 62 lo v w) := by simp [cdA]
theorem cdA_up (lo : Nat) (VM VC VE : Value) (m : Mdl) (n k : Nat) (s : Cst) (out : List Evt) (d : Nat) {v : Value} {w w' : World} (h : cdA lo VM VC VE m n k s out d v w) (u : Up w w') : cdA lo VM VC VE m n k s out d v w' := by
  unfold cdA at h ⊢
  by_cases h24 : d = 24
  · rw [if_pos h24] at h ⊢
    exact h
  rw [if_neg h24] at h ⊢
  by_cases h25 : d = 25
  · rw [if_pos h25] at h ⊢
    exact h.up u
  rw [if_neg h25] at h ⊢
  by_cases h26 : d = 26
  · rw [if_pos h26] at h ⊢
    exact h
  rw [if_neg h26] at h ⊢
  by_cases h27 : d = 27
  · rw [if_pos h27] at h ⊢
    exact h
  rw [if_neg h27] at h ⊢
  by_cases h28 : d = 28
  · rw [if_pos h28] at h ⊢
    exact h
  rw [if_neg h28] at h ⊢
  by_cases h29 : d = 29
  · rw [if_pos h29] at h ⊢
    exact h
  rw [if_neg h29] at h ⊢
  by_cases h30 : d = 30
  · rw [if_pos h30] at h ⊢
    exact h.up u
  rw [if_neg h30] at h ⊢
  by_cases h23 : d = 23
  · rw [if_pos h23] at h ⊢
    exact h.up u
  rw [if_neg h23] at h ⊢
  by_cases h31 : d = 31
  · rw [if_pos h31] at h ⊢
    exact h
  rw [if_neg h31] at h ⊢
  by_cases h32 : d = 32
  · rw [if_pos h32] at h ⊢
    exact h.up u
  rw [if_neg h32] at h ⊢
  by_cases h8 : d = 8
  · rw [if_pos h8] at h ⊢
    exact h.up u
  rw [if_neg h8] at h ⊢
  exact trivial
def cdB (lo : Nat) (VM VC VE : Value) (s : Cst) (out : List Evt) (d : Nat) (v : Value) (w : World) : Prop :=
  if d = 36 then v = VM else if d = 37 then v = VC else if d = 38 then v = VC else if d = 39 then v = VE else if d = 40 then v = VE else if d = 41 then IsDoO lo s out v w else if d = 35 then IsDoO lo s out v w else if d = 42 then v = s.v else if d = 43 then IsOwnL lo out v w else if d = 11 then NewB 3 62 lo v w else True
theorem cdB_36 (lo : Nat) (VM VC VE : Value) (s : Cst) (out : List Evt) (v : Value) (w : World) : cdB lo VM VC VE s out 36 v w = (v = VM) := by simp [cdB]
theorem cdB_37 (lo : Nat) (VM VC VE : Value) (s : Cst) (out : List Evt) (v : Value) (w : World) : cdB lo VM VC VE s out 37 v w = (v = VC) := by simp [cdB]
theorem cdB_38 (lo : Nat) (VM VC VE : Value) (s : Cst) (out : List Evt) (v : Value) (w : World) : cdB lo VM VC VE s out 38 v w = (v = VC) := by simp [cdB]
theorem cdB_39 (lo : Nat) (VM VC VE : Value) (s : Cst) (out : List Evt) (v : Value) (w : World) : cdB lo VM VC VE s out 39 v w = (v = VE) := by simp [cdB]
theorem cdB_40 (lo : Nat) (VM VC VE : Value) (s : Cst) (out : List Evt) (v : Value) (w : World) : cdB lo VM VC VE s out 40 v w = (v = VE) := by simp [cdB]
theorem cdB_41 (lo : Nat) (VM VC VE : Value) (s : Cst) (out : List Evt) (v : Value) (w : World) : cdB lo VM VC VE s out 41 v w = (IsDoO lo s out v w) := by simp [cdB]
theorem cdB_35 (lo : Nat) (VM VC VE : Value) (s : Cst) (out : List Evt) (v : Value) (w : World) : cdB lo VM VC VE s out 35 v w = (IsDoO lo s out v w) := by simp [cdB]
theorem cdB_42 (lo : Nat) (VM VC VE : Value) (s : Cst) (out : List Evt) (v : Value) (w : World) : cdB lo VM VC VE s out 42 v w = (v = s.v) := by simp [cdB]
theorem cdB_43 (lo : Nat) (VM VC VE : Value) (s : Cst) (out : List Evt) (v : Value) (w : World) : cdB lo VM VC VE s out 43 v w = (IsOwnL lo out v w) := by simp [cdB]
theorem cdB_11 (lo : Nat) (VM VC VE : Value) (s : Cst) (out : List Evt) (v : Value) (w : World) : cdB lo VM VC VE s out 11 v w = (NewB 3 62 lo v w) := by simp [cdB]
theorem cdB_up (lo : Nat) (VM VC VE : Value) (s : Cst) (out : List Evt) (d : Nat) {v : Value} {w w' : World} (h : cdB lo VM VC VE s out d v w) (u : Up w w') : cdB lo VM VC VE s out d v w' := by
  unfold cdB at h ⊢
  by_cases h36 : d = 36
  · rw [if_pos h36] at h ⊢
    exact h
  rw [if_neg h36] at h ⊢
  by_cases h37 : d = 37
  · rw [if_pos h37] at h ⊢
    exact h
  rw [if_neg h37] at h ⊢
  by_cases h38 : d = 38
  · rw [if_pos h38] at h ⊢
    exact h
  rw [if_neg h38] at h ⊢
  by_cases h39 : d = 39
  · rw [if_pos h39] at h ⊢
    exact h
  rw [if_neg h39] at h ⊢
  by_cases h40 : d = 40
  · rw [if_pos h40] at h ⊢
    exact h
  rw [if_neg h40] at h ⊢
  by_cases h41 : d = 41
  · rw [if_pos h41] at h ⊢
    exact h.up u
  rw [if_neg h41] at h ⊢
  by_cases h35 : d = 35
  · rw [if_pos h35] at h ⊢
    exact h.up u
  rw [if_neg h35] at h ⊢
  by_cases h42 : d = 42
  · rw [if_pos h42] at h ⊢
    exact h
  rw [if_neg h42] at h ⊢
  by_cases h43 : d = 43
  · rw [if_pos h43] at h ⊢
    exact h.up u
  rw [if_neg h43] at h ⊢
  by_cases h11 : d = 11
  · rw [if_pos h11] at h ⊢
    exact h.up u
  rw [if_neg h11] at h ⊢
  exact trivial
def cdC (lo : Nat) (VM VC VE : Value) (m : Mdl) (n k : Nat) (s : Cst) (out : List Evt) (d : Nat) (v : Value) (w : World) : Prop :=
  if d = 88 then v = VM else if d = 89 then IsMdl lo m n k v w else if d = 90 then v = VC else if d = 91 then v = VC else if d = 92 then v = VE else if d = 93 then v = VE else if d = 94 then IsDoO lo s out v w else if d = 87 then IsDoO lo s out v w else if d = 95 then v = s.v else if d = 96 then IsOwnL lo out v w else if d = 16 then NewB 3 62 lo v w else True
theorem cdC_88 (lo : Nat) (VM VC VE : Value) (m : Mdl) (n k : Nat) (s : Cst) (out : List Evt) (v : Value) (w : World) : cdC lo VM VC VE m n k s out 88 v w = (v = VM) := by simp [cdC]
theorem cdC_89 (lo : Nat) (VM VC VE : Value) (m : Mdl) (n k : Nat) (s : Cst) (out : List Evt) (v : Value) (w : World) : cdC lo VM VC VE m n k s out 89 v w = (IsMdl lo m n k v w) := by simp [cdC]
theorem cdC_90 (lo : Nat) (VM VC VE : Value) (m : Mdl) (n k : Nat) (s : Cst) (out : List Evt) (v : Value) (w : World) : cdC lo VM VC VE m n k s out 90 v w = (v = VC) := by simp [cdC]
theorem cdC_91 (lo : Nat) (VM VC VE : Value) (m : Mdl) (n k : Nat) (s : Cst) (out : List Evt) (v : Value) (w : World) : cdC lo VM VC VE m n k s out 91 v w = (v = VC) := by simp [cdC]
theorem cdC_92 (lo : Nat) (VM VC VE : Value) (m : Mdl) (n k : Nat) (s : Cst) (out : List Evt) (v : Value) (w : World) : cdC lo VM VC VE m n k s out 92 v w = (v = VE) := by simp [cdC]
theorem cdC_93 (lo : Nat) (VM VC VE : Value) (m : Mdl) (n k : Nat) (s : Cst) (out : List Evt) (v : Value) (w : World) : cdC lo VM VC VE m n k s out 93 v w = (v = VE) := by simp [cdC]
theorem cdC_94 (lo : Nat) (VM VC VE : Value) (m : Mdl) (n k : Nat) (s : Cst) (out : List Evt) (v : Value) (w : World) : cdC lo VM VC VE m n k s out 94 v w = (IsDoO lo s out v w) := by simp [cdC]
theorem cdC_87 (lo : Nat) (VM VC VE : Value) (m : Mdl) (n k : Nat) (s : Cst) (out : List Evt) (v : Value) (w : World) : cdC lo VM VC VE m n k s out 87 v w = (IsDoO lo s out v w) := by simp [cdC]
theorem cdC_95 (lo : Nat) (VM VC VE : Value) (m : Mdl) (n k : Nat) (s : Cst) (out : List Evt) (v : Value) (w : World) : cdC lo VM VC VE m n k s out 95 v w = (v = s.v) := by simp [cdC]
theorem cdC_96 (lo : Nat) (VM VC VE : Value) (m : Mdl) (n k : Nat) (s : Cst) (out : List Evt) (v : Value) (w : World) : cdC lo VM VC VE m n k s out 96 v w = (IsOwnL lo out v w) := by simp [cdC]
theorem cdC_16 (lo : Nat) (VM VC VE : Value) (m : Mdl) (n k : Nat) (s : Cst) (out : List Evt) (v : Value) (w : World) : cdC lo VM VC VE m n k s out 16 v w = (NewB 3 62 lo v w) := by simp [cdC]
theorem cdC_up (lo : Nat) (VM VC VE : Value) (m : Mdl) (n k : Nat) (s : Cst) (out : List Evt) (d : Nat) {v : Value} {w w' : World} (h : cdC lo VM VC VE m n k s out d v w) (u : Up w w') : cdC lo VM VC VE m n k s out d v w' := by
  unfold cdC at h ⊢
  by_cases h88 : d = 88
  · rw [if_pos h88] at h ⊢
    exact h
  rw [if_neg h88] at h ⊢
  by_cases h89 : d = 89
  · rw [if_pos h89] at h ⊢
    exact h.up u
  rw [if_neg h89] at h ⊢
  by_cases h90 : d = 90
  · rw [if_pos h90] at h ⊢
    exact h
  rw [if_neg h90] at h ⊢
  by_cases h91 : d = 91
  · rw [if_pos h91] at h ⊢
    exact h
  rw [if_neg h91] at h ⊢
  by_cases h92 : d = 92
  · rw [if_pos h92] at h ⊢
    exact h
  rw [if_neg h92] at h ⊢
  by_cases h93 : d = 93
  · rw [if_pos h93] at h ⊢
    exact h
  rw [if_neg h93] at h ⊢
  by_cases h94 : d = 94
  · rw [if_pos h94] at h ⊢
    exact h.up u
  rw [if_neg h94] at h ⊢
  by_cases h87 : d = 87
  · rw [if_pos h87] at h ⊢
    exact h.up u
  rw [if_neg h87] at h ⊢
  by_cases h95 : d = 95
  · rw [if_pos h95] at h ⊢
    exact h
  rw [if_neg h95] at h ⊢
  by_cases h96 : d = 96
  · rw [if_pos h96] at h ⊢
    exact h.up u
  rw [if_neg h96] at h ⊢
  by_cases h16 : d = 16
  · rw [if_pos h16] at h ⊢
    exact h.up u
  rw [if_neg h16] at h ⊢
  exact trivial

end Go.Proofs.Ytkfjemgelmbcfaa

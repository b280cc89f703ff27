/-
  What spec.CmpDo returns, in one sentence: the new state and what is sent, nothing where one of the three is not ok; for every model that lies in memory.
  What a component sends, in one sentence: valid events from it, later, not behind the end, with rising numbers from its own on; for every list of valid sends.
  What a component does, where it may, in one sentence: it stays valid and sends later, valid events; for every valid model, component and event.
  A region that draws its order and whose effects are forced into one order, in one sentence: as region_mix, and what only reads may come up where a chosen condition on the world holds throughout.
-/
import Derived.OrdersHeld
import Derived.Test.YtakmlfgkppekoaaDLCud06
import Derived.Test.YtakmlfgkppekoaaDLCud07
import Derived.Test.YtakmlfgkppekoaaDLCud15
import Derived.Test.YtakmlfgkppekoaaDLCud16
import Derived.Test.YtakmlfgkppekoaaDLCud18
import Derived.Test.YtakmlfgkppekoaaDLCud20
namespace Go.Proofs.Ytakmlfgkppekoaa
set_option maxRecDepth 100000
open Go.RowKit
/-- What CmpDo gives. -/
def DoPost (m : Mdl) (s : Cst) (e : Evt) (w : World) (x : Ending) (w' : World) : Prop :=
  ∃ A' c', x = .returned (.tuple #[(doM m s e).1.v, .slice A' (doM m s e).2.length c']) ∧ (doM m s e).2.length ≤ c' ∧ c' ≤ 9223372036854775807 ∧ Evs w' A' (doM m s e).2.length (doM m s e).2 ∧ Up w w'
set_option maxHeartbeats 8000000 in
theorem specCmpDo_any (A : Option Addr) (n c : Nat) (B : Option Addr) (k d : Nat) (m : Mdl) (s : Cst) (e : Evt) (w : World) (hM : MdlV w A n B k m) :
    Calls Try.prog 60 #[.agg #[.slice A n c, .slice B k d, .int .i64 m.til], s.v, e.v] w (DoPost m s e w) := by
  have hnr := hM.rules.1
  have HM := Lib.hid hM
  obtain ⟨et, eto, efr, esq, ekd, edt⟩ := e
  have MB := Lib.hid (show mayB m s ⟨et, eto, efr, esq, ekd, edt⟩ = (mdlB m && cstB s && okB ⟨et, eto, efr, esq, ekd, edt⟩ n && decide (et ≤ m.til)) by rw [← hnr]; rfl)
  have CM := Lib.hid (fun W (u : Up w W) => specMdl_any A n c B k d m W (hM.up u))
  have CC := Lib.hid (fun W => specCst_any s W)
  have CO := Lib.hid (fun W => specOk_any ⟨et, eto, efr, esq, ekd, edt⟩ n W)
  have CD := Lib.hid (fun W (u : Up w W) h => l2Do_any A n c B k d m s ⟨et, eto, efr, esq, ekd, edt⟩ W (hM.up u) h)
  generalize mdlB m = g1 at MB CM
  generalize cstB s = g2 at MB CC
  generalize okB ⟨et, eto, efr, esq, ekd, edt⟩ n = g3 at MB CO
  have U0 := Lib.hid ((((Up.refl w).alloc (.cells #[.slice A n c, .slice B k d, .int .i64 m.til] 33)).alloc (.cells #[.int .i64 s.s, .int .i64 s.sq, .int .i64 s.ct] 41)).alloc (.cells #[.int .i64 et, .int .i64 eto, .int .i64 efr, .int .i64 esq, .int .i64 ekd, .int .i64 edt] 45) |>.alloc (.cells #[.int .i64 0, .int .i64 0, .int .i64 0] 41))
  have X3 := Lib.hid ((((Box3.new w (.slice A n c) (.slice B k d) (.int .i64 m.til) 33).up ((Up.refl _).alloc (.cells #[.int .i64 s.s, .int .i64 s.sq, .int .i64 s.ct] 41))).up ((Up.refl _).alloc (.cells #[.int .i64 et, .int .i64 eto, .int .i64 efr, .int .i64 esq, .int .i64 ekd, .int .i64 edt] 45))).up ((Up.refl _).alloc (.cells #[.int .i64 0, .int .i64 0, .int .i64 0] 41)))
  have X4 := Lib.hid (((Box3.new (w.alloc (.cells #[.slice A n c, .slice B k d, .int .i64 m.til] 33)) (.int .i64 s.s) (.int .i64 s.sq) (.int .i64 s.ct) 41).up ((Up.refl _).alloc (.cells #[.int .i64 et, .int .i64 eto, .int .i64 efr, .int .i64 esq, .int .i64 ekd, .int .i64 edt] 45))).up ((Up.refl _).alloc (.cells #[.int .i64 0, .int .i64 0, .int .i64 0] 41)))
  have X5 := Lib.hid ((Box.new ((w.alloc (.cells #[.slice A n c, .slice B k d, .int .i64 m.til] 33)).alloc (.cells #[.int .i64 s.s, .int .i64 s.sq, .int .i64 s.ct] 41)) ⟨et, eto, efr, esq, ekd, edt⟩ 45).up ((Up.refl _).alloc (.cells #[.int .i64 0, .int .i64 0, .int .i64 0] 41)))
  have X6 := Lib.hid (Cell3.new (((w.alloc (.cells #[.slice A n c, .slice B k d, .int .i64 m.til] 33)).alloc (.cells #[.int .i64 s.s, .int .i64 s.sq, .int .i64 s.ct] 41)).alloc (.cells #[.int .i64 et, .int .i64 eto, .int .i64 efr, .int .i64 esq, .int .i64 ekd, .int .i64 edt] 45)) 0 0 0 41)
  simp only [World.size_alloc] at X4 X5 X6; unfold Cst.v at CC CD ⊢; unfold Evt.v at CO CD ⊢; dsimp only at CC CO CD ⊢; clear hM hnr
  go_enter Try.func60, Try.ntmps60
  go_wp2_with fail
  refine (CM.out _ U0.out).mono ?_; rintro x w1 ⟨rfl, u1⟩
  have UU := Lib.hid (U0.out.trans u1)
  have X3 := Lib.hid (X3.out.up u1)
  have X4 := Lib.hid (X4.out.up u1)
  have X5 := Lib.hid (X5.out.up u1)
  have X6 := Lib.hid (X6.out.up u1)
  generalize hb6 : w.heap.size + 1 + 1 + 1 = b6 at X6 ⊢
  have hb6w : w.heap.size ≤ b6 := by omega
  clear u1 U0
  cases g1
  · have DN := Lib.hid (show doM m s ⟨et, eto, efr, esq, ekd, edt⟩ = (⟨0, 0, 0⟩, []) by unfold doM; rw [if_neg (by rw [MB.out]; simp)])
    have XA := (X6.out.laid' 0 0 0).up ((Up.refl _).alloc (.cells #[] 45))
    obtain ⟨q0, q1, q2⟩ := And.intro X6.out.c0 (And.intro X6.out.c1 X6.out.c2)
    have qf := X6.out.f
    have ql := X6.out.lt
    obtain ⟨k0, k1, k2⟩ := And.intro XA.c0 (And.intro XA.c1 XA.c2)
    have UE := Lib.hid ((((UU.out.setCell (p := ⟨b6, 0, none⟩) hb6w (.int .i64 0)).setCell (p := ⟨b6, 1, none⟩) hb6w (.int .i64 0)).setCell (p := ⟨b6, 2, none⟩) hb6w (.int .i64 0)).alloc (.cells #[] 45))
    clear XA; go_wp2
    exact bodyPost_ret (v := .tuple #[.agg #[.int .i64 0, .int .i64 0, .int .i64 0], .slice (some ⟨w1.heap.size, 0, none⟩) 0 0]) (by simp [results, Try.results60, go_sem, k0, k1, k2]) rfl (by
      unfold DoPost; rw [DN.out]
      exact ⟨some ⟨w1.heap.size, 0, none⟩, 0, rfl, Nat.le_refl _, by omega, ⟨rfl, fun h => absurd h (by simp)⟩, UE.out⟩)
  · obtain ⟨p0, p1, p2⟩ := And.intro X4.out.c0 (And.intro X4.out.c1 X4.out.c2)
    go_wp2_with fail
    refine (CC.out _).mono ?_; rintro x w2 ⟨rfl, u2⟩
    have UU := Lib.hid (UU.out.trans u2)
    have X3 := Lib.hid (X3.out.up u2)
    have X4 := Lib.hid (X4.out.up u2)
    have X5 := Lib.hid (X5.out.up u2)
    have X6 := Lib.hid (X6.out.up u2)
    clear u2 p0 p1 p2
    cases g2
    · have DN := Lib.hid (show doM m s ⟨et, eto, efr, esq, ekd, edt⟩ = (⟨0, 0, 0⟩, []) by unfold doM; rw [if_neg (by rw [MB.out]; simp)])
      have XA := (X6.out.laid' 0 0 0).up ((Up.refl _).alloc (.cells #[] 45))
      obtain ⟨q0, q1, q2⟩ := And.intro X6.out.c0 (And.intro X6.out.c1 X6.out.c2)
      have qf := X6.out.f
      have ql := X6.out.lt
      obtain ⟨k0, k1, k2⟩ := And.intro XA.c0 (And.intro XA.c1 XA.c2)
      have UE := Lib.hid ((((UU.out.setCell (p := ⟨b6, 0, none⟩) hb6w (.int .i64 0)).setCell (p := ⟨b6, 1, none⟩) hb6w (.int .i64 0)).setCell (p := ⟨b6, 2, none⟩) hb6w (.int .i64 0)).alloc (.cells #[] 45))
      clear XA; go_wp2
      exact bodyPost_ret (v := .tuple #[.agg #[.int .i64 0, .int .i64 0, .int .i64 0], .slice (some ⟨w2.heap.size, 0, none⟩) 0 0]) (by simp [results, Try.results60, go_sem, k0, k1, k2]) rfl (by
        unfold DoPost; rw [DN.out]
        exact ⟨some ⟨w2.heap.size, 0, none⟩, 0, rfl, Nat.le_refl _, by omega, ⟨rfl, fun h => absurd h (by simp)⟩, UE.out⟩)
    · obtain ⟨t0, t1, t2⟩ := And.intro X3.out.c0 (And.intro X3.out.c1 X3.out.c2)
      obtain ⟨⟨y0, y1, y2, y3, y4, y5⟩, -⟩ := X5.out.mk6
      go_wp2_with fail
      refine (CO.out _).mono ?_; rintro x w3 ⟨rfl, u3⟩
      have UU := Lib.hid (UU.out.trans u3)
      have X3 := Lib.hid (X3.out.up u3)
      have X4 := Lib.hid (X4.out.up u3)
      have X5 := Lib.hid (X5.out.up u3)
      have X6 := Lib.hid (X6.out.up u3)
      clear u3 t0 t1 t2 y0 y1 y2 y3 y4 y5
      cases g3
      · have DN := Lib.hid (show doM m s ⟨et, eto, efr, esq, ekd, edt⟩ = (⟨0, 0, 0⟩, []) by unfold doM; rw [if_neg (by rw [MB.out]; simp)])
        have XA := (X6.out.laid' 0 0 0).up ((Up.refl _).alloc (.cells #[] 45))
        obtain ⟨q0, q1, q2⟩ := And.intro X6.out.c0 (And.intro X6.out.c1 X6.out.c2)
        have qf := X6.out.f
        have ql := X6.out.lt
        obtain ⟨k0, k1, k2⟩ := And.intro XA.c0 (And.intro XA.c1 XA.c2)
        have UE := Lib.hid ((((UU.out.setCell (p := ⟨b6, 0, none⟩) hb6w (.int .i64 0)).setCell (p := ⟨b6, 1, none⟩) hb6w (.int .i64 0)).setCell (p := ⟨b6, 2, none⟩) hb6w (.int .i64 0)).alloc (.cells #[] 45))
        clear XA; go_wp2
        exact bodyPost_ret (v := .tuple #[.agg #[.int .i64 0, .int .i64 0, .int .i64 0], .slice (some ⟨w3.heap.size, 0, none⟩) 0 0]) (by simp [results, Try.results60, go_sem, k0, k1, k2]) rfl (by
          unfold DoPost; rw [DN.out]
          exact ⟨some ⟨w3.heap.size, 0, none⟩, 0, rfl, Nat.le_refl _, by omega, ⟨rfl, fun h => absurd h (by simp)⟩, UE.out⟩)
      · obtain ⟨t0, t1, t2⟩ := And.intro X3.out.c0 (And.intro X3.out.c1 X3.out.c2)
        obtain ⟨⟨y0, y1, y2, y3, y4, y5⟩, -⟩ := X5.out.mk6; obtain ⟨p0, p1, p2⟩ := And.intro X4.out.c0 (And.intro X4.out.c1 X4.out.c2)
        by_cases ht : et ≤ m.til
        · have HOK : mayB m s ⟨et, eto, efr, esq, ekd, edt⟩ = true := by rw [MB.out, decide_eq_true ht]; rfl
          have DD := Lib.hid (show doM m s ⟨et, eto, efr, esq, ekd, edt⟩ = doE m s ⟨et, eto, efr, esq, ekd, edt⟩ from if_pos HOK)
          have CD := Lib.hid (fun W u => CD.out W u HOK)
          have ht' : ¬ m.til < et := by omega
          have hl6 : b6 < w3.heap.size := X6.out.lt
          clear HOK
          go_wp2_with fail
          refine (CD.out _ UU.out).mono ?_; rintro x w4 ⟨Az, cz, rfl, hz1, hz2, he, hfar, u4⟩; rw [← DD.out] at hz1 he ⊢
          generalize hdm : doM m s ⟨et, eto, efr, esq, ekd, edt⟩ = dm at hz1 he ⊢
          obtain ⟨⟨z0, z1, z2⟩, out⟩ := dm; dsimp only at hz1 he ⊢
          have HD := Lib.hid hdm
          have X6 := Lib.hid (X6.out.up u4)
          have UU := Lib.hid (UU.out.trans u4)
          generalize hol : out.length = ol at hz1 he ⊢
          have HO := Lib.hid hol
          obtain ⟨q0, q1, q2⟩ := And.intro X6.out.c0 (And.intro X6.out.c1 X6.out.c2)
          have qf := X6.out.f
          have ql := X6.out.lt
          obtain ⟨k0, k1, k2⟩ := And.intro (X6.out.laid' z0 z1 z2).c0 (And.intro (X6.out.laid' z0 z1 z2).c1 (X6.out.laid' z0 z1 z2).c2)
          have UE := Lib.hid (((UU.out.setCell (p := ⟨b6, 0, none⟩) hb6w (.int .i64 z0)).setCell (p := ⟨b6, 1, none⟩) hb6w (.int .i64 z1)).setCell (p := ⟨b6, 2, none⟩) hb6w (.int .i64 z2))
          have HE := Lib.hid he
          have EZ := Lib.hid (Evs.mv he (((Mv.refl b6 w4).setCell (o := 0) (.int .i64 z0)).setCell (o := 1) (.int .i64 z1) |>.setCell (o := 2) (.int .i64 z2)) (fun b off hA => by have := hfar b off hA; omega))
          clear u4 he hdm hol; go_wp2
          exact bodyPost_ret (v := .tuple #[.agg #[.int .i64 z0, .int .i64 z1, .int .i64 z2], .slice Az ol cz]) (by simp [results, Try.results60, go_sem, k0, k1, k2]) rfl (by
            unfold DoPost; rw [HD.out]; dsimp only; rw [HO.out]
            have m4 := HE.out
            exact ⟨Az, cz, rfl, hz1, hz2, by first | exact EZ.out | exact m4, UE.out⟩)
        · have ht' : m.til < et := by omega
          have DN := Lib.hid (show doM m s ⟨et, eto, efr, esq, ekd, edt⟩ = (⟨0, 0, 0⟩, []) by unfold doM; rw [if_neg (by rw [MB.out, decide_eq_false ht]; simp)])
          have XA := (X6.out.laid' 0 0 0).up ((Up.refl _).alloc (.cells #[] 45))
          obtain ⟨q0, q1, q2⟩ := And.intro X6.out.c0 (And.intro X6.out.c1 X6.out.c2)
          have qf := X6.out.f
          have ql := X6.out.lt
          obtain ⟨k0, k1, k2⟩ := And.intro XA.c0 (And.intro XA.c1 XA.c2)
          have UE := Lib.hid ((((UU.out.setCell (p := ⟨b6, 0, none⟩) hb6w (.int .i64 0)).setCell (p := ⟨b6, 1, none⟩) hb6w (.int .i64 0)).setCell (p := ⟨b6, 2, none⟩) hb6w (.int .i64 0)).alloc (.cells #[] 45))
          clear XA; go_wp2
          exact bodyPost_ret (v := .tuple #[.agg #[.int .i64 0, .int .i64 0, .int .i64 0], .slice (some ⟨w3.heap.size, 0, none⟩) 0 0]) (by simp [results, Try.results60, go_sem, k0, k1, k2]) rfl (by
            unfold DoPost; rw [DN.out]
            exact ⟨some ⟨w3.heap.size, 0, none⟩, 0, rfl, Nat.le_refl _, by omega, ⟨rfl, fun h => absurd h (by simp)⟩, UE.out⟩)
end Go.Proofs.Ytakmlfgkppekoaa

namespace Go.Proofs.Ytakmlfgkppekoaa
set_option maxRecDepth 100000
open Go.RowKit
/-- One event that is sent. -/
structure SentF (til many : Int) (e : Evt) (lo hi : Int) (x : Evt) : Prop where
  sq : lo ≤ x.sq ∧ x.sq < hi
  fr : x.fr = e.to
  t : e.t < x.t ∧ x.t ≤ til
  to_ : 0 ≤ x.to ∧ x.to < many
  kd : 0 ≤ x.kd ∧ x.kd ≤ 2
  dt : 0 ≤ x.dt ∧ x.dt ≤ 96
structure SendsF (til many : Int) (e : Evt) (q q' : Int) (n : Nat) (L : List Evt) : Prop where
  len : q + L.length ≤ q'
  top : q' ≤ 12
  few : q' ≤ q + n
  each : ∀ i, i < L.length → SentF til many e (q + i) q' (L.getD i default)
  rise : ∀ i j, j < i → i < L.length → (L.getD j default).sq < (L.getD i default).sq
theorem sendsE_facts (til s many : Int) (e : Evt) : ∀ (xs : List Evt) (q : Int), (∀ x ∈ xs, sndB x many = true) → 0 ≤ q → q ≤ 12 → SendsF til many e q (sendsE til s e xs q).2 xs.length (sendsE til s e xs q).1
  | [], q, _, _, h1 => by
    simp only [sendsE]
    exact ⟨by simp, h1, by simp, fun i hi => by simp at hi, fun i j _ hi => by simp at hi⟩
  | x :: xs, q, hx, h0, h1 => by
    have hb := hx x List.mem_cons_self
    have hr : ∀ y ∈ xs, sndB y many = true := fun y hy => hx y (List.mem_cons_of_mem _ hy)
    unfold sndB at hb; simp only [Bool.and_eq_true, inB_iff] at hb; rw [sendsE]
    by_cases hs : s % x.kd ≠ x.dt ∨ q = 12
    · rw [if_pos hs]
      have ih := sendsE_facts til s many e xs q hr h0 h1
      exact ⟨ih.len, ih.top, by have := ih.few; rw [List.length_cons]; omega, ih.each, ih.rise⟩
    · rw [if_neg hs]
      have hq : q ≠ 12 := fun h => hs (.inr h)
      have ih := sendsE_facts til s many e xs (q + 1) hr (by omega) (by omega)
      by_cases ht : e.t + x.to ≤ til
      · rw [if_pos ht]
        have hl := ih.len
        refine ⟨by rw [List.length_cons]; dsimp only; omega, ih.top, by have := ih.few; rw [List.length_cons]; dsimp only; omega, fun i hi => ?_, fun i j hji hi => ?_⟩
        · cases i with
          | zero =>
            have hz : SentF til many e (q + ((0 : Nat) : Int)) (sendsE til s e xs (q + 1)).2 ⟨e.t + x.to, x.t, e.to, q, x.fr, (s + x.sq) % 97⟩ :=
              ⟨⟨by dsimp only; omega, by dsimp only; omega⟩, rfl, ⟨by dsimp only; omega, ht⟩, ⟨by dsimp only; omega, by dsimp only; omega⟩, ⟨by dsimp only; omega, by dsimp only; omega⟩, ⟨by dsimp only; omega, by dsimp only; omega⟩⟩
            exact hz
          | succ i =>
            have h := ih.each i (by simpa using hi)
            exact ⟨⟨by have := h.sq.1; rw [List.getD_cons_succ]; omega, h.sq.2⟩, h.fr, h.t, h.to_, h.kd, h.dt⟩
        · cases i with
          | zero => omega
          | succ i =>
            have hi' : i < (sendsE til s e xs (q + 1)).1.length := by simpa using hi
            cases j with
            | zero =>
              have h := (ih.each i hi').sq.1
              rw [List.getD_cons_succ, List.getD_cons_zero]; dsimp only
              omega
            | succ j => exact ih.rise i j (by omega) hi'
      · rw [if_neg ht]
        exact ⟨by have := ih.len; omega, ih.top, by have := ih.few; rw [List.length_cons]; omega, fun i hi => by
          have h := ih.each i hi
          exact ⟨⟨by have := h.sq.1; omega, h.sq.2⟩, h.fr, h.t, h.to_, h.kd, h.dt⟩, ih.rise⟩
end Go.Proofs.Ytakmlfgkppekoaa

namespace Go.Proofs.Ytakmlfgkppekoaa
set_option maxRecDepth 100000
open Go.RowKit
/-- What a component does, where it may. -/
structure MayF (m : Mdl) (s : Cst) (e : Evt) (x : Cst) (L : List Evt) : Prop where
  to_ : 0 ≤ e.to ∧ e.to < m.rules.length
  many : 1 ≤ m.rules.length ∧ m.rules.length ≤ 4
  cst : cstB x = true
  old : (0 ≤ s.sq ∧ s.sq ≤ 12) ∧ 0 ≤ s.ct
  ct : x.ct = s.ct + 1
  sends : SendsF m.til m.rules.length e s.sq x.sq 2 L
  til : m.til ≤ 99 ∧ 0 ≤ e.t
  none_ : ruleOf e.kd (m.rules.getD e.to.toNat []) = none → x.s = s.s ∧ L = []
theorem inRule {kd : Int} : ∀ {rs : List Rule} {r : Rule}, ruleOf kd rs = some r → r ∈ rs
  | [], _, h => by cases h
  | x :: rs, r, h => by
    rw [ruleOf] at h
    split at h
    · injection h with h
      exact h ▸ List.mem_cons_self
    · exact List.mem_cons_of_mem _ (inRule h)
theorem okRule {many bf : Int} : ∀ {rs : List Rule} {r : Rule}, rulesB many bf rs = true → r ∈ rs → ruleB r many = true
  | [], _, _, h => by cases h
  | x :: rs, r, hb, h => by
    rw [rulesB] at hb; simp only [Bool.and_eq_true] at hb
    rcases List.mem_cons.1 h with rfl | h
    · exact hb.1.2
    · exact okRule hb.2 h
theorem may_facts (m : Mdl) (s : Cst) (e : Evt) (hc : s.ct ≤ 1000000000000) (h : mayB m s e = true) : MayF m s e (doM m s e).1 (doM m s e).2 := by
  have h0 := h
  unfold mayB at h0; simp only [Bool.and_eq_true, decide_eq_true_eq] at h0; obtain ⟨⟨⟨hm, hs⟩, ho⟩, ht⟩ := h0
  have hs' := hs
  unfold cstB at hs'; simp only [Bool.and_eq_true, inB_iff, decide_eq_true_eq] at hs'
  have ho' := ho
  unfold okB at ho'; simp only [Bool.and_eq_true, inB_iff] at ho'
  have hm' := hm
  unfold mdlB at hm'; simp only [Bool.and_eq_true, inB_iff] at hm'
  have hl : e.to.toNat < m.rules.length := by omega
  have hrow : rulesB m.rules.length (-1) (m.rules.getD e.to.toNat []) = true := by
    have : m.rules.getD e.to.toNat [] = m.rules[e.to.toNat] := by simp [List.getD, hl]
    rw [this]
    exact List.all_eq_true.1 hm'.2 _ (List.getElem_mem hl)
  have hw : IntKind.i64.wrap (s.ct + 1) = s.ct + 1 := IntWalk.i64_in _ (by omega)
  rw [doM, if_pos h]
  cases hr : ruleOf e.kd (m.rules.getD e.to.toNat []) with
  | none =>
    have e1 : doE m s e = (⟨s.s, s.sq, s.ct + 1⟩, []) := by simp only [doE, hr, hw]
    rw [e1]
    exact ⟨by omega, by omega, by unfold cstB; simp only [Bool.and_eq_true, inB_iff, decide_eq_true_eq]; omega, by omega, rfl, ⟨by simp, by dsimp only; omega, by dsimp only; omega, fun i hi => by simp at hi, fun i j _ hi => by simp at hi⟩, by omega, fun _ => ⟨rfl, rfl⟩⟩
  | some r =>
    have hrb := okRule hrow (inRule hr)
    unfold ruleB at hrb; simp only [Bool.and_eq_true, inB_iff, decide_eq_true_eq] at hrb
    have hall : ∀ x ∈ r.sends, sndB x m.rules.length = true := List.all_eq_true.1 hrb.1.1.1.1.1
    have S := sendsE_facts m.til ((r.a * s.s + r.b * e.dt + r.c) % 97) m.rules.length e r.sends s.sq hall (by omega) (by omega)
    have e1 : doE m s e = (⟨(r.a * s.s + r.b * e.dt + r.c) % 97, (sendsE m.til ((r.a * s.s + r.b * e.dt + r.c) % 97) e r.sends s.sq).2, s.ct + 1⟩, (sendsE m.til ((r.a * s.s + r.b * e.dt + r.c) % 97) e r.sends s.sq).1) := by simp only [doE, hr, hw]
    rw [e1]
    have g1 := S.len
    have g2 := S.top
    have g3 := S.few
    refine ⟨by omega, by omega, ?_, by omega, rfl, ⟨g1, g2, by dsimp only; omega, S.each, S.rise⟩, by omega, fun hn => by rw [hr] at hn; cases hn⟩; unfold cstB; simp only [Bool.and_eq_true, inB_iff, decide_eq_true_eq]
    omega
end Go.Proofs.Ytakmlfgkppekoaa

namespace Go.Proofs.Ytakmlfgkppekoaa
set_option maxRecDepth 100000
open Go.RowKit
def wpMixH (P : Program) (ops : Array Oper) (Q : Exit → Act → World → Prop) (S : World → Prop) : List (Nat × Bool) → Act → World → Prop
  | (k, true) :: fs, a, w => ∃ o v, ops[k]? = some o ∧ YieldsIf P ops S o v a ∧ wpMixH P ops Q S fs (a.put o.dst v) w
  | (k, false) :: fs, a, w => ∃ o, ops[k]? = some o ∧ if Region.wanted o (yielded ops a.tmps) = true then o.wp P a w (fun a' w' => S w' ∧ wpMixH P ops Q S fs a' w') Q else wpMixH P ops Q S fs (a.put o.dst undef) w
  | [], a, w => Q .normal a w
theorem wpAnyH_of_mix {P : Program} {ops : Array Oper} {Q : Exit → Act → World → Prop} {S : World → Prop} (hsel : Region.noSelect ops = true) (hQ : ∀ c (a : Act) d v w, Q (.panic c) (a.put d v) w → Q (.panic c) a w) :
    ∀ (fs : List (Nat × Bool)) (listed : Array Bool) (a : Act) (w : World), mixB ops fs listed = true → S w → wpMixH P ops Q S fs a w → wpAnyH P .any ops Q S fs.length listed a w
  | [], _, _, _, hB, _, h => ⟨by simpa [mixB] using hB, h⟩
  | (k, true) :: fs, listed, a, w, hB, hS, h => by
    simp only [mixB, Bool.and_eq_true] at hB; obtain ⟨o, v, h0, hy, hn⟩ := h
    exact wpAnyH_take h0 hsel hB.1.2 hB.1.1.2 (fun c a w => hQ c a _ _ w) hy hS (wpAnyH_of_mix hsel hQ fs _ _ _ hB.2 hS hn)
  | (k, false) :: fs, listed, a, w, hB, hS, h => by
    simp only [mixB, Bool.and_eq_true, decide_eq_true_eq] at hB; obtain ⟨o, h0, h⟩ := h
    refine wpAnyH_all hB.1.2 (by simp) fun i hi => ?_
    obtain rfl : i = k := by simpa using hi
    refine wpOp_mono (K := fun a' w' => S w' ∧ wpMixH P ops Q S fs a' w') (fun a' w' h' => ⟨h'.1, wpAnyH_of_mix hsel hQ fs _ _ _ hB.2 h'.1 h'.2⟩) ?_; unfold wpOp; simp only [h0]
    split
    · rename_i hw
      rw [if_pos hw] at h
      exact .inl h
    · rename_i hw
      rw [if_neg hw] at h
      exact ⟨hS, h⟩
/-- What is left to walk, kept shut. -/
@[irreducible] def mWalk (P : Program) (ops : Array Oper) (Q : Exit → Act → World → Prop) (S : World → Prop) (fs : List (Nat × Bool)) (a : Act) (w : World) : Prop := wpMixH P ops Q S fs a w
theorem region_mixH {P : Program} {id : Nat} {Q : Exit → Act → World → Prop} {a : Act} {w : World} {l : List Oper} (S : World → Prop) (fs : List (Nat × Bool)) (hm : P.follows .mixedOrders = true)
    (hB : (Region.noSelect l.toArray && decide (fs.length = l.length) && mixB l.toArray fs (Array.replicate l.toArray.size false)) = true) (hS : S w.drew)
    (h : mWalk P l.toArray (NoPanic Q) S fs a w.drew) : (Code.region id l.toArray true).wp P Q a w := by
  unfold mWalk at h; simp only [Bool.and_eq_true, decide_eq_true_eq] at hB; refine wp_region_noPanic (wp_region_held (S := S) hm ?_)
  have := wpAnyH_of_mix (P := P) (Q := NoPanic Q) hB.1.1 (fun _ _ _ _ _ h => h) fs _ a w.drew hB.2 hS h
  rw [hB.1.2] at this
  simpa using this
section
variable {P : Program} {ops : Array Oper} {Q : Exit → Act → World → Prop} {S : World → Prop} {fs : List (Nat × Bool)} {k : Nat} {o : Oper} {a : Act} {w : World}
theorem mixH_take (h0 : ops[k]? = some o) (hw : Region.wanted o (yielded ops a.tmps) = true) (h : ∃ v, (∀ w1, S w1 → (execOp a.eval o).run P w1 = .ok (.value v) w1) ∧ mWalk P ops Q S fs (a.put o.dst v) w) : mWalk P ops Q S ((k, true) :: fs) a w := by
  unfold mWalk at h ⊢; obtain ⟨v, hv, hn⟩ := h
  exact ⟨o, v, h0, .inl ⟨hw, hv⟩, hn⟩
theorem mixH_go (h0 : ops[k]? = some o) (hw : Region.wanted o (yielded ops a.tmps) = true) (h : ∀ K : Act → World → Prop, (∀ a w, S w → mWalk P ops Q S fs a w → K a w) → o.wp P a w K Q) : mWalk P ops Q S ((k, false) :: fs) a w := by
  unfold mWalk at h ⊢; refine ⟨o, h0, ?_⟩; rw [if_pos hw]
  exact h _ fun _ _ hs h => ⟨hs, h⟩
theorem mixH_nil (h : Q .normal a w) : mWalk P ops (NoPanic Q) S [] a w := by
  unfold mWalk
  exact h
end
end Go.Proofs.Ytakmlfgkppekoaa

/-
  What spec.CmpDo returns, in one sentence: the new state and what is sent, nothing where one of the three is not ok; for every model that lies in memory.
  What times, plus and next return, in one sentence: the product, the sum and the next state modulo 97; for numbers in bounds.
-/
import Derived.Test.YtkfjemgelmbcfaaKS
import Derived.Test.YtkfjemgelmbcfaaKO
import Derived.Test.YtkfjemgelmbcfaaKA
import Derived.Test.YtkfjemgelmbcfaaKN
import Derived.Test.YtkfjemgelmbcfaaKCa
namespace Go.Proofs.Ytkfjemgelmbcfaa
set_option maxRecDepth 100000
open Go.RowKit

theorem Cell3.up {w w' : World} {b : Nat} {i j l : Int} (h : Cell3 w b i j l) (u : Up w w') : Cell3 w' b i j l := h.keep u.size (fun _ => u.cells _ _ h.lt) (fun _ => u.frozens _ _ h.lt)

/-- What CmpDo gives. -/
def DoPost (m : Mdl) (s : Cst) (e : Evt) (w : World) (x : Ending) (w' : World) : Prop :=
  ∃ A' c', x = .returned (.tuple #[(doM m s e).1.v, .slice A' (doM m s e).2.length c']) ∧ (doM m s e).2.length ≤ c' ∧ c' ≤ 9223372036854775807 ∧ Evs w' A' (doM m s e).2.length (doM m s e).2 ∧ Up w w'

set_option maxHeartbeats 8000000 in
theorem specCmpDo_any (A : Option Addr) (n c : Nat) (B : Option Addr) (k d : Nat) (m : Mdl) (s : Cst) (e : Evt) (w : World) (hM : MdlV w A n B k m) :
    Calls Try.prog 36 #[.agg #[.slice A n c, .slice B k d, .int .i64 m.til], s.v, e.v] w (DoPost m s e w) := by
  have hnr := hM.rules.1
  have HM := Lib.hid hM
  obtain ⟨et, eto, efr, esq, ekd, edt⟩ := e
  have MB := Lib.hid (show mayB m s ⟨et, eto, efr, esq, ekd, edt⟩ = (mdlB m && cstB s && okB ⟨et, eto, efr, esq, ekd, edt⟩ n && decide (et ≤ m.til)) by rw [← hnr]; rfl)
  have CM := Lib.hid (fun W (u : Up w W) => specMdl_any A n c B k d m W (hM.up u))
  have CC := Lib.hid (fun W => specCst_any s W)
  have CO := Lib.hid (fun W => specOk_any ⟨et, eto, efr, esq, ekd, edt⟩ n W)
  have CD := Lib.hid (fun W (u : Up w W) h => l2Do_any A n c B k d m s ⟨et, eto, efr, esq, ekd, edt⟩ W (hM.up u) h)
  generalize mdlB m = g1 at MB CM
  generalize cstB s = g2 at MB CC
  generalize okB ⟨et, eto, efr, esq, ekd, edt⟩ n = g3 at MB CO
  have U0 := Lib.hid ((((Up.refl w).alloc (.cells #[.slice A n c, .slice B k d, .int .i64 m.til] 26)).alloc (.cells #[.int .i64 s.s, .int .i64 s.sq, .int .i64 s.ct] 62)).alloc (.cells #[.int .i64 et, .int .i64 eto, .int .i64 efr, .int .i64 esq, .int .i64 ekd, .int .i64 edt] 50) |>.alloc (.cells #[.int .i64 0, .int .i64 0, .int .i64 0] 62))
  have X3 := Lib.hid ((((Box3.new w (.slice A n c) (.slice B k d) (.int .i64 m.til) 26).up ((Up.refl _).alloc (.cells #[.int .i64 s.s, .int .i64 s.sq, .int .i64 s.ct] 62))).up ((Up.refl _).alloc (.cells #[.int .i64 et, .int .i64 eto, .int .i64 efr, .int .i64 esq, .int .i64 ekd, .int .i64 edt] 50))).up ((Up.refl _).alloc (.cells #[.int .i64 0, .int .i64 0, .int .i64 0] 62)))
  have X4 := Lib.hid (((Box3.new (w.alloc (.cells #[.slice A n c, .slice B k d, .int .i64 m.til] 26)) (.int .i64 s.s) (.int .i64 s.sq) (.int .i64 s.ct) 62).up ((Up.refl _).alloc (.cells #[.int .i64 et, .int .i64 eto, .int .i64 efr, .int .i64 esq, .int .i64 ekd, .int .i64 edt] 50))).up ((Up.refl _).alloc (.cells #[.int .i64 0, .int .i64 0, .int .i64 0] 62)))
  have X5 := Lib.hid ((Box.new ((w.alloc (.cells #[.slice A n c, .slice B k d, .int .i64 m.til] 26)).alloc (.cells #[.int .i64 s.s, .int .i64 s.sq, .int .i64 s.ct] 62)) ⟨et, eto, efr, esq, ekd, edt⟩ 50).up ((Up.refl _).alloc (.cells #[.int .i64 0, .int .i64 0, .int .i64 0] 62)))
  have X6 := Lib.hid (Cell3.new (((w.alloc (.cells #[.slice A n c, .slice B k d, .int .i64 m.til] 26)).alloc (.cells #[.int .i64 s.s, .int .i64 s.sq, .int .i64 s.ct] 62)).alloc (.cells #[.int .i64 et, .int .i64 eto, .int .i64 efr, .int .i64 esq, .int .i64 ekd, .int .i64 edt] 50)) 0 0 0 62)
  simp only [World.size_alloc] at X4 X5 X6
  unfold Cst.v at CC CD ⊢
  unfold Evt.v at CO CD ⊢
  dsimp only at CC CO CD ⊢
  clear hM hnr
  go_enter Try.func36, Try.ntmps36
  go_wp2_with fail
  refine (CM.out _ U0.out).mono ?_
  rintro x w1 ⟨rfl, u1⟩
  have UU := Lib.hid (U0.out.trans u1)
  have X3 := Lib.hid (X3.out.up u1)
  have X4 := Lib.hid (X4.out.up u1)
  have X5 := Lib.hid (X5.out.up u1)
  have X6 := Lib.hid (X6.out.up u1)
  generalize hb6 : w.heap.size + 1 + 1 + 1 = b6 at X6 ⊢
  have hb6w : w.heap.size ≤ b6 := by omega
  clear u1 U0
  cases g1
  · have DN := Lib.hid (show doM m s ⟨et, eto, efr, esq, ekd, edt⟩ = (⟨0, 0, 0⟩, []) by unfold doM; rw [if_neg (by rw [MB.out]; simp)])
    have XA := (X6.out.laid' 0 0 0).up ((Up.refl _).alloc (.cells #[] 50))
    obtain ⟨q0, q1, q2⟩ := And.intro X6.out.c0 (And.intro X6.out.c1 X6.out.c2)
    have qf := X6.out.f
    have ql := X6.out.lt
    obtain ⟨k0, k1, k2⟩ := And.intro XA.c0 (And.intro XA.c1 XA.c2)
    have UE := Lib.hid ((((UU.out.setCell (p := ⟨b6, 0, none⟩) hb6w (.int .i64 0)).setCell (p := ⟨b6, 1, none⟩) hb6w (.int .i64 0)).setCell (p := ⟨b6, 2, none⟩) hb6w (.int .i64 0)).alloc (.cells #[] 50))
    clear XA
    go_wp2
    exact bodyPost_ret (v := .tuple #[.agg #[.int .i64 0, .int .i64 0, .int .i64 0], .slice (some ⟨w1.heap.size, 0, none⟩) 0 0]) (by simp [results, Try.results36, go_sem, k0, k1, k2]) rfl (by
      unfold DoPost
      rw [DN.out]
      exact ⟨some ⟨w1.heap.size, 0, none⟩, 0, rfl, Nat.le_refl _, by omega, ⟨rfl, fun h => absurd h (by simp)⟩, UE.out⟩)
  · obtain ⟨p0, p1, p2⟩ := And.intro X4.out.c0 (And.intro X4.out.c1 X4.out.c2)
    go_wp2_with fail
    refine (CC.out _).mono ?_
    rintro x w2 ⟨rfl, u2⟩
    have UU := Lib.hid (UU.out.trans u2)
    have X3 := Lib.hid (X3.out.up u2)
    have X4 := Lib.hid (X4.out.up u2)
    have X5 := Lib.hid (X5.out.up u2)
    have X6 := Lib.hid (X6.out.up u2)
    clear u2 p0 p1 p2
    cases g2
    · have DN := Lib.hid (show doM m s ⟨et, eto, efr, esq, ekd, edt⟩ = (⟨0, 0, 0⟩, []) by unfold doM; rw [if_neg (by rw [MB.out]; simp)])
      have XA := (X6.out.laid' 0 0 0).up ((Up.refl _).alloc (.cells #[] 50))
      obtain ⟨q0, q1, q2⟩ := And.intro X6.out.c0 (And.intro X6.out.c1 X6.out.c2)
      have qf := X6.out.f
      have ql := X6.out.lt
      obtain ⟨k0, k1, k2⟩ := And.intro XA.c0 (And.intro XA.c1 XA.c2)
      have UE := Lib.hid ((((UU.out.setCell (p := ⟨b6, 0, none⟩) hb6w (.int .i64 0)).setCell (p := ⟨b6, 1, none⟩) hb6w (.int .i64 0)).setCell (p := ⟨b6, 2, none⟩) hb6w (.int .i64 0)).alloc (.cells #[] 50))
      clear XA
      go_wp2
      exact bodyPost_ret (v := .tuple #[.agg #[.int .i64 0, .int .i64 0, .int .i64 0], .slice (some ⟨w2.heap.size, 0, none⟩) 0 0]) (by simp [results, Try.results36, go_sem, k0, k1, k2]) rfl (by
        unfold DoPost
        rw [DN.out]
        exact ⟨some ⟨w2.heap.size, 0, none⟩, 0, rfl, Nat.le_refl _, by omega, ⟨rfl, fun h => absurd h (by simp)⟩, UE.out⟩)
    · obtain ⟨t0, t1, t2⟩ := And.intro X3.out.c0 (And.intro X3.out.c1 X3.out.c2)
      obtain ⟨⟨y0, y1, y2, y3, y4, y5⟩, -⟩ := X5.out.mk6
      go_wp2_with fail
      refine (CO.out _).mono ?_
      rintro x w3 ⟨rfl, u3⟩
      have UU := Lib.hid (UU.out.trans u3)
      have X3 := Lib.hid (X3.out.up u3)
      have X4 := Lib.hid (X4.out.up u3)
      have X5 := Lib.hid (X5.out.up u3)
      have X6 := Lib.hid (X6.out.up u3)
      clear u3 t0 t1 t2 y0 y1 y2 y3 y4 y5
      cases g3
      · have DN := Lib.hid (show doM m s ⟨et, eto, efr, esq, ekd, edt⟩ = (⟨0, 0, 0⟩, []) by unfold doM; rw [if_neg (by rw [MB.out]; simp)])
        have XA := (X6.out.laid' 0 0 0).up ((Up.refl _).alloc (.cells #[] 50))
        obtain ⟨q0, q1, q2⟩ := And.intro X6.out.c0 (And.intro X6.out.c1 X6.out.c2)
        have qf := X6.out.f
        have ql := X6.out.lt
        obtain ⟨k0, k1, k2⟩ := And.intro XA.c0 (And.intro XA.c1 XA.c2)
        have UE := Lib.hid ((((UU.out.setCell (p := ⟨b6, 0, none⟩) hb6w (.int .i64 0)).setCell (p := ⟨b6, 1, none⟩) hb6w (.int .i64 0)).setCell (p := ⟨b6, 2, none⟩) hb6w (.int .i64 0)).alloc (.cells #[] 50))
        clear XA
        go_wp2
        exact bodyPost_ret (v := .tuple #[.agg #[.int .i64 0, .int .i64 0, .int .i64 0], .slice (some ⟨w3.heap.size, 0, none⟩) 0 0]) (by simp [results, Try.results36, go_sem, k0, k1, k2]) rfl (by
          unfold DoPost
          rw [DN.out]
          exact ⟨some ⟨w3.heap.size, 0, none⟩, 0, rfl, Nat.le_refl _, by omega, ⟨rfl, fun h => absurd h (by simp)⟩, UE.out⟩)
      · obtain ⟨t0, t1, t2⟩ := And.intro X3.out.c0 (And.intro X3.out.c1 X3.out.c2)
        obtain ⟨⟨y0, y1, y2, y3, y4, y5⟩, -⟩ := X5.out.mk6
        obtain ⟨p0, p1, p2⟩ := And.intro X4.out.c0 (And.intro X4.out.c1 X4.out.c2)
        by_cases ht : et ≤ m.til
        · have HOK : mayB m s ⟨et, eto, efr, esq, ekd, edt⟩ = true := by rw [MB.out, decide_eq_true ht]; rfl
          have DD := Lib.hid (show doM m s ⟨et, eto, efr, esq, ekd, edt⟩ = doE m s ⟨et, eto, efr, esq, ekd, edt⟩ from if_pos HOK)
          have CD := Lib.hid (fun W u => CD.out W u HOK)
          have ht' : ¬ m.til < et := by omega
          have hl6 : b6 < w3.heap.size := X6.out.lt
          clear HOK
          go_wp2_with fail
          refine (CD.out _ UU.out).mono ?_
          rintro x w4 ⟨Az, cz, rfl, hz1, hz2, he, hfar, u4⟩
          rw [← DD.out] at hz1 he ⊢
          generalize hdm : doM m s ⟨et, eto, efr, esq, ekd, edt⟩ = dm at hz1 he ⊢
          obtain ⟨⟨z0, z1, z2⟩, out⟩ := dm
          dsimp only at hz1 he ⊢
          have HD := Lib.hid hdm
          have X6 := Lib.hid (X6.out.up u4)
          have UU := Lib.hid (UU.out.trans u4)
          generalize hol : out.length = ol at hz1 he ⊢
          have HO := Lib.hid hol
          obtain ⟨q0, q1, q2⟩ := And.intro X6.out.c0 (And.intro X6.out.c1 X6.out.c2)
          have qf := X6.out.f
          have ql := X6.out.lt
          obtain ⟨k0, k1, k2⟩ := And.intro (X6.out.laid' z0 z1 z2).c0 (And.intro (X6.out.laid' z0 z1 z2).c1 (X6.out.laid' z0 z1 z2).c2)
          have UE := Lib.hid (((UU.out.setCell (p := ⟨b6, 0, none⟩) hb6w (.int .i64 z0)).setCell (p := ⟨b6, 1, none⟩) hb6w (.int .i64 z1)).setCell (p := ⟨b6, 2, none⟩) hb6w (.int .i64 z2))
          have HE := Lib.hid he
          have EZ := Lib.hid (Evs.mv he (((Mv.refl b6 w4).setCell (o := 0) (.int .i64 z0)).setCell (o := 1) (.int .i64 z1) |>.setCell (o := 2) (.int .i64 z2)) (fun b off hA => by have := hfar b off hA; omega))
          clear u4 he hdm hol
          go_wp2
          exact bodyPost_ret (v := .tuple #[.agg #[.int .i64 z0, .int .i64 z1, .int .i64 z2], .slice Az ol cz]) (by simp [results, Try.results36, go_sem, k0, k1, k2]) rfl (by
            unfold DoPost
            rw [HD.out]
            dsimp only
            rw [HO.out]
            have m4 := HE.out
            exact ⟨Az, cz, rfl, hz1, hz2, by first | exact EZ.out | exact m4, UE.out⟩)
        · have ht' : m.til < et := by omega
          have DN := Lib.hid (show doM m s ⟨et, eto, efr, esq, ekd, edt⟩ = (⟨0, 0, 0⟩, []) by unfold doM; rw [if_neg (by rw [MB.out, decide_eq_false ht]; simp)])
          have XA := (X6.out.laid' 0 0 0).up ((Up.refl _).alloc (.cells #[] 50))
          obtain ⟨q0, q1, q2⟩ := And.intro X6.out.c0 (And.intro X6.out.c1 X6.out.c2)
          have qf := X6.out.f
          have ql := X6.out.lt
          obtain ⟨k0, k1, k2⟩ := And.intro XA.c0 (And.intro XA.c1 XA.c2)
          have UE := Lib.hid ((((UU.out.setCell (p := ⟨b6, 0, none⟩) hb6w (.int .i64 0)).setCell (p := ⟨b6, 1, none⟩) hb6w (.int .i64 0)).setCell (p := ⟨b6, 2, none⟩) hb6w (.int .i64 0)).alloc (.cells #[] 50))
          clear XA
          go_wp2
          exact bodyPost_ret (v := .tuple #[.agg #[.int .i64 0, .int .i64 0, .int .i64 0], .slice (some ⟨w3.heap.size, 0, none⟩) 0 0]) (by simp [results, Try.results36, go_sem, k0, k1, k2]) rfl (by
            unfold DoPost
            rw [DN.out]
            exact ⟨some ⟨w3.heap.size, 0, none⟩, 0, rfl, Nat.le_refl _, by omega, ⟨rfl, fun h => absurd h (by simp)⟩, UE.out⟩)

end Go.Proofs.Ytkfjemgelmbcfaa

namespace Go.Proofs.Ytkfjemgelmbcfaa
set_option maxRecDepth 100000
open Go.RowKit

theorem times_any (x y : Int) (hx : 0 ≤ x ∧ x ≤ 96) (hy : 0 ≤ y ∧ y ≤ 96) (w : World) :
    Calls Try.prog 153 #[.int .i64 x, .int .i64 y] w fun z w' => z = .returned (.int .i64 (x * y % 97)) ∧ w = w' := by
  have h0 : 0 ≤ x * y := Int.mul_nonneg hx.1 hy.1
  have h1 : x * y ≤ 96 * 96 := Int.mul_le_mul hx.2 hy.2 hy.1 (by omega)
  have i1 : IntKind.i64.wrap (x * y) = x * y := IntWalk.i64_in _ (by omega)
  have i2 : (x * y).tmod 97 = x * y % 97 := Int.tmod_eq_emod_of_nonneg h0
  have i3 : IntKind.i64.wrap (x * y % 97) = x * y % 97 := IntWalk.i64_in _ (by omega)
  go_enter Try.func153, Try.ntmps153
  go_wp2
  go_ret
  exact ⟨by first | rfl | simp [*], rfl⟩

theorem plus_any (x y : Int) (hx : 0 ≤ x ∧ x ≤ 1000) (hy : 0 ≤ y ∧ y ≤ 1000) (w : World) :
    Calls Try.prog 154 #[.int .i64 x, .int .i64 y] w fun z w' => z = .returned (.int .i64 ((x + y) % 97)) ∧ w = w' := by
  have h0 : 0 ≤ x + y := by omega
  have i1 : IntKind.i64.wrap (x + y) = x + y := IntWalk.i64_in _ (by omega)
  have i2 : (x + y).tmod 97 = (x + y) % 97 := Int.tmod_eq_emod_of_nonneg h0
  have i3 : IntKind.i64.wrap ((x + y) % 97) = (x + y) % 97 := IntWalk.i64_in _ (by omega)
  go_enter Try.func154, Try.ntmps154
  go_wp2
  go_ret
  exact ⟨by first | rfl | simp [*], rfl⟩

theorem plus_up (x y : Int) (hx : 0 ≤ x ∧ x ≤ 1000) (hy : 0 ≤ y ∧ y ≤ 1000) (w : World) :
    Calls Try.prog 154 #[.int .i64 x, .int .i64 y] w fun z w' => z = .returned (.int .i64 ((x + y) % 97)) ∧ Up w w' :=
  (plus_any x y hx hy w).mono (by rintro z w' ⟨rfl, rfl⟩; exact ⟨rfl, Up.refl _⟩)

theorem next_eq (a b c s d : Int) : ((a * s % 97 + b * d % 97) % 97 + c) % 97 = (a * s + b * d + c) % 97 := by
  generalize a * s = x
  generalize b * d = y
  omega

set_option maxHeartbeats 2000000 in
theorem next_any (r : Rule) (S : Value) (s d : Int) (ha : 0 ≤ r.a ∧ r.a ≤ 96) (hb : 0 ≤ r.b ∧ r.b ≤ 96) (hc : 0 ≤ r.c ∧ r.c ≤ 96) (hs : 0 ≤ s ∧ s ≤ 96) (hd : 0 ≤ d ∧ d ≤ 96) (w : World) (n c : Nat) (A : Option Addr) (hS : S = .slice A n c) :
    Calls Try.prog 127 #[r.v S, .int .i64 s, .int .i64 d] w fun z w' => z = .returned (.int .i64 ((r.a * s + r.b * d + r.c) % 97)) ∧ Up w w' := by
  obtain ⟨kd, ra, rb, rc, es⟩ := r
  subst hS
  dsimp only at ha hb hc ⊢
  have NE := Lib.hid (next_eq ra rb rc s d)
  have T1 := Lib.hid (fun W => times_any ra s ha hs W)
  have T2 := Lib.hid (fun W => times_any rb d hb hd W)
  have p1 : 0 ≤ ra * s % 97 ∧ ra * s % 97 ≤ 1000 := by omega
  have p2 : 0 ≤ rb * d % 97 ∧ rb * d % 97 ≤ 1000 := by omega
  generalize ra * s % 97 = x at T1 NE p1
  generalize rb * d % 97 = y at T2 NE p2
  generalize (ra * s + rb * d + rc) % 97 = res at NE ⊢
  have P1 := Lib.hid (fun W => plus_up x y p1 p2 W)
  have p3 : 0 ≤ (x + y) % 97 ∧ (x + y) % 97 ≤ 1000 := by omega
  generalize (x + y) % 97 = z at P1 NE p3
  have P2 := Lib.hid (fun W => plus_up z rc p3 ⟨hc.1, by omega⟩ W)
  rw [NE.out] at P2
  have B5 := Lib.hid (Box5.new w (.int .i64 kd) (.int .i64 ra) (.int .i64 rb) (.int .i64 rc) (.slice A n c) 33)
  have u0 := Lib.hid ((Up.refl w).alloc (.cells #[.int .i64 kd, .int .i64 ra, .int .i64 rb, .int .i64 rc, .slice A n c] 33))
  unfold Rule.v
  dsimp only
  go_enter Try.func127, Try.ntmps127
  go_wp2_with fail
  refine (T1.out _).mono ?_
  rintro v w1 ⟨rfl, rfl⟩
  go_wp2_with fail
  refine (T2.out _).mono ?_
  rintro v w1 ⟨rfl, rfl⟩
  go_wp2_with fail
  refine region_qw (by kernel_rfl) (by kernel_rfl) ?_
  refine qWalk_step ?_
  intro K hK
  go_simp
  apply Exists.intro
  refine And.intro ?_ ?_
  · intro w1 hw1
    try go_simp
    try rfl
  try go_simp
  refine hK _ ?_
  clear hK K
  refine qWalk_step ?_
  intro K hK
  go_simp
  apply Exists.intro
  refine And.intro ?_ ?_
  · intro w1 hw1
    try go_simp
    try rfl
  try go_simp
  refine hK _ ?_
  clear hK K
  refine qWalk_step ?_
  intro K hK
  go_simp
  apply Exists.intro
  refine And.intro ?_ ?_
  · intro w1 hw1
    try go_simp
    exact up_call hw1 (P1.out _)
  try go_simp
  refine hK _ ?_
  clear hK K
  refine qWalk_step ?_
  intro K hK
  go_simp
  apply Exists.intro
  refine And.intro ?_ ?_
  · intro w1 hw1
    try go_simp
    try rfl
  try go_simp
  refine hK _ ?_
  clear hK K
  refine qWalk_step ?_
  intro K hK
  go_simp
  apply Exists.intro
  refine And.intro ?_ ?_
  · intro w1 hw1
    obtain ⟨hc, hf, hz⟩ := hw1.facts
    try simp at hz
    try go_simp
    try rfl
  try go_simp
  refine hK _ ?_
  clear hK K
  refine qWalk_step ?_
  intro K hK
  go_simp
  apply Exists.intro
  refine And.intro ?_ ?_
  · intro w1 hw1
    try go_simp
    exact up_call hw1 (P2.out _)
  try go_simp
  refine hK _ ?_
  clear hK K
  refine qWalk_step ?_
  intro K hK
  go_simp
  apply Exists.intro
  refine And.intro ?_ ?_
  · intro w1 hw1
    try go_simp
    try rfl
  try go_simp
  refine hK _ ?_
  clear hK K
  refine qWalk_nil ?_
  intro wA uA
  have U := Lib.hid (u0.out.trans uA)
  clear uA
  go_wp2
  go_ret
  exact ⟨rfl, U.out⟩

/-- What takes says of an event, in a machine of so many components and that end. -/
theorem takes_any (M : Value) (many til : Int) (e : Evt) (mp : Option Nat) (hM : M = .agg #[.map mp, .int .i64 many, .int .i64 til]) (w : World) :
    Calls Try.prog 87 #[M, e.v] w fun z w' => z = .returned (.bool (okB e many && decide (e.t ≤ til))) ∧ Up w w' := by
  subst hM
  have OC := Lib.hid (fun W => implOk_any e many W)
  generalize okB e many = b at OC ⊢
  obtain ⟨et, eto, efr, esq, ekd, edt⟩ := e
  have X3 := Lib.hid ((Box3.new w (.map mp) (.int .i64 many) (.int .i64 til) 119).up ((Up.refl _).alloc (.cells #[.int .i64 et, .int .i64 eto, .int .i64 efr, .int .i64 esq, .int .i64 ekd, .int .i64 edt] 50)))
  unfold Evt.v at OC ⊢
  dsimp only at OC ⊢
  go_enter Try.func87, Try.ntmps87
  go_wp2_with fail
  refine (OC.out _).mono ?_
  rintro v w1 ⟨rfl, u1⟩
  have x3 := X3.out.up u1
  have x5 := (Box.new (w.alloc (.cells #[.map mp, .int .i64 many, .int .i64 til] 119)) ⟨et, eto, efr, esq, ekd, edt⟩ 50).up u1
  simp only [World.size_alloc] at x5
  obtain ⟨b0, b1, b2⟩ := And.intro x3.c0 (And.intro x3.c1 x3.c2)
  obtain ⟨⟨y0, y1, y2, y3, y4, y5⟩, -⟩ := x5.mk6
  have U := Lib.hid ((((Up.refl w).alloc (.cells #[.map mp, .int .i64 many, .int .i64 til] 119)).alloc (.cells #[.int .i64 et, .int .i64 eto, .int .i64 efr, .int .i64 esq, .int .i64 ekd, .int .i64 edt] 50)).trans u1)
  clear x3 x5 u1
  cases b
  · go_wp2
    go_ret
    exact ⟨rfl, U.out⟩
  · go_wp2
    go_ret
    exact ⟨by simp, U.out⟩

end Go.Proofs.Ytkfjemgelmbcfaa

/-
  What FnCmpLine returns, in one sentence: true, with new blocks alone; for every code.
-/
import Derived.Test.YtojplcbennfifaaKDrawCD
import Derived.Test.YtojplcbennfifaaKY
import Derived.Test.YtojplcbennfifaaKT
import Derived.Test.YtojplcbennfifaaKCstNe
namespace Go.Proofs.Ytojplcbennfifaa
set_option maxRecDepth 100000
open Go.RowKit

/-- What the three runs of a component give, where it may run. -/
structure LineF (m : Mdl) (s : Cst) (e : Evt) (x y z : Int) : Prop where
  to_ : 0 ≤ e.to ∧ e.to < m.rules.length
  rng : (0 ≤ s.s ∧ s.s ≤ 96) ∧ (0 ≤ e.dt ∧ e.dt ≤ 96)
  all : ∀ r, ruleOf e.kd (m.rules.getD e.to.toNat []) = some r → ((0 ≤ r.a ∧ r.a ≤ 96) ∧ (0 ≤ r.b ∧ r.b ≤ 96) ∧ (0 ≤ r.c ∧ r.c ≤ 96)) ∧ x = (r.a * s.s + r.b * e.dt + r.c) % 97 ∧ y = (r.a * s.s + r.c) % 97 ∧ z = (r.b * e.dt + r.c) % 97
theorem ruleOf_mem {kd : Int} : ∀ {rs : List Rule} {r : Rule}, ruleOf kd rs = some r → r ∈ rs
  | [], _, h => by cases h
  | x :: rs, r, h => by
    rw [ruleOf] at h
    split at h
    · injection h with h
      exact h ▸ List.mem_cons_self
    · exact List.mem_cons_of_mem _ (ruleOf_mem h)
theorem line_mem {many bf : Int} : ∀ {rs : List Rule} {r : Rule}, rulesB many bf rs = true → r ∈ rs → ruleB r many = true
  | [], _, _, h => by cases h
  | x :: rs, r, hb, h => by
    rw [rulesB] at hb
    simp only [Bool.and_eq_true] at hb
    rcases List.mem_cons.1 h with rfl | h
    · exact hb.1.2
    · exact line_mem hb.2 h
theorem line_do (m : Mdl) (s : Cst) (e : Evt) (h : mayB m s e = true) :
    LineF m s e (doM m s e).1.s (doM m ⟨s.s, 0, 0⟩ ⟨e.t, e.to, e.fr, e.sq, e.kd, 0⟩).1.s (doM m ⟨0, 0, 0⟩ e).1.s := by
  have h0 := h
  unfold mayB at h0
  simp only [Bool.and_eq_true, decide_eq_true_eq] at h0
  obtain ⟨⟨⟨hm, hs⟩, ho⟩, ht⟩ := h0
  have hs' := hs
  unfold cstB at hs'
  simp only [Bool.and_eq_true, inB_iff, decide_eq_true_eq] at hs'
  have ho' := ho
  unfold okB at ho'
  simp only [Bool.and_eq_true, inB_iff] at ho'
  have e1 : mayB m ⟨s.s, 0, 0⟩ ⟨e.t, e.to, e.fr, e.sq, e.kd, 0⟩ = true := by
    unfold mayB cstB okB
    simp only [Bool.and_eq_true, inB_iff, decide_eq_true_eq]
    refine ⟨⟨⟨hm, ?_⟩, ?_⟩, ht⟩
    · omega
    · omega
  have e2 : mayB m ⟨0, 0, 0⟩ e = true := by
    unfold mayB cstB
    simp only [Bool.and_eq_true, inB_iff, decide_eq_true_eq]
    exact ⟨⟨⟨hm, by omega⟩, ho⟩, ht⟩
  refine ⟨by omega, by omega, fun r hr => ?_⟩
  have hrow : rulesB m.rules.length (-1) (m.rules.getD e.to.toNat []) = true := by
    unfold mdlB at hm
    simp only [Bool.and_eq_true] at hm
    have hl : e.to.toNat < m.rules.length := by omega
    have : m.rules.getD e.to.toNat [] = m.rules[e.to.toNat] := by simp [List.getD, hl]
    rw [this]
    exact List.all_eq_true.1 hm.2 _ (List.getElem_mem hl)
  have hrb := line_mem hrow (ruleOf_mem hr)
  unfold ruleB at hrb
  simp only [Bool.and_eq_true, inB_iff] at hrb
  refine ⟨by omega, ?_, ?_, ?_⟩
  · rw [doM, if_pos h]
    simp only [doE, hr]
  · rw [doM, if_pos e1]
    simp only [doE, hr]
    rw [Int.mul_zero, Int.add_zero]
  · rw [doM, if_pos e2]
    simp only [doE, hr]
    rw [Int.mul_zero, Int.zero_add]

/-- The loop's relation: no rule of the kind up to here. -/
def LineR (kd : Int) (rs : List Rule) (w0 : World) (i : Value) (wr : World) : Prop :=
  ∃ j : Nat, i = .int .i64 (j : Int) ∧ j ≤ rs.length ∧ ruleOf kd (rs.drop j) = ruleOf kd rs ∧ Up w0 wr
set_option maxHeartbeats 8000000 in
theorem walkLine {w : World} (A : Option Addr) (n cap : Nat) (hc : n ≤ cap) (hmax : cap ≤ 9223372036854775807) (hB : Bys w A n w.heap.size) :
    Calls Try.prog 5 #[.slice A n cap] w fun x w' => x = .returned (.bool true) ∧ Up w w' := by
  have HB := Lib.hid hB
  clear hB
  by_cases h : 1048576 < n
  · have h' : (1048576 : Int) < n := by omega
    go_enter Try.func5, Try.ntmps5
    go_wp2
    go_ret
    exact ⟨rfl, Up.refl _⟩
  · have h' : ¬ (1048576 : Int) < n := by omega
    go_enter Try.func5, Try.ntmps5
    go_wp2_with fail
    refine (drawCD_any A n cap _ hc hmax HB.out).mono ?_
    rintro x w1 ⟨A, n, c, B, k, d, m, ⟨ss, sq, sc⟩, ⟨et, eto, efr, esq, ekd, edt⟩, rfl, MV, ⟨hn, hnc, hcm⟩, ⟨_, ok⟩, u1⟩
    have hnr := MV.rules.1
    have HNR := Lib.hid hnr
    have MV1 := Lib.hid MV
    have HD := Lib.hid (line_do m ⟨ss, sq, sc⟩ ⟨et, eto, efr, esq, ekd, edt⟩)
    have C1 := fun W (u : Up w1 W) => implCmpDo_any A n c B k d m ⟨ss, sq, sc⟩ ⟨et, eto, efr, esq, ekd, edt⟩ W (MV.up u)
    have C2 := fun W (u : Up w1 W) => specCmpDo_any A n c B k d m ⟨ss, sq, sc⟩ ⟨et, eto, efr, esq, ekd, edt⟩ W (MV.up u)
    have C3 := fun W (u : Up w1 W) => implCmpDo_any A n c B k d m ⟨ss, 0, 0⟩ ⟨et, eto, efr, esq, ekd, 0⟩ W (MV.up u)
    have C4 := fun W (u : Up w1 W) => implCmpDo_any A n c B k d m ⟨0, 0, 0⟩ ⟨et, eto, efr, esq, ekd, edt⟩ W (MV.up u)
    have M1 := fun W (u : Up w1 W) => specMdl_any A n c B k d m W (MV.up u)
    have O1 := fun W => specOk_any ⟨et, eto, efr, esq, ekd, edt⟩ (n : Int) W
    have K1 := fun W => specCst_any ⟨ss, sq, sc⟩ W
    unfold ImplDoPost at C1 C3 C4
    unfold DoPost at C2
    have NE := fun (r : Cst) W => eqD_refl r ▸ neq_cst r r W
    generalize doM m ⟨ss, sq, sc⟩ ⟨et, eto, efr, esq, ekd, edt⟩ = D1 at C1 C2 HD
    generalize doM m ⟨ss, 0, 0⟩ ⟨et, eto, efr, esq, ekd, 0⟩ = D3 at C3 HD
    generalize doM m ⟨0, 0, 0⟩ ⟨et, eto, efr, esq, ekd, edt⟩ = D4 at C4 HD
    obtain ⟨⟨r0, r1, r2⟩, L1⟩ := D1
    obtain ⟨⟨q0, q1, q2⟩, L3⟩ := D3
    obtain ⟨⟨p0, p1, p2⟩, L4⟩ := D4
    have NE1 := NE ⟨r0, r1, r2⟩
    dsimp only at C1 C2 C3 C4
    unfold Cst.v Evt.v at C1 C2 C3 C4
    unfold Evt.v at O1
    unfold Cst.v at K1
    unfold Cst.v at NE1
    dsimp only at C1 C2 C3 C4 O1 K1 NE1
    have CC1 := Lib.hid C1
    have CC2 := Lib.hid C2
    have CC3 := Lib.hid C3
    have CC4 := Lib.hid C4
    have MM1 := Lib.hid M1
    have OO1 := Lib.hid O1
    have KK1 := Lib.hid K1
    have NN1 := Lib.hid NE1
    have GD := Lib.hid guard_cst
    unfold Cst.v Evt.v
    dsimp only
    clear C1 C2 C3 C4 M1 O1 K1 NE NE1 MV hnr ok
    have U3 := Lib.hid ((((Up.refl w1).alloc (.cells #[.slice A n c, .slice B k d, .int .i64 m.til] 26)).alloc (.cells #[.int .i64 ss, .int .i64 sq, .int .i64 sc] 36)).alloc (.cells #[.int .i64 et, .int .i64 eto, .int .i64 efr, .int .i64 esq, .int .i64 ekd, .int .i64 edt] 38))
    have B3 := Lib.hid (((Blk.new w1 #[.slice A n c, .slice B k d, .int .i64 m.til] 26).alloc (.cells #[.int .i64 ss, .int .i64 sq, .int .i64 sc] 36)).alloc (.cells #[.int .i64 et, .int .i64 eto, .int .i64 efr, .int .i64 esq, .int .i64 ekd, .int .i64 edt] 38))
    have B4 := Lib.hid (show Blk (((w1.alloc (.cells #[.slice A n c, .slice B k d, .int .i64 m.til] 26)).alloc (.cells #[.int .i64 ss, .int .i64 sq, .int .i64 sc] 36)).alloc (.cells #[.int .i64 et, .int .i64 eto, .int .i64 efr, .int .i64 esq, .int .i64 ekd, .int .i64 edt] 38)) (w1.heap.size + 1) 36 #[.int .i64 ss, .int .i64 sq, .int .i64 sc] by
      have := (Blk.new (w1.alloc (.cells #[.slice A n c, .slice B k d, .int .i64 m.til] 26)) #[.int .i64 ss, .int .i64 sq, .int .i64 sc] 36).alloc (.cells #[.int .i64 et, .int .i64 eto, .int .i64 efr, .int .i64 esq, .int .i64 ekd, .int .i64 edt] 38)
      rwa [World.size_alloc] at this)
    have B5 := Lib.hid (show Blk (((w1.alloc (.cells #[.slice A n c, .slice B k d, .int .i64 m.til] 26)).alloc (.cells #[.int .i64 ss, .int .i64 sq, .int .i64 sc] 36)).alloc (.cells #[.int .i64 et, .int .i64 eto, .int .i64 efr, .int .i64 esq, .int .i64 ekd, .int .i64 edt] 38)) (w1.heap.size + 1 + 1) 38 #[.int .i64 et, .int .i64 eto, .int .i64 efr, .int .i64 esq, .int .i64 ekd, .int .i64 edt] by
      have := Blk.new ((w1.alloc (.cells #[.slice A n c, .slice B k d, .int .i64 m.til] 26)).alloc (.cells #[.int .i64 ss, .int .i64 sq, .int .i64 sc] 36)) #[.int .i64 et, .int .i64 eto, .int .i64 efr, .int .i64 esq, .int .i64 ekd, .int .i64 edt] 38
      rwa [World.size_alloc, World.size_alloc] at this)
    go_wp2_with fail
    generalize ((w1.alloc (.cells #[.slice A n c, .slice B k d, .int .i64 m.til] 26)).alloc (.cells #[.int .i64 ss, .int .i64 sq, .int .i64 sc] 36)).alloc (.cells #[.int .i64 et, .int .i64 eto, .int .i64 efr, .int .i64 esq, .int .i64 ekd, .int .i64 edt] 38) = W3 at *
    generalize w1.heap.size + 1 + 1 = b5 at *
    generalize w1.heap.size + 1 = b4 at *
    generalize w1.heap.size = b3 at *
    refine (CC1.out _ U3.out).mono ?_
    rintro x w4 ⟨v4, rfl, _, u4⟩
    have U := Lib.hid (U3.out.trans u4)
    have B3 := Lib.hid (B3.out.up u4)
    have B4 := Lib.hid (B4.out.up u4)
    have B5 := Lib.hid (B5.out.up u4)
    have B6 := Lib.hid (Blk.new w4 #[.int .i64 r0, .int .i64 r1, .int .i64 r2] 36)
    have U := Lib.hid (U.out.alloc (.cells #[.int .i64 r0, .int .i64 r1, .int .i64 r2] 36))
    obtain ⟨m0, m1, m2⟩ := And.intro (B3.out.cell (j := 0) rfl) (And.intro (B3.out.cell (j := 1) rfl) (B3.out.cell (j := 2) rfl))
    obtain ⟨c0, c1, c2⟩ := And.intro (B4.out.cell (j := 0) rfl) (And.intro (B4.out.cell (j := 1) rfl) (B4.out.cell (j := 2) rfl))
    obtain ⟨e0, e1, e2⟩ := And.intro (B5.out.cell (j := 0) rfl) (And.intro (B5.out.cell (j := 1) rfl) (B5.out.cell (j := 2) rfl))
    obtain ⟨e3, e4, e5⟩ := And.intro (B5.out.cell (j := 3) rfl) (And.intro (B5.out.cell (j := 4) rfl) (B5.out.cell (j := 5) rfl))
    have lt3_ := B3.out.lt
    have lt4_ := B4.out.lt
    have lt5_ := B5.out.lt
    clear u4 U3
    go_wp2_with fail
    clear m0 m1 m2 c0 c1 c2 e0 e1 e2 e3 e4 e5 lt3_ lt4_ lt5_
    have B3 := Lib.hid (B3.out.alloc (.cells #[.int .i64 r0, .int .i64 r1, .int .i64 r2] 36))
    have B4 := Lib.hid (B4.out.alloc (.cells #[.int .i64 r0, .int .i64 r1, .int .i64 r2] 36))
    have B5 := Lib.hid (B5.out.alloc (.cells #[.int .i64 r0, .int .i64 r1, .int .i64 r2] 36))
    generalize w4.alloc (.cells #[.int .i64 r0, .int .i64 r1, .int .i64 r2] 36) = W4 at *
    generalize w4.heap.size = b6 at *
    refine (CC2.out _ U.out).mono ?_
    rintro x w5 ⟨A5, c5, rfl, _, _, _, u5⟩
    have U := Lib.hid (U.out.trans u5)
    have B3 := Lib.hid (B3.out.up u5)
    have B4 := Lib.hid (B4.out.up u5)
    have B5 := Lib.hid (B5.out.up u5)
    have B6 := Lib.hid (B6.out.up u5)
    clear u5
    obtain ⟨m0, m1, m2⟩ := And.intro (B3.out.cell (j := 0) rfl) (And.intro (B3.out.cell (j := 1) rfl) (B3.out.cell (j := 2) rfl))
    obtain ⟨c0, c1, c2⟩ := And.intro (B4.out.cell (j := 0) rfl) (And.intro (B4.out.cell (j := 1) rfl) (B4.out.cell (j := 2) rfl))
    obtain ⟨e0, e1, e2⟩ := And.intro (B5.out.cell (j := 0) rfl) (And.intro (B5.out.cell (j := 1) rfl) (B5.out.cell (j := 2) rfl))
    obtain ⟨e3, e4, e5⟩ := And.intro (B5.out.cell (j := 3) rfl) (And.intro (B5.out.cell (j := 4) rfl) (B5.out.cell (j := 5) rfl))
    obtain ⟨x0, x1, x2⟩ := And.intro (B6.out.cell (j := 0) rfl) (And.intro (B6.out.cell (j := 1) rfl) (B6.out.cell (j := 2) rfl))
    have lt3_ := B3.out.lt
    have lt4_ := B4.out.lt
    have lt5_ := B5.out.lt
    have lt6_ := B6.out.lt
    have nn := NN1.out
    have gd := GD.out
    go_wp2_with fail
    clear nn gd
    clear m0 m1 m2 c0 c1 c2 e0 e1 e2 e3 e4 e5 x0 x1 x2 lt3_ lt4_ lt5_ lt6_
    have B3 := Lib.hid (B3.out.alloc (.cells #[.int .i64 r0, .int .i64 r1, .int .i64 r2] 36))
    have B4 := Lib.hid (B4.out.alloc (.cells #[.int .i64 r0, .int .i64 r1, .int .i64 r2] 36))
    have B5 := Lib.hid (B5.out.alloc (.cells #[.int .i64 r0, .int .i64 r1, .int .i64 r2] 36))
    have B6 := Lib.hid (B6.out.alloc (.cells #[.int .i64 r0, .int .i64 r1, .int .i64 r2] 36))
    have U := Lib.hid (U.out.alloc (.cells #[.int .i64 r0, .int .i64 r1, .int .i64 r2] 36))
    generalize w5.alloc (.cells #[.int .i64 r0, .int .i64 r1, .int .i64 r2] 36) = W5 at *
    refine (MM1.out _ U.out).mono ?_
    rintro x w6 ⟨rfl, u6⟩
    have U := Lib.hid (U.out.trans u6)
    have B3 := Lib.hid (B3.out.up u6)
    have B4 := Lib.hid (B4.out.up u6)
    have B5 := Lib.hid (B5.out.up u6)
    have B6 := Lib.hid (B6.out.up u6)
    clear u6
    obtain ⟨m0, m1, m2⟩ := And.intro (B3.out.cell (j := 0) rfl) (And.intro (B3.out.cell (j := 1) rfl) (B3.out.cell (j := 2) rfl))
    obtain ⟨c0, c1, c2⟩ := And.intro (B4.out.cell (j := 0) rfl) (And.intro (B4.out.cell (j := 1) rfl) (B4.out.cell (j := 2) rfl))
    obtain ⟨e0, e1, e2⟩ := And.intro (B5.out.cell (j := 0) rfl) (And.intro (B5.out.cell (j := 1) rfl) (B5.out.cell (j := 2) rfl))
    obtain ⟨e3, e4, e5⟩ := And.intro (B5.out.cell (j := 3) rfl) (And.intro (B5.out.cell (j := 4) rfl) (B5.out.cell (j := 5) rfl))
    have lt3_ := B3.out.lt
    have lt4_ := B4.out.lt
    have lt5_ := B5.out.lt
    have HMB := Lib.hid (show mayB m ⟨ss, sq, sc⟩ ⟨et, eto, efr, esq, ekd, edt⟩ = (mdlB m && (cstB ⟨ss, sq, sc⟩ && (okB ⟨et, eto, efr, esq, ekd, edt⟩ n && decide (et ≤ m.til)))) by rw [← HNR.out]; simp only [mayB, Bool.and_assoc])
    generalize hmb : mdlB m = mb at HMB ⊢
    have HMB0 := Lib.hid hmb
    clear hmb
    cases mb
    · go_wp2_with fail
      refine (tbOk_any _).mono ?_
      rintro x w9 ⟨rfl, u9⟩
      go_wp2
      go_ret
      exact ⟨rfl, u1.trans (U.out.trans u9)⟩
    · go_wp2_with fail
      refine (KK1.out _).mono ?_
      rintro x w7 ⟨rfl, u7⟩
      have U := Lib.hid (U.out.trans u7)
      have B3 := Lib.hid (B3.out.up u7)
      have B4 := Lib.hid (B4.out.up u7)
      have B5 := Lib.hid (B5.out.up u7)
      have B6 := Lib.hid (B6.out.up u7)
      clear m0 m1 m2 c0 c1 c2 e0 e1 e2 e3 e4 e5 lt3_ lt4_ lt5_
      clear u7
      obtain ⟨m0, m1, m2⟩ := And.intro (B3.out.cell (j := 0) rfl) (And.intro (B3.out.cell (j := 1) rfl) (B3.out.cell (j := 2) rfl))
      obtain ⟨c0, c1, c2⟩ := And.intro (B4.out.cell (j := 0) rfl) (And.intro (B4.out.cell (j := 1) rfl) (B4.out.cell (j := 2) rfl))
      obtain ⟨e0, e1, e2⟩ := And.intro (B5.out.cell (j := 0) rfl) (And.intro (B5.out.cell (j := 1) rfl) (B5.out.cell (j := 2) rfl))
      obtain ⟨e3, e4, e5⟩ := And.intro (B5.out.cell (j := 3) rfl) (And.intro (B5.out.cell (j := 4) rfl) (B5.out.cell (j := 5) rfl))
      have lt3_ := B3.out.lt
      have lt4_ := B4.out.lt
      have lt5_ := B5.out.lt
      generalize hcb : cstB ⟨ss, sq, sc⟩ = cb at HMB ⊢
      have HCB := Lib.hid hcb
      clear hcb
      cases cb
      · go_wp2_with fail
        refine (tbOk_any _).mono ?_
        rintro x w9 ⟨rfl, u9⟩
        go_wp2
        go_ret
        exact ⟨rfl, u1.trans (U.out.trans u9)⟩
      · go_wp2_with fail
        refine (OO1.out _).mono ?_
        rintro x w8 ⟨rfl, u8⟩
        have U := Lib.hid (U.out.trans u8)
        have B3 := Lib.hid (B3.out.up u8)
        have B4 := Lib.hid (B4.out.up u8)
        have B5 := Lib.hid (B5.out.up u8)
        have B6 := Lib.hid (B6.out.up u8)
        clear m0 m1 m2 c0 c1 c2 e0 e1 e2 e3 e4 e5 lt3_ lt4_ lt5_
        clear u8
        obtain ⟨m0, m1, m2⟩ := And.intro (B3.out.cell (j := 0) rfl) (And.intro (B3.out.cell (j := 1) rfl) (B3.out.cell (j := 2) rfl))
        obtain ⟨c0, c1, c2⟩ := And.intro (B4.out.cell (j := 0) rfl) (And.intro (B4.out.cell (j := 1) rfl) (B4.out.cell (j := 2) rfl))
        obtain ⟨e0, e1, e2⟩ := And.intro (B5.out.cell (j := 0) rfl) (And.intro (B5.out.cell (j := 1) rfl) (B5.out.cell (j := 2) rfl))
        obtain ⟨e3, e4, e5⟩ := And.intro (B5.out.cell (j := 3) rfl) (And.intro (B5.out.cell (j := 4) rfl) (B5.out.cell (j := 5) rfl))
        have lt3_ := B3.out.lt
        have lt4_ := B4.out.lt
        have lt5_ := B5.out.lt
        generalize hob : okB ⟨et, eto, efr, esq, ekd, edt⟩ n = ob at HMB ⊢
        have HOB := Lib.hid hob
        clear hob
        cases ob
        · go_wp2_with fail
          refine (tbOk_any _).mono ?_
          rintro x w9 ⟨rfl, u9⟩
          go_wp2
          go_ret
          exact ⟨rfl, u1.trans (U.out.trans u9)⟩
        by_cases hle : et ≤ m.til
        · have LF := HD.out (by rw [HMB.out]; simp [hle])
          obtain ⟨⟨t0, t1⟩, ⟨⟨s0, s1⟩, ⟨d0, d1⟩⟩, LA⟩ := LF
          dsimp only at t0 t1 s0 s1 d0 d1 LA
          obtain ⟨tn, rfl⟩ : ∃ tn : Nat, eto = tn := ⟨eto.toNat, by omega⟩
          rw [Int.toNat_natCast] at LA
          have htn : tn < n := by have := HNR.out; omega
          have lt0 : (tn : Int) < n := by omega
          have MV8 := MV1.out.up U.out
          obtain ⟨bA, off, hA, hbA, hcell⟩ := MV8.rules.2.2 (by omega)
          subst hA
          obtain ⟨A', n', c', hc8, hR⟩ := hcell tn htn
          generalize m.rules.getD tn [] = rs at LA hR
          have LEN := hR.1
          have hnb := hR.2.1
          have RA := Lib.hid hR.2.2
          have LA := Lib.hid LA
          have LEN2 := Lib.hid LEN
          have hrl : rs.length ≤ n' ∧ n' ≤ rs.length := by omega
          have HC8 := Lib.hid hc8
          clear MV8 hcell hR LEN hc8
          go_wp2_with fail
          go_loopw [10] (fun i wr => LineR ekd rs w8 i wr) (fun i _ => n' + 1 - (intOf i).toNat)
          case atStart => exact ⟨0, rfl, by omega, rfl, Up.refl _⟩
          case round =>
            obtain ⟨j, rfl, hj, hro, ur⟩ := hrel
            have HRO := Lib.hid hro
            have UR := Lib.hid ur
            have hbr : bA < wr.heap.size := by have := ur.size; omega
            have hcr := (ur.cells _ _ hbA).trans HC8.out
            have B3 := Lib.hid (B3.out.up UR.out)
            have B4 := Lib.hid (B4.out.up UR.out)
            have B5 := Lib.hid (B5.out.up UR.out)
            have B6 := Lib.hid (B6.out.up UR.out)
            clear m0 m1 m2 c0 c1 c2 e0 e1 e2 e3 e4 e5 lt3_ lt4_ lt5_
            obtain ⟨m0, m1, m2⟩ := And.intro (B3.out.cell (j := 0) rfl) (And.intro (B3.out.cell (j := 1) rfl) (B3.out.cell (j := 2) rfl))
            obtain ⟨c0, c1, c2⟩ := And.intro (B4.out.cell (j := 0) rfl) (And.intro (B4.out.cell (j := 1) rfl) (B4.out.cell (j := 2) rfl))
            obtain ⟨e0, e1, e2⟩ := And.intro (B5.out.cell (j := 0) rfl) (And.intro (B5.out.cell (j := 1) rfl) (B5.out.cell (j := 2) rfl))
            obtain ⟨e3, e4, e5⟩ := And.intro (B5.out.cell (j := 3) rfl) (And.intro (B5.out.cell (j := 4) rfl) (B5.out.cell (j := 5) rfl))
            have lt3_ := B3.out.lt
            have lt4_ := B4.out.lt
            have lt5_ := B5.out.lt
            clear hro ur
            by_cases hlt : j < n'
            · have lt1 : (j : Int) < n' := by omega
              obtain ⟨b', off', hA', hb', hat⟩ := RA.out (by omega)
              subst hA'
              obtain ⟨As, ns, cs, ⟨g0, g1, g2, g3, g4⟩, hns, hE⟩ := hat j hlt
              have DR := ruleOf_drop ekd rs j (by omega)
              generalize rs.getD j default = rr at g0 g1 g2 g3 hE DR
              obtain ⟨rk, ra, rb, rc, rsn⟩ := rr
              dsimp only at g0 g1 g2 g3 DR
              have g0 := (UR.out.cells _ _ hb').trans g0
              have g1 := (UR.out.cells _ _ hb').trans g1
              have g2 := (UR.out.cells _ _ hb').trans g2
              have g3 := (UR.out.cells _ _ hb').trans g3
              have g4 := (UR.out.cells _ _ hb').trans g4
              have hbr' : b' < wr.heap.size := by have := UR.out.size; omega
              clear hat hE
              by_cases hk : rk = ekd
              · subst hk
                have FR : ruleOf rk rs = some ⟨rk, ra, rb, rc, rsn⟩ := by rw [← HRO.out, DR, if_pos rfl]
                obtain ⟨⟨⟨a0, a1⟩, ⟨ab0, ab1⟩, ⟨ac0, ac1⟩⟩, x0', y0', z0'⟩ := LA.out _ FR
                dsimp only at a0 a1 ab0 ab1 ac0 ac1 x0' y0' z0'
                obtain ⟨pa, hpa, pa0, pa1⟩ : ∃ pa : Int, ra * ss = pa ∧ 0 ≤ pa ∧ pa ≤ 9216 := ⟨_, rfl, Int.mul_nonneg a0 s0, by have := Int.mul_le_mul a1 s1 s0 (by omega); omega⟩
                obtain ⟨pb, hpb, pb0, pb1⟩ : ∃ pb : Int, rb * edt = pb ∧ 0 ≤ pb ∧ pb ≤ 9216 := ⟨_, rfl, Int.mul_nonneg ab0 d0, by have := Int.mul_le_mul ab1 d1 d0 (by omega); omega⟩
                rw [hpa, hpb] at x0'
                rw [hpa] at y0'
                rw [hpb] at z0'
                have iwa : IntKind.i64.wrap (ra * ss) = pa := by rw [hpa]; exact IntWalk.i64_in _ (by omega)
                have iwb : IntKind.i64.wrap (rb * edt) = pb := by rw [hpb]; exact IntWalk.i64_in _ (by omega)
                have E1 : (pa + pb + rc) % 97 = r0 := x0'.symm
                have E2 : (q0 + p0 + 97 - rc) % 97 = r0 := by omega
                have hq0 : 0 ≤ q0 ∧ q0 ≤ 96 := by omega
                have hp0 : 0 ≤ p0 ∧ p0 ≤ 96 := by omega
                obtain ⟨hq00, hq01⟩ := hq0
                obtain ⟨hp00, hp01⟩ := hp0
                have E1H := Lib.hid E1
                have E2H := Lib.hid E2
                have IA := Lib.hid iwa
                have IB := Lib.hid iwb
                clear x0' y0' z0' DR FR hpa hpb E1 E2 iwa iwb
                go_wp2_with fail
                have B11 := Lib.hid ((Blk.new wr #[.int .i64 rk, .int .i64 ra, .int .i64 rb, .int .i64 rc, .slice As ns cs] 33).alloc (.cells #[.int .i64 et, .int .i64 (tn : Int), .int .i64 efr, .int .i64 esq, .int .i64 rk, .int .i64 0] 38))
                have UW := Lib.hid (((U.out.trans UR.out).alloc (.cells #[.int .i64 rk, .int .i64 ra, .int .i64 rb, .int .i64 rc, .slice As ns cs] 33)).alloc (.cells #[.int .i64 et, .int .i64 (tn : Int), .int .i64 efr, .int .i64 esq, .int .i64 rk, .int .i64 0] 38))
                clear g0 g1 g2 g3 g4 hcr
                clear m0 m1 m2 c0 c1 c2 e0 e1 e2 e3 e4 e5 lt3_ lt4_ lt5_
                have B3 := Lib.hid ((B3.out.alloc (.cells #[.int .i64 rk, .int .i64 ra, .int .i64 rb, .int .i64 rc, .slice As ns cs] 33)).alloc (.cells #[.int .i64 et, .int .i64 (tn : Int), .int .i64 efr, .int .i64 esq, .int .i64 rk, .int .i64 0] 38))
                have B4 := Lib.hid ((B4.out.alloc (.cells #[.int .i64 rk, .int .i64 ra, .int .i64 rb, .int .i64 rc, .slice As ns cs] 33)).alloc (.cells #[.int .i64 et, .int .i64 (tn : Int), .int .i64 efr, .int .i64 esq, .int .i64 rk, .int .i64 0] 38))
                have B5 := Lib.hid ((B5.out.alloc (.cells #[.int .i64 rk, .int .i64 ra, .int .i64 rb, .int .i64 rc, .slice As ns cs] 33)).alloc (.cells #[.int .i64 et, .int .i64 (tn : Int), .int .i64 efr, .int .i64 esq, .int .i64 rk, .int .i64 0] 38))
                have B6 := Lib.hid ((B6.out.alloc (.cells #[.int .i64 rk, .int .i64 ra, .int .i64 rb, .int .i64 rc, .slice As ns cs] 33)).alloc (.cells #[.int .i64 et, .int .i64 (tn : Int), .int .i64 efr, .int .i64 esq, .int .i64 rk, .int .i64 0] 38))
                generalize (wr.alloc (.cells #[.int .i64 rk, .int .i64 ra, .int .i64 rb, .int .i64 rc, .slice As ns cs] 33)).alloc (.cells #[.int .i64 et, .int .i64 (tn : Int), .int .i64 efr, .int .i64 esq, .int .i64 rk, .int .i64 0] 38) = wX at *
                generalize wr.heap.size = b11 at B11 ⊢
                refine (CC3.out _ UW.out).mono ?_
                rintro x wa ⟨va, rfl, _, ua⟩
                have UW := Lib.hid ((UW.out.trans ua).alloc (.cells #[.int .i64 q0, .int .i64 q1, .int .i64 q2] 36))
                have B3 := Lib.hid (B3.out.up ua)
                have B4 := Lib.hid (B4.out.up ua)
                have B5 := Lib.hid (B5.out.up ua)
                have B6 := Lib.hid (B6.out.up ua)
                have B11 := Lib.hid (B11.out.up ua)
                have B13 := Lib.hid (Blk.new wa #[.int .i64 q0, .int .i64 q1, .int .i64 q2] 36)
                clear ua
                obtain ⟨m0, m1, m2⟩ := And.intro (B3.out.cell (j := 0) rfl) (And.intro (B3.out.cell (j := 1) rfl) (B3.out.cell (j := 2) rfl))
                obtain ⟨e0, e1, e2⟩ := And.intro (B5.out.cell (j := 0) rfl) (And.intro (B5.out.cell (j := 1) rfl) (B5.out.cell (j := 2) rfl))
                obtain ⟨e3, e4, e5⟩ := And.intro (B5.out.cell (j := 3) rfl) (And.intro (B5.out.cell (j := 4) rfl) (B5.out.cell (j := 5) rfl))
                have lt3_ := B3.out.lt
                have lt5_ := B5.out.lt
                go_wp2_with fail
                clear m0 m1 m2 e0 e1 e2 e3 e4 e5 lt3_ lt5_
                have B3 := Lib.hid (B3.out.alloc (.cells #[.int .i64 q0, .int .i64 q1, .int .i64 q2] 36))
                have B4 := Lib.hid (B4.out.alloc (.cells #[.int .i64 q0, .int .i64 q1, .int .i64 q2] 36))
                have B5 := Lib.hid (B5.out.alloc (.cells #[.int .i64 q0, .int .i64 q1, .int .i64 q2] 36))
                have B6 := Lib.hid (B6.out.alloc (.cells #[.int .i64 q0, .int .i64 q1, .int .i64 q2] 36))
                have B11 := Lib.hid (B11.out.alloc (.cells #[.int .i64 q0, .int .i64 q1, .int .i64 q2] 36))
                generalize wa.alloc (.cells #[.int .i64 q0, .int .i64 q1, .int .i64 q2] 36) = wY at *
                generalize wa.heap.size = b13 at B13 ⊢
                refine (CC4.out _ UW.out).mono ?_
                rintro x wb ⟨vb, rfl, _, ub⟩
                have UW := Lib.hid ((UW.out.trans ub).alloc (.cells #[.int .i64 p0, .int .i64 p1, .int .i64 p2] 36))
                have B3 := Lib.hid (B3.out.up ub)
                have B4 := Lib.hid (B4.out.up ub)
                have B5 := Lib.hid (B5.out.up ub)
                have B6 := Lib.hid (B6.out.up ub)
                have B11 := Lib.hid (B11.out.up ub)
                have B13 := Lib.hid (B13.out.up ub)
                clear ub
                obtain ⟨m0, m1, m2⟩ := And.intro (B3.out.cell (j := 0) rfl) (And.intro (B3.out.cell (j := 1) rfl) (B3.out.cell (j := 2) rfl))
                obtain ⟨c0, c1, c2⟩ := And.intro (B4.out.cell (j := 0) rfl) (And.intro (B4.out.cell (j := 1) rfl) (B4.out.cell (j := 2) rfl))
                obtain ⟨e0, e1, e2⟩ := And.intro (B5.out.cell (j := 0) rfl) (And.intro (B5.out.cell (j := 1) rfl) (B5.out.cell (j := 2) rfl))
                obtain ⟨e3, e4, e5⟩ := And.intro (B5.out.cell (j := 3) rfl) (And.intro (B5.out.cell (j := 4) rfl) (B5.out.cell (j := 5) rfl))
                obtain ⟨x0, x1, x2⟩ := And.intro (B6.out.cell (j := 0) rfl) (And.intro (B6.out.cell (j := 1) rfl) (B6.out.cell (j := 2) rfl))
                have lt3_ := B3.out.lt
                have lt4_ := B4.out.lt
                have lt5_ := B5.out.lt
                have lt6_ := B6.out.lt
                obtain ⟨y1, y2, y3⟩ := And.intro (B11.out.cell (j := 1) rfl) (And.intro (B11.out.cell (j := 2) rfl) (B11.out.cell (j := 3) rfl))
                have z0 := B13.out.cell (j := 0) rfl
                have lt11 := B11.out.lt
                have lt13 := B13.out.lt
                have E1 := E1H.out
                have E2 := E2H.out
                have iwa := IA.out
                have iwb := IB.out
                go_wp2
                go_ret
                exact ⟨rfl, u1.trans UW.out⟩
              · have DR' := Lib.hid (show ruleOf ekd (rs.drop j) = ruleOf ekd (rs.drop (j + 1)) by rw [DR, if_neg hk])
                have hkb : (rk == ekd) = false := by simp [hk]
                clear DR
                go_wp2_with fail
                go_roundw
                case rel => exact ⟨j + 1, by go_num, by omega, by rw [← DR'.out]; exact HRO.out, UR.out.alloc _⟩
                case measure => simp [intOf]; omega
            · have lt1 : ¬ (j : Int) < n' := by omega
              go_wp2
              go_ret
              exact ⟨rfl, u1.trans (U.out.trans UR.out)⟩
        · go_wp2_with fail
          refine (tbOk_any _).mono ?_
          rintro x w9 ⟨rfl, u9⟩
          go_wp2
          go_ret
          exact ⟨rfl, u1.trans (U.out.trans u9)⟩

end Go.Proofs.Ytojplcbennfifaa

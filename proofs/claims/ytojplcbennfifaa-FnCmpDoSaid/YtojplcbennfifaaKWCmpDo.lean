/-
  What FnCmpDo returns, in one sentence: true, with new blocks alone; for every code.
-/
import Derived.Test.YtojplcbennfifaaKDrawCD
import Derived.Test.YtojplcbennfifaaKY
import Derived.Test.YtojplcbennfifaaKT
import Derived.Test.YtojplcbennfifaaKCstNe
import Derived.Test.YtojplcbennfifaaKSendsF
import Derived.Test.YtojplcbennfifaaKD
namespace Go.Proofs.Ytojplcbennfifaa
set_option maxRecDepth 100000
open Go.RowKit

theorem eql_cst (a b : Cst) (w : World) : (binOp .eql 36 a.v b.v).run Try.prog w = .ok (.bool (eqD a b)) w := by
  have h := equalIn_cst a b w
  unfold Cst.v at h ⊢
  rw [run_eql_struct, h]
  rfl
/-- What a component does, where it may. -/
structure MayF (m : Mdl) (s : Cst) (e : Evt) (x : Cst) (L : List Evt) : Prop where
  to_ : 0 ≤ e.to ∧ e.to < m.rules.length
  many : 1 ≤ m.rules.length ∧ m.rules.length ≤ 4
  cst : cstB x = true
  old : (0 ≤ s.sq ∧ s.sq ≤ 12) ∧ 0 ≤ s.ct
  ct : x.ct = s.ct + 1
  sends : SendsF m.til m.rules.length e s.sq x.sq 2 L
  til : m.til ≤ 99 ∧ 0 ≤ e.t
  none_ : ruleOf e.kd (m.rules.getD e.to.toNat []) = none → x.s = s.s ∧ L = []
structure DoF (m : Mdl) (s : Cst) (e : Evt) (x : Cst) (L : List Evt) : Prop where
  no : mayB m s e = false → (x, L) = (⟨0, 0, 0⟩, [])
  yes : mayB m s e = true → MayF m s e x L
  len2 : L.length ≤ 2
theorem inRule {kd : Int} : ∀ {rs : List Rule} {r : Rule}, ruleOf kd rs = some r → r ∈ rs
  | [], _, h => by cases h
  | x :: rs, r, h => by
    rw [ruleOf] at h
    split at h
    · injection h with h
      exact h ▸ List.mem_cons_self
    · exact List.mem_cons_of_mem _ (inRule h)
theorem okRule {many bf : Int} : ∀ {rs : List Rule} {r : Rule}, rulesB many bf rs = true → r ∈ rs → ruleB r many = true
  | [], _, _, h => by cases h
  | x :: rs, r, hb, h => by
    rw [rulesB] at hb
    simp only [Bool.and_eq_true] at hb
    rcases List.mem_cons.1 h with rfl | h
    · exact hb.1.2
    · exact okRule hb.2 h
theorem may_facts (m : Mdl) (s : Cst) (e : Evt) (hc : s.ct ≤ 1000000) (h : mayB m s e = true) : MayF m s e (doM m s e).1 (doM m s e).2 := by
  have h0 := h
  unfold mayB at h0
  simp only [Bool.and_eq_true, decide_eq_true_eq] at h0
  obtain ⟨⟨⟨hm, hs⟩, ho⟩, ht⟩ := h0
  have hs' := hs
  unfold cstB at hs'
  simp only [Bool.and_eq_true, inB_iff, decide_eq_true_eq] at hs'
  have ho' := ho
  unfold okB at ho'
  simp only [Bool.and_eq_true, inB_iff] at ho'
  have hm' := hm
  unfold mdlB at hm'
  simp only [Bool.and_eq_true, inB_iff] at hm'
  have hl : e.to.toNat < m.rules.length := by omega
  have hrow : rulesB m.rules.length (-1) (m.rules.getD e.to.toNat []) = true := by
    have : m.rules.getD e.to.toNat [] = m.rules[e.to.toNat] := by simp [List.getD, hl]
    rw [this]
    exact List.all_eq_true.1 hm'.2 _ (List.getElem_mem hl)
  have hw : IntKind.i64.wrap (s.ct + 1) = s.ct + 1 := IntWalk.i64_in _ (by omega)
  rw [doM, if_pos h]
  cases hr : ruleOf e.kd (m.rules.getD e.to.toNat []) with
  | none =>
    have e1 : doE m s e = (⟨s.s, s.sq, s.ct + 1⟩, []) := by simp only [doE, hr, hw]
    rw [e1]
    exact ⟨by omega, by omega, by unfold cstB; simp only [Bool.and_eq_true, inB_iff, decide_eq_true_eq]; omega, by omega, rfl, ⟨by simp, by dsimp only; omega, by dsimp only; omega, fun i hi => by simp at hi, fun i j _ hi => by simp at hi⟩, by omega, fun _ => ⟨rfl, rfl⟩⟩
  | some r =>
    have hrb := okRule hrow (inRule hr)
    unfold ruleB at hrb
    simp only [Bool.and_eq_true, inB_iff, decide_eq_true_eq] at hrb
    have hall : ∀ x ∈ r.sends, sndB x m.rules.length = true := List.all_eq_true.1 hrb.1.1.1.1.1
    have S := sendsE_facts m.til ((r.a * s.s + r.b * e.dt + r.c) % 97) m.rules.length e r.sends s.sq hall (by omega) (by omega)
    have e1 : doE m s e = (⟨(r.a * s.s + r.b * e.dt + r.c) % 97, (sendsE m.til ((r.a * s.s + r.b * e.dt + r.c) % 97) e r.sends s.sq).2, s.ct + 1⟩, (sendsE m.til ((r.a * s.s + r.b * e.dt + r.c) % 97) e r.sends s.sq).1) := by simp only [doE, hr, hw]
    rw [e1]
    have g1 := S.len
    have g2 := S.top
    have g3 := S.few
    refine ⟨by omega, by omega, ?_, by omega, rfl, ⟨g1, g2, by dsimp only; omega, S.each, S.rise⟩, by omega, fun hn => by rw [hr] at hn; cases hn⟩
    unfold cstB
    simp only [Bool.and_eq_true, inB_iff, decide_eq_true_eq]
    omega
theorem do_facts (m : Mdl) (s : Cst) (e : Evt) (hc : s.ct ≤ 1000000) : DoF m s e (doM m s e).1 (doM m s e).2 := by
  refine ⟨fun h => by rw [doM, if_neg (by rw [h]; simp)], fun h => may_facts m s e hc h, ?_⟩
  cases h : mayB m s e with
  | false => rw [doM, if_neg (by rw [h]; simp)]; simp
  | true =>
    have S := (may_facts m s e hc h).sends
    have := S.len
    have := S.few
    omega

/-- The loops' relations. -/
def DoR (L : List Evt) (w0 : World) (i : Value) (wr : World) : Prop := ∃ j : Nat, i = .int .i64 (j : Int) ∧ j ≤ L.length ∧ Up w0 wr
def LineR (kd : Int) (rs : List Rule) (w0 : World) (i : Value) (wr : World) : Prop :=
  ∃ j : Nat, i = .int .i64 (j : Int) ∧ j ≤ rs.length ∧ ruleOf kd (rs.drop j) = ruleOf kd rs ∧ Up w0 wr
set_option maxHeartbeats 8000000 in
theorem walkCmpDo {w : World} (A : Option Addr) (n cap : Nat) (hc : n ≤ cap) (hmax : cap ≤ 9223372036854775807) (hB : Bys w A n w.heap.size) :
    Calls Try.prog 4 #[.slice A n cap] w fun x w' => x = .returned (.bool true) ∧ Up w w' := by
  have HB := Lib.hid hB
  clear hB
  by_cases h : 1048576 < n
  · have h' : (1048576 : Int) < n := by omega
    go_enter Try.func4, Try.ntmps4
    go_wp2
    go_ret
    exact ⟨rfl, Up.refl _⟩
  · have h' : ¬ (1048576 : Int) < n := by omega
    go_enter Try.func4, Try.ntmps4
    go_wp2_with fail
    refine (drawCD_any A n cap _ hc hmax HB.out).mono ?_
    rintro x w1 ⟨A, n, c, B, k, d, m, ⟨ss, sq, sc⟩, ⟨et, eto, efr, esq, ekd, edt⟩, rfl, MV, ⟨hn, hnc, hcm⟩, ⟨hsc, ok⟩, u1⟩
    dsimp only at hsc
    have hnr := MV.rules.1
    have HNR := Lib.hid hnr
    have MV1 := Lib.hid MV
    have HD := Lib.hid (do_facts m ⟨ss, sq, sc⟩ ⟨et, eto, efr, esq, ekd, edt⟩ hsc)
    have C1 := fun W (u : Up w1 W) => implCmpDo_any A n c B k d m ⟨ss, sq, sc⟩ ⟨et, eto, efr, esq, ekd, edt⟩ W (MV.up u)
    have C2 := fun W (u : Up w1 W) => specCmpDo_any A n c B k d m ⟨ss, sq, sc⟩ ⟨et, eto, efr, esq, ekd, edt⟩ W (MV.up u)
    have M1 := fun W (u : Up w1 W) => specMdl_any A n c B k d m W (MV.up u)
    have O1 := fun W => specOk_any ⟨et, eto, efr, esq, ekd, edt⟩ (n : Int) W
    have K1 := fun W => specCst_any ⟨ss, sq, sc⟩ W
    have I1 := fun W => implCst_any ⟨ss, sq, sc⟩ W
    have O2 := fun e W => implOk_any e (n : Int) W
    have L2 := fun e W => implLess_any ⟨et, eto, efr, esq, ekd, edt⟩ e W
    unfold ImplDoPost at C1
    unfold DoPost at C2
    have NE := fun (r : Cst) W => eqD_refl r ▸ neq_cst r r W
    have EQ := fun W => eqD_refl ⟨0, 0, 0⟩ ▸ eql_cst ⟨0, 0, 0⟩ ⟨0, 0, 0⟩ W
    generalize doM m ⟨ss, sq, sc⟩ ⟨et, eto, efr, esq, ekd, edt⟩ = D1 at C1 C2 HD
    obtain ⟨⟨r0, r1, r2⟩, L1⟩ := D1
    have NE1 := NE ⟨r0, r1, r2⟩
    have I2 := fun W => implCst_any ⟨r0, r1, r2⟩ W
    dsimp only at C1 C2
    unfold Cst.v Evt.v at C1 C2
    unfold Evt.v at O1 L2
    unfold Cst.v at K1 I1 I2 NE1 EQ
    dsimp only at C1 C2 O1 K1 I1 I2 NE1 EQ L2
    have CC1 := Lib.hid C1
    have CC2 := Lib.hid C2
    have MM1 := Lib.hid M1
    have OO1 := Lib.hid O1
    have KK1 := Lib.hid K1
    have II1 := Lib.hid I1
    have II2 := Lib.hid I2
    have NN1 := Lib.hid NE1
    have QQ1 := Lib.hid EQ
    have OO2 := Lib.hid O2
    have LL2 := Lib.hid L2
    have GD := Lib.hid guard_cst
    unfold Cst.v Evt.v
    dsimp only
    clear C1 C2 M1 O1 K1 I1 I2 NE NE1 EQ O2 L2 MV hnr ok
    have U3 := Lib.hid ((((Up.refl w1).alloc (.cells #[.slice A n c, .slice B k d, .int .i64 m.til] 26)).alloc (.cells #[.int .i64 ss, .int .i64 sq, .int .i64 sc] 36)).alloc (.cells #[.int .i64 et, .int .i64 eto, .int .i64 efr, .int .i64 esq, .int .i64 ekd, .int .i64 edt] 38))
    have B3 := Lib.hid (((Blk.new w1 #[.slice A n c, .slice B k d, .int .i64 m.til] 26).alloc (.cells #[.int .i64 ss, .int .i64 sq, .int .i64 sc] 36)).alloc (.cells #[.int .i64 et, .int .i64 eto, .int .i64 efr, .int .i64 esq, .int .i64 ekd, .int .i64 edt] 38))
    have B4 := Lib.hid (show Blk (((w1.alloc (.cells #[.slice A n c, .slice B k d, .int .i64 m.til] 26)).alloc (.cells #[.int .i64 ss, .int .i64 sq, .int .i64 sc] 36)).alloc (.cells #[.int .i64 et, .int .i64 eto, .int .i64 efr, .int .i64 esq, .int .i64 ekd, .int .i64 edt] 38)) (w1.heap.size + 1) 36 #[.int .i64 ss, .int .i64 sq, .int .i64 sc] by
      have := (Blk.new (w1.alloc (.cells #[.slice A n c, .slice B k d, .int .i64 m.til] 26)) #[.int .i64 ss, .int .i64 sq, .int .i64 sc] 36).alloc (.cells #[.int .i64 et, .int .i64 eto, .int .i64 efr, .int .i64 esq, .int .i64 ekd, .int .i64 edt] 38)
      rwa [World.size_alloc] at this)
    have B5 := Lib.hid (show Blk (((w1.alloc (.cells #[.slice A n c, .slice B k d, .int .i64 m.til] 26)).alloc (.cells #[.int .i64 ss, .int .i64 sq, .int .i64 sc] 36)).alloc (.cells #[.int .i64 et, .int .i64 eto, .int .i64 efr, .int .i64 esq, .int .i64 ekd, .int .i64 edt] 38)) (w1.heap.size + 1 + 1) 38 #[.int .i64 et, .int .i64 eto, .int .i64 efr, .int .i64 esq, .int .i64 ekd, .int .i64 edt] by
      have := Blk.new ((w1.alloc (.cells #[.slice A n c, .slice B k d, .int .i64 m.til] 26)).alloc (.cells #[.int .i64 ss, .int .i64 sq, .int .i64 sc] 36)) #[.int .i64 et, .int .i64 eto, .int .i64 efr, .int .i64 esq, .int .i64 ekd, .int .i64 edt] 38
      rwa [World.size_alloc, World.size_alloc] at this)
    go_wp2_with fail
    generalize ((w1.alloc (.cells #[.slice A n c, .slice B k d, .int .i64 m.til] 26)).alloc (.cells #[.int .i64 ss, .int .i64 sq, .int .i64 sc] 36)).alloc (.cells #[.int .i64 et, .int .i64 eto, .int .i64 efr, .int .i64 esq, .int .i64 ekd, .int .i64 edt] 38) = W3 at *
    generalize w1.heap.size + 1 + 1 = b5 at *
    generalize w1.heap.size + 1 = b4 at *
    generalize w1.heap.size = b3 at *
    refine (CC1.out _ U3.out).mono ?_
    rintro x w4 ⟨v4, rfl, ho4, u4⟩
    obtain ⟨_, A4, c4, rfl, hc4, hm4⟩ := own_slice ho4
    have E4 := Lib.hid (own_evs ho4)
    have U := Lib.hid (U3.out.trans u4)
    have B3 := Lib.hid (B3.out.up u4)
    have B4 := Lib.hid (B4.out.up u4)
    have B5 := Lib.hid (B5.out.up u4)
    have B6 := Lib.hid (Blk.new w4 #[.int .i64 r0, .int .i64 r1, .int .i64 r2] 36)
    have U := Lib.hid (U.out.alloc (.cells #[.int .i64 r0, .int .i64 r1, .int .i64 r2] 36))
    have E4 := Lib.hid (E4.out.up ((Up.refl w4).alloc (.cells #[.int .i64 r0, .int .i64 r1, .int .i64 r2] 36)))
    obtain ⟨m0, m1, m2⟩ := And.intro (B3.out.cell (j := 0) rfl) (And.intro (B3.out.cell (j := 1) rfl) (B3.out.cell (j := 2) rfl))
    obtain ⟨c0, c1, c2⟩ := And.intro (B4.out.cell (j := 0) rfl) (And.intro (B4.out.cell (j := 1) rfl) (B4.out.cell (j := 2) rfl))
    obtain ⟨e0, e1, e2⟩ := And.intro (B5.out.cell (j := 0) rfl) (And.intro (B5.out.cell (j := 1) rfl) (B5.out.cell (j := 2) rfl))
    obtain ⟨e3, e4, e5⟩ := And.intro (B5.out.cell (j := 3) rfl) (And.intro (B5.out.cell (j := 4) rfl) (B5.out.cell (j := 5) rfl))
    have lt3_ := B3.out.lt
    have lt4_ := B4.out.lt
    have lt5_ := B5.out.lt
    clear u4 U3 ho4
    go_wp2_with fail
    clear m0 m1 m2 c0 c1 c2 e0 e1 e2 e3 e4 e5 lt3_ lt4_ lt5_
    have B3 := Lib.hid (B3.out.alloc (.cells #[.int .i64 r0, .int .i64 r1, .int .i64 r2] 36))
    have B4 := Lib.hid (B4.out.alloc (.cells #[.int .i64 r0, .int .i64 r1, .int .i64 r2] 36))
    have B5 := Lib.hid (B5.out.alloc (.cells #[.int .i64 r0, .int .i64 r1, .int .i64 r2] 36))
    generalize w4.alloc (.cells #[.int .i64 r0, .int .i64 r1, .int .i64 r2] 36) = W4 at *
    generalize w4.heap.size = b6 at *
    refine (CC2.out _ U.out).mono ?_
    rintro x w5 ⟨A5, c5, rfl, hc5, hm5, hE5, u5⟩
    have U := Lib.hid (U.out.trans u5)
    have E4 := Lib.hid (E4.out.up (u5.alloc (.cells #[.int .i64 r0, .int .i64 r1, .int .i64 r2] 36)))
    have E5 := Lib.hid (hE5.up ((Up.refl w5).alloc (.cells #[.int .i64 r0, .int .i64 r1, .int .i64 r2] 36)))
    have B3 := Lib.hid (B3.out.up u5)
    have B4 := Lib.hid (B4.out.up u5)
    have B5 := Lib.hid (B5.out.up u5)
    have B6 := Lib.hid (B6.out.up u5)
    clear u5 hE5
    have B8 := Lib.hid (Blk.new w5 #[.int .i64 r0, .int .i64 r1, .int .i64 r2] 36)
    obtain ⟨m0, m1, m2⟩ := And.intro (B3.out.cell (j := 0) rfl) (And.intro (B3.out.cell (j := 1) rfl) (B3.out.cell (j := 2) rfl))
    obtain ⟨c0, c1, c2⟩ := And.intro (B4.out.cell (j := 0) rfl) (And.intro (B4.out.cell (j := 1) rfl) (B4.out.cell (j := 2) rfl))
    obtain ⟨e0, e1, e2⟩ := And.intro (B5.out.cell (j := 0) rfl) (And.intro (B5.out.cell (j := 1) rfl) (B5.out.cell (j := 2) rfl))
    obtain ⟨e3, e4, e5⟩ := And.intro (B5.out.cell (j := 3) rfl) (And.intro (B5.out.cell (j := 4) rfl) (B5.out.cell (j := 5) rfl))
    obtain ⟨x0, x1, x2⟩ := And.intro (B6.out.cell (j := 0) rfl) (And.intro (B6.out.cell (j := 1) rfl) (B6.out.cell (j := 2) rfl))
    have lt3_ := B3.out.lt
    have lt4_ := B4.out.lt
    have lt5_ := B5.out.lt
    have lt6_ := B6.out.lt
    go_wp2_with fail
    clear m0 m1 m2 c0 c1 c2 e0 e1 e2 e3 e4 e5 x0 x1 x2 lt3_ lt4_ lt5_ lt6_
    have B3 := Lib.hid (B3.out.alloc (.cells #[.int .i64 r0, .int .i64 r1, .int .i64 r2] 36))
    have B4 := Lib.hid (B4.out.alloc (.cells #[.int .i64 r0, .int .i64 r1, .int .i64 r2] 36))
    have B5 := Lib.hid (B5.out.alloc (.cells #[.int .i64 r0, .int .i64 r1, .int .i64 r2] 36))
    have B6 := Lib.hid (B6.out.alloc (.cells #[.int .i64 r0, .int .i64 r1, .int .i64 r2] 36))
    have U := Lib.hid (U.out.alloc (.cells #[.int .i64 r0, .int .i64 r1, .int .i64 r2] 36))
    generalize w5.alloc (.cells #[.int .i64 r0, .int .i64 r1, .int .i64 r2] 36) = W5 at *
    generalize w5.heap.size = b8 at *
    have TB := Lib.hid (fun W (u : Up W5 W) => decide_eq_true (rfl : L1 = L1) ▸ tbEvts_any A4 A5 L1.length L1.length c4 c5 L1 L1 W (by have := HD.out.len2; omega) (E4.out.up u) (E5.out.up u))
    have nn := NN1.out
    have gd := GD.out
    obtain ⟨m0, m1, m2⟩ := And.intro (B3.out.cell (j := 0) rfl) (And.intro (B3.out.cell (j := 1) rfl) (B3.out.cell (j := 2) rfl))
    obtain ⟨c0, c1, c2⟩ := And.intro (B4.out.cell (j := 0) rfl) (And.intro (B4.out.cell (j := 1) rfl) (B4.out.cell (j := 2) rfl))
    obtain ⟨e0, e1, e2⟩ := And.intro (B5.out.cell (j := 0) rfl) (And.intro (B5.out.cell (j := 1) rfl) (B5.out.cell (j := 2) rfl))
    obtain ⟨e3, e4, e5⟩ := And.intro (B5.out.cell (j := 3) rfl) (And.intro (B5.out.cell (j := 4) rfl) (B5.out.cell (j := 5) rfl))
    obtain ⟨x0, x1, x2⟩ := And.intro (B6.out.cell (j := 0) rfl) (And.intro (B6.out.cell (j := 1) rfl) (B6.out.cell (j := 2) rfl))
    have lt3_ := B3.out.lt
    have lt4_ := B4.out.lt
    have lt5_ := B5.out.lt
    have lt6_ := B6.out.lt
    obtain ⟨y0, y1, y2⟩ := And.intro (B8.out.cell (j := 0) rfl) (And.intro (B8.out.cell (j := 1) rfl) (B8.out.cell (j := 2) rfl))
    have lt8_ := B8.out.lt
    generalize hcb : cstB ⟨ss, sq, sc⟩ = cb at II1 KK1
    have HCB := Lib.hid hcb
    clear hcb
    have bne : (cb != cb) = false := by cases cb <;> rfl
    refine region_qw (by kernel_rfl) (by kernel_rfl) ?_
    refine qWalk_step ?_
    intro K hK
    go_simp
    apply Exists.intro
    refine And.intro ?_ ?_
    · intro w1 hw1
      obtain ⟨hc, hf, hz⟩ := hw1.facts
      try simp at hz
      try go_simp
      try rfl
    try go_simp
    refine hK _ ?_
    clear hK K
    refine qWalk_step ?_
    intro K hK
    go_simp
    apply Exists.intro
    refine And.intro ?_ ?_
    · intro w1 hw1
      obtain ⟨hc, hf, hz⟩ := hw1.facts
      try simp at hz
      try go_simp
      try rfl
    try go_simp
    refine hK _ ?_
    clear hK K
    refine qWalk_step ?_
    intro K hK
    go_simp
    apply Exists.intro
    refine And.intro ?_ ?_
    · intro w1 hw1
      try go_simp
      try rfl
    try go_simp
    refine hK _ ?_
    clear hK K
    refine qWalk_step ?_
    intro K hK
    go_simp
    apply Exists.intro
    refine And.intro ?_ ?_
    · intro w1 hw1
      try go_simp
      try rfl
    try go_simp
    refine hK _ ?_
    clear hK K
    refine qWalk_step ?_
    intro K hK
    go_simp
    apply Exists.intro
    refine And.intro ?_ ?_
    · intro w1 hw1
      try go_simp
      try rfl
    try go_simp
    refine hK _ ?_
    clear hK K
    refine qWalk_step ?_
    intro K hK
    go_simp
    apply Exists.intro
    refine And.intro ?_ ?_
    · intro w1 hw1
      try go_simp
      try rfl
    try go_simp
    refine hK _ ?_
    clear hK K
    refine qWalk_step ?_
    intro K hK
    go_simp
    apply Exists.intro
    refine And.intro ?_ ?_
    · intro w1 hw1
      try go_simp
      exact up_call hw1 (TB.out _ hw1)
    try go_simp
    refine hK _ ?_
    clear hK K
    refine qWalk_step ?_
    intro K hK
    go_simp
    apply Exists.intro
    refine And.intro ?_ ?_
    · intro w1 hw1
      try go_simp
      try rfl
    try go_simp
    refine hK _ ?_
    clear hK K
    refine qWalk_step ?_
    intro K hK
    go_simp
    apply Exists.intro
    refine And.intro ?_ ?_
    · intro w1 hw1
      try go_simp
      try rfl
    try go_simp
    refine hK _ ?_
    clear hK K
    refine qWalk_step ?_
    intro K hK
    go_simp
    apply Exists.intro
    refine And.intro ?_ ?_
    · intro w1 hw1
      try go_simp
      try rfl
    try go_simp
    refine hK _ ?_
    clear hK K
    refine qWalk_step ?_
    intro K hK
    go_simp
    apply Exists.intro
    refine And.intro ?_ ?_
    · intro w1 hw1
      obtain ⟨hc, hf, hz⟩ := hw1.facts
      try simp at hz
      try go_simp
      try rfl
    try go_simp
    refine hK _ ?_
    clear hK K
    refine qWalk_step ?_
    intro K hK
    go_simp
    apply Exists.intro
    refine And.intro ?_ ?_
    · intro w1 hw1
      try go_simp
      exact up_call hw1 (II1.out _)
    try go_simp
    refine hK _ ?_
    clear hK K
    refine qWalk_step ?_
    intro K hK
    go_simp
    apply Exists.intro
    refine And.intro ?_ ?_
    · intro w1 hw1
      obtain ⟨hc, hf, hz⟩ := hw1.facts
      try simp at hz
      try go_simp
      try rfl
    try go_simp
    refine hK _ ?_
    clear hK K
    refine qWalk_step ?_
    intro K hK
    go_simp
    apply Exists.intro
    refine And.intro ?_ ?_
    · intro w1 hw1
      try go_simp
      exact up_call hw1 (KK1.out _)
    try go_simp
    refine hK _ ?_
    clear hK K
    refine qWalk_step ?_
    intro K hK
    go_simp
    apply Exists.intro
    refine And.intro ?_ ?_
    · intro w1 hw1
      try go_simp
      try rfl
    try go_simp
    refine hK _ ?_
    clear hK K
    refine qWalk_step ?_
    intro K hK
    go_simp
    apply Exists.intro
    refine And.intro ?_ ?_
    · intro w1 hw1
      try go_simp
      try rfl
    try go_simp
    refine hK _ ?_
    clear hK K
    refine qWalk_nil ?_
    intro wA uA
    have U := Lib.hid (U.out.trans uA)
    have B3 := Lib.hid (B3.out.up uA)
    have B4 := Lib.hid (B4.out.up uA)
    have B5 := Lib.hid (B5.out.up uA)
    have B6 := Lib.hid (B6.out.up uA)
    have E4 := Lib.hid (E4.out.up uA)
    clear m0 m1 m2 c0 c1 c2 e0 e1 e2 e3 e4 e5 x0 x1 x2 lt3_ lt4_ lt5_ lt6_
    clear y0 y1 y2 lt8_ nn gd bne uA TB E5 B8
    obtain ⟨m0, m1, m2⟩ := And.intro (B3.out.cell (j := 0) rfl) (And.intro (B3.out.cell (j := 1) rfl) (B3.out.cell (j := 2) rfl))
    obtain ⟨c0, c1, c2⟩ := And.intro (B4.out.cell (j := 0) rfl) (And.intro (B4.out.cell (j := 1) rfl) (B4.out.cell (j := 2) rfl))
    obtain ⟨e0, e1, e2⟩ := And.intro (B5.out.cell (j := 0) rfl) (And.intro (B5.out.cell (j := 1) rfl) (B5.out.cell (j := 2) rfl))
    obtain ⟨e3, e4, e5⟩ := And.intro (B5.out.cell (j := 3) rfl) (And.intro (B5.out.cell (j := 4) rfl) (B5.out.cell (j := 5) rfl))
    obtain ⟨x0, x1, x2⟩ := And.intro (B6.out.cell (j := 0) rfl) (And.intro (B6.out.cell (j := 1) rfl) (B6.out.cell (j := 2) rfl))
    have lt3_ := B3.out.lt
    have lt4_ := B4.out.lt
    have lt5_ := B5.out.lt
    have lt6_ := B6.out.lt
    go_wp2_with fail
    refine (MM1.out _ U.out).mono ?_
    rintro x w6 ⟨rfl, u6⟩
    have U := Lib.hid (U.out.trans u6)
    have E4 := Lib.hid (E4.out.up u6)
    have B3 := Lib.hid (B3.out.up u6)
    have B4 := Lib.hid (B4.out.up u6)
    have B5 := Lib.hid (B5.out.up u6)
    have B6 := Lib.hid (B6.out.up u6)
    clear m0 m1 m2 c0 c1 c2 e0 e1 e2 e3 e4 e5 x0 x1 x2 lt3_ lt4_ lt5_ lt6_
    clear u6
    obtain ⟨m0, m1, m2⟩ := And.intro (B3.out.cell (j := 0) rfl) (And.intro (B3.out.cell (j := 1) rfl) (B3.out.cell (j := 2) rfl))
    obtain ⟨c0, c1, c2⟩ := And.intro (B4.out.cell (j := 0) rfl) (And.intro (B4.out.cell (j := 1) rfl) (B4.out.cell (j := 2) rfl))
    obtain ⟨e0, e1, e2⟩ := And.intro (B5.out.cell (j := 0) rfl) (And.intro (B5.out.cell (j := 1) rfl) (B5.out.cell (j := 2) rfl))
    obtain ⟨e3, e4, e5⟩ := And.intro (B5.out.cell (j := 3) rfl) (And.intro (B5.out.cell (j := 4) rfl) (B5.out.cell (j := 5) rfl))
    obtain ⟨x0, x1, x2⟩ := And.intro (B6.out.cell (j := 0) rfl) (And.intro (B6.out.cell (j := 1) rfl) (B6.out.cell (j := 2) rfl))
    have lt3_ := B3.out.lt
    have lt4_ := B4.out.lt
    have lt5_ := B5.out.lt
    have lt6_ := B6.out.lt
    have HMB := Lib.hid (show mayB m ⟨ss, sq, sc⟩ ⟨et, eto, efr, esq, ekd, edt⟩ = (mdlB m && (cstB ⟨ss, sq, sc⟩ && (okB ⟨et, eto, efr, esq, ekd, edt⟩ n && decide (et ≤ m.til)))) by rw [← HNR.out]; simp only [mayB, Bool.and_assoc])
    rw [HCB.out] at HMB
    generalize hmb : mdlB m = mb at HMB ⊢
    have HMB0 := Lib.hid hmb
    clear hmb
    cases mb
    · have hz := HD.out.no (by rw [HMB.out]; rfl)
      simp only [Prod.mk.injEq, Cst.mk.injEq] at hz
      obtain ⟨⟨rfl, rfl, rfl⟩, rfl⟩ := hz
      have qq := QQ1.out
      have gd := GD.out
      go_wp2_with fail
      refine (tbOk_any _).mono ?_
      rintro x w9 ⟨rfl, u9⟩
      go_wp2
      go_ret
      exact ⟨rfl, u1.trans (U.out.trans u9)⟩
    · go_wp2_with fail
      refine (KK1.out _).mono ?_
      rintro x w7 ⟨rfl, u7⟩
      have U := Lib.hid (U.out.trans u7)
      have E4 := Lib.hid (E4.out.up u7)
      have B3 := Lib.hid (B3.out.up u7)
      have B4 := Lib.hid (B4.out.up u7)
      have B5 := Lib.hid (B5.out.up u7)
      have B6 := Lib.hid (B6.out.up u7)
      clear m0 m1 m2 c0 c1 c2 e0 e1 e2 e3 e4 e5 x0 x1 x2 lt3_ lt4_ lt5_ lt6_
      clear u7
      obtain ⟨m0, m1, m2⟩ := And.intro (B3.out.cell (j := 0) rfl) (And.intro (B3.out.cell (j := 1) rfl) (B3.out.cell (j := 2) rfl))
      obtain ⟨c0, c1, c2⟩ := And.intro (B4.out.cell (j := 0) rfl) (And.intro (B4.out.cell (j := 1) rfl) (B4.out.cell (j := 2) rfl))
      obtain ⟨e0, e1, e2⟩ := And.intro (B5.out.cell (j := 0) rfl) (And.intro (B5.out.cell (j := 1) rfl) (B5.out.cell (j := 2) rfl))
      obtain ⟨e3, e4, e5⟩ := And.intro (B5.out.cell (j := 3) rfl) (And.intro (B5.out.cell (j := 4) rfl) (B5.out.cell (j := 5) rfl))
      obtain ⟨x0, x1, x2⟩ := And.intro (B6.out.cell (j := 0) rfl) (And.intro (B6.out.cell (j := 1) rfl) (B6.out.cell (j := 2) rfl))
      have lt3_ := B3.out.lt
      have lt4_ := B4.out.lt
      have lt5_ := B5.out.lt
      have lt6_ := B6.out.lt
      cases cb
      · have hz := HD.out.no (by rw [HMB.out]; rfl)
        simp only [Prod.mk.injEq, Cst.mk.injEq] at hz
        obtain ⟨⟨rfl, rfl, rfl⟩, rfl⟩ := hz
        have qq := QQ1.out
        have gd := GD.out
        go_wp2_with fail
        refine (tbOk_any _).mono ?_
        rintro x w9 ⟨rfl, u9⟩
        go_wp2
        go_ret
        exact ⟨rfl, u1.trans (U.out.trans u9)⟩
      · go_wp2_with fail
        refine (OO1.out _).mono ?_
        rintro x w8 ⟨rfl, u8⟩
        have U := Lib.hid (U.out.trans u8)
        have E4 := Lib.hid (E4.out.up u8)
        have B3 := Lib.hid (B3.out.up u8)
        have B4 := Lib.hid (B4.out.up u8)
        have B5 := Lib.hid (B5.out.up u8)
        have B6 := Lib.hid (B6.out.up u8)
        clear m0 m1 m2 c0 c1 c2 e0 e1 e2 e3 e4 e5 x0 x1 x2 lt3_ lt4_ lt5_ lt6_
        clear u8
        obtain ⟨m0, m1, m2⟩ := And.intro (B3.out.cell (j := 0) rfl) (And.intro (B3.out.cell (j := 1) rfl) (B3.out.cell (j := 2) rfl))
        obtain ⟨c0, c1, c2⟩ := And.intro (B4.out.cell (j := 0) rfl) (And.intro (B4.out.cell (j := 1) rfl) (B4.out.cell (j := 2) rfl))
        obtain ⟨e0, e1, e2⟩ := And.intro (B5.out.cell (j := 0) rfl) (And.intro (B5.out.cell (j := 1) rfl) (B5.out.cell (j := 2) rfl))
        obtain ⟨e3, e4, e5⟩ := And.intro (B5.out.cell (j := 3) rfl) (And.intro (B5.out.cell (j := 4) rfl) (B5.out.cell (j := 5) rfl))
        obtain ⟨x0, x1, x2⟩ := And.intro (B6.out.cell (j := 0) rfl) (And.intro (B6.out.cell (j := 1) rfl) (B6.out.cell (j := 2) rfl))
        have lt3_ := B3.out.lt
        have lt4_ := B4.out.lt
        have lt5_ := B5.out.lt
        have lt6_ := B6.out.lt
        generalize hob : okB ⟨et, eto, efr, esq, ekd, edt⟩ n = ob at HMB ⊢
        have HOB := Lib.hid hob
        clear hob
        cases ob
        · have hz := HD.out.no (by rw [HMB.out]; rfl)
          simp only [Prod.mk.injEq, Cst.mk.injEq] at hz
          obtain ⟨⟨rfl, rfl, rfl⟩, rfl⟩ := hz
          have qq := QQ1.out
          have gd := GD.out
          go_wp2_with fail
          refine (tbOk_any _).mono ?_
          rintro x w9 ⟨rfl, u9⟩
          go_wp2
          go_ret
          exact ⟨rfl, u1.trans (U.out.trans u9)⟩
        by_cases hle : et ≤ m.til
        · have DF := HD.out.yes (by rw [HMB.out]; simp [hle])
          obtain ⟨⟨t0, t1⟩, ⟨mn1, mn4⟩, hcst, ⟨⟨sq0, sq1⟩, ct0⟩, hct, SF, ⟨tl0, tl1⟩, NR⟩ := DF
          dsimp only at t0 t1 sq0 sq1 ct0 hct SF tl0 tl1 NR
          obtain ⟨tn, rfl⟩ : ∃ tn : Nat, eto = tn := ⟨eto.toNat, by omega⟩
          rw [Int.toNat_natCast] at NR
          subst hct
          have hnn := HNR.out
          have htn : tn < n := by omega
          have ltn : (tn : Int) < n := by omega
          rw [hnn] at SF mn1 mn4 t1
          clear hnn
          have II3 := II2.out
          rw [hcst] at II3
          have II3 := Lib.hid II3
          have g1 := SF.len
          have g2 := SF.top
          have g3 := SF.few
          have iwc : IntKind.i64.wrap (sc + 1) = sc + 1 := IntWalk.i64_in _ (by omega)
          have i10 : IntKind.i64.wrap (sq + (L1.length : Int)) = sq + (L1.length : Int) := IntWalk.i64_in _ (by omega)
          have i11 : ¬ r1 < sq + (L1.length : Int) := by omega
          have i12 : ¬ sq + 2 < r1 := by omega
          have IW := Lib.hid iwc
          go_wp2_with fail
          refine (II3.out _).mono ?_
          rintro x w10 ⟨rfl, u10⟩
          have U := Lib.hid (U.out.trans u10)
          have E4 := Lib.hid (E4.out.up u10)
          have B3 := Lib.hid (B3.out.up u10)
          have B4 := Lib.hid (B4.out.up u10)
          have B5 := Lib.hid (B5.out.up u10)
          have B6 := Lib.hid (B6.out.up u10)
          clear m0 m1 m2 c0 c1 c2 e0 e1 e2 e3 e4 e5 x0 x1 x2 lt3_ lt4_ lt5_ lt6_
          clear u10
          obtain ⟨m0, m1, m2⟩ := And.intro (B3.out.cell (j := 0) rfl) (And.intro (B3.out.cell (j := 1) rfl) (B3.out.cell (j := 2) rfl))
          obtain ⟨c0, c1, c2⟩ := And.intro (B4.out.cell (j := 0) rfl) (And.intro (B4.out.cell (j := 1) rfl) (B4.out.cell (j := 2) rfl))
          obtain ⟨e0, e1, e2⟩ := And.intro (B5.out.cell (j := 0) rfl) (And.intro (B5.out.cell (j := 1) rfl) (B5.out.cell (j := 2) rfl))
          obtain ⟨e3, e4, e5⟩ := And.intro (B5.out.cell (j := 3) rfl) (And.intro (B5.out.cell (j := 4) rfl) (B5.out.cell (j := 5) rfl))
          obtain ⟨x0, x1, x2⟩ := And.intro (B6.out.cell (j := 0) rfl) (And.intro (B6.out.cell (j := 1) rfl) (B6.out.cell (j := 2) rfl))
          have lt3_ := B3.out.lt
          have lt4_ := B4.out.lt
          have lt5_ := B5.out.lt
          have lt6_ := B6.out.lt
          go_wp2_with fail
          clear iwc i10 i11 i12
          go_loopw [10] (fun i wr => DoR L1 w10 i wr) (fun i _ => L1.length + 1 - (intOf i).toNat)
          case atStart => exact ⟨0, rfl, by omega, Up.refl _⟩
          case round =>
            obtain ⟨j, rfl, hj, ur⟩ := hrel
            have UR := Lib.hid ur
            have E4r := Lib.hid (E4.out.up ur)
            have B3 := Lib.hid (B3.out.up ur)
            have B4 := Lib.hid (B4.out.up ur)
            have B5 := Lib.hid (B5.out.up ur)
            have B6 := Lib.hid (B6.out.up ur)
            clear ur
            clear m0 m1 m2 c0 c1 c2 e0 e1 e2 e3 e4 e5 x0 x1 x2 lt3_ lt4_ lt5_ lt6_
            obtain ⟨m0, m1, m2⟩ := And.intro (B3.out.cell (j := 0) rfl) (And.intro (B3.out.cell (j := 1) rfl) (B3.out.cell (j := 2) rfl))
            obtain ⟨c0, c1, c2⟩ := And.intro (B4.out.cell (j := 0) rfl) (And.intro (B4.out.cell (j := 1) rfl) (B4.out.cell (j := 2) rfl))
            obtain ⟨e0, e1, e2⟩ := And.intro (B5.out.cell (j := 0) rfl) (And.intro (B5.out.cell (j := 1) rfl) (B5.out.cell (j := 2) rfl))
            obtain ⟨e3, e4, e5⟩ := And.intro (B5.out.cell (j := 3) rfl) (And.intro (B5.out.cell (j := 4) rfl) (B5.out.cell (j := 5) rfl))
            obtain ⟨x0, x1, x2⟩ := And.intro (B6.out.cell (j := 0) rfl) (And.intro (B6.out.cell (j := 1) rfl) (B6.out.cell (j := 2) rfl))
            have lt3_ := B3.out.lt
            have lt4_ := B4.out.lt
            have lt5_ := B5.out.lt
            have lt6_ := B6.out.lt
            by_cases hlt : j < L1.length
            · have lt1 : (j : Int) < L1.length := by omega
              obtain ⟨bL, offL, hA4, hbL, hat⟩ := E4r.out.2 (by omega)
              subst hA4
              have F := SF.each j hlt
              have RI := Lib.hid (fun i hi => SF.rise j i hi hlt)
              have AX := hat j hlt
              have PV := Lib.hid (fun i (hi : i < j) => hat i (by omega))
              generalize L1.getD j default = xx at AX F RI
              obtain ⟨xt, xto, xfr, xsq, xkd, xdt⟩ := xx
              obtain ⟨⟨fa, fb⟩, fc, ⟨fd, fe⟩, ⟨ff, fg⟩, ⟨fh, fi⟩, ⟨fj, fk⟩⟩ := F
              dsimp only at fa fb fc fd fe ff fg fh fi fj fk
              subst fc
              have hok : okB ⟨xt, xto, (tn : Int), xsq, xkd, xdt⟩ n = true := by unfold okB; simp only [Bool.and_eq_true, inB_iff]; omega
              have hlt2 : ltE ⟨et, (tn : Int), efr, esq, ekd, edt⟩ ⟨xt, xto, (tn : Int), xsq, xkd, xdt⟩ = true := (ltE_iff _ _).2 (.inl fd)
              have O3 := OO2.out ⟨xt, xto, (tn : Int), xsq, xkd, xdt⟩
              have L3 := LL2.out ⟨xt, xto, (tn : Int), xsq, xkd, xdt⟩
              rw [hok] at O3
              rw [hlt2] at L3
              unfold Evt.v at O3
              dsimp only at O3 L3
              have O3 := Lib.hid O3
              have L3 := Lib.hid L3
              unfold EvAt at AX
              dsimp only at AX
              obtain ⟨z0, z1, z2, z3, z4, z5⟩ := AX
              clear hat hok hlt2
              go_wp2_with fail
              have B11 := Lib.hid (Blk.new wr #[.int .i64 xt, .int .i64 xto, .int .i64 (tn : Int), .int .i64 xsq, .int .i64 xkd, .int .i64 xdt] 38)
              have UR := Lib.hid (UR.out.alloc (.cells #[.int .i64 xt, .int .i64 xto, .int .i64 (tn : Int), .int .i64 xsq, .int .i64 xkd, .int .i64 xdt] 38))
              clear m0 m1 m2 c0 c1 c2 e0 e1 e2 e3 e4 e5 x0 x1 x2 lt3_ lt4_ lt5_ lt6_
              have B3 := Lib.hid (B3.out.alloc (.cells #[.int .i64 xt, .int .i64 xto, .int .i64 (tn : Int), .int .i64 xsq, .int .i64 xkd, .int .i64 xdt] 38))
              have B4 := Lib.hid (B4.out.alloc (.cells #[.int .i64 xt, .int .i64 xto, .int .i64 (tn : Int), .int .i64 xsq, .int .i64 xkd, .int .i64 xdt] 38))
              have B5 := Lib.hid (B5.out.alloc (.cells #[.int .i64 xt, .int .i64 xto, .int .i64 (tn : Int), .int .i64 xsq, .int .i64 xkd, .int .i64 xdt] 38))
              have B6 := Lib.hid (B6.out.alloc (.cells #[.int .i64 xt, .int .i64 xto, .int .i64 (tn : Int), .int .i64 xsq, .int .i64 xkd, .int .i64 xdt] 38))
              have PV := Lib.hid (fun i (hi : i < j) => (PV.out i hi).up ((Up.refl wr).alloc (.cells #[.int .i64 xt, .int .i64 xto, .int .i64 (tn : Int), .int .i64 xsq, .int .i64 xkd, .int .i64 xdt] 38)) hbL)
              have hbL2 : bL < (wr.alloc (.cells #[.int .i64 xt, .int .i64 xto, .int .i64 (tn : Int), .int .i64 xsq, .int .i64 xkd, .int .i64 xdt] 38)).heap.size := by simp; omega
              clear z0 z1 z2 z3 z4 z5
              generalize wr.alloc (.cells #[.int .i64 xt, .int .i64 xto, .int .i64 (tn : Int), .int .i64 xsq, .int .i64 xkd, .int .i64 xdt] 38) = wX at *
              generalize wr.heap.size = b11 at *
              obtain ⟨m0, m1, m2⟩ := And.intro (B3.out.cell (j := 0) rfl) (And.intro (B3.out.cell (j := 1) rfl) (B3.out.cell (j := 2) rfl))
              obtain ⟨c0, c1, c2⟩ := And.intro (B4.out.cell (j := 0) rfl) (And.intro (B4.out.cell (j := 1) rfl) (B4.out.cell (j := 2) rfl))
              obtain ⟨e0, e1, e2⟩ := And.intro (B5.out.cell (j := 0) rfl) (And.intro (B5.out.cell (j := 1) rfl) (B5.out.cell (j := 2) rfl))
              obtain ⟨e3, e4, e5⟩ := And.intro (B5.out.cell (j := 3) rfl) (And.intro (B5.out.cell (j := 4) rfl) (B5.out.cell (j := 5) rfl))
              obtain ⟨x0, x1, x2⟩ := And.intro (B6.out.cell (j := 0) rfl) (And.intro (B6.out.cell (j := 1) rfl) (B6.out.cell (j := 2) rfl))
              have lt3_ := B3.out.lt
              have lt4_ := B4.out.lt
              have lt5_ := B5.out.lt
              have lt6_ := B6.out.lt
              obtain ⟨z0, z1, z2⟩ := And.intro (B11.out.cell (j := 0) rfl) (And.intro (B11.out.cell (j := 1) rfl) (B11.out.cell (j := 2) rfl))
              obtain ⟨z3, z4, z5⟩ := And.intro (B11.out.cell (j := 3) rfl) (And.intro (B11.out.cell (j := 4) rfl) (B11.out.cell (j := 5) rfl))
              have lt11_ := B11.out.lt
              have f1 : ¬ xt ≤ et := by omega
              have f2 : ¬ m.til < xt := by omega
              have f3 : IntKind.i64.wrap (sq + (j : Int)) = sq + (j : Int) := IntWalk.i64_in _ (by omega)
              have f4 : ¬ xsq < sq + (j : Int) := by omega
              have f5 : ¬ r1 ≤ xsq := by omega
              by_cases hj0 : j = 0
              · subst hj0
                have lt2 : ¬ (0 : Int) < ((0 : Nat) : Int) := by omega
                have f3b : IntKind.i64.wrap sq = sq := IntWalk.i64_in _ (by omega)
                have f4b : sq ≤ xsq := by omega
                refine region_qw (by kernel_rfl) (by kernel_rfl) ?_
                refine qWalk_step ?_
                intro K hK
                go_simp
                apply Exists.intro
                refine And.intro ?_ ?_
                · intro w1 hw1
                  obtain ⟨hc, hf, hz⟩ := hw1.facts
                  try simp at hz
                  try go_simp
                  try rfl
                try go_simp
                refine hK _ ?_
                clear hK K
                refine qWalk_step ?_
                intro K hK
                go_simp
                apply Exists.intro
                refine And.intro ?_ ?_
                · intro w1 hw1
                  try go_simp
                  try rfl
                try go_simp
                refine hK _ ?_
                clear hK K
                refine qWalk_step ?_
                intro K hK
                go_simp
                apply Exists.intro
                refine And.intro ?_ ?_
                · intro w1 hw1
                  obtain ⟨hc, hf, hz⟩ := hw1.facts
                  try simp at hz
                  try go_simp
                  try rfl
                try go_simp
                refine hK _ ?_
                clear hK K
                refine qWalk_step ?_
                intro K hK
                go_simp
                apply Exists.intro
                refine And.intro ?_ ?_
                · intro w1 hw1
                  try go_simp
                  try rfl
                try go_simp
                refine hK _ ?_
                clear hK K
                refine qWalk_step ?_
                intro K hK
                go_simp
                apply Exists.intro
                refine And.intro ?_ ?_
                · intro w1 hw1
                  try go_simp
                  exact up_call hw1 (O3.out _)
                try go_simp
                refine hK _ ?_
                clear hK K
                refine qWalk_step ?_
                intro K hK
                go_simp
                apply Exists.intro
                refine And.intro ?_ ?_
                · intro w1 hw1
                  try go_simp
                  try rfl
                try go_simp
                refine hK _ ?_
                clear hK K
                refine qWalk_step ?_
                intro K hK
                go_simp
                apply Exists.intro
                refine And.intro ?_ ?_
                · intro w1 hw1
                  try go_simp
                  try rfl
                try go_simp
                refine hK _ ?_
                clear hK K
                refine qWalk_step ?_
                intro K hK
                go_simp
                apply Exists.intro
                refine And.intro ?_ ?_
                · intro w1 hw1
                  try go_simp
                  try rfl
                try go_simp
                refine hK _ ?_
                clear hK K
                refine qWalk_step ?_
                intro K hK
                go_simp
                apply Exists.intro
                refine And.intro ?_ ?_
                · intro w1 hw1
                  obtain ⟨hc, hf, hz⟩ := hw1.facts
                  try simp at hz
                  try go_simp
                  try rfl
                try go_simp
                refine hK _ ?_
                clear hK K
                refine qWalk_step ?_
                intro K hK
                go_simp
                apply Exists.intro
                refine And.intro ?_ ?_
                · intro w1 hw1
                  try go_simp
                  try rfl
                try go_simp
                refine hK _ ?_
                clear hK K
                refine qWalk_step ?_
                intro K hK
                go_simp
                apply Exists.intro
                refine And.intro ?_ ?_
                · intro w1 hw1
                  obtain ⟨hc, hf, hz⟩ := hw1.facts
                  try simp at hz
                  try go_simp
                  try rfl
                try go_simp
                refine hK _ ?_
                clear hK K
                refine qWalk_step ?_
                intro K hK
                go_simp
                apply Exists.intro
                refine And.intro ?_ ?_
                · intro w1 hw1
                  try go_simp
                  try rfl
                try go_simp
                refine hK _ ?_
                clear hK K
                refine qWalk_step ?_
                intro K hK
                go_simp
                apply Exists.intro
                refine And.intro ?_ ?_
                · intro w1 hw1
                  try go_simp
                  try rfl
                try go_simp
                refine hK _ ?_
                clear hK K
                refine qWalk_step ?_
                intro K hK
                go_simp
                apply Exists.intro
                refine And.intro ?_ ?_
                · intro w1 hw1
                  try go_simp
                  try rfl
                try go_simp
                refine hK _ ?_
                clear hK K
                refine qWalk_step ?_
                intro K hK
                go_simp
                apply Exists.intro
                refine And.intro ?_ ?_
                · intro w1 hw1
                  try go_simp
                  try rfl
                try go_simp
                refine hK _ ?_
                clear hK K
                refine qWalk_step ?_
                intro K hK
                go_simp
                apply Exists.intro
                refine And.intro ?_ ?_
                · intro w1 hw1
                  obtain ⟨hc, hf, hz⟩ := hw1.facts
                  try simp at hz
                  try go_simp
                  try rfl
                try go_simp
                refine hK _ ?_
                clear hK K
                refine qWalk_step ?_
                intro K hK
                go_simp
                apply Exists.intro
                refine And.intro ?_ ?_
                · intro w1 hw1
                  try go_simp
                  try rfl
                try go_simp
                refine hK _ ?_
                clear hK K
                refine qWalk_step ?_
                intro K hK
                go_simp
                apply Exists.intro
                refine And.intro ?_ ?_
                · intro w1 hw1
                  obtain ⟨hc, hf, hz⟩ := hw1.facts
                  try simp at hz
                  try go_simp
                  try rfl
                try go_simp
                refine hK _ ?_
                clear hK K
                refine qWalk_step ?_
                intro K hK
                go_simp
                apply Exists.intro
                refine And.intro ?_ ?_
                · intro w1 hw1
                  try go_simp
                  try rfl
                try go_simp
                refine hK _ ?_
                clear hK K
                refine qWalk_step ?_
                intro K hK
                go_simp
                apply Exists.intro
                refine And.intro ?_ ?_
                · intro w1 hw1
                  try go_simp
                  try rfl
                try go_simp
                refine hK _ ?_
                clear hK K
                refine qWalk_step ?_
                intro K hK
                go_simp
                apply Exists.intro
                refine And.intro ?_ ?_
                · intro w1 hw1
                  try go_simp
                  try rfl
                try go_simp
                refine hK _ ?_
                clear hK K
                refine qWalk_step ?_
                intro K hK
                go_simp
                apply Exists.intro
                refine And.intro ?_ ?_
                · intro w1 hw1
                  try go_simp
                  try rfl
                try go_simp
                refine hK _ ?_
                clear hK K
                refine qWalk_step ?_
                intro K hK
                go_simp
                apply Exists.intro
                refine And.intro ?_ ?_
                · intro w1 hw1
                  obtain ⟨hc, hf, hz⟩ := hw1.facts
                  try simp at hz
                  try go_simp
                  try rfl
                try go_simp
                refine hK _ ?_
                clear hK K
                refine qWalk_step ?_
                intro K hK
                go_simp
                apply Exists.intro
                refine And.intro ?_ ?_
                · intro w1 hw1
                  try go_simp
                  try rfl
                try go_simp
                refine hK _ ?_
                clear hK K
                refine qWalk_step ?_
                intro K hK
                go_simp
                apply Exists.intro
                refine And.intro ?_ ?_
                · intro w1 hw1
                  obtain ⟨hc, hf, hz⟩ := hw1.facts
                  try simp at hz
                  try go_simp
                  try rfl
                try go_simp
                refine hK _ ?_
                clear hK K
                refine qWalk_step ?_
                intro K hK
                go_simp
                apply Exists.intro
                refine And.intro ?_ ?_
                · intro w1 hw1
                  try go_simp
                  try rfl
                try go_simp
                refine hK _ ?_
                clear hK K
                refine qWalk_step ?_
                intro K hK
                go_simp
                apply Exists.intro
                refine And.intro ?_ ?_
                · intro w1 hw1
                  try go_simp
                  try rfl
                try go_simp
                refine hK _ ?_
                clear hK K
                refine qWalk_step ?_
                intro K hK
                go_simp
                apply Exists.intro
                refine And.intro ?_ ?_
                · intro w1 hw1
                  try go_simp
                  try rfl
                try go_simp
                refine hK _ ?_
                clear hK K
                refine qWalk_step ?_
                intro K hK
                go_simp
                apply Exists.intro
                refine And.intro ?_ ?_
                · intro w1 hw1
                  try go_simp
                  try rfl
                try go_simp
                refine hK _ ?_
                clear hK K
                refine qWalk_step ?_
                intro K hK
                go_simp
                apply Exists.intro
                refine And.intro ?_ ?_
                · intro w1 hw1
                  obtain ⟨hc, hf, hz⟩ := hw1.facts
                  try simp at hz
                  try go_simp
                  try rfl
                try go_simp
                refine hK _ ?_
                clear hK K
                refine qWalk_step ?_
                intro K hK
                go_simp
                apply Exists.intro
                refine And.intro ?_ ?_
                · intro w1 hw1
                  try go_simp
                  try rfl
                try go_simp
                refine hK _ ?_
                clear hK K
                refine qWalk_step ?_
                intro K hK
                go_simp
                apply Exists.intro
                refine And.intro ?_ ?_
                · intro w1 hw1
                  obtain ⟨hc, hf, hz⟩ := hw1.facts
                  try simp at hz
                  try go_simp
                  try rfl
                try go_simp
                refine hK _ ?_
                clear hK K
                refine qWalk_step ?_
                intro K hK
                go_simp
                apply Exists.intro
                refine And.intro ?_ ?_
                · intro w1 hw1
                  try go_simp
                  try rfl
                try go_simp
                refine hK _ ?_
                clear hK K
                refine qWalk_step ?_
                intro K hK
                go_simp
                apply Exists.intro
                refine And.intro ?_ ?_
                · intro w1 hw1
                  try go_simp
                  try rfl
                try go_simp
                refine hK _ ?_
                clear hK K
                refine qWalk_step ?_
                intro K hK
                go_simp
                apply Exists.intro
                refine And.intro ?_ ?_
                · intro w1 hw1
                  try go_simp
                  try rfl
                try go_simp
                refine hK _ ?_
                clear hK K
                refine qWalk_step ?_
                intro K hK
                go_simp
                apply Exists.intro
                refine And.intro ?_ ?_
                · intro w1 hw1
                  try go_simp
                  try rfl
                try go_simp
                refine hK _ ?_
                clear hK K
                refine qWalk_step ?_
                intro K hK
                go_simp
                apply Exists.intro
                refine And.intro ?_ ?_
                · intro w1 hw1
                  try go_simp
                  try rfl
                try go_simp
                refine hK _ ?_
                clear hK K
                refine qWalk_step ?_
                intro K hK
                go_simp
                apply Exists.intro
                refine And.intro ?_ ?_
                · intro w1 hw1
                  try go_simp
                  try rfl
                try go_simp
                refine hK _ ?_
                clear hK K
                refine qWalk_step ?_
                intro K hK
                go_simp
                apply Exists.intro
                refine And.intro ?_ ?_
                · intro w1 hw1
                  obtain ⟨hc, hf, hz⟩ := hw1.facts
                  try simp at hz
                  try go_simp
                  try rfl
                try go_simp
                refine hK _ ?_
                clear hK K
                refine qWalk_step ?_
                intro K hK
                go_simp
                apply Exists.intro
                refine And.intro ?_ ?_
                · intro w1 hw1
                  try go_simp
                  try rfl
                try go_simp
                refine hK _ ?_
                clear hK K
                refine qWalk_step ?_
                intro K hK
                go_simp
                apply Exists.intro
                refine And.intro ?_ ?_
                · intro w1 hw1
                  obtain ⟨hc, hf, hz⟩ := hw1.facts
                  try simp at hz
                  try go_simp
                  try rfl
                try go_simp
                refine hK _ ?_
                clear hK K
                refine qWalk_step ?_
                intro K hK
                go_simp
                apply Exists.intro
                refine And.intro ?_ ?_
                · intro w1 hw1
                  try go_simp
                  try rfl
                try go_simp
                refine hK _ ?_
                clear hK K
                refine qWalk_step ?_
                intro K hK
                go_simp
                apply Exists.intro
                refine And.intro ?_ ?_
                · intro w1 hw1
                  try go_simp
                  try rfl
                try go_simp
                refine hK _ ?_
                clear hK K
                refine qWalk_step ?_
                intro K hK
                go_simp
                apply Exists.intro
                refine And.intro ?_ ?_
                · intro w1 hw1
                  try go_simp
                  try rfl
                try go_simp
                refine hK _ ?_
                clear hK K
                refine qWalk_step ?_
                intro K hK
                go_simp
                apply Exists.intro
                refine And.intro ?_ ?_
                · intro w1 hw1
                  try go_simp
                  try rfl
                try go_simp
                refine hK _ ?_
                clear hK K
                refine qWalk_step ?_
                intro K hK
                go_simp
                apply Exists.intro
                refine And.intro ?_ ?_
                · intro w1 hw1
                  try go_simp
                  try rfl
                try go_simp
                refine hK _ ?_
                clear hK K
                refine qWalk_step ?_
                intro K hK
                go_simp
                apply Exists.intro
                refine And.intro ?_ ?_
                · intro w1 hw1
                  try go_simp
                  try rfl
                try go_simp
                refine hK _ ?_
                clear hK K
                refine qWalk_step ?_
                intro K hK
                go_simp
                refine hK _ ?_
                clear hK K
                refine qWalk_step ?_
                intro K hK
                go_simp
                refine hK _ ?_
                clear hK K
                refine qWalk_step ?_
                intro K hK
                go_simp
                refine hK _ ?_
                clear hK K
                refine qWalk_step ?_
                intro K hK
                go_simp
                refine hK _ ?_
                clear hK K
                refine qWalk_step ?_
                intro K hK
                go_simp
                refine hK _ ?_
                clear hK K
                refine qWalk_step ?_
                intro K hK
                go_simp
                refine hK _ ?_
                clear hK K
                refine qWalk_step ?_
                intro K hK
                go_simp
                refine hK _ ?_
                clear hK K
                refine qWalk_step ?_
                intro K hK
                go_simp
                refine hK _ ?_
                clear hK K
                refine qWalk_step ?_
                intro K hK
                go_simp
                refine hK _ ?_
                clear hK K
                refine qWalk_step ?_
                intro K hK
                go_simp
                apply Exists.intro
                refine And.intro ?_ ?_
                · intro w1 hw1
                  try go_simp
                  try rfl
                try go_simp
                refine hK _ ?_
                clear hK K
                refine qWalk_step ?_
                intro K hK
                go_simp
                apply Exists.intro
                refine And.intro ?_ ?_
                · intro w1 hw1
                  try go_simp
                  try rfl
                try go_simp
                refine hK _ ?_
                clear hK K
                refine qWalk_step ?_
                intro K hK
                go_simp
                apply Exists.intro
                refine And.intro ?_ ?_
                · intro w1 hw1
                  try go_simp
                  try rfl
                try go_simp
                refine hK _ ?_
                clear hK K
                refine qWalk_step ?_
                intro K hK
                go_simp
                apply Exists.intro
                refine And.intro ?_ ?_
                · intro w1 hw1
                  obtain ⟨hc, hf, hz⟩ := hw1.facts
                  try simp at hz
                  try go_simp
                  try rfl
                try go_simp
                refine hK _ ?_
                clear hK K
                refine qWalk_step ?_
                intro K hK
                go_simp
                apply Exists.intro
                refine And.intro ?_ ?_
                · intro w1 hw1
                  obtain ⟨hc, hf, hz⟩ := hw1.facts
                  try simp at hz
                  try go_simp
                  try rfl
                try go_simp
                refine hK _ ?_
                clear hK K
                refine qWalk_step ?_
                intro K hK
                go_simp
                apply Exists.intro
                refine And.intro ?_ ?_
                · intro w1 hw1
                  try go_simp
                  exact up_call hw1 (L3.out _)
                try go_simp
                refine hK _ ?_
                clear hK K
                refine qWalk_step ?_
                intro K hK
                go_simp
                apply Exists.intro
                refine And.intro ?_ ?_
                · intro w1 hw1
                  try go_simp
                  try rfl
                try go_simp
                refine hK _ ?_
                clear hK K
                refine qWalk_step ?_
                intro K hK
                go_simp
                apply Exists.intro
                refine And.intro ?_ ?_
                · intro w1 hw1
                  try go_simp
                  try rfl
                try go_simp
                refine hK _ ?_
                clear hK K
                refine qWalk_nil ?_
                intro wA uA
                have UR := Lib.hid (UR.out.trans uA)
                clear uA
                clear f1 f2 f3 f4 f5 f3b f4b z0 z1 z2 z3 z4 z5 O3 L3
                go_wp2
                go_roundw
                case rel => exact ⟨1, by first | rfl | simp, by omega, UR.out⟩
                case measure => simp [intOf]
              · obtain ⟨j1, rfl⟩ : ∃ j1, j = j1 + 1 := ⟨j - 1, by omega⟩
                have lt2 : (0 : Int) < ((j1 + 1 : Nat) : Int) := by omega
                have AP := PV.out j1 (by omega)
                have RP := RI.out j1 (by omega)
                generalize L1.getD j1 default = pp at AP RP
                obtain ⟨pt, pto, pfr, psq, pkd, pdt⟩ := pp
                unfold EvAt at AP
                dsimp only at AP RP
                obtain ⟨_, _, _, v3, _, _⟩ := AP
                have f6 : ¬ xsq ≤ psq := by omega
                have i1 : ((j1 + 1 : Nat) : Int) - 1 = (j1 : Int) := by omega
                have i3 : IntKind.i64.wrap (((j1 + 1 : Nat) : Int) - 1) = (j1 : Int) := by rw [i1]; exact IntWalk.i64_in _ (by omega)
                have i2 : (j1 : Int) < L1.length := by omega
                have i3b : IntKind.i64.wrap (j1 : Int) = (j1 : Int) := IntWalk.i64_in _ (by omega)
                have f3b : IntKind.i64.wrap (sq + ((j1 : Int) + 1)) = sq + ((j1 : Int) + 1) := IntWalk.i64_in _ (by omega)
                have f4b : sq + ((j1 : Int) + 1) ≤ xsq := by omega
                refine region_qw (by kernel_rfl) (by kernel_rfl) ?_
                refine qWalk_step ?_
                intro K hK
                go_simp
                apply Exists.intro
                refine And.intro ?_ ?_
                · intro w1 hw1
                  obtain ⟨hc, hf, hz⟩ := hw1.facts
                  try simp at hz
                  try go_simp
                  try rfl
                try go_simp
                refine hK _ ?_
                clear hK K
                refine qWalk_step ?_
                intro K hK
                go_simp
                apply Exists.intro
                refine And.intro ?_ ?_
                · intro w1 hw1
                  try go_simp
                  try rfl
                try go_simp
                refine hK _ ?_
                clear hK K
                refine qWalk_step ?_
                intro K hK
                go_simp
                apply Exists.intro
                refine And.intro ?_ ?_
                · intro w1 hw1
                  obtain ⟨hc, hf, hz⟩ := hw1.facts
                  try simp at hz
                  try go_simp
                  try rfl
                try go_simp
                refine hK _ ?_
                clear hK K
                refine qWalk_step ?_
                intro K hK
                go_simp
                apply Exists.intro
                refine And.intro ?_ ?_
                · intro w1 hw1
                  try go_simp
                  try rfl
                try go_simp
                refine hK _ ?_
                clear hK K
                refine qWalk_step ?_
                intro K hK
                go_simp
                apply Exists.intro
                refine And.intro ?_ ?_
                · intro w1 hw1
                  try go_simp
                  exact up_call hw1 (O3.out _)
                try go_simp
                refine hK _ ?_
                clear hK K
                refine qWalk_step ?_
                intro K hK
                go_simp
                apply Exists.intro
                refine And.intro ?_ ?_
                · intro w1 hw1
                  try go_simp
                  try rfl
                try go_simp
                refine hK _ ?_
                clear hK K
                refine qWalk_step ?_
                intro K hK
                go_simp
                apply Exists.intro
                refine And.intro ?_ ?_
                · intro w1 hw1
                  try go_simp
                  try rfl
                try go_simp
                refine hK _ ?_
                clear hK K
                refine qWalk_step ?_
                intro K hK
                go_simp
                apply Exists.intro
                refine And.intro ?_ ?_
                · intro w1 hw1
                  try go_simp
                  try rfl
                try go_simp
                refine hK _ ?_
                clear hK K
                refine qWalk_step ?_
                intro K hK
                go_simp
                apply Exists.intro
                refine And.intro ?_ ?_
                · intro w1 hw1
                  obtain ⟨hc, hf, hz⟩ := hw1.facts
                  try simp at hz
                  try go_simp
                  try rfl
                try go_simp
                refine hK _ ?_
                clear hK K
                refine qWalk_step ?_
                intro K hK
                go_simp
                apply Exists.intro
                refine And.intro ?_ ?_
                · intro w1 hw1
                  try go_simp
                  try rfl
                try go_simp
                refine hK _ ?_
                clear hK K
                refine qWalk_step ?_
                intro K hK
                go_simp
                apply Exists.intro
                refine And.intro ?_ ?_
                · intro w1 hw1
                  obtain ⟨hc, hf, hz⟩ := hw1.facts
                  try simp at hz
                  try go_simp
                  try rfl
                try go_simp
                refine hK _ ?_
                clear hK K
                refine qWalk_step ?_
                intro K hK
                go_simp
                apply Exists.intro
                refine And.intro ?_ ?_
                · intro w1 hw1
                  try go_simp
                  try rfl
                try go_simp
                refine hK _ ?_
                clear hK K
                refine qWalk_step ?_
                intro K hK
                go_simp
                apply Exists.intro
                refine And.intro ?_ ?_
                · intro w1 hw1
                  try go_simp
                  try rfl
                try go_simp
                refine hK _ ?_
                clear hK K
                refine qWalk_step ?_
                intro K hK
                go_simp
                apply Exists.intro
                refine And.intro ?_ ?_
                · intro w1 hw1
                  try go_simp
                  try rfl
                try go_simp
                refine hK _ ?_
                clear hK K
                refine qWalk_step ?_
                intro K hK
                go_simp
                apply Exists.intro
                refine And.intro ?_ ?_
                · intro w1 hw1
                  try go_simp
                  try rfl
                try go_simp
                refine hK _ ?_
                clear hK K
                refine qWalk_step ?_
                intro K hK
                go_simp
                apply Exists.intro
                refine And.intro ?_ ?_
                · intro w1 hw1
                  obtain ⟨hc, hf, hz⟩ := hw1.facts
                  try simp at hz
                  try go_simp
                  try rfl
                try go_simp
                refine hK _ ?_
                clear hK K
                refine qWalk_step ?_
                intro K hK
                go_simp
                apply Exists.intro
                refine And.intro ?_ ?_
                · intro w1 hw1
                  try go_simp
                  try rfl
                try go_simp
                refine hK _ ?_
                clear hK K
                refine qWalk_step ?_
                intro K hK
                go_simp
                apply Exists.intro
                refine And.intro ?_ ?_
                · intro w1 hw1
                  obtain ⟨hc, hf, hz⟩ := hw1.facts
                  try simp at hz
                  try go_simp
                  try rfl
                try go_simp
                refine hK _ ?_
                clear hK K
                refine qWalk_step ?_
                intro K hK
                go_simp
                apply Exists.intro
                refine And.intro ?_ ?_
                · intro w1 hw1
                  try go_simp
                  try rfl
                try go_simp
                refine hK _ ?_
                clear hK K
                refine qWalk_step ?_
                intro K hK
                go_simp
                apply Exists.intro
                refine And.intro ?_ ?_
                · intro w1 hw1
                  try go_simp
                  try rfl
                try go_simp
                refine hK _ ?_
                clear hK K
                refine qWalk_step ?_
                intro K hK
                go_simp
                apply Exists.intro
                refine And.intro ?_ ?_
                · intro w1 hw1
                  try go_simp
                  try rfl
                try go_simp
                refine hK _ ?_
                clear hK K
                refine qWalk_step ?_
                intro K hK
                go_simp
                apply Exists.intro
                refine And.intro ?_ ?_
                · intro w1 hw1
                  try go_simp
                  try rfl
                try go_simp
                refine hK _ ?_
                clear hK K
                refine qWalk_step ?_
                intro K hK
                go_simp
                apply Exists.intro
                refine And.intro ?_ ?_
                · intro w1 hw1
                  obtain ⟨hc, hf, hz⟩ := hw1.facts
                  try simp at hz
                  try go_simp
                  try rfl
                try go_simp
                refine hK _ ?_
                clear hK K
                refine qWalk_step ?_
                intro K hK
                go_simp
                apply Exists.intro
                refine And.intro ?_ ?_
                · intro w1 hw1
                  try go_simp
                  try rfl
                try go_simp
                refine hK _ ?_
                clear hK K
                refine qWalk_step ?_
                intro K hK
                go_simp
                apply Exists.intro
                refine And.intro ?_ ?_
                · intro w1 hw1
                  obtain ⟨hc, hf, hz⟩ := hw1.facts
                  try simp at hz
                  try go_simp
                  try rfl
                try go_simp
                refine hK _ ?_
                clear hK K
                refine qWalk_step ?_
                intro K hK
                go_simp
                apply Exists.intro
                refine And.intro ?_ ?_
                · intro w1 hw1
                  try go_simp
                  try rfl
                try go_simp
                refine hK _ ?_
                clear hK K
                refine qWalk_step ?_
                intro K hK
                go_simp
                apply Exists.intro
                refine And.intro ?_ ?_
                · intro w1 hw1
                  try go_simp
                  try rfl
                try go_simp
                refine hK _ ?_
                clear hK K
                refine qWalk_step ?_
                intro K hK
                go_simp
                apply Exists.intro
                refine And.intro ?_ ?_
                · intro w1 hw1
                  try go_simp
                  try rfl
                try go_simp
                refine hK _ ?_
                clear hK K
                refine qWalk_step ?_
                intro K hK
                go_simp
                apply Exists.intro
                refine And.intro ?_ ?_
                · intro w1 hw1
                  try go_simp
                  try rfl
                try go_simp
                refine hK _ ?_
                clear hK K
                refine qWalk_step ?_
                intro K hK
                go_simp
                apply Exists.intro
                refine And.intro ?_ ?_
                · intro w1 hw1
                  obtain ⟨hc, hf, hz⟩ := hw1.facts
                  try simp at hz
                  try go_simp
                  try rfl
                try go_simp
                refine hK _ ?_
                clear hK K
                refine qWalk_step ?_
                intro K hK
                go_simp
                apply Exists.intro
                refine And.intro ?_ ?_
                · intro w1 hw1
                  try go_simp
                  try rfl
                try go_simp
                refine hK _ ?_
                clear hK K
                refine qWalk_step ?_
                intro K hK
                go_simp
                apply Exists.intro
                refine And.intro ?_ ?_
                · intro w1 hw1
                  obtain ⟨hc, hf, hz⟩ := hw1.facts
                  try simp at hz
                  try go_simp
                  try rfl
                try go_simp
                refine hK _ ?_
                clear hK K
                refine qWalk_step ?_
                intro K hK
                go_simp
                apply Exists.intro
                refine And.intro ?_ ?_
                · intro w1 hw1
                  try go_simp
                  try rfl
                try go_simp
                refine hK _ ?_
                clear hK K
                refine qWalk_step ?_
                intro K hK
                go_simp
                apply Exists.intro
                refine And.intro ?_ ?_
                · intro w1 hw1
                  try go_simp
                  try rfl
                try go_simp
                refine hK _ ?_
                clear hK K
                refine qWalk_step ?_
                intro K hK
                go_simp
                apply Exists.intro
                refine And.intro ?_ ?_
                · intro w1 hw1
                  try go_simp
                  try rfl
                try go_simp
                refine hK _ ?_
                clear hK K
                refine qWalk_step ?_
                intro K hK
                go_simp
                apply Exists.intro
                refine And.intro ?_ ?_
                · intro w1 hw1
                  try go_simp
                  try rfl
                try go_simp
                refine hK _ ?_
                clear hK K
                refine qWalk_step ?_
                intro K hK
                go_simp
                apply Exists.intro
                refine And.intro ?_ ?_
                · intro w1 hw1
                  try go_simp
                  try rfl
                try go_simp
                refine hK _ ?_
                clear hK K
                refine qWalk_step ?_
                intro K hK
                go_simp
                apply Exists.intro
                refine And.intro ?_ ?_
                · intro w1 hw1
                  try go_simp
                  try rfl
                try go_simp
                refine hK _ ?_
                clear hK K
                refine qWalk_step ?_
                intro K hK
                go_simp
                apply Exists.intro
                refine And.intro ?_ ?_
                · intro w1 hw1
                  obtain ⟨hc, hf, hz⟩ := hw1.facts
                  try simp at hz
                  try go_simp
                  try rfl
                try go_simp
                refine hK _ ?_
                clear hK K
                refine qWalk_step ?_
                intro K hK
                go_simp
                apply Exists.intro
                refine And.intro ?_ ?_
                · intro w1 hw1
                  try go_simp
                  try rfl
                try go_simp
                refine hK _ ?_
                clear hK K
                refine qWalk_step ?_
                intro K hK
                go_simp
                apply Exists.intro
                refine And.intro ?_ ?_
                · intro w1 hw1
                  obtain ⟨hc, hf, hz⟩ := hw1.facts
                  try simp at hz
                  try go_simp
                  try rfl
                try go_simp
                refine hK _ ?_
                clear hK K
                refine qWalk_step ?_
                intro K hK
                go_simp
                apply Exists.intro
                refine And.intro ?_ ?_
                · intro w1 hw1
                  try go_simp
                  try rfl
                try go_simp
                refine hK _ ?_
                clear hK K
                refine qWalk_step ?_
                intro K hK
                go_simp
                apply Exists.intro
                refine And.intro ?_ ?_
                · intro w1 hw1
                  try go_simp
                  try rfl
                try go_simp
                refine hK _ ?_
                clear hK K
                refine qWalk_step ?_
                intro K hK
                go_simp
                apply Exists.intro
                refine And.intro ?_ ?_
                · intro w1 hw1
                  try go_simp
                  try rfl
                try go_simp
                refine hK _ ?_
                clear hK K
                refine qWalk_step ?_
                intro K hK
                go_simp
                apply Exists.intro
                refine And.intro ?_ ?_
                · intro w1 hw1
                  try go_simp
                  try rfl
                try go_simp
                refine hK _ ?_
                clear hK K
                refine qWalk_step ?_
                intro K hK
                go_simp
                apply Exists.intro
                refine And.intro ?_ ?_
                · intro w1 hw1
                  try go_simp
                  try rfl
                try go_simp
                refine hK _ ?_
                clear hK K
                refine qWalk_step ?_
                intro K hK
                go_simp
                apply Exists.intro
                refine And.intro ?_ ?_
                · intro w1 hw1
                  try go_simp
                  try rfl
                try go_simp
                refine hK _ ?_
                clear hK K
                refine qWalk_step ?_
                intro K hK
                go_simp
                apply Exists.intro
                refine And.intro ?_ ?_
                · intro w1 hw1
                  try go_simp
                  try rfl
                try go_simp
                refine hK _ ?_
                clear hK K
                refine qWalk_step ?_
                intro K hK
                go_simp
                apply Exists.intro
                refine And.intro ?_ ?_
                · intro w1 hw1
                  try go_simp
                  try rfl
                try go_simp
                refine hK _ ?_
                clear hK K
                refine qWalk_step ?_
                intro K hK
                go_simp
                apply Exists.intro
                refine And.intro ?_ ?_
                · intro w1 hw1
                  try go_simp
                  try rfl
                try go_simp
                refine hK _ ?_
                clear hK K
                refine qWalk_step ?_
                intro K hK
                go_simp
                apply Exists.intro
                refine And.intro ?_ ?_
                · intro w1 hw1
                  try go_simp
                  try rfl
                try go_simp
                refine hK _ ?_
                clear hK K
                refine qWalk_step ?_
                intro K hK
                go_simp
                apply Exists.intro
                refine And.intro ?_ ?_
                · intro w1 hw1
                  try go_simp
                  try rfl
                try go_simp
                refine hK _ ?_
                clear hK K
                refine qWalk_step ?_
                intro K hK
                go_simp
                apply Exists.intro
                refine And.intro ?_ ?_
                · intro w1 hw1
                  obtain ⟨hc, hf, hz⟩ := hw1.facts
                  try simp at hz
                  try go_simp
                  try rfl
                try go_simp
                refine hK _ ?_
                clear hK K
                refine qWalk_step ?_
                intro K hK
                go_simp
                apply Exists.intro
                refine And.intro ?_ ?_
                · intro w1 hw1
                  try go_simp
                  try rfl
                try go_simp
                refine hK _ ?_
                clear hK K
                refine qWalk_step ?_
                intro K hK
                go_simp
                apply Exists.intro
                refine And.intro ?_ ?_
                · intro w1 hw1
                  obtain ⟨hc, hf, hz⟩ := hw1.facts
                  try simp at hz
                  try go_simp
                  try rfl
                try go_simp
                refine hK _ ?_
                clear hK K
                refine qWalk_step ?_
                intro K hK
                go_simp
                apply Exists.intro
                refine And.intro ?_ ?_
                · intro w1 hw1
                  try go_simp
                  try rfl
                try go_simp
                refine hK _ ?_
                clear hK K
                refine qWalk_step ?_
                intro K hK
                go_simp
                apply Exists.intro
                refine And.intro ?_ ?_
                · intro w1 hw1
                  try go_simp
                  try rfl
                try go_simp
                refine hK _ ?_
                clear hK K
                refine qWalk_step ?_
                intro K hK
                go_simp
                apply Exists.intro
                refine And.intro ?_ ?_
                · intro w1 hw1
                  try go_simp
                  try rfl
                try go_simp
                refine hK _ ?_
                clear hK K
                refine qWalk_step ?_
                intro K hK
                go_simp
                apply Exists.intro
                refine And.intro ?_ ?_
                · intro w1 hw1
                  try go_simp
                  try rfl
                try go_simp
                refine hK _ ?_
                clear hK K
                refine qWalk_step ?_
                intro K hK
                go_simp
                apply Exists.intro
                refine And.intro ?_ ?_
                · intro w1 hw1
                  obtain ⟨hc, hf, hz⟩ := hw1.facts
                  try simp at hz
                  try go_simp
                  try rfl
                try go_simp
                refine hK _ ?_
                clear hK K
                refine qWalk_step ?_
                intro K hK
                go_simp
                apply Exists.intro
                refine And.intro ?_ ?_
                · intro w1 hw1
                  obtain ⟨hc, hf, hz⟩ := hw1.facts
                  try simp at hz
                  try go_simp
                  try rfl
                try go_simp
                refine hK _ ?_
                clear hK K
                refine qWalk_step ?_
                intro K hK
                go_simp
                apply Exists.intro
                refine And.intro ?_ ?_
                · intro w1 hw1
                  try go_simp
                  exact up_call hw1 (L3.out _)
                try go_simp
                refine hK _ ?_
                clear hK K
                refine qWalk_step ?_
                intro K hK
                go_simp
                apply Exists.intro
                refine And.intro ?_ ?_
                · intro w1 hw1
                  try go_simp
                  try rfl
                try go_simp
                refine hK _ ?_
                clear hK K
                refine qWalk_step ?_
                intro K hK
                go_simp
                apply Exists.intro
                refine And.intro ?_ ?_
                · intro w1 hw1
                  try go_simp
                  try rfl
                try go_simp
                refine hK _ ?_
                clear hK K
                refine qWalk_nil ?_
                intro wA uA
                have UR := Lib.hid (UR.out.trans uA)
                clear uA
                clear f1 f2 f3 f4 f5 f3b f4b f6 i1 i2 i3 i3b v3 z0 z1 z2 z3 z4 z5 O3 L3
                go_wp2
                go_roundw
                case rel => exact ⟨j1 + 1 + 1, by first | go_num | simp, by omega, UR.out⟩
                case measure => simp [intOf]; omega
            · have lt1 : ¬ (j : Int) < L1.length := by omega
              have U := Lib.hid (U.out.trans UR.out)
              have MV8 := MV1.out.up U.out
              obtain ⟨bA, off, hA, hbA, hcell⟩ := MV8.rules.2.2 (by omega)
              subst hA
              obtain ⟨A', n', c', hc8, hR⟩ := hcell tn htn
              generalize m.rules.getD tn [] = rs at NR hR
              have LEN := hR.1
              have hnb := hR.2.1
              have RA := Lib.hid hR.2.2
              have NRH := Lib.hid NR
              have hrl : rs.length ≤ n' ∧ n' ≤ rs.length := by omega
              have HC8 := Lib.hid hc8
              clear MV8 hcell hR LEN hc8 NR E4r UR
              go_wp2_with fail
              go_loopw [12] (fun i wx => LineR ekd rs wr i wx) (fun i _ => n' + 1 - (intOf i).toNat)
              case atStart => exact ⟨0, rfl, by omega, rfl, Up.refl _⟩
              case round =>
                obtain ⟨q, rfl, hq, hro, ur⟩ := hrel
                have HRO := Lib.hid hro
                have UR := Lib.hid ur
                have hcr := (ur.cells _ _ hbA).trans HC8.out
                have B3 := Lib.hid (B3.out.up UR.out)
                have B4 := Lib.hid (B4.out.up UR.out)
                have B5 := Lib.hid (B5.out.up UR.out)
                have B6 := Lib.hid (B6.out.up UR.out)
                clear m0 m1 m2 c0 c1 c2 e0 e1 e2 e3 e4 e5 x0 x1 x2 lt3_ lt4_ lt5_ lt6_
                obtain ⟨m0, m1, m2⟩ := And.intro (B3.out.cell (j := 0) rfl) (And.intro (B3.out.cell (j := 1) rfl) (B3.out.cell (j := 2) rfl))
                obtain ⟨c0, c1, c2⟩ := And.intro (B4.out.cell (j := 0) rfl) (And.intro (B4.out.cell (j := 1) rfl) (B4.out.cell (j := 2) rfl))
                obtain ⟨e0, e1, e2⟩ := And.intro (B5.out.cell (j := 0) rfl) (And.intro (B5.out.cell (j := 1) rfl) (B5.out.cell (j := 2) rfl))
                obtain ⟨e3, e4, e5⟩ := And.intro (B5.out.cell (j := 3) rfl) (And.intro (B5.out.cell (j := 4) rfl) (B5.out.cell (j := 5) rfl))
                obtain ⟨x0, x1, x2⟩ := And.intro (B6.out.cell (j := 0) rfl) (And.intro (B6.out.cell (j := 1) rfl) (B6.out.cell (j := 2) rfl))
                have lt3_ := B3.out.lt
                have lt4_ := B4.out.lt
                have lt5_ := B5.out.lt
                have lt6_ := B6.out.lt
                have hbr : bA < wr.heap.size := by have := ur.size; omega
                clear hro ur
                by_cases hlq : q < n'
                · have lq1 : (q : Int) < n' := by omega
                  obtain ⟨b', off', hA', hb', hat⟩ := RA.out (by omega)
                  subst hA'
                  obtain ⟨As, ns, cs, ⟨g0, g1, g2, g3, g4⟩, hns, hE⟩ := hat q hlq
                  have DR := ruleOf_drop ekd rs q (by omega)
                  generalize rs.getD q default = rr at g0 g1 g2 g3 hE DR
                  obtain ⟨rk, ra, rb, rc, rsn⟩ := rr
                  dsimp only at g0 g1 g2 g3 DR
                  have g0 := (UR.out.cells _ _ hb').trans g0
                  have hbr' : b' < wr.heap.size := by have := UR.out.size; omega
                  clear hat hE g1 g2 g3 g4
                  have DRH := Lib.hid DR
                  clear DR
                  go_wp2_with fail
                  refine region_qw (by kernel_rfl) (by kernel_rfl) ?_
                  refine qWalk_step ?_
                  intro K hK
                  go_simp
                  apply Exists.intro
                  refine And.intro ?_ ?_
                  · intro w1 hw1
                    try go_simp
                    try rfl
                  try go_simp
                  refine hK _ ?_
                  clear hK K
                  refine qWalk_step ?_
                  intro K hK
                  go_simp
                  apply Exists.intro
                  refine And.intro ?_ ?_
                  · intro w1 hw1
                    obtain ⟨hc, hf, hz⟩ := hw1.facts
                    try simp at hz
                    try go_simp
                    try rfl
                  try go_simp
                  refine hK _ ?_
                  clear hK K
                  refine qWalk_step ?_
                  intro K hK
                  go_simp
                  apply Exists.intro
                  refine And.intro ?_ ?_
                  · intro w1 hw1
                    try go_simp
                    try rfl
                  try go_simp
                  refine hK _ ?_
                  clear hK K
                  refine qWalk_step ?_
                  intro K hK
                  go_simp
                  apply Exists.intro
                  refine And.intro ?_ ?_
                  · intro w1 hw1
                    obtain ⟨hc, hf, hz⟩ := hw1.facts
                    try simp at hz
                    try go_simp
                    try rfl
                  try go_simp
                  refine hK _ ?_
                  clear hK K
                  refine qWalk_step ?_
                  intro K hK
                  go_simp
                  apply Exists.intro
                  refine And.intro ?_ ?_
                  · intro w1 hw1
                    try go_simp
                    try rfl
                  try go_simp
                  refine hK _ ?_
                  clear hK K
                  refine qWalk_step ?_
                  intro K hK
                  go_simp
                  apply Exists.intro
                  refine And.intro ?_ ?_
                  · intro w1 hw1
                    obtain ⟨hc, hf, hz⟩ := hw1.facts
                    try simp at hz
                    try go_simp
                    try rfl
                  try go_simp
                  refine hK _ ?_
                  clear hK K
                  refine qWalk_step ?_
                  intro K hK
                  go_simp
                  apply Exists.intro
                  refine And.intro ?_ ?_
                  · intro w1 hw1
                    try go_simp
                    try rfl
                  try go_simp
                  refine hK _ ?_
                  clear hK K
                  refine qWalk_step ?_
                  intro K hK
                  go_simp
                  apply Exists.intro
                  refine And.intro ?_ ?_
                  · intro w1 hw1
                    try go_simp
                    try rfl
                  try go_simp
                  refine hK _ ?_
                  clear hK K
                  refine qWalk_step ?_
                  intro K hK
                  go_simp
                  apply Exists.intro
                  refine And.intro ?_ ?_
                  · intro w1 hw1
                    try go_simp
                    try rfl
                  try go_simp
                  refine hK _ ?_
                  clear hK K
                  refine qWalk_step ?_
                  intro K hK
                  go_simp
                  apply Exists.intro
                  refine And.intro ?_ ?_
                  · intro w1 hw1
                    obtain ⟨hc, hf, hz⟩ := hw1.facts
                    try simp at hz
                    try go_simp
                    try rfl
                  try go_simp
                  refine hK _ ?_
                  clear hK K
                  refine qWalk_step ?_
                  intro K hK
                  go_simp
                  apply Exists.intro
                  refine And.intro ?_ ?_
                  · intro w1 hw1
                    try go_simp
                    try rfl
                  try go_simp
                  refine hK _ ?_
                  clear hK K
                  refine qWalk_step ?_
                  intro K hK
                  go_simp
                  apply Exists.intro
                  refine And.intro ?_ ?_
                  · intro w1 hw1
                    obtain ⟨hc, hf, hz⟩ := hw1.facts
                    try simp at hz
                    try go_simp
                    try rfl
                  try go_simp
                  refine hK _ ?_
                  clear hK K
                  refine qWalk_step ?_
                  intro K hK
                  go_simp
                  apply Exists.intro
                  refine And.intro ?_ ?_
                  · intro w1 hw1
                    try go_simp
                    try rfl
                  try go_simp
                  refine hK _ ?_
                  clear hK K
                  refine qWalk_nil ?_
                  intro wA uA
                  have UR := Lib.hid (UR.out.trans uA)
                  clear g0 hcr uA
                  by_cases hk : rk = ekd
                  · have hkb : (rk == ekd) = true := by simp [hk]
                    clear hk
                    go_wp2
                    go_ret
                    exact ⟨rfl, u1.trans (U.out.trans UR.out)⟩
                  · have DR' := Lib.hid (show ruleOf ekd (rs.drop q) = ruleOf ekd (rs.drop (q + 1)) by rw [DRH.out, if_neg hk])
                    have hkb : (rk == ekd) = false := by simp [hk]
                    clear hk
                    go_wp2_with fail
                    go_roundw
                    case rel => exact ⟨q + 1, by go_num, by omega, by rw [← DR'.out]; exact HRO.out, UR.out⟩
                    case measure => simp [intOf]; omega
                · have lq1 : ¬ (q : Int) < n' := by omega
                  have hn0 : ruleOf ekd rs = none := by rw [← HRO.out, List.drop_eq_nil_of_le (by omega)]; rfl
                  obtain ⟨rfl, rfl⟩ := NRH.out hn0
                  clear hn0
                  go_wp2
                  go_ret
                  exact ⟨rfl, u1.trans (U.out.trans UR.out)⟩
        · have hz := HD.out.no (by rw [HMB.out]; simp [hle])
          simp only [Prod.mk.injEq, Cst.mk.injEq] at hz
          obtain ⟨⟨rfl, rfl, rfl⟩, rfl⟩ := hz
          have qq := QQ1.out
          have gd := GD.out
          go_wp2_with fail
          refine (tbOk_any _).mono ?_
          rintro x w9 ⟨rfl, u9⟩
          go_wp2
          go_ret
          exact ⟨rfl, u1.trans (U.out.trans u9)⟩

end Go.Proofs.Ytojplcbennfifaa

/-
  What times, plus and next return, in one sentence: the product, the sum and the next state modulo 97; for numbers in bounds.
  Which items are valid, in one sentence: what itemOk, itemFor, its closure, every and itemsFor return; for every machine and every list that lies in memory.
  What both HstOk compute, in one sentence: two ways to say that a host is valid agree; no condition is made.
  What l4Item returns, in one sentence: whether the item is one of the model; for every model and item.
-/
import Derived.Test.YtlkmhmiamdbhcabGreatDLElst01
import Derived.Test.YtlkmhmiamdbhcabGreatDLElst02
import Derived.Test.YtlkmhmiamdbhcabGreatDLElst05
import Derived.Test.YtlkmhmiamdbhcabGreatDLElst07
import Derived.Test.YtlkmhmiamdbhcabGreatDLElst11
import Derived.Test.YtlkmhmiamdbhcabGreatDLElst12
namespace Go.Proofs.YtlkmhmiamdbhcabGreat
set_option maxRecDepth 100000
open Go.RowKit
theorem times_any (x y : Int) (hx : 0 ≤ x ∧ x ≤ 96) (hy : 0 ≤ y ∧ y ≤ 96) (w : World) :
    Calls Tryz.prog 162 #[.int .i64 x, .int .i64 y] w fun z w' => z = .returned (.int .i64 (x * y % 97)) ∧ w = w' := by
  have h0 : 0 ≤ x * y := Int.mul_nonneg hx.1 hy.1
  have h1 : x * y ≤ 96 * 96 := Int.mul_le_mul hx.2 hy.2 hy.1 (by omega)
  have i1 : IntKind.i64.wrap (x * y) = x * y := IntWalk.i64_in _ (by omega)
  have i2 : (x * y).tmod 97 = x * y % 97 := Int.tmod_eq_emod_of_nonneg h0
  have i3 : IntKind.i64.wrap (x * y % 97) = x * y % 97 := IntWalk.i64_in _ (by omega)
  go_enter Tryz.func162, Tryz.ntmps162
  go_wp2; go_ret
  exact ⟨by first | rfl | simp [*], rfl⟩
theorem plus_any (x y : Int) (hx : 0 ≤ x ∧ x ≤ 1000) (hy : 0 ≤ y ∧ y ≤ 1000) (w : World) :
    Calls Tryz.prog 163 #[.int .i64 x, .int .i64 y] w fun z w' => z = .returned (.int .i64 ((x + y) % 97)) ∧ w = w' := by
  have h0 : 0 ≤ x + y := by omega
  have i1 : IntKind.i64.wrap (x + y) = x + y := IntWalk.i64_in _ (by omega)
  have i2 : (x + y).tmod 97 = (x + y) % 97 := Int.tmod_eq_emod_of_nonneg h0
  have i3 : IntKind.i64.wrap ((x + y) % 97) = (x + y) % 97 := IntWalk.i64_in _ (by omega)
  go_enter Tryz.func163, Tryz.ntmps163
  go_wp2; go_ret
  exact ⟨by first | rfl | simp [*], rfl⟩
theorem plus_up (x y : Int) (hx : 0 ≤ x ∧ x ≤ 1000) (hy : 0 ≤ y ∧ y ≤ 1000) (w : World) :
    Calls Tryz.prog 163 #[.int .i64 x, .int .i64 y] w fun z w' => z = .returned (.int .i64 ((x + y) % 97)) ∧ Up w w' :=
  (plus_any x y hx hy w).mono (by rintro z w' ⟨rfl, rfl⟩; exact ⟨rfl, Up.refl _⟩)
theorem next_eq (a b c s d : Int) : ((a * s % 97 + b * d % 97) % 97 + c) % 97 = (a * s + b * d + c) % 97 := by
  generalize a * s = x
  generalize b * d = y
  omega
set_option maxHeartbeats 2000000 in
theorem next_any (r : Rule) (S : Value) (s d : Int) (ha : 0 ≤ r.a ∧ r.a ≤ 96) (hb : 0 ≤ r.b ∧ r.b ≤ 96) (hc : 0 ≤ r.c ∧ r.c ≤ 96) (hs : 0 ≤ s ∧ s ≤ 96) (hd : 0 ≤ d ∧ d ≤ 96) (w : World) (n c : Nat) (A : Option Addr) (hS : S = .slice A n c) :
    Calls Tryz.prog 155 #[r.v S, .int .i64 s, .int .i64 d] w fun z w' => z = .returned (.int .i64 ((r.a * s + r.b * d + r.c) % 97)) ∧ Up w w' := by
  obtain ⟨kd, ra, rb, rc, es⟩ := r; subst hS; dsimp only at ha hb hc ⊢
  have NE := Lib.hid (next_eq ra rb rc s d)
  have T1 := Lib.hid (fun W => times_any ra s ha hs W)
  have T2 := Lib.hid (fun W => times_any rb d hb hd W)
  have p1 : 0 ≤ ra * s % 97 ∧ ra * s % 97 ≤ 1000 := by omega
  have p2 : 0 ≤ rb * d % 97 ∧ rb * d % 97 ≤ 1000 := by omega
  generalize ra * s % 97 = x at T1 NE p1
  generalize rb * d % 97 = y at T2 NE p2
  generalize (ra * s + rb * d + rc) % 97 = res at NE ⊢
  have P1 := Lib.hid (fun W => plus_up x y p1 p2 W)
  have p3 : 0 ≤ (x + y) % 97 ∧ (x + y) % 97 ≤ 1000 := by omega
  generalize (x + y) % 97 = z at P1 NE p3
  have P2 := Lib.hid (fun W => plus_up z rc p3 ⟨hc.1, by omega⟩ W)
  rw [NE.out] at P2
  have B5 := Lib.hid (Box5.new w (.int .i64 kd) (.int .i64 ra) (.int .i64 rb) (.int .i64 rc) (.slice A n c) 161)
  have u0 := Lib.hid ((Up.refl w).alloc (.cells #[.int .i64 kd, .int .i64 ra, .int .i64 rb, .int .i64 rc, .slice A n c] 161))
  unfold Rule.v; dsimp only
  go_enter Tryz.func155, Tryz.ntmps155
  go_wp2_with fail
  refine (T1.out _).mono ?_; rintro v w1 ⟨rfl, rfl⟩
  go_wp2_with fail
  refine (T2.out _).mono ?_; rintro v w1 ⟨rfl, rfl⟩
  go_wp2_with fail
  refine region_qw (by kernel_rfl) (by kernel_rfl) ?_; refine qWalk_step ?_; intro K hK; go_simp; apply Exists.intro; refine And.intro ?_ ?_
  · intro w1 hw1
    try go_simp
    try rfl
  try go_simp
  refine hK _ ?_; clear hK K; refine qWalk_step ?_; intro K hK; go_simp; apply Exists.intro; refine And.intro ?_ ?_
  · intro w1 hw1
    try go_simp
    try rfl
  try go_simp
  refine hK _ ?_; clear hK K; refine qWalk_step ?_; intro K hK; go_simp; apply Exists.intro; refine And.intro ?_ ?_
  · intro w1 hw1
    try go_simp
    exact up_call hw1 (P1.out _)
  try go_simp
  refine hK _ ?_; clear hK K; refine qWalk_step ?_; intro K hK; go_simp; apply Exists.intro; refine And.intro ?_ ?_
  · intro w1 hw1
    try go_simp
    try rfl
  try go_simp
  refine hK _ ?_; clear hK K; refine qWalk_step ?_; intro K hK; go_simp; apply Exists.intro; refine And.intro ?_ ?_
  · intro w1 hw1
    obtain ⟨hc, hf, hz⟩ := hw1.facts
    try simp at hz
    try go_simp
    try rfl
  try go_simp
  refine hK _ ?_; clear hK K; refine qWalk_step ?_; intro K hK; go_simp; apply Exists.intro; refine And.intro ?_ ?_
  · intro w1 hw1
    try go_simp
    exact up_call hw1 (P2.out _)
  try go_simp
  refine hK _ ?_; clear hK K; refine qWalk_step ?_; intro K hK; go_simp; apply Exists.intro; refine And.intro ?_ ?_
  · intro w1 hw1
    try go_simp
    try rfl
  try go_simp
  refine hK _ ?_; clear hK K; refine qWalk_nil ?_; intro wA uA
  have U := Lib.hid (u0.out.trans uA)
  clear uA; go_wp2; go_ret
  exact ⟨rfl, U.out⟩
/-- What takes says of an event, in a machine of so many components and that end. -/
theorem takes_any (M : Value) (many til : Int) (e : Evt) (mp : Option Nat) (hM : M = .agg #[.map mp, .int .i64 many, .int .i64 til]) (w : World) :
    Calls Tryz.prog 138 #[M, e.v] w fun z w' => z = .returned (.bool (okB e many && decide (e.t ≤ til))) ∧ Up w w' := by
  subst hM
  have OC := Lib.hid (fun W => implOk_any e many W)
  generalize okB e many = b at OC ⊢
  obtain ⟨et, eto, efr, esq, ekd, edt⟩ := e
  have X3 := Lib.hid ((Box3.new w (.map mp) (.int .i64 many) (.int .i64 til) 125).up ((Up.refl _).alloc (.cells #[.int .i64 et, .int .i64 eto, .int .i64 efr, .int .i64 esq, .int .i64 ekd, .int .i64 edt] 88)))
  unfold Evt.v at OC ⊢; dsimp only at OC ⊢
  go_enter Tryz.func138, Tryz.ntmps138
  go_wp2_with fail
  refine (OC.out _).mono ?_; rintro v w1 ⟨rfl, u1⟩
  have x3 := X3.out.up u1
  have x5 := (Box.new (w.alloc (.cells #[.map mp, .int .i64 many, .int .i64 til] 125)) ⟨et, eto, efr, esq, ekd, edt⟩ 88).up u1
  simp only [World.size_alloc] at x5; obtain ⟨b0, b1, b2⟩ := And.intro x3.c0 (And.intro x3.c1 x3.c2); obtain ⟨⟨y0, y1, y2, y3, y4, y5⟩, -⟩ := x5.mk6
  have U := Lib.hid ((((Up.refl w).alloc (.cells #[.map mp, .int .i64 many, .int .i64 til] 125)).alloc (.cells #[.int .i64 et, .int .i64 eto, .int .i64 efr, .int .i64 esq, .int .i64 ekd, .int .i64 edt] 88)).trans u1)
  clear x3 x5 u1
  cases b
  · go_wp2
    go_ret
    exact ⟨rfl, U.out⟩
  · go_wp2
    go_ret
    exact ⟨by simp, U.out⟩
end Go.Proofs.YtlkmhmiamdbhcabGreat

namespace Go.Proofs.YtlkmhmiamdbhcabGreat
set_option maxRecDepth 100000
open Go.RowKit
/-- Is an item one of a model? -/
def itemB (many til : Int) (r : Rec) : Bool := takB many til r.ev && (inB r.s 0 9998 && (!decide (r.ev.fr = -1) || decide (r.s = 0)))
/-- And for this component? -/
def itemForB (many til comp : Int) (r : Rec) : Bool := itemB many til r && decide (r.ev.to = comp)
set_option maxHeartbeats 4000000 in
theorem itemOk_any (mp : Option Nat) (many til : Int) (r : Rec) (w : World) :
    Calls Tryz.prog 126 #[.agg #[.map mp, .int .i64 many, .int .i64 til], r.v] w fun z w' => z = .returned (.bool (itemB many til r)) ∧ Up w w' := by
  have CT := Lib.hid (fun W => takes_any (.agg #[.map mp, .int .i64 many, .int .i64 til]) many til r.ev mp rfl W)
  unfold itemB takB
  generalize (okB r.ev many && decide (r.ev.t ≤ til)) = b at CT ⊢
  obtain ⟨⟨et, eto, efr, esq, ekd, edt⟩, s⟩ := r; unfold Rec.v; unfold Evt.v at CT; dsimp only at CT ⊢
  have CW := Lib.hid (fun W => within_any s 0 9998 W)
  generalize inB s 0 9998 = b2 at CW ⊢
  have X1 := Lib.hid (Blk.new (w.alloc (.cells #[.map mp, .int .i64 many, .int .i64 til] 125)) #[.int .i64 et, .int .i64 eto, .int .i64 efr, .int .i64 esq, .int .i64 ekd, .int .i64 edt, .int .i64 s] 109)
  simp only [World.size_alloc] at X1
  have U := Lib.hid (((Up.refl w).alloc (.cells #[.map mp, .int .i64 many, .int .i64 til] 125)).alloc (.cells #[.int .i64 et, .int .i64 eto, .int .i64 efr, .int .i64 esq, .int .i64 ekd, .int .i64 edt, .int .i64 s] 109))
  by_cases hx : efr = -1
  · subst hx
    go_enter Tryz.func126, Tryz.ntmps126
    go_wp2_with fail
    refine (CT.out _).mono ?_; rintro v w1 ⟨rfl, u1⟩
    have X1 := Lib.hid (X1.out.up u1)
    have U := Lib.hid (U.out.trans u1)
    have z6 := X1.out.cell (j := 6) rfl
    have l1 := X1.out.lt
    clear u1
    cases b
    · go_wp2
      go_ret
      exact ⟨rfl, U.out⟩
    · go_wp2_with fail
      refine (CW.out _).mono ?_; rintro v w2 ⟨rfl, rfl⟩
      cases b2
      · go_wp2
        go_ret
        exact ⟨rfl, U.out⟩
      · go_wp2
        go_ret
        exact ⟨ret_bool (by first | (simp; done) | (simp; rfl)), U.out⟩
  · have HX := Lib.hid (decide_eq_false hx)
    go_enter Tryz.func126, Tryz.ntmps126
    go_wp2_with fail
    refine (CT.out _).mono ?_; rintro v w1 ⟨rfl, u1⟩
    have X1 := Lib.hid (X1.out.up u1)
    have U := Lib.hid (U.out.trans u1)
    have z6 := X1.out.cell (j := 6) rfl
    have l1 := X1.out.lt
    clear u1
    cases b
    · go_wp2
      go_ret
      exact ⟨rfl, U.out⟩
    · go_wp2_with fail
      refine (CW.out _).mono ?_; rintro v w2 ⟨rfl, rfl⟩
      cases b2
      · go_wp2
        go_ret
        exact ⟨rfl, U.out⟩
      · go_wp2
        go_ret
        exact ⟨ret_bool (by rw [HX.out]; rfl), U.out⟩
set_option maxHeartbeats 4000000 in
theorem itemFor_any (mp : Option Nat) (many til comp : Int) (r : Rec) (w : World) :
    Calls Tryz.prog 123 #[.agg #[.map mp, .int .i64 many, .int .i64 til], .int .i64 comp, r.v] w fun z w' => z = .returned (.bool (itemForB many til comp r)) ∧ Up w w' := by
  have CT := Lib.hid (fun W => itemOk_any mp many til r W)
  unfold itemForB
  generalize itemB many til r = b at CT ⊢
  obtain ⟨⟨et, eto, efr, esq, ekd, edt⟩, s⟩ := r; unfold Rec.v at CT ⊢; dsimp only at CT ⊢
  have X1 := Lib.hid (Blk.new (w.alloc (.cells #[.map mp, .int .i64 many, .int .i64 til] 125)) #[.int .i64 et, .int .i64 eto, .int .i64 efr, .int .i64 esq, .int .i64 ekd, .int .i64 edt, .int .i64 s] 109)
  simp only [World.size_alloc] at X1
  have U := Lib.hid (((Up.refl w).alloc (.cells #[.map mp, .int .i64 many, .int .i64 til] 125)).alloc (.cells #[.int .i64 et, .int .i64 eto, .int .i64 efr, .int .i64 esq, .int .i64 ekd, .int .i64 edt, .int .i64 s] 109))
  go_enter Tryz.func123, Tryz.ntmps123
  go_wp2_with fail
  refine (CT.out _).mono ?_; rintro v w1 ⟨rfl, u1⟩
  have X1 := Lib.hid (X1.out.up u1)
  have U := Lib.hid (U.out.trans u1)
  have z1 := X1.out.cell (j := 1) rfl
  have l1 := X1.out.lt
  clear u1
  cases b
  · go_wp2
    go_ret
    exact ⟨rfl, U.out⟩
  · go_wp2
    go_ret
    exact ⟨ret_bool (by first | (simp; done) | (simp; rfl)), U.out⟩
set_option maxHeartbeats 4000000 in
theorem itemsFor1_any (mp : Option Nat) (many til comp : Int) (r : Rec) (bM bC : Nat) (w : World) (hM : Blk w bM 125 #[.map mp, .int .i64 many, .int .i64 til]) (hC : Blk w bC 3 #[.int .i64 comp]) :
    Calls Tryz.prog 122 #[r.v, .pointer (some ⟨bM, 0, none⟩), .pointer (some ⟨bC, 0, none⟩)] w fun z w' => z = .returned (.bool (itemForB many til comp r)) ∧ Up w w' := by
  have CT := Lib.hid (fun W => itemFor_any mp many til comp r W)
  generalize itemForB many til comp r = b at CT ⊢
  obtain ⟨⟨et, eto, efr, esq, ekd, edt⟩, s⟩ := r; unfold Rec.v at CT ⊢; dsimp only at CT ⊢
  have U := Lib.hid ((Up.refl w).alloc (.cells #[.int .i64 et, .int .i64 eto, .int .i64 efr, .int .i64 esq, .int .i64 ekd, .int .i64 edt, .int .i64 s] 109))
  obtain ⟨m0, m1, m2⟩ := And.intro ((hM.up U.out).cell (j := 0) rfl) (And.intro ((hM.up U.out).cell (j := 1) rfl) ((hM.up U.out).cell (j := 2) rfl))
  have c0 := (hC.up U.out).cell (j := 0) rfl
  have lm := (hM.up U.out).lt
  have lc := (hC.up U.out).lt
  clear hM hC
  go_enter Tryz.func122, Tryz.ntmps122
  go_wp2_with fail
  refine (CT.out _).mono ?_; rintro v w1 ⟨rfl, u1⟩
  have U := Lib.hid (U.out.trans u1)
  clear u1 m0 m1 m2 c0 lm lc; go_wp2; go_ret
  exact ⟨rfl, U.out⟩
set_option maxHeartbeats 2000000 in
theorem everyI_any (A : Option Addr) (n cap : Nat) (xs : List Rec) (mp : Option Nat) (many til comp : Int) (bM bC : Nat) (w : World) (hn : n ≤ 4194304) (hE : Recs w A n xs) (hM : Blk w bM 125 #[.map mp, .int .i64 many, .int .i64 til]) (hC : Blk w bC 3 #[.int .i64 comp]) :
    Calls Tryz.prog 121 #[.slice A n cap, .func (.func 122) #[] #[.pointer (some ⟨bM, 0, none⟩), .pointer (some ⟨bC, 0, none⟩)]] w fun x w' => x = .returned (.bool (xs.all (itemForB many til comp))) ∧ Up w w' := by
  have AD := Lib.hid (fun k h => all_drop (f := itemForB many til comp) (d := default) xs k h)
  have AE := Lib.hid (fun k h => all_end (f := itemForB many til comp) xs k h)
  have CL := Lib.hid (fun x W (u : Up w W) => itemsFor1_any mp many til comp x bM bC W (hM.up u) (hC.up u))
  have HE := Lib.hid hE
  have LE := Lib.hid hE.1
  have H0 := Lib.hid (show (xs.drop 0).all (itemForB many til comp) = xs.all (itemForB many til comp) from rfl)
  generalize xs.all (itemForB many til comp) = res at H0 ⊢
  clear hE hM hC
  go_enter Tryz.func121, Tryz.ntmps121
  go_wp2
  go_loopw [9] (fun i wr => (∃ k : Nat, k ≤ n ∧ i = .int .i64 k ∧ Hid ((xs.drop k).all (itemForB many til comp) = res)) ∧ Up w wr) (fun i _ => n - (intOf i).toNat)
  case atStart => exact ⟨⟨0, by omega, rfl, H0⟩, Up.refl _⟩
  case round =>
    obtain ⟨⟨k, hk, rfl, HR⟩, ur⟩ := hrel
    by_cases hlt : k < n
    · obtain ⟨b, off, hA, hb, hc⟩ := HE.out.2 (by omega)
      subst hA
      have a0 := (hc k hlt).up ur hb
      have hb' : b < wr.heap.size := by have := ur.size; omega
      clear hc
      have S := AD.out k (by rw [LE.out]; exact hlt)
      have cl := CL.out (xs.getD k default)
      generalize xs.getD k default = p at a0 S cl
      generalize hfp : (itemForB many til comp) p = r at S cl
      have S' := Lib.hid S
      clear S hfp; unfold RecAt at a0; unfold Rec.v at cl; obtain ⟨p0, p1, p2, p3, p4, p5, p6⟩ := a0
      have C := Lib.hid cl
      clear cl
      have i4 : (k : Int) < n := by omega
      have UR := Lib.hid ur
      clear ur
      go_wp2_with fail
      refine (C.out _ (UR.out.alloc _)).mono ?_; rintro x wA ⟨rfl, uA⟩
      have UN := Lib.hid ((UR.out.alloc _).trans uA)
      clear uA
      cases r
      · have HF := Lib.hid (show res = false by rw [← HR.out, S'.out]; rfl)
        go_wp2; go_ret
        exact ⟨ret_bool HF.out.symm, UN.out⟩
      · have HN := Lib.hid (show (xs.drop (k + 1)).all (itemForB many til comp) = res by rw [← HR.out, S'.out]; rfl)
        go_wp2
        go_roundw
        case rel => exact ⟨⟨k + 1, by omega, by go_num, HN⟩, UN.out⟩
        case measure => simp [intOf]; omega
    · obtain rfl : k = n := by omega
      have i4 : ¬ (k : Int) < k := by omega
      have HT := Lib.hid (show res = true by rw [← HR.out]; exact AE.out k (by rw [LE.out]; omega))
      have UR := Lib.hid ur
      clear ur; go_wp2; go_ret
      exact ⟨ret_bool HT.out.symm, UR.out⟩
end Go.Proofs.YtlkmhmiamdbhcabGreat

namespace Go.Proofs.YtlkmhmiamdbhcabGreat
set_option maxRecDepth 100000
open Go.RowKit
theorem itemB_s (many til : Int) (r : Rec) : itemB many til r = (okB r.ev many && (decide (r.ev.t ≤ til) && (inB r.s 0 9998 && (decide (0 ≤ r.ev.fr) || decide (r.s = 0))))) := by
  unfold itemB takB
  cases h : okB r.ev many
  · simp
  · have h2 := h
    unfold okB at h2; simp only [Bool.and_eq_true, inB_iff] at h2
    have e : (!decide (r.ev.fr = -1)) = decide (0 ≤ r.ev.fr) := by
      rw [Bool.eq_iff_iff]; simp only [Bool.not_eq_true', decide_eq_false_iff_not, decide_eq_true_eq]
      omega
    rw [e]; simp
/-- Is what is kept one? -/
def keepB (many til comp ids : Int) (k : Kep) : Bool := okB k.by_ many && (decide (k.by_.to = comp) && (itemB many til k.sent && (decide (k.sent.ev.fr = comp) && (decide (k.sent.s < ids) && decide (k.by_.t < k.sent.ev.t)))))
theorem keepB_s (many til comp ids : Int) (k : Kep) : keepB many til comp ids k = (itemB many til ⟨k.by_, 0⟩ && (decide (k.by_.to = comp) && (itemB many til k.sent && (decide (k.sent.ev.fr = comp) && (!decide (k.sent.ev.t ≤ k.by_.t) && !decide (ids ≤ k.sent.s)))))) := by
  rw [itemB_s many til ⟨k.by_, 0⟩]; unfold keepB; rw [itemB_s many til k.sent, Bool.eq_iff_iff]; simp only [Bool.and_eq_true, decide_eq_true_eq, Bool.or_eq_true, Bool.not_eq_true', decide_eq_false_iff_not, inB_iff]
  constructor
  · rintro ⟨h1, h2, ⟨h3, h4, h5, h6⟩, h7, h8, h9⟩
    exact ⟨⟨h1, by omega, by omega, .inr trivial⟩, h2, ⟨h3, h4, h5, h6⟩, h7, by omega, by omega⟩
  · rintro ⟨⟨h1, _, _, _⟩, h2, ⟨h3, h4, h5, h6⟩, h7, h8, h9⟩
    exact ⟨h1, h2, ⟨h3, h4, h5, h6⟩, h7, by omega, by omega⟩
/-- Is what was sent what is sent? -/
def sameL (ids : Int) : List Rec → List Evt → Bool
  | [], [] => true
  | x :: xs, e :: es => (decide (x.ev = e) && inB x.s 0 (ids - 1)) && sameL ids xs es
  | _, _ => false
theorem sameL_drop (ids : Int) (xs : List Rec) (es : List Evt) (k : Nat) (h1 : k < xs.length) (h2 : k < es.length) : sameL ids (xs.drop k) (es.drop k) = ((decide ((xs.getD k default).ev = es.getD k default) && inB (xs.getD k default).s 0 (ids - 1)) && sameL ids (xs.drop (k + 1)) (es.drop (k + 1))) := by
  rw [List.drop_eq_getElem_cons h1, List.drop_eq_getElem_cons h2, sameL]; simp [h1, h2]
theorem sameL_end (ids : Int) (xs : List Rec) (es : List Evt) (k : Nat) (h1 : xs.length ≤ k) (h2 : es.length ≤ k) : sameL ids (xs.drop k) (es.drop k) = true := by
  rw [List.drop_eq_nil_of_le h1, List.drop_eq_nil_of_le h2, sameL]
theorem sameL_len (ids : Int) : ∀ (xs : List Rec) (es : List Evt), xs.length ≠ es.length → sameL ids xs es = false
  | [], [], h => absurd rfl h
  | [], _ :: _, _ => rfl
  | _ :: _, [], _ => rfl
  | x :: xs, e :: es, h => by
    rw [sameL, sameL_len ids xs es (by simpa using h), Bool.and_false]
/-- Does what was done lead to what is recorded? -/
def leadB (m : Mdl) (ids : Int) (d : Don) (next : Cst) : Bool := cstB d.bf && (decide ((doE m d.bf d.it.ev).1 = next) && (decide ((doE m d.bf d.it.ev).1.s = d.s) && sameL ids d.sent (doE m d.bf d.it.ev).2))
def nextC (now : Cst) : List Don → Cst
  | [] => now
  | d :: _ => d.bf
def explB (m : Mdl) (ids : Int) (now : Cst) : List Don → Bool
  | [] => true
  | d :: r => leadB m ids d (nextC now r) && explB m ids now r
theorem nextC_drop (now : Cst) (ds : List Don) (k : Nat) : nextC now (ds.drop k) = if k < ds.length then (ds.getD k default).bf else now := by
  split
  · rename_i h
    rw [List.drop_eq_getElem_cons h, nextC]; simp [h]
  · rename_i h
    rw [List.drop_eq_nil_of_le (by omega), nextC]
theorem explB_drop (m : Mdl) (ids : Int) (now : Cst) (ds : List Don) (k : Nat) (h : k < ds.length) : explB m ids now (ds.drop k) = (leadB m ids (ds.getD k default) (if k + 1 < ds.length then (ds.getD (k + 1) default).bf else now) && explB m ids now (ds.drop (k + 1))) := by
  rw [← nextC_drop, List.drop_eq_getElem_cons h, explB]; simp [h]
theorem explB_end (m : Mdl) (ids : Int) (now : Cst) (ds : List Don) (k : Nat) (h : ds.length ≤ k) : explB m ids now (ds.drop k) = true := by
  rw [List.drop_eq_nil_of_le h, explB]
def itsOf (ds : List Don) : List Rec := ds.map (·.it)
/-- Is the host one, of a model that is one? -/
def hostB (m : Mdl) (comp : Int) (h : Hst) : Bool :=
  inB comp 0 ((m.rules.length : Int) - 1) && (cstB h.now && (inB h.ids 0 9999 && ((riseT (itsOf h.done ++ h.wait) && (itsOf h.done ++ h.wait).all (itemForB m.rules.length m.til comp)) && ((riseT h.anti && h.anti.all (itemForB m.rules.length m.til comp)) && (h.keep.all (keepB m.rules.length m.til comp h.ids) && explB m h.ids h.now h.done)))))
def behT : Option Rec → Rec → Bool
  | none, _ => true
  | some q, r => ltR q r
/-- What the reference says of what was done. -/
def doneS (m : Mdl) (comp ids : Int) (now : Cst) : Option Rec → List Don → Bool
  | _, [] => true
  | p, d :: r => (itemForB m.rules.length m.til comp d.it && (cstB d.bf && behT p d.it)) && (leadB m ids d (nextC now r) && doneS m comp ids now (some d.it) r)
def lastT : Option Rec → List Don → Option Rec
  | p, [] => p
  | _, d :: r => lastT (some d.it) r
def joinT : Option Rec → List Rec → Bool
  | _, [] => true
  | p, r :: _ => behT p r
def riseQ : Option Rec → List Rec → Bool
  | none, xs => riseT xs
  | some q, xs => riseT (q :: xs)
theorem riseQ_cons (p : Option Rec) (r : Rec) (rs : List Rec) : riseQ p (r :: rs) = (behT p r && riseQ (some r) rs) := by
  cases p with
  | none => simp [riseQ, behT]
  | some q => simp [riseQ, behT, riseT]
theorem done_join (m : Mdl) (comp ids : Int) (now : Cst) (wait : List Rec) : ∀ (ds : List Don) (p : Option Rec), (riseQ p (itsOf ds ++ wait) && ((itsOf ds).all (itemForB m.rules.length m.til comp) && explB m ids now ds)) = (doneS m comp ids now p ds && (riseT wait && joinT (lastT p ds) wait))
  | [], p => by
    cases wait with
    | nil => cases p <;> simp [riseQ, riseT, itsOf, explB, doneS, joinT]
    | cons e es =>
      rw [show itsOf [] ++ e :: es = e :: es from rfl, riseQ_cons]; simp only [doneS, lastT, joinT, explB, itsOf, List.map_nil, List.all_nil, Bool.and_true, Bool.true_and, riseQ]; rw [Bool.and_comm]
  | d :: r, p => by
    have ih := done_join m comp ids now wait r (some d.it)
    rw [show itsOf (d :: r) = d.it :: itsOf r from rfl, List.cons_append, riseQ_cons, List.all_cons, explB, doneS, lastT]
    have hl : leadB m ids d (nextC now r) = (cstB d.bf && leadB m ids d (nextC now r)) := by
      unfold leadB
      cases cstB d.bf <;> simp
    rw [hl]
    generalize riseQ (some d.it) (itsOf r ++ wait) = a at ih ⊢
    generalize (itsOf r).all (itemForB m.rules.length m.til comp) = b at ih ⊢
    generalize explB m ids now r = c at ih ⊢
    generalize doneS m comp ids now (some d.it) r = f at ih ⊢
    generalize (riseT wait && joinT (lastT (some d.it) r) wait) = g at ih ⊢
    generalize itemForB m.rules.length m.til comp d.it = x
    generalize behT p d.it = y
    generalize leadB m ids d (nextC now r) = z
    generalize cstB d.bf = u
    revert ih
    cases a <;> cases b <;> cases c <;> cases f <;> cases g <;> cases x <;> cases y <;> cases z <;> cases u <;> simp
def itemsB (many til comp : Int) (xs : List Rec) : Bool := riseT xs && xs.all (itemForB many til comp)
/-- What the reference says of a host. -/
def hostS (m : Mdl) (comp : Int) (h : Hst) : Bool :=
  mdlB m && (inB comp 0 ((m.rules.length : Int) - 1) && (cstB h.now && (inB h.ids 0 9999 && (itemsB m.rules.length m.til comp h.wait && (itemsB m.rules.length m.til comp h.anti && (h.keep.all (keepB m.rules.length m.til comp h.ids) && (doneS m comp h.ids h.now none h.done && joinT (lastT none h.done) h.wait)))))))
theorem hostS_eq (m : Mdl) (comp : Int) (h : Hst) : hostS m comp h = (mdlB m && hostB m comp h) := by
  have hj := done_join m comp h.ids h.now h.wait h.done none
  unfold hostS hostB itemsB; rw [List.all_append]; rw [Bool.eq_iff_iff] at hj ⊢; simp only [Bool.and_eq_true, riseQ] at hj ⊢
  constructor
  · rintro ⟨h1, h2, h3, h4, ⟨h5, h6⟩, h7, h8, h9, h10⟩
    obtain ⟨k1, k2, k3⟩ := hj.2 ⟨h9, h5, h10⟩
    exact ⟨h1, h2, h3, h4, ⟨k1, k2, h6⟩, h7, h8, k3⟩
  · rintro ⟨h1, h2, h3, h4, ⟨k1, k2, h6⟩, h7, h8, k3⟩
    obtain ⟨h9, h5, h10⟩ := hj.1 ⟨k1, k2, k3⟩
    exact ⟨h1, h2, h3, h4, ⟨h5, h6⟩, h7, h8, h9, h10⟩
theorem doneS_drop (m : Mdl) (comp ids : Int) (now : Cst) (ds : List Don) (k : Nat) (p : Option Rec) (h : k < ds.length) : doneS m comp ids now p (ds.drop k) = ((itemForB m.rules.length m.til comp (ds.getD k default).it && (cstB (ds.getD k default).bf && behT p (ds.getD k default).it)) && (leadB m ids (ds.getD k default) (if k + 1 < ds.length then (ds.getD (k + 1) default).bf else now) && doneS m comp ids now (some (ds.getD k default).it) (ds.drop (k + 1)))) := by
  rw [← nextC_drop, List.drop_eq_getElem_cons h, doneS]; simp [h]
theorem doneS_end (m : Mdl) (comp ids : Int) (now : Cst) (ds : List Don) (k : Nat) (p : Option Rec) (h : ds.length ≤ k) : doneS m comp ids now p (ds.drop k) = true := by
  rw [List.drop_eq_nil_of_le h, doneS]
/-- The item ahead of place k. -/
def prevT (ds : List Don) (k : Nat) : Option Rec := if k = 0 then none else some (ds.getD (k - 1) default).it
theorem prevT_succ (ds : List Don) (k : Nat) : prevT ds (k + 1) = some (ds.getD k default).it := by simp [prevT]
theorem lastT_eq : ∀ (ds : List Don) (p : Option Rec), lastT p ds = if ds.length = 0 then p else some (ds.getD (ds.length - 1) default).it
  | [], p => rfl
  | [r], p => rfl
  | r :: r' :: rs, p => by
    rw [lastT, lastT_eq (r' :: rs)]; simp
end Go.Proofs.YtlkmhmiamdbhcabGreat

namespace Go.Proofs.YtlkmhmiamdbhcabGreat
set_option maxRecDepth 100000
open Go.RowKit
set_option maxHeartbeats 4000000 in
theorem specItem_any (A : Option Addr) (n c : Nat) (B : Option Addr) (k d : Nat) (til : Int) (r : Rec) (w : World) :
    Calls Tryz.prog 61 #[.agg #[.slice A n c, .slice B k d, .int .i64 til], r.v] w fun x w' => x = .returned (.bool (itemB n til r)) ∧ Up w w' := by
  have CO := fun W => specOk_any r.ev n W
  have CW := Lib.hid (fun W => l1In_any r.s 0 9998 W)
  have hf := Lib.hid (itemB_s n til r)
  generalize itemB n til r = res at hf ⊢
  generalize okB r.ev n = b1 at hf CO
  generalize inB r.s 0 9998 = b2 at hf CW
  obtain ⟨⟨a0, a1, a2, a3, a4, a5⟩, a6⟩ := r; unfold Rec.v; unfold Evt.v at CO; dsimp only at hf CO CW ⊢
  have CO := Lib.hid CO
  have X := Lib.hid ((Blk.new w #[.slice A n c, .slice B k d, .int .i64 til] 39).alloc (.cells #[.int .i64 a0, .int .i64 a1, .int .i64 a2, .int .i64 a3, .int .i64 a4, .int .i64 a5, .int .i64 a6] 109))
  have Y := Lib.hid (Blk.new (w.alloc (.cells #[.slice A n c, .slice B k d, .int .i64 til] 39)) #[.int .i64 a0, .int .i64 a1, .int .i64 a2, .int .i64 a3, .int .i64 a4, .int .i64 a5, .int .i64 a6] 109)
  simp only [World.size_alloc] at Y
  have U := Lib.hid (((Up.refl w).alloc (.cells #[.slice A n c, .slice B k d, .int .i64 til] 39)).alloc (.cells #[.int .i64 a0, .int .i64 a1, .int .i64 a2, .int .i64 a3, .int .i64 a4, .int .i64 a5, .int .i64 a6] 109))
  go_enter Tryz.func61, Tryz.ntmps61
  go_wp2_with fail
  generalize (w.alloc (.cells #[.slice A n c, .slice B k d, .int .i64 til] 39)).alloc (.cells #[.int .i64 a0, .int .i64 a1, .int .i64 a2, .int .i64 a3, .int .i64 a4, .int .i64 a5, .int .i64 a6] 109) = W at *
  generalize hb1 : w.heap.size + 1 = b1_ at *
  generalize hb0 : w.heap.size = b0_ at *
  clear hb0 hb1; refine (CO.out _).mono ?_; rintro x w1 ⟨rfl, u⟩
  have U := Lib.hid (U.out.trans u)
  have X := Lib.hid (X.out.up u)
  have Y := Lib.hid (Y.out.up u)
  clear u
  have x2 := X.out.cell (j := 2) rfl
  have y0 := Y.out.cell (j := 0) rfl
  have y2 := Y.out.cell (j := 2) rfl
  have y6 := Y.out.cell (j := 6) rfl
  have lx := X.out.lt
  have ly := Y.out.lt
  cases b1
  · have HR := Lib.hid (show res = false by rw [hf.out]; simp)
    clear hf; go_wp2; go_ret
    exact ⟨ret_bool HR.out.symm, U.out⟩
  · by_cases ht : a0 ≤ til
    · go_wp2_with fail
      refine (CW.out _).mono ?_; rintro x w2 ⟨rfl, rfl⟩
      cases b2
      · have HR := Lib.hid (show res = false by rw [hf.out]; simp)
        clear hf; go_wp2; go_ret
        exact ⟨ret_bool HR.out.symm, U.out⟩
      · by_cases hfr : 0 ≤ a2
        · have HR := Lib.hid (show res = true by rw [hf.out]; simp [ht, hfr])
          have hg : a2 ≥ 0 := hfr
          clear hf; go_wp2; go_ret
          exact ⟨ret_bool HR.out.symm, U.out⟩
        · have hg : ¬ a2 ≥ 0 := hfr
          by_cases hs : a6 = 0
          · have HR := Lib.hid (show res = true by rw [hf.out]; simp [ht, hs])
            subst hs; clear hf; go_wp2; go_ret
            exact ⟨ret_bool HR.out.symm, U.out⟩
          · have HR := Lib.hid (show res = false by rw [hf.out]; simp [hfr, hs])
            have hs2 : (a6 == 0) = false := by simpa using hs
            clear hf; go_wp2; go_ret
            exact ⟨ret_bool (by rw [HR.out]; simp [hfr]), U.out⟩
    · have HR := Lib.hid (show res = false by rw [hf.out]; simp [ht])
      clear hf; go_wp2; go_ret
      exact ⟨ret_bool HR.out.symm, U.out⟩
end Go.Proofs.YtlkmhmiamdbhcabGreat

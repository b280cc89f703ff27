/-
  Which items are valid, in one sentence: what itemOk, itemFor, its closure, every and itemsFor return; for every machine and every list that lies in memory.
-/
import Derived.Test.YtkfjemgelmbcfaaKItmAsc
import Derived.Test.YtkfjemgelmbcfaaKTyR
import Derived.Test.YtkfjemgelmbcfaaKTakDef
import Derived.Test.YtkfjemgelmbcfaaKT
namespace Go.Proofs.Ytkfjemgelmbcfaa
set_option maxRecDepth 100000
open Go.RowKit

/-- Is an item one of a model? -/
def itemB (many til : Int) (r : Rec) : Bool := takB many til r.ev && (inB r.s 0 9998 && (!decide (r.ev.fr = -1) || decide (r.s = 0)))
/-- And for this component? -/
def itemForB (many til comp : Int) (r : Rec) : Bool := itemB many til r && decide (r.ev.to = comp)

set_option maxHeartbeats 4000000 in
theorem itemOk_any (mp : Option Nat) (many til : Int) (r : Rec) (w : World) :
    Calls Try.prog 162 #[.agg #[.map mp, .int .i64 many, .int .i64 til], r.v] w fun z w' => z = .returned (.bool (itemB many til r)) ∧ Up w w' := by
  have CT := Lib.hid (fun W => takes_any (.agg #[.map mp, .int .i64 many, .int .i64 til]) many til r.ev mp rfl W)
  unfold itemB takB
  generalize (okB r.ev many && decide (r.ev.t ≤ til)) = b at CT ⊢
  obtain ⟨⟨et, eto, efr, esq, ekd, edt⟩, s⟩ := r
  unfold Rec.v
  unfold Evt.v at CT
  dsimp only at CT ⊢
  have CW := Lib.hid (fun W => within_any s 0 9998 W)
  generalize inB s 0 9998 = b2 at CW ⊢
  have X1 := Lib.hid (Blk.new (w.alloc (.cells #[.map mp, .int .i64 many, .int .i64 til] 119)) #[.int .i64 et, .int .i64 eto, .int .i64 efr, .int .i64 esq, .int .i64 ekd, .int .i64 edt, .int .i64 s] 94)
  simp only [World.size_alloc] at X1
  have U := Lib.hid (((Up.refl w).alloc (.cells #[.map mp, .int .i64 many, .int .i64 til] 119)).alloc (.cells #[.int .i64 et, .int .i64 eto, .int .i64 efr, .int .i64 esq, .int .i64 ekd, .int .i64 edt, .int .i64 s] 94))
  by_cases hx : efr = -1
  · subst hx
    go_enter Try.func162, Try.ntmps162
    go_wp2_with fail
    refine (CT.out _).mono ?_
    rintro v w1 ⟨rfl, u1⟩
    have X1 := Lib.hid (X1.out.up u1)
    have U := Lib.hid (U.out.trans u1)
    have z6 := X1.out.cell (j := 6) rfl
    have l1 := X1.out.lt
    clear u1
    cases b
    · go_wp2
      go_ret
      exact ⟨rfl, U.out⟩
    · go_wp2_with fail
      refine (CW.out _).mono ?_
      rintro v w2 ⟨rfl, rfl⟩
      cases b2
      · go_wp2
        go_ret
        exact ⟨rfl, U.out⟩
      · go_wp2
        go_ret
        exact ⟨ret_bool (by first | (simp; done) | (simp; rfl)), U.out⟩
  · have HX := Lib.hid (decide_eq_false hx)
    go_enter Try.func162, Try.ntmps162
    go_wp2_with fail
    refine (CT.out _).mono ?_
    rintro v w1 ⟨rfl, u1⟩
    have X1 := Lib.hid (X1.out.up u1)
    have U := Lib.hid (U.out.trans u1)
    have z6 := X1.out.cell (j := 6) rfl
    have l1 := X1.out.lt
    clear u1
    cases b
    · go_wp2
      go_ret
      exact ⟨rfl, U.out⟩
    · go_wp2_with fail
      refine (CW.out _).mono ?_
      rintro v w2 ⟨rfl, rfl⟩
      cases b2
      · go_wp2
        go_ret
        exact ⟨rfl, U.out⟩
      · go_wp2
        go_ret
        exact ⟨ret_bool (by rw [HX.out]; rfl), U.out⟩

set_option maxHeartbeats 4000000 in
theorem itemFor_any (mp : Option Nat) (many til comp : Int) (r : Rec) (w : World) :
    Calls Try.prog 160 #[.agg #[.map mp, .int .i64 many, .int .i64 til], .int .i64 comp, r.v] w fun z w' => z = .returned (.bool (itemForB many til comp r)) ∧ Up w w' := by
  have CT := Lib.hid (fun W => itemOk_any mp many til r W)
  unfold itemForB
  generalize itemB many til r = b at CT ⊢
  obtain ⟨⟨et, eto, efr, esq, ekd, edt⟩, s⟩ := r
  unfold Rec.v at CT ⊢
  dsimp only at CT ⊢
  have X1 := Lib.hid (Blk.new (w.alloc (.cells #[.map mp, .int .i64 many, .int .i64 til] 119)) #[.int .i64 et, .int .i64 eto, .int .i64 efr, .int .i64 esq, .int .i64 ekd, .int .i64 edt, .int .i64 s] 94)
  simp only [World.size_alloc] at X1
  have U := Lib.hid (((Up.refl w).alloc (.cells #[.map mp, .int .i64 many, .int .i64 til] 119)).alloc (.cells #[.int .i64 et, .int .i64 eto, .int .i64 efr, .int .i64 esq, .int .i64 ekd, .int .i64 edt, .int .i64 s] 94))
  go_enter Try.func160, Try.ntmps160
  go_wp2_with fail
  refine (CT.out _).mono ?_
  rintro v w1 ⟨rfl, u1⟩
  have X1 := Lib.hid (X1.out.up u1)
  have U := Lib.hid (U.out.trans u1)
  have z1 := X1.out.cell (j := 1) rfl
  have l1 := X1.out.lt
  clear u1
  cases b
  · go_wp2
    go_ret
    exact ⟨rfl, U.out⟩
  · go_wp2
    go_ret
    exact ⟨ret_bool (by first | (simp; done) | (simp; rfl)), U.out⟩

set_option maxHeartbeats 4000000 in
theorem itemsFor1_any (mp : Option Nat) (many til comp : Int) (r : Rec) (bM bC : Nat) (w : World) (hM : Blk w bM 119 #[.map mp, .int .i64 many, .int .i64 til]) (hC : Blk w bC 3 #[.int .i64 comp]) :
    Calls Try.prog 159 #[r.v, .pointer (some ⟨bM, 0, none⟩), .pointer (some ⟨bC, 0, none⟩)] w fun z w' => z = .returned (.bool (itemForB many til comp r)) ∧ Up w w' := by
  have CT := Lib.hid (fun W => itemFor_any mp many til comp r W)
  generalize itemForB many til comp r = b at CT ⊢
  obtain ⟨⟨et, eto, efr, esq, ekd, edt⟩, s⟩ := r
  unfold Rec.v at CT ⊢
  dsimp only at CT ⊢
  have U := Lib.hid ((Up.refl w).alloc (.cells #[.int .i64 et, .int .i64 eto, .int .i64 efr, .int .i64 esq, .int .i64 ekd, .int .i64 edt, .int .i64 s] 94))
  obtain ⟨m0, m1, m2⟩ := And.intro ((hM.up U.out).cell (j := 0) rfl) (And.intro ((hM.up U.out).cell (j := 1) rfl) ((hM.up U.out).cell (j := 2) rfl))
  have c0 := (hC.up U.out).cell (j := 0) rfl
  have lm := (hM.up U.out).lt
  have lc := (hC.up U.out).lt
  clear hM hC
  go_enter Try.func159, Try.ntmps159
  go_wp2_with fail
  refine (CT.out _).mono ?_
  rintro v w1 ⟨rfl, u1⟩
  have U := Lib.hid (U.out.trans u1)
  clear u1 m0 m1 m2 c0 lm lc
  go_wp2
  go_ret
  exact ⟨rfl, U.out⟩

set_option maxHeartbeats 2000000 in
theorem everyI_any (A : Option Addr) (n cap : Nat) (xs : List Rec) (mp : Option Nat) (many til comp : Int) (bM bC : Nat) (w : World) (hn : n ≤ 1048576) (hE : Recs w A n xs) (hM : Blk w bM 119 #[.map mp, .int .i64 many, .int .i64 til]) (hC : Blk w bC 3 #[.int .i64 comp]) :
    Calls Try.prog 158 #[.slice A n cap, .func (.func 159) #[] #[.pointer (some ⟨bM, 0, none⟩), .pointer (some ⟨bC, 0, none⟩)]] w fun x w' => x = .returned (.bool (xs.all (itemForB many til comp))) ∧ Up w w' := by
  have AD := Lib.hid (fun k h => all_drop (f := itemForB many til comp) (d := default) xs k h)
  have AE := Lib.hid (fun k h => all_end (f := itemForB many til comp) xs k h)
  have CL := Lib.hid (fun x W (u : Up w W) => itemsFor1_any mp many til comp x bM bC W (hM.up u) (hC.up u))
  have HE := Lib.hid hE
  have LE := Lib.hid hE.1
  have H0 := Lib.hid (show (xs.drop 0).all (itemForB many til comp) = xs.all (itemForB many til comp) from rfl)
  generalize xs.all (itemForB many til comp) = res at H0 ⊢
  clear hE hM hC
  go_enter Try.func158, Try.ntmps158
  go_wp2
  go_loopw [9] (fun i wr => (∃ k : Nat, k ≤ n ∧ i = .int .i64 k ∧ Hid ((xs.drop k).all (itemForB many til comp) = res)) ∧ Up w wr) (fun i _ => n - (intOf i).toNat)
  case atStart => exact ⟨⟨0, by omega, rfl, H0⟩, Up.refl _⟩
  case round =>
    obtain ⟨⟨k, hk, rfl, HR⟩, ur⟩ := hrel
    by_cases hlt : k < n
    · obtain ⟨b, off, hA, hb, hc⟩ := HE.out.2 (by omega)
      subst hA
      have a0 := (hc k hlt).up ur hb
      have hb' : b < wr.heap.size := by have := ur.size; omega
      clear hc
      have S := AD.out k (by rw [LE.out]; exact hlt)
      have cl := CL.out (xs.getD k default)
      generalize xs.getD k default = p at a0 S cl
      generalize hfp : (itemForB many til comp) p = r at S cl
      have S' := Lib.hid S
      clear S hfp
      unfold RecAt at a0
      unfold Rec.v at cl
      obtain ⟨p0, p1, p2, p3, p4, p5, p6⟩ := a0
      have C := Lib.hid cl
      clear cl
      have i4 : (k : Int) < n := by omega
      have UR := Lib.hid ur
      clear ur
      go_wp2_with fail
      refine (C.out _ (UR.out.alloc _)).mono ?_
      rintro x wA ⟨rfl, uA⟩
      have UN := Lib.hid ((UR.out.alloc _).trans uA)
      clear uA
      cases r
      · have HF := Lib.hid (show res = false by rw [← HR.out, S'.out]; rfl)
        go_wp2
        go_ret
        exact ⟨ret_bool HF.out.symm, UN.out⟩
      · have HN := Lib.hid (show (xs.drop (k + 1)).all (itemForB many til comp) = res by rw [← HR.out, S'.out]; rfl)
        go_wp2
        go_roundw
        case rel => exact ⟨⟨k + 1, by omega, by go_num, HN⟩, UN.out⟩
        case measure => simp [intOf]; omega
    · obtain rfl : k = n := by omega
      have i4 : ¬ (k : Int) < k := by omega
      have HT := Lib.hid (show res = true by rw [← HR.out]; exact AE.out k (by rw [LE.out]; omega))
      have UR := Lib.hid ur
      clear ur
      go_wp2
      go_ret
      exact ⟨ret_bool HT.out.symm, UR.out⟩

end Go.Proofs.Ytkfjemgelmbcfaa

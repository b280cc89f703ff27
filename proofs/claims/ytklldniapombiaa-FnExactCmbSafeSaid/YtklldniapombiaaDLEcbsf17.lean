/-
  The closures of impl's fits, and every over them, in one sentence: a bound, a pending event and a record are what the bounds say; for all lists that lie in memory.
-/
import Derived.Test.YtklldniapombiaaDLEcbsf12
import Derived.Test.YtklldniapombiaaDLEcbsf14
import Derived.Test.YtklldniapombiaaDLEcbsf16
namespace Go.Proofs.Ytklldniapombiaa
set_option maxRecDepth 100000
open Go.RowKit
set_option maxHeartbeats 2000000 in
theorem fits1_any (mp : Option Nat) (many til comp z : Int) (bM bC : Nat) (w : World) (ht : 0 ≤ til ∧ til ≤ 99) (hM : Blk w bM 109 #[.map mp, .int .i64 many, .int .i64 til]) (_hC : Blk w bC 3 #[.int .i64 comp]) :
    Calls Try.prog 181 #[.int .i64 z, .pointer (some ⟨bM, 0, none⟩)] w fun x w' => x = .returned (.bool (bndB til z)) ∧ Up w w' := by
  unfold bndB
  have CN := Lib.hid (fun W => neverL_any mp many til W ht)
  obtain ⟨m0, m1, m2⟩ := And.intro (hM.cell (j := 0) rfl) (And.intro (hM.cell (j := 1) rfl) (hM.cell (j := 2) rfl))
  have lm := hM.lt
  go_enter Try.func181, Try.ntmps181
  go_wp2_with fail
  refine (CN.out _).mono ?_; rintro v w1 ⟨rfl, u1⟩; clear m0 m1 m2 lm
  go_wp2_with fail
  refine (within_any z 0 (til + 1) _).mono ?_; rintro v w2 ⟨rfl, rfl⟩; go_wp2; go_ret
  exact ⟨rfl, u1⟩
set_option maxHeartbeats 2000000 in
theorem fits2_any (mp : Option Nat) (many til comp : Int) (e : Evt) (bM bC : Nat) (w : World) (_ht : 0 ≤ til ∧ til ≤ 99) (hM : Blk w bM 109 #[.map mp, .int .i64 many, .int .i64 til]) (hC : Blk w bC 3 #[.int .i64 comp]) :
    Calls Try.prog 182 #[e.v, .pointer (some ⟨bM, 0, none⟩), .pointer (some ⟨bC, 0, none⟩)] w fun x w' => x = .returned (.bool (pndB many til comp e)) ∧ Up w w' := by
  have CT := Lib.hid (fun W => takes_any (.agg #[.map mp, .int .i64 many, .int .i64 til]) many til e mp rfl W)
  unfold pndB
  generalize (okB e many && decide (e.t ≤ til)) = b at CT ⊢
  obtain ⟨et, eto, efr, esq, ekd, edt⟩ := e; unfold Evt.v at CT ⊢; dsimp only at CT ⊢
  have ua := (Up.refl w).alloc (.cells #[.int .i64 et, .int .i64 eto, .int .i64 efr, .int .i64 esq, .int .i64 ekd, .int .i64 edt] 74)
  have U := Lib.hid ua
  have X := Lib.hid (Blk.new w #[.int .i64 et, .int .i64 eto, .int .i64 efr, .int .i64 esq, .int .i64 ekd, .int .i64 edt] 74)
  have Y := Lib.hid (hC.up ua)
  obtain ⟨m0, m1, m2⟩ := And.intro ((hM.up ua).cell (j := 0) rfl) (And.intro ((hM.up ua).cell (j := 1) rfl) ((hM.up ua).cell (j := 2) rfl))
  have lm := (hM.up ua).lt
  clear hM hC ua
  go_enter Try.func182, Try.ntmps182
  go_wp2_with fail
  refine (CT.out _).mono ?_; rintro v w1 ⟨rfl, u1⟩
  have U1 := Lib.hid (U.out.trans u1)
  have x1 := (X.out.up u1).cell (j := 1) rfl
  have lx := (X.out.up u1).lt
  have y0 := (Y.out.up u1).cell (j := 0) rfl
  have ly := (Y.out.up u1).lt
  clear m0 m1 m2 lm u1
  cases b
  · go_wp2
    go_ret
    exact ⟨rfl, U1.out⟩
  · go_wp2
    go_ret
    exact ⟨ret_bool (by simp; rfl), U1.out⟩
set_option maxHeartbeats 2000000 in
theorem fits3_any (mp : Option Nat) (many til comp : Int) (r : Rec) (bM bC : Nat) (w : World) (_ht : 0 ≤ til ∧ til ≤ 99) (hM : Blk w bM 109 #[.map mp, .int .i64 many, .int .i64 til]) (hC : Blk w bC 3 #[.int .i64 comp]) :
    Calls Try.prog 183 #[r.v, .pointer (some ⟨bM, 0, none⟩), .pointer (some ⟨bC, 0, none⟩)] w fun x w' => x = .returned (.bool (rcdB many comp r)) ∧ Up w w' := by
  have CT := Lib.hid (fun W => records_any mp many til r W)
  unfold rcdB
  generalize recB many r = b at CT ⊢
  obtain ⟨⟨et, eto, efr, esq, ekd, edt⟩, es⟩ := r; unfold Rec.v at CT ⊢; dsimp only at CT ⊢
  have ua := (Up.refl w).alloc (.cells #[.int .i64 et, .int .i64 eto, .int .i64 efr, .int .i64 esq, .int .i64 ekd, .int .i64 edt, .int .i64 es] 180)
  have U := Lib.hid ua
  have X := Lib.hid (Blk.new w #[.int .i64 et, .int .i64 eto, .int .i64 efr, .int .i64 esq, .int .i64 ekd, .int .i64 edt, .int .i64 es] 180)
  have Y := Lib.hid (hC.up ua)
  obtain ⟨m0, m1, m2⟩ := And.intro ((hM.up ua).cell (j := 0) rfl) (And.intro ((hM.up ua).cell (j := 1) rfl) ((hM.up ua).cell (j := 2) rfl))
  have lm := (hM.up ua).lt
  clear hM hC ua
  go_enter Try.func183, Try.ntmps183
  go_wp2_with fail
  refine (CT.out _).mono ?_; rintro v w1 ⟨rfl, u1⟩
  have U1 := Lib.hid (U.out.trans u1)
  have x1 := (X.out.up u1).cell (j := 1) rfl
  have lx := (X.out.up u1).lt
  have y0 := (Y.out.up u1).cell (j := 0) rfl
  have ly := (Y.out.up u1).lt
  clear m0 m1 m2 lm u1
  cases b
  · go_wp2
    go_ret
    exact ⟨rfl, U1.out⟩
  · go_wp2
    go_ret
    exact ⟨ret_bool (by simp; rfl), U1.out⟩
set_option maxHeartbeats 4000000 in
theorem everyB_any (A : Option Addr) (n cap : Nat) (xs : List Int) (mp : Option Nat) (many til comp : Int) (bM bC : Nat) (w : World) (hn : n ≤ 4194304) (hE : Nms w A n xs) (ht : 0 ≤ til ∧ til ≤ 99) (hM : Blk w bM 109 #[.map mp, .int .i64 many, .int .i64 til]) (hC : Blk w bC 3 #[.int .i64 comp]) :
    Calls Try.prog 180 #[.slice A n cap, .func (.func 181) #[] #[.pointer (some ⟨bM, 0, none⟩)]] w fun x w' => x = .returned (.bool (xs.all (bndB til))) ∧ Up w w' := by
  have AD := Lib.hid (fun k h => all_drop (f := bndB til) (d := 0) xs k h)
  have AE := Lib.hid (fun k h => all_end (f := bndB til) xs k h)
  have CL := Lib.hid (fun x W (u : Up w W) => fits1_any mp many til comp x bM bC W ht (hM.up u) (hC.up u))
  have HE := Lib.hid hE
  have LE := Lib.hid hE.1
  have H0 := Lib.hid (show (xs.drop 0).all (bndB til) = xs.all (bndB til) from rfl)
  generalize xs.all (bndB til) = res at H0 ⊢
  clear hE hM hC
  go_enter Try.func180, Try.ntmps180
  go_wp2
  go_loopw [9] (fun i wr => (∃ k : Nat, k ≤ n ∧ i = .int .i64 k ∧ Hid ((xs.drop k).all (bndB til) = res)) ∧ Up w wr) (fun i _ => n - (intOf i).toNat)
  case atStart => exact ⟨⟨0, by omega, rfl, H0⟩, Up.refl _⟩
  case round =>
    obtain ⟨⟨k, hk, rfl, HR⟩, ur⟩ := hrel
    by_cases hlt : k < n
    · obtain ⟨b, off, hA, hb, hc⟩ := (HE.out.up ur).2 (by omega)
      subst hA
      have a0 := hc k hlt
      have hb' : b < wr.heap.size := by have := ur.size; omega
      clear hc
      have S := AD.out k (by rw [LE.out]; exact hlt)
      have cl := CL.out (xs.getD k 0)
      generalize xs.getD k 0 = p at a0 S cl
      generalize hfp : (bndB til) p = r at S cl
      have S' := Lib.hid S
      clear S hfp
      try dsimp only at cl
      have C := Lib.hid cl
      clear cl
      have i4 : (k : Int) < n := by omega
      have UR := Lib.hid ur
      clear ur
      go_wp2_with fail
      refine (C.out _ (UR.out)).mono ?_; rintro x wA ⟨rfl, uA⟩
      have UN := Lib.hid ((UR.out).trans uA)
      clear uA
      cases r
      · have HF := Lib.hid (show res = false by rw [← HR.out, S'.out]; rfl)
        go_wp2; go_ret
        exact ⟨ret_bool HF.out.symm, UN.out⟩
      · have HN := Lib.hid (show (xs.drop (k + 1)).all (bndB til) = res by rw [← HR.out, S'.out]; rfl)
        go_wp2
        go_roundw
        case rel => exact ⟨⟨k + 1, by omega, by go_num, HN⟩, UN.out⟩
        case measure => simp [intOf]; omega
    · obtain rfl : k = n := by omega
      have i4 : ¬ (k : Int) < k := by omega
      have HT := Lib.hid (show res = true by rw [← HR.out]; exact AE.out k (by rw [LE.out]; omega))
      have UR := Lib.hid ur
      clear ur; go_wp2; go_ret
      exact ⟨ret_bool HT.out.symm, UR.out⟩
set_option maxHeartbeats 4000000 in
theorem everyP_any (A : Option Addr) (n cap : Nat) (xs : List Evt) (mp : Option Nat) (many til comp : Int) (bM bC : Nat) (w : World) (hn : n ≤ 4194304) (hE : Evs w A n xs) (ht : 0 ≤ til ∧ til ≤ 99) (hM : Blk w bM 109 #[.map mp, .int .i64 many, .int .i64 til]) (hC : Blk w bC 3 #[.int .i64 comp]) :
    Calls Try.prog 133 #[.slice A n cap, .func (.func 182) #[] #[.pointer (some ⟨bM, 0, none⟩), .pointer (some ⟨bC, 0, none⟩)]] w fun x w' => x = .returned (.bool (xs.all (pndB many til comp))) ∧ Up w w' := by
  have AD := Lib.hid (fun k h => all_drop (f := pndB many til comp) (d := default) xs k h)
  have AE := Lib.hid (fun k h => all_end (f := pndB many til comp) xs k h)
  have CL := Lib.hid (fun x W (u : Up w W) => fits2_any mp many til comp x bM bC W ht (hM.up u) (hC.up u))
  have HE := Lib.hid hE
  have LE := Lib.hid hE.1
  have H0 := Lib.hid (show (xs.drop 0).all (pndB many til comp) = xs.all (pndB many til comp) from rfl)
  generalize xs.all (pndB many til comp) = res at H0 ⊢
  clear hE hM hC
  go_enter Try.func133, Try.ntmps133
  go_wp2
  go_loopw [9] (fun i wr => (∃ k : Nat, k ≤ n ∧ i = .int .i64 k ∧ Hid ((xs.drop k).all (pndB many til comp) = res)) ∧ Up w wr) (fun i _ => n - (intOf i).toNat)
  case atStart => exact ⟨⟨0, by omega, rfl, H0⟩, Up.refl _⟩
  case round =>
    obtain ⟨⟨k, hk, rfl, HR⟩, ur⟩ := hrel
    by_cases hlt : k < n
    · obtain ⟨b, off, hA, hb, hc⟩ := HE.out.2 (by omega)
      subst hA
      have a0 := (hc k hlt).up ur hb
      have hb' : b < wr.heap.size := by have := ur.size; omega
      clear hc
      have S := AD.out k (by rw [LE.out]; exact hlt)
      have cl := CL.out (xs.getD k default)
      generalize xs.getD k default = p at a0 S cl
      generalize hfp : (pndB many til comp) p = r at S cl
      have S' := Lib.hid S
      clear S hfp; unfold EvAt at a0; unfold Evt.v at cl; obtain ⟨p0, p1, p2, p3, p4, p5⟩ := a0
      have C := Lib.hid cl
      clear cl
      have i4 : (k : Int) < n := by omega
      have UR := Lib.hid ur
      clear ur
      go_wp2_with fail
      refine (C.out _ (UR.out.alloc _)).mono ?_; rintro x wA ⟨rfl, uA⟩
      have UN := Lib.hid ((UR.out.alloc _).trans uA)
      clear uA
      cases r
      · have HF := Lib.hid (show res = false by rw [← HR.out, S'.out]; rfl)
        go_wp2; go_ret
        exact ⟨ret_bool HF.out.symm, UN.out⟩
      · have HN := Lib.hid (show (xs.drop (k + 1)).all (pndB many til comp) = res by rw [← HR.out, S'.out]; rfl)
        go_wp2
        go_roundw
        case rel => exact ⟨⟨k + 1, by omega, by go_num, HN⟩, UN.out⟩
        case measure => simp [intOf]; omega
    · obtain rfl : k = n := by omega
      have i4 : ¬ (k : Int) < k := by omega
      have HT := Lib.hid (show res = true by rw [← HR.out]; exact AE.out k (by rw [LE.out]; omega))
      have UR := Lib.hid ur
      clear ur; go_wp2; go_ret
      exact ⟨ret_bool HT.out.symm, UR.out⟩
set_option maxHeartbeats 4000000 in
theorem everyL_any (A : Option Addr) (n cap : Nat) (xs : List Rec) (mp : Option Nat) (many til comp : Int) (bM bC : Nat) (w : World) (hn : n ≤ 4194304) (hE : Recs w A n xs) (ht : 0 ≤ til ∧ til ≤ 99) (hM : Blk w bM 109 #[.map mp, .int .i64 many, .int .i64 til]) (hC : Blk w bC 3 #[.int .i64 comp]) :
    Calls Try.prog 134 #[.slice A n cap, .func (.func 183) #[] #[.pointer (some ⟨bM, 0, none⟩), .pointer (some ⟨bC, 0, none⟩)]] w fun x w' => x = .returned (.bool (xs.all (rcdB many comp))) ∧ Up w w' := by
  have AD := Lib.hid (fun k h => all_drop (f := rcdB many comp) (d := default) xs k h)
  have AE := Lib.hid (fun k h => all_end (f := rcdB many comp) xs k h)
  have CL := Lib.hid (fun x W (u : Up w W) => fits3_any mp many til comp x bM bC W ht (hM.up u) (hC.up u))
  have HE := Lib.hid hE
  have LE := Lib.hid hE.1
  have H0 := Lib.hid (show (xs.drop 0).all (rcdB many comp) = xs.all (rcdB many comp) from rfl)
  generalize xs.all (rcdB many comp) = res at H0 ⊢
  clear hE hM hC
  go_enter Try.func134, Try.ntmps134
  go_wp2
  go_loopw [9] (fun i wr => (∃ k : Nat, k ≤ n ∧ i = .int .i64 k ∧ Hid ((xs.drop k).all (rcdB many comp) = res)) ∧ Up w wr) (fun i _ => n - (intOf i).toNat)
  case atStart => exact ⟨⟨0, by omega, rfl, H0⟩, Up.refl _⟩
  case round =>
    obtain ⟨⟨k, hk, rfl, HR⟩, ur⟩ := hrel
    by_cases hlt : k < n
    · obtain ⟨b, off, hA, hb, hc⟩ := HE.out.2 (by omega)
      subst hA
      have a0 := (hc k hlt).up ur hb
      have hb' : b < wr.heap.size := by have := ur.size; omega
      clear hc
      have S := AD.out k (by rw [LE.out]; exact hlt)
      have cl := CL.out (xs.getD k default)
      generalize xs.getD k default = p at a0 S cl
      generalize hfp : (rcdB many comp) p = r at S cl
      have S' := Lib.hid S
      clear S hfp; unfold RecAt at a0; unfold Rec.v at cl; obtain ⟨p0, p1, p2, p3, p4, p5, p6⟩ := a0
      have C := Lib.hid cl
      clear cl
      have i4 : (k : Int) < n := by omega
      have UR := Lib.hid ur
      clear ur
      go_wp2_with fail
      refine (C.out _ (UR.out.alloc _)).mono ?_; rintro x wA ⟨rfl, uA⟩
      have UN := Lib.hid ((UR.out.alloc _).trans uA)
      clear uA
      cases r
      · have HF := Lib.hid (show res = false by rw [← HR.out, S'.out]; rfl)
        go_wp2; go_ret
        exact ⟨ret_bool HF.out.symm, UN.out⟩
      · have HN := Lib.hid (show (xs.drop (k + 1)).all (rcdB many comp) = res by rw [← HR.out, S'.out]; rfl)
        go_wp2
        go_roundw
        case rel => exact ⟨⟨k + 1, by omega, by go_num, HN⟩, UN.out⟩
        case measure => simp [intOf]; omega
    · obtain rfl : k = n := by omega
      have i4 : ¬ (k : Int) < k := by omega
      have HT := Lib.hid (show res = true by rw [← HR.out]; exact AE.out k (by rw [LE.out]; omega))
      have UR := Lib.hid ur
      clear ur; go_wp2; go_ret
      exact ⟨ret_bool HT.out.symm, UR.out⟩
end Go.Proofs.Ytklldniapombiaa

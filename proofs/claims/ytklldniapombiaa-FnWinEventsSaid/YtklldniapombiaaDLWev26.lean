/-
  What eventsOf, every and records return, in one sentence: the records' events in a new slice, and whether all are as they ought to be; for every list that lies in memory.
-/
import Derived.Test.YtklldniapombiaaDLWev23
import Derived.Test.YtklldniapombiaaDLWev25
namespace Go.Proofs.Ytklldniapombiaa
set_option maxRecDepth 100000
open Go.RowKit
theorem cells_new (w : World) (xs : Array Value) (t : TypeId) (j : Nat) : (w.alloc (.cells xs t)).cell? ⟨w.heap.size, j, none⟩ = xs[j]? := by
  rw [cell_of_row _ _ j _ _ _ (heap_alloc_new _ _)]
theorem records_any (mp : Option Nat) (many til : Int) (r : Rec) (w : World) :
    Calls Try.prog 135 #[.agg #[.map mp, .int .i64 many, .int .i64 til], r.v] w fun z w' => z = .returned (.bool (recB many r)) ∧ Up w w' := by
  unfold recB
  have OC := Lib.hid (fun W => implOk_any r.ev many W)
  generalize okB r.ev many = b at OC ⊢
  obtain ⟨⟨et, eto, efr, esq, ekd, edt⟩, s⟩ := r
  have X3 := Lib.hid ((Box3.new w (.map mp) (.int .i64 many) (.int .i64 til) 109).up ((Up.refl _).alloc (.cells #[.int .i64 et, .int .i64 eto, .int .i64 efr, .int .i64 esq, .int .i64 ekd, .int .i64 edt, .int .i64 s] 180)))
  have c6 := cells_new (w.alloc (.cells #[.map mp, .int .i64 many, .int .i64 til] 109)) #[.int .i64 et, .int .i64 eto, .int .i64 efr, .int .i64 esq, .int .i64 ekd, .int .i64 edt, .int .i64 s] 180 6
  simp only [World.size_alloc] at c6
  have c6 : ((w.alloc (.cells #[.map mp, .int .i64 many, .int .i64 til] 109)).alloc (.cells #[.int .i64 et, .int .i64 eto, .int .i64 efr, .int .i64 esq, .int .i64 ekd, .int .i64 edt, .int .i64 s] 180)).cell? ⟨w.heap.size + 1, 6, none⟩ = some (.int .i64 s) := c6
  have UA := Lib.hid (((Up.refl w).alloc (.cells #[.map mp, .int .i64 many, .int .i64 til] 109)).alloc (.cells #[.int .i64 et, .int .i64 eto, .int .i64 efr, .int .i64 esq, .int .i64 ekd, .int .i64 edt, .int .i64 s] 180))
  unfold Rec.v; unfold Evt.v at OC; dsimp only at OC ⊢
  go_enter Try.func135, Try.ntmps135
  go_wp2_with fail
  have hs1 : w.heap.size + 1 < ((w.alloc (.cells #[.map mp, .int .i64 many, .int .i64 til] 109)).alloc (.cells #[.int .i64 et, .int .i64 eto, .int .i64 efr, .int .i64 esq, .int .i64 ekd, .int .i64 edt, .int .i64 s] 180)).heap.size := by simp
  generalize (w.alloc (.cells #[.map mp, .int .i64 many, .int .i64 til] 109)).alloc (.cells #[.int .i64 et, .int .i64 eto, .int .i64 efr, .int .i64 esq, .int .i64 ekd, .int .i64 edt, .int .i64 s] 180) = W at *
  refine (OC.out _).mono ?_; rintro v w1 ⟨rfl, u1⟩
  have c6 := (u1.cells _ _ hs1).trans c6
  have U := Lib.hid (UA.out.trans u1)
  have X3 := Lib.hid (X3.out.up u1)
  obtain ⟨b0, b1, b2⟩ := And.intro X3.out.c0 (And.intro X3.out.c1 X3.out.c2); clear u1
  cases b
  · go_wp2
    go_ret
    exact ⟨rfl, U.out⟩
  · go_wp2_with (go_at_call 73; refine (within_any _ _ _ _).mono ?_; rintro e w' ⟨rfl, rfl⟩)
    go_ret
    exact ⟨ret_bool (by simp), U.out⟩
set_option maxHeartbeats 2000000 in
theorem eventsOf_any (A : Option Addr) (n cap : Nat) (xs : List Rec) (w : World) (hn : n ≤ 1048576) (hE : Recs w A n xs) :
    Calls Try.prog 131 #[.slice A n cap] w fun x w' => ∃ g, x = .returned (.slice (some ⟨g, 0, none⟩) n n) ∧ w.heap.size ≤ g ∧ Evs w' (some ⟨g, 0, none⟩) n (xs.map (·.ev)) ∧ Up w w' := by
  obtain ⟨i0, hi, hz0, hz1, hz2⟩ := info_parts info74
  have hmk := fun W => run_make_rowN (P := Try.prog) 34 74 i0 _ Try.underlying34 hi hz0 .i64 .i64 n n (Nat.le_refl _) (by rw [hz2]; omega) (by omega) W
  rw [hz1] at hmk
  have HE := Lib.hid hE
  have LE := Lib.hid hE.1
  clear hE hi hz0 hz1 hz2
  go_enter Try.func131, Try.ntmps131
  go_wp2
  generalize hg : w.heap.size = g
  have HG := Lib.hid (Nat.le_of_eq hg)
  go_loopw [11] (fun i wr => (∃ k : Nat, k ≤ n ∧ i = .int .i64 k ∧ RowsTo wr g n 6 k (fun i j => (xs.getD i default).ev.l.getD j 0)) ∧ Up w wr) (fun i _ => n - (intOf i).toNat)
  case atStart =>
    refine ⟨⟨0, by omega, rfl, ?_⟩, (Up.refl _).alloc _⟩; subst hg
    exact RowsTo.start w n 6 #[.int .i64 0, .int .i64 0, .int .i64 0, .int .i64 0, .int .i64 0, .int .i64 0] 74 _ (fun j hj => by
      have h : j = 0 ∨ j = 1 ∨ j = 2 ∨ j = 3 ∨ j = 4 ∨ j = 5 := by simp at hj; omega
      rcases h with rfl | rfl | rfl | rfl | rfl | rfl <;> rfl) (by simp)
  case round =>
    obtain ⟨⟨k, hk, rfl, hp⟩, ur⟩ := hrel
    have HP := Lib.hid hp
    have UR := Lib.hid ur
    by_cases hlt : k < n
    · obtain ⟨b, off, hA, hb, hc⟩ := HE.out.2 (by omega)
      subst hA
      have a0 := (hc k hlt).up ur hb
      have hb' : b < wr.heap.size := by have := ur.size; omega
      clear hc hp ur
      have SX := Lib.hid (fun W (h : RowsTo W g n 6 k (fun i j => (xs.getD i default).ev.l.getD j 0)) => h.step hlt ((xs.getD k default).ev.l.getD · 0) (fun j _ => rfl))
      generalize xs.getD k default = p at a0 SX
      unfold RecAt at a0; obtain ⟨p0, p1, p2, p3, p4, p5, p6⟩ := a0; obtain ⟨⟨pt, pto, pfr, psq, pkd, pdt⟩, ps⟩ := p; dsimp only at p0 p1 p2 p3 p4 p5 p6 SX
      have i4 : (k : Int) < n := by omega
      have ua := (Up.refl wr).alloc (.cells #[.int .i64 pt, .int .i64 pto, .int .i64 pfr, .int .i64 psq, .int .i64 pkd, .int .i64 pdt, .int .i64 ps] 180)
      have P := HP.out.up ua
      obtain ⟨⟨⟨v0, c0⟩, f0⟩, ⟨⟨v1, c1⟩, f1⟩, ⟨⟨v2, c2⟩, f2⟩, ⟨⟨v3, c3⟩, f3⟩, ⟨⟨v4, c4⟩, f4⟩, ⟨⟨v5, c5⟩, f5⟩⟩ := And.intro (P.1.2 (k * 6) (by omega)) (And.intro (P.1.2 (k * 6 + 1) (by omega)) (And.intro (P.1.2 (k * 6 + 2) (by omega)) (And.intro (P.1.2 (k * 6 + 3) (by omega)) (And.intro (P.1.2 (k * 6 + 4) (by omega)) (P.1.2 (k * 6 + 5) (by omega))))))
      have NX := Lib.hid (SX.out _ P)
      have UX := Lib.hid (((UR.out.trans ua).putF HG.out (k * 6) (([pt, pto, pfr, psq, pkd, pdt] : List Int).getD · 0) 6))
      simp only [putF, Evt.l, Nat.add_zero, List.getD_cons_zero, List.getD_cons_succ] at NX UX
      have hgl := P.1.1
      clear P SX ua
      go_wp2_with fail
      go_roundw
      case rel => exact ⟨⟨k + 1, by omega, by go_num, NX.out⟩, UX.out⟩
      case measure => simp [intOf]; omega
    · obtain rfl : k = n := by omega
      have i4 : ¬ (k : Int) < k := by omega
      clear hp ur; go_wp2; go_ret; refine ⟨g, rfl, by have := HG.out; omega, ⟨by rw [List.length_map]; exact LE.out, fun _ => ⟨g, 0, rfl, HP.out.1.1, fun i hi => ?_⟩⟩, UR.out⟩
      have h := HP.out.2 i hi
      have e : (xs.map (·.ev)).getD i default = (xs.getD i default).ev := by simp [List.getD, show i < xs.length by rw [LE.out]; exact hi]
      rw [e, Nat.zero_add]
      exact ⟨h 0 (by omega), h 1 (by omega), h 2 (by omega), h 3 (by omega), h 4 (by omega), h 5 (by omega)⟩
set_option maxHeartbeats 2000000 in
theorem everyC_any (A : Option Addr) (n cap : Nat) (xs : List Cst)  (w : World) (hn : n ≤ 1048576) (hE : Csts w A n xs) :
    Calls Try.prog 132 #[.slice A n cap, .func (.func 92) #[] #[]] w fun x w' => x = .returned (.bool (xs.all (cstB))) ∧ Up w w' := by
  have AD := Lib.hid (fun k h => all_drop (f := cstB) (d := default) xs k h)
  have AE := Lib.hid (fun k h => all_end (f := cstB) xs k h)
  have CL := Lib.hid (fun x W => implCst_any x W)
  have HE := Lib.hid hE
  have LE := Lib.hid hE.1
  have H0 := Lib.hid (show (xs.drop 0).all (cstB) = xs.all (cstB) from rfl)
  generalize xs.all (cstB) = res at H0 ⊢
  clear hE
  go_enter Try.func132, Try.ntmps132
  go_wp2
  go_loopw [9] (fun i wr => (∃ k : Nat, k ≤ n ∧ i = .int .i64 k ∧ Hid ((xs.drop k).all (cstB) = res)) ∧ Up w wr) (fun i _ => n - (intOf i).toNat)
  case atStart => exact ⟨⟨0, by omega, rfl, H0⟩, Up.refl _⟩
  case round =>
    obtain ⟨⟨k, hk, rfl, HR⟩, ur⟩ := hrel
    by_cases hlt : k < n
    · obtain ⟨b, off, hA, hb, hc⟩ := HE.out.2 (by omega)
      subst hA
      have a0 := (hc k hlt).up ur hb
      have hb' : b < wr.heap.size := by have := ur.size; omega
      clear hc
      have S := AD.out k (by rw [LE.out]; exact hlt)
      have cl := CL.out (xs.getD k default)
      generalize xs.getD k default = p at a0 S cl
      generalize hfp : (cstB) p = r at S cl
      have S' := Lib.hid S
      clear S hfp; unfold CstAt at a0; unfold Cst.v at cl; obtain ⟨p0, p1, p2⟩ := a0
      have C := Lib.hid cl
      clear cl
      have i4 : (k : Int) < n := by omega
      have UR := Lib.hid ur
      clear ur
      go_wp2_with fail
      refine (C.out _).mono ?_; rintro x wA ⟨rfl, uA⟩
      have UN := Lib.hid ((UR.out.alloc _).trans uA)
      clear uA
      cases r
      · have HF := Lib.hid (show res = false by rw [← HR.out, S'.out]; rfl)
        go_wp2; go_ret
        exact ⟨ret_bool HF.out.symm, UN.out⟩
      · have HN := Lib.hid (show (xs.drop (k + 1)).all (cstB) = res by rw [← HR.out, S'.out]; rfl)
        go_wp2
        go_roundw
        case rel => exact ⟨⟨k + 1, by omega, by go_num, HN⟩, UN.out⟩
        case measure => simp [intOf]; omega
    · obtain rfl : k = n := by omega
      have i4 : ¬ (k : Int) < k := by omega
      have HT := Lib.hid (show res = true by rw [← HR.out]; exact AE.out k (by rw [LE.out]; omega))
      have UR := Lib.hid ur
      clear ur; go_wp2; go_ret
      exact ⟨ret_bool HT.out.symm, UR.out⟩
set_option maxHeartbeats 2000000 in
theorem everyE_any (A : Option Addr) (n cap : Nat) (xs : List Evt) (mp : Option Nat) (many til : Int) (w : World) (hn : n ≤ 1048576) (hE : Evs w A n xs) :
    Calls Try.prog 133 #[.slice A n cap, .func (.func 93) #[.agg #[.map mp, .int .i64 many, .int .i64 til]] #[]] w fun x w' => x = .returned (.bool (xs.all (takB many til))) ∧ Up w w' := by
  have AD := Lib.hid (fun k h => all_drop (f := takB many til) (d := default) xs k h)
  have AE := Lib.hid (fun k h => all_end (f := takB many til) xs k h)
  have CL := Lib.hid (fun x W => (show Calls Try.prog 93 #[.agg #[.map mp, .int .i64 many, .int .i64 til], x.v] W fun z w' => z = .returned (.bool (takB many til x)) ∧ Up W w' from takes_any (.agg #[.map mp, .int .i64 many, .int .i64 til]) many til x mp rfl W))
  have HE := Lib.hid hE
  have LE := Lib.hid hE.1
  have H0 := Lib.hid (show (xs.drop 0).all (takB many til) = xs.all (takB many til) from rfl)
  generalize xs.all (takB many til) = res at H0 ⊢
  clear hE
  go_enter Try.func133, Try.ntmps133
  go_wp2
  go_loopw [9] (fun i wr => (∃ k : Nat, k ≤ n ∧ i = .int .i64 k ∧ Hid ((xs.drop k).all (takB many til) = res)) ∧ Up w wr) (fun i _ => n - (intOf i).toNat)
  case atStart => exact ⟨⟨0, by omega, rfl, H0⟩, Up.refl _⟩
  case round =>
    obtain ⟨⟨k, hk, rfl, HR⟩, ur⟩ := hrel
    by_cases hlt : k < n
    · obtain ⟨b, off, hA, hb, hc⟩ := HE.out.2 (by omega)
      subst hA
      have a0 := (hc k hlt).up ur hb
      have hb' : b < wr.heap.size := by have := ur.size; omega
      clear hc
      have S := AD.out k (by rw [LE.out]; exact hlt)
      have cl := CL.out (xs.getD k default)
      generalize xs.getD k default = p at a0 S cl
      generalize hfp : (takB many til) p = r at S cl
      have S' := Lib.hid S
      clear S hfp; unfold EvAt at a0; unfold Evt.v at cl; obtain ⟨p0, p1, p2, p3, p4, p5⟩ := a0
      have C := Lib.hid cl
      clear cl
      have i4 : (k : Int) < n := by omega
      have UR := Lib.hid ur
      clear ur
      go_wp2_with fail
      refine (C.out _).mono ?_; rintro x wA ⟨rfl, uA⟩
      have UN := Lib.hid ((UR.out.alloc _).trans uA)
      clear uA
      cases r
      · have HF := Lib.hid (show res = false by rw [← HR.out, S'.out]; rfl)
        go_wp2; go_ret
        exact ⟨ret_bool HF.out.symm, UN.out⟩
      · have HN := Lib.hid (show (xs.drop (k + 1)).all (takB many til) = res by rw [← HR.out, S'.out]; rfl)
        go_wp2
        go_roundw
        case rel => exact ⟨⟨k + 1, by omega, by go_num, HN⟩, UN.out⟩
        case measure => simp [intOf]; omega
    · obtain rfl : k = n := by omega
      have i4 : ¬ (k : Int) < k := by omega
      have HT := Lib.hid (show res = true by rw [← HR.out]; exact AE.out k (by rw [LE.out]; omega))
      have UR := Lib.hid ur
      clear ur; go_wp2; go_ret
      exact ⟨ret_bool HT.out.symm, UR.out⟩
set_option maxHeartbeats 2000000 in
theorem everyR_any (A : Option Addr) (n cap : Nat) (xs : List Rec) (mp : Option Nat) (many til : Int) (w : World) (hn : n ≤ 1048576) (hE : Recs w A n xs) :
    Calls Try.prog 134 #[.slice A n cap, .func (.func 135) #[.agg #[.map mp, .int .i64 many, .int .i64 til]] #[]] w fun x w' => x = .returned (.bool (xs.all (recB many))) ∧ Up w w' := by
  have AD := Lib.hid (fun k h => all_drop (f := recB many) (d := default) xs k h)
  have AE := Lib.hid (fun k h => all_end (f := recB many) xs k h)
  have CL := Lib.hid (fun x W => records_any mp many til x W)
  have HE := Lib.hid hE
  have LE := Lib.hid hE.1
  have H0 := Lib.hid (show (xs.drop 0).all (recB many) = xs.all (recB many) from rfl)
  generalize xs.all (recB many) = res at H0 ⊢
  clear hE
  go_enter Try.func134, Try.ntmps134
  go_wp2
  go_loopw [9] (fun i wr => (∃ k : Nat, k ≤ n ∧ i = .int .i64 k ∧ Hid ((xs.drop k).all (recB many) = res)) ∧ Up w wr) (fun i _ => n - (intOf i).toNat)
  case atStart => exact ⟨⟨0, by omega, rfl, H0⟩, Up.refl _⟩
  case round =>
    obtain ⟨⟨k, hk, rfl, HR⟩, ur⟩ := hrel
    by_cases hlt : k < n
    · obtain ⟨b, off, hA, hb, hc⟩ := HE.out.2 (by omega)
      subst hA
      have a0 := (hc k hlt).up ur hb
      have hb' : b < wr.heap.size := by have := ur.size; omega
      clear hc
      have S := AD.out k (by rw [LE.out]; exact hlt)
      have cl := CL.out (xs.getD k default)
      generalize xs.getD k default = p at a0 S cl
      generalize hfp : (recB many) p = r at S cl
      have S' := Lib.hid S
      clear S hfp; unfold RecAt at a0; unfold Rec.v at cl; obtain ⟨p0, p1, p2, p3, p4, p5, p6⟩ := a0
      have C := Lib.hid cl
      clear cl
      have i4 : (k : Int) < n := by omega
      have UR := Lib.hid ur
      clear ur
      go_wp2_with fail
      refine (C.out _).mono ?_; rintro x wA ⟨rfl, uA⟩
      have UN := Lib.hid ((UR.out.alloc _).trans uA)
      clear uA
      cases r
      · have HF := Lib.hid (show res = false by rw [← HR.out, S'.out]; rfl)
        go_wp2; go_ret
        exact ⟨ret_bool HF.out.symm, UN.out⟩
      · have HN := Lib.hid (show (xs.drop (k + 1)).all (recB many) = res by rw [← HR.out, S'.out]; rfl)
        go_wp2
        go_roundw
        case rel => exact ⟨⟨k + 1, by omega, by go_num, HN⟩, UN.out⟩
        case measure => simp [intOf]; omega
    · obtain rfl : k = n := by omega
      have i4 : ¬ (k : Int) < k := by omega
      have HT := Lib.hid (show res = true by rw [← HR.out]; exact AE.out k (by rw [LE.out]; omega))
      have UR := Lib.hid ur
      clear ur; go_wp2; go_ret
      exact ⟨ret_bool HT.out.symm, UR.out⟩
end Go.Proofs.Ytklldniapombiaa

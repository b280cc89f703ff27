/-
  What itemsOf and EqualFunc return, in one sentence: the items of what was done, and whether items are of these events; for every list that lies in memory.
  What event returns, in one sentence: the event that is sent; for a send, a state and an event in bounds.
-/
import Derived.Test.YtjdoealcmokakaaGreatDLEhok01
import Derived.Test.YtjdoealcmokakaaGreatDLEhok07
import Derived.Test.YtjdoealcmokakaaGreatDLEhok09
import Derived.Test.YtjdoealcmokakaaGreatDLEhok13
import Derived.Test.YtjdoealcmokakaaGreatDLEhok15
import Derived.Test.YtjdoealcmokakaaGreatDLEhok16
import Derived.Test.YtjdoealcmokakaaGreatDLEhok25
namespace Go.Proofs.YtjdoealcmokakaaGreat
set_option maxRecDepth 100000
open Go.RowKit
theorem itsOf_getD (ds : List Don) (k : Nat) (h : k < ds.length) : (itsOf ds).getD k default = (ds.getD k default).it := by simp [itsOf, List.getD, h]
set_option maxHeartbeats 4000000 in
theorem itemsOf_any (A : Option Addr) (n cap : Nat) (ds : List Don) (w : World) (hn : n ≤ 1048576) (hE : Dons w A n ds) :
    Calls Tryz.prog 83 #[.slice A n cap] w fun x w' => ∃ g, x = .returned (.slice (some ⟨g, 0, none⟩) n n) ∧ Recs w' (some ⟨g, 0, none⟩) n (itsOf ds) ∧ Up w w' := by
  obtain ⟨i0, hi, hz0, hz1, hz2⟩ := info_parts info72
  have hmk := fun W => run_make_rowN (P := Tryz.prog) 43 72 i0 _ Tryz.underlying43 hi hz0 .i64 .i64 n n (Nat.le_refl _) (by rw [hz2]; omega) (by omega) W
  rw [hz1] at hmk
  have HE := Lib.hid hE
  have LE := Lib.hid hE.1
  clear hE hi hz0 hz1 hz2
  go_enter Tryz.func83, Tryz.ntmps83
  go_wp2
  generalize hg : w.heap.size = g
  have HG := Lib.hid (Nat.le_of_eq hg)
  go_loopw [11] (fun i wr => (∃ k : Nat, k ≤ n ∧ i = .int .i64 k ∧ RowsTo wr g n 7 k (fun i j => (ds.getD i default).it.nums.getD j 0)) ∧ Up w wr) (fun i _ => n - (intOf i).toNat)
  case atStart =>
    refine ⟨⟨0, by omega, rfl, ?_⟩, (Up.refl _).alloc _⟩; subst hg
    exact RowsTo.start w n 7 #[.int .i64 0, .int .i64 0, .int .i64 0, .int .i64 0, .int .i64 0, .int .i64 0, .int .i64 0] 72 _ (fun j hj => by
      have h : j = 0 ∨ j = 1 ∨ j = 2 ∨ j = 3 ∨ j = 4 ∨ j = 5 ∨ j = 6 := by simp at hj; omega
      rcases h with rfl | rfl | rfl | rfl | rfl | rfl | rfl <;> rfl) (by simp)
  case round =>
    obtain ⟨⟨k, hk, rfl, hp⟩, ur⟩ := hrel
    have HP := Lib.hid hp
    have UR := Lib.hid ur
    by_cases hlt : k < n
    · obtain ⟨b, off, hA, hb, hc⟩ := (HE.out.up ur).2.2 (by omega)
      subst hA
      have a0 := hc k hlt
      clear hc hp ur
      have SX := Lib.hid (fun W (h : RowsTo W g n 7 k (fun i j => (ds.getD i default).it.nums.getD j 0)) => h.step hlt ((ds.getD k default).it.nums.getD · 0) (fun j _ => rfl))
      generalize ds.getD k default = p at a0 SX
      obtain ⟨S3, l3, e3, a0, -, -⟩ := a0; obtain ⟨⟨⟨p0, p1, p2, p3, p4, p5⟩, p6⟩, ⟨p7, p8, p9⟩, p10, ps⟩ := p; dsimp only at a0 SX; obtain ⟨z0, z1, z2, z3, z4, z5, z6, z7, z8, z9, z10, z11⟩ := a0
      have i4 : (k : Int) < n := by omega
      have i6 : IntKind.i64.wrap ((k : Int) + 1) = (k : Int) + 1 := IntWalk.i64_in _ (by omega)
      obtain ⟨⟨⟨v0, c0⟩, f0⟩, ⟨⟨v1, c1⟩, f1⟩, ⟨⟨v2, c2⟩, f2⟩, ⟨⟨v3, c3⟩, f3⟩, ⟨⟨v4, c4⟩, f4⟩, ⟨⟨v5, c5⟩, f5⟩, ⟨⟨v6, c6⟩, f6⟩⟩ := And.intro (HP.out.1.2 (k * 7) (by omega)) (And.intro (HP.out.1.2 (k * 7 + 1) (by omega)) (And.intro (HP.out.1.2 (k * 7 + 2) (by omega)) (And.intro (HP.out.1.2 (k * 7 + 3) (by omega)) (And.intro (HP.out.1.2 (k * 7 + 4) (by omega)) (And.intro (HP.out.1.2 (k * 7 + 5) (by omega)) (HP.out.1.2 (k * 7 + 6) (by omega)))))))
      have NX := SX.out _ HP.out
      have UX := UR.out.putF HG.out (k * 7) ((⟨⟨p0, p1, p2, p3, p4, p5⟩, p6⟩ : Rec).nums.getD · 0) 7
      simp only [putF, Rec.nums, Nat.add_zero, List.getD_cons_zero, List.getD_cons_succ] at NX UX
      replace NX := Lib.hid (NX.up ((Up.refl _).alloc (.cells #[.int .i64 p0, .int .i64 p1, .int .i64 p2, .int .i64 p3, .int .i64 p4, .int .i64 p5, .int .i64 p6, .int .i64 p7, .int .i64 p8, .int .i64 p9, .int .i64 p10, .slice S3 l3 e3] 125)))
      replace UX := Lib.hid (UX.alloc (.cells #[.int .i64 p0, .int .i64 p1, .int .i64 p2, .int .i64 p3, .int .i64 p4, .int .i64 p5, .int .i64 p6, .int .i64 p7, .int .i64 p8, .int .i64 p9, .int .i64 p10, .slice S3 l3 e3] 125))
      have hgl := HP.out.1.1
      have hgn : wr.heap.size ≠ g := by omega
      have hgn2 : g ≠ wr.heap.size := by omega
      clear SX; go_wp2
      go_roundw
      case rel => exact ⟨⟨k + 1, by omega, by go_num, NX.out⟩, UX.out⟩
      case measure => simp [intOf]; omega
    · obtain rfl : k = n := by omega
      have i4 : ¬ (k : Int) < k := by omega
      clear hp ur; go_wp2; go_ret
      exact ⟨g, rfl, ⟨by rw [itsOf, List.length_map, LE.out], fun _ => ⟨g, 0, rfl, HP.out.1.1, fun i hi => by
        have h := HP.out.2 i hi
        rw [itsOf_getD ds i (by rw [LE.out]; exact hi)]
        exact ⟨by rw [Nat.zero_add]; exact h 0 (by omega), by rw [Nat.zero_add]; exact h 1 (by omega), by rw [Nat.zero_add]; exact h 2 (by omega), by rw [Nat.zero_add]; exact h 3 (by omega), by rw [Nat.zero_add]; exact h 4 (by omega), by rw [Nat.zero_add]; exact h 5 (by omega), by rw [Nat.zero_add]; exact h 6 (by omega)⟩⟩⟩, UR.out⟩
set_option maxHeartbeats 4000000 in
theorem leads1_any (x : Rec) (e : Evt) (ids : Int) (bI : Nat) (w : World) (hi : 0 ≤ ids ∧ ids ≤ 9999) (hI : Blk w bI 3 #[.int .i64 ids]) :
    Calls Tryz.prog 135 #[x.v, e.v, .pointer (some ⟨bI, 0, none⟩)] w fun z w' => z = .returned (.bool (decide (x.ev = e) && inB x.s 0 (ids - 1))) ∧ Up w w' := by
  have CW := Lib.hid (fun W => within_any x.s 0 (ids - 1) W)
  have ce := fun W => eql_evt x.ev e W
  rw [eqB_dec]
  generalize eqB x.ev e = b1 at ce ⊢
  generalize inB x.s 0 (ids - 1) = b2 at CW ⊢
  obtain ⟨⟨a0, a1, a2, a3, a4, a5⟩, a6⟩ := x; obtain ⟨e0, e1, e2, e3, e4, e5⟩ := e; unfold Rec.v Evt.v; unfold Evt.v at ce; dsimp only at ce CW ⊢
  have gd := guard_evt
  have iw : IntKind.i64.wrap (ids - 1) = ids - 1 := IntWalk.i64_in _ (by omega)
  have X := Lib.hid ((Blk.new w #[.int .i64 a0, .int .i64 a1, .int .i64 a2, .int .i64 a3, .int .i64 a4, .int .i64 a5, .int .i64 a6] 72).alloc (.cells #[.int .i64 e0, .int .i64 e1, .int .i64 e2, .int .i64 e3, .int .i64 e4, .int .i64 e5] 70))
  have U := Lib.hid (((Up.refl w).alloc (.cells #[.int .i64 a0, .int .i64 a1, .int .i64 a2, .int .i64 a3, .int .i64 a4, .int .i64 a5, .int .i64 a6] 72)).alloc (.cells #[.int .i64 e0, .int .i64 e1, .int .i64 e2, .int .i64 e3, .int .i64 e4, .int .i64 e5] 70))
  have c0 := (hI.up U.out).cell (j := 0) rfl
  have lc := (hI.up U.out).lt
  clear hI
  cases b1
  · go_enter Tryz.func135, Tryz.ntmps135
    go_wp2; go_ret
    exact ⟨rfl, U.out⟩
  · go_enter Tryz.func135, Tryz.ntmps135
    go_wp2_with fail
    refine (CW.out _).mono ?_; rintro v w1 ⟨rfl, rfl⟩; go_wp2; go_ret
    exact ⟨ret_bool (by simp), U.out⟩
set_option maxHeartbeats 8000000 in
theorem equalF_any (A : Option Addr) (l e : Nat) (B : Option Addr) (q f : Nat) (xs : List Rec) (es : List Evt) (ids : Int) (bI : Nat) (w : World) (hl : l ≤ 1000000000) (hq : q ≤ 1000000000) (hi : 0 ≤ ids ∧ ids ≤ 9999) (hE : Recs w A l xs) (hF : Evs w B q es) (hI : Blk w bI 3 #[.int .i64 ids]) :
    Calls Tryz.prog 136 #[.slice A l e, .slice B q f, .func (.func 135) #[] #[.pointer (some ⟨bI, 0, none⟩)]] w fun x w' => x = .returned (.bool (sameL ids xs es)) ∧ Up w w' := by
  have HE := Lib.hid hE
  have HF := Lib.hid hF
  have LE := Lib.hid hE.1
  have LF := Lib.hid hF.1
  have CL := Lib.hid (fun a b W (u : Up w W) => leads1_any a b ids bI W hi (hI.up u))
  by_cases hne : l = q
  · subst hne
    have SD := Lib.hid (fun j h1 h2 => sameL_drop ids xs es j h1 h2)
    have SE := Lib.hid (fun j h1 h2 => sameL_end ids xs es j h1 h2)
    have H0 := Lib.hid (show sameL ids (xs.drop 0) (es.drop 0) = sameL ids xs es from rfl)
    generalize sameL ids xs es = res at H0 ⊢
    clear hE hF hi hI
    go_enter Tryz.func136, Tryz.ntmps136
    go_wp2
    go_loopw [17] (fun i wr => (∃ j : Nat, j ≤ l ∧ i = .int .i64 j ∧ Hid (sameL ids (xs.drop j) (es.drop j) = res)) ∧ Up w wr) (fun i _ => l - (intOf i).toNat)
    case atStart => exact ⟨⟨0, by omega, rfl, H0⟩, Up.refl _⟩
    case round =>
      obtain ⟨⟨j, hj, rfl, HR⟩, ur⟩ := hrel
      have UR := Lib.hid ur
      by_cases hlt : j < l
      · have i4 : (j : Int) < l := by omega
        have i5 : j < l := hlt
        obtain ⟨b, off, hA, hb, hc⟩ := (HE.out.up ur).2 (by omega); obtain ⟨b2, off2, hA2, hb2, hc2⟩ := (HF.out.up ur).2 (by omega); subst hA hA2
        have a0 := hc j hlt
        have S := SD.out j (by rw [LE.out]; exact hlt) (by rw [LF.out]; exact hlt)
        rw [HR.out] at S
        have cl := CL.out (xs.getD j default) (es.getD j default)
        have a1 := hc2 j hlt
        generalize xs.getD j default = p at S a0 cl
        generalize es.getD j default = g at S a1 cl
        generalize (decide (p.ev = g) && inB p.s 0 (ids - 1)) = r at S cl
        replace S := Lib.hid S
        obtain ⟨⟨p0, p1, p2, p3, p4, p5⟩, p6⟩ := p; obtain ⟨g0, g1, g2, g3, g4, g5⟩ := g; unfold Rec.v Evt.v at cl; unfold RecAt at a0; unfold EvAt at a1; dsimp only at cl a0 a1
        have C := Lib.hid cl
        obtain ⟨z0, z1, z2, z3, z4, z5, z6⟩ := a0; obtain ⟨y0, y1, y2, y3, y4, y5⟩ := a1
        have UE := Lib.hid (((Up.refl wr).alloc (.cells #[.int .i64 p0, .int .i64 p1, .int .i64 p2, .int .i64 p3, .int .i64 p4, .int .i64 p5, .int .i64 p6] 72)).alloc (.cells #[.int .i64 g0, .int .i64 g1, .int .i64 g2, .int .i64 g3, .int .i64 g4, .int .i64 g5] 70))
        clear hc hc2 ur cl HR
        go_wp2_with fail
        refine (C.out _ (UR.out.trans UE.out)).mono ?_; rintro x wA ⟨rfl, uA⟩
        have UN := Lib.hid (UR.out.trans (UE.out.trans uA))
        clear uA
        cases r
        · have HF := Lib.hid (show res = false by rw [S.out]; rfl)
          go_wp2; go_ret
          exact ⟨ret_bool HF.out.symm, UN.out⟩
        · have HN := Lib.hid (show sameL ids (xs.drop (j + 1)) (es.drop (j + 1)) = res by rw [S.out]; rfl)
          go_wp2
          go_roundw
          case rel => exact ⟨⟨j + 1, by omega, by go_num, HN⟩, UN.out⟩
          case measure => simp [intOf]; omega
      · obtain rfl : j = l := by omega
        have i4 : ¬ (j : Int) < j := by omega
        have HT := Lib.hid (show res = true by rw [← HR.out]; exact SE.out j (by rw [LE.out]; omega) (by rw [LF.out]; omega))
        clear ur; go_wp2; go_ret
        exact ⟨ret_bool HT.out.symm, UR.out⟩
  · have HT := Lib.hid (show sameL ids xs es = false from sameL_len ids xs es (by rw [LE.out, LF.out]; exact hne))
    generalize sameL ids xs es = res at HT ⊢
    have j1 : ¬ (l : Int) = q := by omega
    clear hE hF hi hI
    go_enter Tryz.func136, Tryz.ntmps136
    go_wp2; go_ret
    exact ⟨ret_bool HT.out.symm, Up.refl _⟩
end Go.Proofs.YtjdoealcmokakaaGreat

namespace Go.Proofs.YtjdoealcmokakaaGreat
set_option maxRecDepth 100000
open Go.RowKit
def evV (b3 b4 b5 : Nat) (et eto xt xto xfr xsq ss sq d : Int) (i : Nat) (v : Value) : Prop := if i = 7 then v = .pointer (some ⟨b5, 0, none⟩) else if i = 8 then v = .int .i64 et else if i = 9 then v = .pointer (some ⟨b3, 1, none⟩) else if i = 10 then v = .int .i64 xto else if i = 11 then v = .int .i64 (et + xto) else if i = 12 then v = .pointer (some ⟨b3, 0, none⟩) else if i = 13 then v = .int .i64 xt else if i = 14 then v = .pointer (some ⟨b5, 1, none⟩) else if i = 15 then v = .int .i64 eto else if i = 16 then v = .pointer (some ⟨b4, 1, none⟩) else if i = 17 then v = .int .i64 sq else if i = 18 then v = .pointer (some ⟨b3, 2, none⟩) else if i = 19 then v = .int .i64 xfr else if i = 20 then v = .pointer (some ⟨b4, 0, none⟩) else if i = 21 then v = .int .i64 ss else if i = 22 then v = .pointer (some ⟨b3, 3, none⟩) else if i = 23 then v = .int .i64 xsq else if i = 24 then v = .int .i64 d else v = .agg #[.int .i64 (et + xto), .int .i64 xt, .int .i64 eto, .int .i64 sq, .int .i64 xfr, .int .i64 d]
theorem evV_7 {b3 b4 b5 : Nat} {et eto xt xto xfr xsq ss sq d : Int} (v : Value) : evV b3 b4 b5 et eto xt xto xfr xsq ss sq d 7 v = (v = .pointer (some ⟨b5, 0, none⟩)) := by simp [evV]
theorem evV_8 {b3 b4 b5 : Nat} {et eto xt xto xfr xsq ss sq d : Int} (v : Value) : evV b3 b4 b5 et eto xt xto xfr xsq ss sq d 8 v = (v = .int .i64 et) := by simp [evV]
theorem evV_9 {b3 b4 b5 : Nat} {et eto xt xto xfr xsq ss sq d : Int} (v : Value) : evV b3 b4 b5 et eto xt xto xfr xsq ss sq d 9 v = (v = .pointer (some ⟨b3, 1, none⟩)) := by simp [evV]
theorem evV_10 {b3 b4 b5 : Nat} {et eto xt xto xfr xsq ss sq d : Int} (v : Value) : evV b3 b4 b5 et eto xt xto xfr xsq ss sq d 10 v = (v = .int .i64 xto) := by simp [evV]
theorem evV_11 {b3 b4 b5 : Nat} {et eto xt xto xfr xsq ss sq d : Int} (v : Value) : evV b3 b4 b5 et eto xt xto xfr xsq ss sq d 11 v = (v = .int .i64 (et + xto)) := by simp [evV]
theorem evV_12 {b3 b4 b5 : Nat} {et eto xt xto xfr xsq ss sq d : Int} (v : Value) : evV b3 b4 b5 et eto xt xto xfr xsq ss sq d 12 v = (v = .pointer (some ⟨b3, 0, none⟩)) := by simp [evV]
theorem evV_13 {b3 b4 b5 : Nat} {et eto xt xto xfr xsq ss sq d : Int} (v : Value) : evV b3 b4 b5 et eto xt xto xfr xsq ss sq d 13 v = (v = .int .i64 xt) := by simp [evV]
theorem evV_14 {b3 b4 b5 : Nat} {et eto xt xto xfr xsq ss sq d : Int} (v : Value) : evV b3 b4 b5 et eto xt xto xfr xsq ss sq d 14 v = (v = .pointer (some ⟨b5, 1, none⟩)) := by simp [evV]
theorem evV_15 {b3 b4 b5 : Nat} {et eto xt xto xfr xsq ss sq d : Int} (v : Value) : evV b3 b4 b5 et eto xt xto xfr xsq ss sq d 15 v = (v = .int .i64 eto) := by simp [evV]
theorem evV_16 {b3 b4 b5 : Nat} {et eto xt xto xfr xsq ss sq d : Int} (v : Value) : evV b3 b4 b5 et eto xt xto xfr xsq ss sq d 16 v = (v = .pointer (some ⟨b4, 1, none⟩)) := by simp [evV]
theorem evV_17 {b3 b4 b5 : Nat} {et eto xt xto xfr xsq ss sq d : Int} (v : Value) : evV b3 b4 b5 et eto xt xto xfr xsq ss sq d 17 v = (v = .int .i64 sq) := by simp [evV]
theorem evV_18 {b3 b4 b5 : Nat} {et eto xt xto xfr xsq ss sq d : Int} (v : Value) : evV b3 b4 b5 et eto xt xto xfr xsq ss sq d 18 v = (v = .pointer (some ⟨b3, 2, none⟩)) := by simp [evV]
theorem evV_19 {b3 b4 b5 : Nat} {et eto xt xto xfr xsq ss sq d : Int} (v : Value) : evV b3 b4 b5 et eto xt xto xfr xsq ss sq d 19 v = (v = .int .i64 xfr) := by simp [evV]
theorem evV_20 {b3 b4 b5 : Nat} {et eto xt xto xfr xsq ss sq d : Int} (v : Value) : evV b3 b4 b5 et eto xt xto xfr xsq ss sq d 20 v = (v = .pointer (some ⟨b4, 0, none⟩)) := by simp [evV]
theorem evV_21 {b3 b4 b5 : Nat} {et eto xt xto xfr xsq ss sq d : Int} (v : Value) : evV b3 b4 b5 et eto xt xto xfr xsq ss sq d 21 v = (v = .int .i64 ss) := by simp [evV]
theorem evV_22 {b3 b4 b5 : Nat} {et eto xt xto xfr xsq ss sq d : Int} (v : Value) : evV b3 b4 b5 et eto xt xto xfr xsq ss sq d 22 v = (v = .pointer (some ⟨b3, 3, none⟩)) := by simp [evV]
theorem evV_23 {b3 b4 b5 : Nat} {et eto xt xto xfr xsq ss sq d : Int} (v : Value) : evV b3 b4 b5 et eto xt xto xfr xsq ss sq d 23 v = (v = .int .i64 xsq) := by simp [evV]
theorem evV_24 {b3 b4 b5 : Nat} {et eto xt xto xfr xsq ss sq d : Int} (v : Value) : evV b3 b4 b5 et eto xt xto xfr xsq ss sq d 24 v = (v = .int .i64 d) := by simp [evV]
theorem evV_25 {b3 b4 b5 : Nat} {et eto xt xto xfr xsq ss sq d : Int} (v : Value) : evV b3 b4 b5 et eto xt xto xfr xsq ss sq d 25 v = (v = .agg #[.int .i64 (et + xto), .int .i64 xt, .int .i64 eto, .int .i64 sq, .int .i64 xfr, .int .i64 d]) := by simp [evV]
set_option maxHeartbeats 8000000 in
theorem event_any (ss sq st et eto efr esq ekd edt xt xto xfr xsq xkd xdt : Int) (hs : 0 ≤ ss ∧ ss ≤ 1000) (hx : 0 ≤ xsq ∧ xsq ≤ 1000) (he : 0 ≤ et ∧ et ≤ 1000) (ho : 0 ≤ xto ∧ xto ≤ 1000) (w : World) :
    Calls Tryz.prog 147 #[.agg #[.int .i64 xt, .int .i64 xto, .int .i64 xfr, .int .i64 xsq, .int .i64 xkd, .int .i64 xdt], .agg #[.int .i64 ss, .int .i64 sq, .int .i64 st], .agg #[.int .i64 et, .int .i64 eto, .int .i64 efr, .int .i64 esq, .int .i64 ekd, .int .i64 edt]] w
      fun z w' => z = .returned (.agg #[.int .i64 (et + xto), .int .i64 xt, .int .i64 eto, .int .i64 sq, .int .i64 xfr, .int .i64 ((ss + xsq) % 97)]) ∧ Up w w' := by
  have X3 := Lib.hid ((((Box.new w ⟨xt, xto, xfr, xsq, xkd, xdt⟩ 173).up ((Up.refl _).alloc (.cells #[.int .i64 ss, .int .i64 sq, .int .i64 st] 41))).up ((Up.refl _).alloc (.cells #[.int .i64 et, .int .i64 eto, .int .i64 efr, .int .i64 esq, .int .i64 ekd, .int .i64 edt] 70))).up ((Up.refl _).alloc (.cells #[.int .i64 0, .int .i64 0, .int .i64 0, .int .i64 0, .int .i64 0, .int .i64 0] 70)))
  have X4 := Lib.hid (((Box3.new (w.alloc (.cells #[.int .i64 xt, .int .i64 xto, .int .i64 xfr, .int .i64 xsq, .int .i64 xkd, .int .i64 xdt] 173)) (.int .i64 ss) (.int .i64 sq) (.int .i64 st) 41).up ((Up.refl _).alloc (.cells #[.int .i64 et, .int .i64 eto, .int .i64 efr, .int .i64 esq, .int .i64 ekd, .int .i64 edt] 70))).up ((Up.refl _).alloc (.cells #[.int .i64 0, .int .i64 0, .int .i64 0, .int .i64 0, .int .i64 0, .int .i64 0] 70)))
  have X5 := Lib.hid ((Box.new ((w.alloc (.cells #[.int .i64 xt, .int .i64 xto, .int .i64 xfr, .int .i64 xsq, .int .i64 xkd, .int .i64 xdt] 173)).alloc (.cells #[.int .i64 ss, .int .i64 sq, .int .i64 st] 41)) ⟨et, eto, efr, esq, ekd, edt⟩ 70).up ((Up.refl _).alloc (.cells #[.int .i64 0, .int .i64 0, .int .i64 0, .int .i64 0, .int .i64 0, .int .i64 0] 70)))
  have X6 := Lib.hid (Box.new (((w.alloc (.cells #[.int .i64 xt, .int .i64 xto, .int .i64 xfr, .int .i64 xsq, .int .i64 xkd, .int .i64 xdt] 173)).alloc (.cells #[.int .i64 ss, .int .i64 sq, .int .i64 st] 41)).alloc (.cells #[.int .i64 et, .int .i64 eto, .int .i64 efr, .int .i64 esq, .int .i64 ekd, .int .i64 edt] 70)) ⟨0, 0, 0, 0, 0, 0⟩ 70)
  have UW := Lib.hid ((((Up.refl w).alloc (.cells #[.int .i64 xt, .int .i64 xto, .int .i64 xfr, .int .i64 xsq, .int .i64 xkd, .int .i64 xdt] 173)).alloc (.cells #[.int .i64 ss, .int .i64 sq, .int .i64 st] 41)).alloc (.cells #[.int .i64 et, .int .i64 eto, .int .i64 efr, .int .i64 esq, .int .i64 ekd, .int .i64 edt] 70) |>.alloc (.cells #[.int .i64 0, .int .i64 0, .int .i64 0, .int .i64 0, .int .i64 0, .int .i64 0] 70))
  simp only [World.size_alloc] at X4 X5 X6
  go_enter Tryz.func147, Tryz.ntmps147
  go_wp2_with fail
  generalize (((w.alloc (.cells #[.int .i64 xt, .int .i64 xto, .int .i64 xfr, .int .i64 xsq, .int .i64 xkd, .int .i64 xdt] 173)).alloc (.cells #[.int .i64 ss, .int .i64 sq, .int .i64 st] 41)).alloc (.cells #[.int .i64 et, .int .i64 eto, .int .i64 efr, .int .i64 esq, .int .i64 ekd, .int .i64 edt] 70)).alloc (.cells #[.int .i64 0, .int .i64 0, .int .i64 0, .int .i64 0, .int .i64 0, .int .i64 0] 70) = W0 at *
  generalize hb3 : w.heap.size = b3 at *
  generalize hb4 : b3 + 1 = b4 at *
  generalize hb5 : b4 + 1 = b5 at *
  generalize hb6 : b5 + 1 = b6 at *
  refine region_rely 19 [(19, false)] [7, 8, 9, 10, 11, 12, 13, 14, 15, 16, 17, 18, 19, 20, 21, 22, 23, 24, 25] (fun _ w1 => Up W0 w1) Up (fun i v _ => evV b3 b4 b5 et eto xt xto xfr xsq ss sq ((ss + xsq) % 97) i v) (by kernel_rfl) (by kernel_rfl) (by kernel_rfl) ((Up.refl _).drew) (fun _ _ _ _ h _ => h) ?_ ?_
  · simp only [List.take_succ_cons, List.take_zero, StepsR]
    refine ⟨?_, ?_, ?_, ?_, ?_, ?_, ?_, ?_, ?_, ?_, ?_, ?_, ?_, ?_, ?_, ?_, ?_, ?_, ?_, trivial⟩
    · intro X w1 k1 hG hdep
      simp only [opW_def, mixT]; go_simp
      exact ⟨⟨.pointer (some ⟨b5, 0, none⟩), by first | rfl | simp [Act.put], Up.refl _, hG, (show evV b3 b4 b5 et eto xt xto xfr xsq ss sq ((ss + xsq) % 97) 7 _ from by rw [evV_7])⟩⟩
    · intro X w1 k1 hG hdep
      have e7 : evV b3 b4 b5 et eto xt xto xfr xsq ss sq ((ss + xsq) % 97) 7 (X 7) := hdep 7 (by decide +kernel)
      rw [evV_7] at e7; obtain ⟨y0, y1, y2, y3, y4, y5⟩ := ((X5.out.up hG).mk6).1; simp only [opW_def, mixT, e7]; go_simp
      exact ⟨⟨.int .i64 et, by first | rfl | simp [Act.put], Up.refl _, hG, (show evV b3 b4 b5 et eto xt xto xfr xsq ss sq ((ss + xsq) % 97) 8 _ from by rw [evV_8])⟩⟩
    · intro X w1 k1 hG hdep
      simp only [opW_def, mixT]; go_simp
      exact ⟨⟨.pointer (some ⟨b3, 1, none⟩), by first | rfl | simp [Act.put], Up.refl _, hG, (show evV b3 b4 b5 et eto xt xto xfr xsq ss sq ((ss + xsq) % 97) 9 _ from by rw [evV_9])⟩⟩
    · intro X w1 k1 hG hdep
      have e9 : evV b3 b4 b5 et eto xt xto xfr xsq ss sq ((ss + xsq) % 97) 9 (X 9) := hdep 9 (by decide +kernel)
      rw [evV_9] at e9; obtain ⟨v0, v1, v2, v3, v4, v5⟩ := ((X3.out.up hG).mk6).1; simp only [opW_def, mixT, e9]; go_simp
      exact ⟨⟨.int .i64 xto, by first | rfl | simp [Act.put], Up.refl _, hG, (show evV b3 b4 b5 et eto xt xto xfr xsq ss sq ((ss + xsq) % 97) 10 _ from by rw [evV_10])⟩⟩
    · intro X w1 k1 hG hdep
      have e8 : evV b3 b4 b5 et eto xt xto xfr xsq ss sq ((ss + xsq) % 97) 8 (X 8) := hdep 8 (by decide +kernel)
      rw [evV_8] at e8
      have e10 : evV b3 b4 b5 et eto xt xto xfr xsq ss sq ((ss + xsq) % 97) 10 (X 10) := hdep 10 (by decide +kernel)
      rw [evV_10] at e10
      have i1 : IntKind.i64.wrap (et + xto) = et + xto := IntWalk.i64_in _ (by omega)
      simp only [opW_def, mixT, e8, e10]; go_simp
      exact ⟨⟨.int .i64 (et + xto), by first | rfl | simp [Act.put], Up.refl _, hG, (show evV b3 b4 b5 et eto xt xto xfr xsq ss sq ((ss + xsq) % 97) 11 _ from by rw [evV_11])⟩⟩
    · intro X w1 k1 hG hdep
      simp only [opW_def, mixT]; go_simp
      exact ⟨⟨.pointer (some ⟨b3, 0, none⟩), by first | rfl | simp [Act.put], Up.refl _, hG, (show evV b3 b4 b5 et eto xt xto xfr xsq ss sq ((ss + xsq) % 97) 12 _ from by rw [evV_12])⟩⟩
    · intro X w1 k1 hG hdep
      have e12 : evV b3 b4 b5 et eto xt xto xfr xsq ss sq ((ss + xsq) % 97) 12 (X 12) := hdep 12 (by decide +kernel)
      rw [evV_12] at e12; obtain ⟨v0, v1, v2, v3, v4, v5⟩ := ((X3.out.up hG).mk6).1; simp only [opW_def, mixT, e12]; go_simp
      exact ⟨⟨.int .i64 xt, by first | rfl | simp [Act.put], Up.refl _, hG, (show evV b3 b4 b5 et eto xt xto xfr xsq ss sq ((ss + xsq) % 97) 13 _ from by rw [evV_13])⟩⟩
    · intro X w1 k1 hG hdep
      simp only [opW_def, mixT]; go_simp
      exact ⟨⟨.pointer (some ⟨b5, 1, none⟩), by first | rfl | simp [Act.put], Up.refl _, hG, (show evV b3 b4 b5 et eto xt xto xfr xsq ss sq ((ss + xsq) % 97) 14 _ from by rw [evV_14])⟩⟩
    · intro X w1 k1 hG hdep
      have e14 : evV b3 b4 b5 et eto xt xto xfr xsq ss sq ((ss + xsq) % 97) 14 (X 14) := hdep 14 (by decide +kernel)
      rw [evV_14] at e14; obtain ⟨y0, y1, y2, y3, y4, y5⟩ := ((X5.out.up hG).mk6).1; simp only [opW_def, mixT, e14]; go_simp
      exact ⟨⟨.int .i64 eto, by first | rfl | simp [Act.put], Up.refl _, hG, (show evV b3 b4 b5 et eto xt xto xfr xsq ss sq ((ss + xsq) % 97) 15 _ from by rw [evV_15])⟩⟩
    · intro X w1 k1 hG hdep
      simp only [opW_def, mixT]; go_simp
      exact ⟨⟨.pointer (some ⟨b4, 1, none⟩), by first | rfl | simp [Act.put], Up.refl _, hG, (show evV b3 b4 b5 et eto xt xto xfr xsq ss sq ((ss + xsq) % 97) 16 _ from by rw [evV_16])⟩⟩
    · intro X w1 k1 hG hdep
      have e16 : evV b3 b4 b5 et eto xt xto xfr xsq ss sq ((ss + xsq) % 97) 16 (X 16) := hdep 16 (by decide +kernel)
      rw [evV_16] at e16; obtain ⟨c0, c1, c2⟩ := And.intro (X4.out.up hG).c0 (And.intro (X4.out.up hG).c1 (X4.out.up hG).c2); simp only [opW_def, mixT, e16]; go_simp
      exact ⟨⟨.int .i64 sq, by first | rfl | simp [Act.put], Up.refl _, hG, (show evV b3 b4 b5 et eto xt xto xfr xsq ss sq ((ss + xsq) % 97) 17 _ from by rw [evV_17])⟩⟩
    · intro X w1 k1 hG hdep
      simp only [opW_def, mixT]; go_simp
      exact ⟨⟨.pointer (some ⟨b3, 2, none⟩), by first | rfl | simp [Act.put], Up.refl _, hG, (show evV b3 b4 b5 et eto xt xto xfr xsq ss sq ((ss + xsq) % 97) 18 _ from by rw [evV_18])⟩⟩
    · intro X w1 k1 hG hdep
      have e18 : evV b3 b4 b5 et eto xt xto xfr xsq ss sq ((ss + xsq) % 97) 18 (X 18) := hdep 18 (by decide +kernel)
      rw [evV_18] at e18; obtain ⟨v0, v1, v2, v3, v4, v5⟩ := ((X3.out.up hG).mk6).1; simp only [opW_def, mixT, e18]; go_simp
      exact ⟨⟨.int .i64 xfr, by first | rfl | simp [Act.put], Up.refl _, hG, (show evV b3 b4 b5 et eto xt xto xfr xsq ss sq ((ss + xsq) % 97) 19 _ from by rw [evV_19])⟩⟩
    · intro X w1 k1 hG hdep
      simp only [opW_def, mixT]; go_simp
      exact ⟨⟨.pointer (some ⟨b4, 0, none⟩), by first | rfl | simp [Act.put], Up.refl _, hG, (show evV b3 b4 b5 et eto xt xto xfr xsq ss sq ((ss + xsq) % 97) 20 _ from by rw [evV_20])⟩⟩
    · intro X w1 k1 hG hdep
      have e20 : evV b3 b4 b5 et eto xt xto xfr xsq ss sq ((ss + xsq) % 97) 20 (X 20) := hdep 20 (by decide +kernel)
      rw [evV_20] at e20; obtain ⟨c0, c1, c2⟩ := And.intro (X4.out.up hG).c0 (And.intro (X4.out.up hG).c1 (X4.out.up hG).c2); simp only [opW_def, mixT, e20]; go_simp
      exact ⟨⟨.int .i64 ss, by first | rfl | simp [Act.put], Up.refl _, hG, (show evV b3 b4 b5 et eto xt xto xfr xsq ss sq ((ss + xsq) % 97) 21 _ from by rw [evV_21])⟩⟩
    · intro X w1 k1 hG hdep
      simp only [opW_def, mixT]; go_simp
      exact ⟨⟨.pointer (some ⟨b3, 3, none⟩), by first | rfl | simp [Act.put], Up.refl _, hG, (show evV b3 b4 b5 et eto xt xto xfr xsq ss sq ((ss + xsq) % 97) 22 _ from by rw [evV_22])⟩⟩
    · intro X w1 k1 hG hdep
      have e22 : evV b3 b4 b5 et eto xt xto xfr xsq ss sq ((ss + xsq) % 97) 22 (X 22) := hdep 22 (by decide +kernel)
      rw [evV_22] at e22; obtain ⟨v0, v1, v2, v3, v4, v5⟩ := ((X3.out.up hG).mk6).1; simp only [opW_def, mixT, e22]; go_simp
      exact ⟨⟨.int .i64 xsq, by first | rfl | simp [Act.put], Up.refl _, hG, (show evV b3 b4 b5 et eto xt xto xfr xsq ss sq ((ss + xsq) % 97) 23 _ from by rw [evV_23])⟩⟩
    · intro X w1 k1 hG hdep
      have e21 : evV b3 b4 b5 et eto xt xto xfr xsq ss sq ((ss + xsq) % 97) 21 (X 21) := hdep 21 (by decide +kernel)
      rw [evV_21] at e21
      have e23 : evV b3 b4 b5 et eto xt xto xfr xsq ss sq ((ss + xsq) % 97) 23 (X 23) := hdep 23 (by decide +kernel)
      rw [evV_23] at e23; simp only [opW_def, mixT, e21, e23]; go_simp; refine (plus_up ss xsq hs hx w1).mono ?_; rintro z w2 ⟨rfl, u⟩
      exact ⟨⟨.int .i64 ((ss + xsq) % 97), by first | rfl | simp [Act.put], u, hG.trans u, (show evV b3 b4 b5 et eto xt xto xfr xsq ss sq ((ss + xsq) % 97) 24 _ from by rw [evV_24])⟩⟩
    · intro X w1 k1 hG hdep
      have e11 : evV b3 b4 b5 et eto xt xto xfr xsq ss sq ((ss + xsq) % 97) 11 (X 11) := hdep 11 (by decide +kernel)
      rw [evV_11] at e11
      have e13 : evV b3 b4 b5 et eto xt xto xfr xsq ss sq ((ss + xsq) % 97) 13 (X 13) := hdep 13 (by decide +kernel)
      rw [evV_13] at e13
      have e15 : evV b3 b4 b5 et eto xt xto xfr xsq ss sq ((ss + xsq) % 97) 15 (X 15) := hdep 15 (by decide +kernel)
      rw [evV_15] at e15
      have e17 : evV b3 b4 b5 et eto xt xto xfr xsq ss sq ((ss + xsq) % 97) 17 (X 17) := hdep 17 (by decide +kernel)
      rw [evV_17] at e17
      have e19 : evV b3 b4 b5 et eto xt xto xfr xsq ss sq ((ss + xsq) % 97) 19 (X 19) := hdep 19 (by decide +kernel)
      rw [evV_19] at e19
      have e24 : evV b3 b4 b5 et eto xt xto xfr xsq ss sq ((ss + xsq) % 97) 24 (X 24) := hdep 24 (by decide +kernel)
      rw [evV_24] at e24; simp only [opW_def, mixT, e11, e13, e15, e17, e19, e24]; go_simp
      exact ⟨⟨.agg #[.int .i64 (et + xto), .int .i64 xt, .int .i64 eto, .int .i64 sq, .int .i64 xfr, .int .i64 ((ss + xsq) % 97)], by first | rfl | simp [Act.put], Up.refl _, hG, (show evV b3 b4 b5 et eto xt xto xfr xsq ss sq ((ss + xsq) % 97) 25 _ from by rw [evV_25])⟩⟩
  · intro X w1 hG hR
    have e25 : evV b3 b4 b5 et eto xt xto xfr xsq ss sq ((ss + xsq) % 97) 25 (X 25) := hR 18 (by omega)
    rw [evV_25] at e25
    have X6 := Lib.hid (X6.out.up hG)
    have UG := Lib.hid (UW.out.trans hG)
    clear hR hG; obtain ⟨⟨q0, q1, q2, q3, q4, q5⟩, ⟨g0, g1, g2, g3, g4, g5⟩⟩ := X6.out.mk6
    have EE := putEv_at (e := ⟨et + xto, xt, eto, sq, xfr, (ss + xsq) % 97⟩) X6.out.somes
    have UE := Lib.hid (UG.out.putEv (b := b6) (o := 0) (e := ⟨et + xto, xt, eto, sq, xfr, (ss + xsq) % 97⟩) (by omega))
    unfold EvAt putEv at EE; unfold putEv at UE; simp only [Nat.zero_add] at EE; obtain ⟨k0, k1, k2, k3, k4, k5⟩ := EE; simp only [mixT, e25]; refine mix_go rfl (by rfl) (fun K hK => ?_); go_simp; refine hK _ _ ?_; clear hK K; refine mix_nil ?_; clear e25; go_wp2
    exact bodyPost_ret (v := .agg #[.int .i64 (et + xto), .int .i64 xt, .int .i64 eto, .int .i64 sq, .int .i64 xfr, .int .i64 ((ss + xsq) % 97)]) (by simp [results, Tryz.results147, go_sem, k0, k1, k2, k3, k4, k5]) rfl ⟨rfl, UE.out⟩
end Go.Proofs.YtjdoealcmokakaaGreat

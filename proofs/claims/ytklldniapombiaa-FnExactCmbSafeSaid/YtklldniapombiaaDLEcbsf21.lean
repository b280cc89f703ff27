/-
  What toSeqRecSS returns, in one sentence: the same rows of records over new rows; for every list that lies in memory.
  What toCmbState returns, in one sentence: the same simulation, all over new rows; for every simulation that lies in memory.
  Two conservative simulations with the same values, in one sentence: the laws' comparison says that they are equal; for every two that lie in memory.
-/
import Derived.Test.YtklldniapombiaaDLEcbsf08
import Derived.Test.YtklldniapombiaaDLEcbsf09
import Derived.Test.YtklldniapombiaaDLEcbsf12
import Derived.Test.YtklldniapombiaaDLEcbsf20
namespace Go.Proofs.Ytklldniapombiaa
set_option maxRecDepth 100000
open Go.RowKit
/-- Rows of records of the call's own. -/
structure LgsF (w : World) (lo g n : Nat) (ls : List (List Rec)) : Prop where
  lo_ : lo ≤ g
  len : ls.length = n
  lt : g < w.heap.size
  at_ : ∀ i, i < n → ∃ g' n', w.cell? ⟨g, i, none⟩ = some (.slice (some ⟨g', 0, none⟩) n' n') ∧ n' ≤ 1048576 ∧ NwR w (g + 1) g' n' (ls.getD i [])
  free : ∀ j, j < n → w.frozen? ⟨g, j, none⟩ = false
theorem LgsF.lgs {w : World} {lo g n : Nat} {ls : List (List Rec)} (h : LgsF w lo g n ls) : Lgs w (some ⟨g, 0, none⟩) n ls :=
  ⟨h.len, fun _ => ⟨g, 0, rfl, h.lt, fun i hi => by
    obtain ⟨g', n', hc, hb, hr⟩ := h.at_ i hi
    exact ⟨_, n', n', by rw [Nat.zero_add]; exact hc, hr.v, hb⟩⟩⟩
theorem LgsF.hib {w w' : World} {lo g n : Nat} {ls : List (List Rec)} (h : LgsF w lo g n ls) (k : Hib lo w w') : LgsF w' lo g n ls :=
  ⟨h.lo_, h.len, Nat.lt_of_lt_of_le h.lt k.size, fun i hi => by
    obtain ⟨g', n', hc, hb, hr⟩ := h.at_ i hi
    exact ⟨g', n', (k.cell h.lo_ h.lt).trans hc, hb, hr.hib (k.mono (by have := h.lo_; omega))⟩, fun j hj => (k.frozen h.lo_ h.lt).trans (h.free j hj)⟩
structure PartL (w : World) (g n k : Nat) (ls : List (List Rec)) : Prop where
  lt : g < w.heap.size
  at_ : ∀ i, i < k → ∃ g' n', w.cell? ⟨g, i, none⟩ = some (.slice (some ⟨g', 0, none⟩) n' n') ∧ n' ≤ 1048576 ∧ NwR w (g + 1) g' n' (ls.getD i [])
  some_ : ∀ j, j < n → ∃ v, w.cell? ⟨g, j, none⟩ = some v
  free : ∀ j, j < n → w.frozen? ⟨g, j, none⟩ = false
theorem PartL.begin (w : World) (n : Nat) (t : TypeId) (ls : List (List Rec)) (z : Array Value) : PartL (w.alloc (.cells (madeCells z (n * 1)) t)) w.heap.size n 0 ls :=
  ⟨by simp, fun i hi => absurd hi (by omega), fun j hj => (made_cell w _ _ t j (by omega)).1, fun j hj => (made_cell w _ _ t j (by omega)).2⟩
theorem PartL.up {w w' : World} {g n k : Nat} {ls : List (List Rec)} (h : PartL w g n k ls) (u : Up w w') : PartL w' g n k ls :=
  ⟨Nat.lt_of_lt_of_le h.lt u.size, fun i hi => by
    obtain ⟨g', n', hc, hb, hr⟩ := h.at_ i hi
    exact ⟨g', n', (u.cells _ _ h.lt).trans hc, hb, hr.up u⟩, fun j hj => by obtain ⟨v, hv⟩ := h.some_ j hj; exact ⟨v, (u.cells _ _ h.lt).trans hv⟩, fun j hj => (u.frozens _ _ h.lt).trans (h.free j hj)⟩
theorem PartL.put {w : World} {g n k g' n' : Nat} {ls : List (List Rec)} {rs : List Rec} (h : PartL w g n k ls) (hr : ls.getD k [] = rs) (hk : k < n) (hb : n' ≤ 1048576) (ho : NwR w (g + 1) g' n' rs) :
    PartL (w.setCell ⟨g, k, none⟩ (.slice (some ⟨g', 0, none⟩) n' n')) g n (k + 1) ls := by
  have HH : Hib (g + 1) w (w.setCell ⟨g, k, none⟩ (.slice (some ⟨g', 0, none⟩) n' n')) := (Hib.refl _ _).set (by omega)
  refine ⟨by simpa using h.lt, fun i hi => ?_, fun j hj => ?_, fun j hj => by have := h.free j hj; simpa [go_sem] using this⟩
  · by_cases hik : i = k
    · subst hik
      rw [hr]; obtain ⟨v, hv⟩ := h.some_ i hk
      exact ⟨g', n', World.cell?_setCell_same _ _ _ hv, hb, ho.hib HH⟩
    · obtain ⟨g2, n2, hc, hb2, hr2⟩ := h.at_ i (by omega)
      exact ⟨g2, n2, (World.cell?_setCell_other _ _ _ _ (addr_ne (by omega))).trans hc, hb2, hr2.hib HH⟩
  · obtain ⟨v, hv⟩ := h.some_ j hj
    exact setCell_some hv
def NewLgs (ls : List (List Rec)) (n : Nat) (w : World) (x : Ending) (w' : World) : Prop :=
  ∃ g, x = .returned (.slice (some ⟨g, 0, none⟩) n n) ∧ LgsF w' w.heap.size g n ls ∧ Up w w'
theorem info60 : (Try.prog.info? 60).map (fun i => (i.zero, i.size, i.bytes)) = some (some (.slice none 0 0), 1, 24) := by kernel_rfl
set_option maxHeartbeats 4000000 in
theorem toLgs_any (A : Option Addr) (n cap : Nat) (ls : List (List Rec)) (w : World) (hn : n ≤ 1048576) (hE : Lgs w A n ls) :
    Calls Try.prog 59 #[.slice A n cap] w (NewLgs ls n w) := by
  obtain ⟨i0, hi, hz0, hz1, hz2⟩ := info_parts info60
  have hmk := fun W => run_make_rowN (P := Try.prog) 39 60 i0 _ Try.underlying39 hi hz0 .i64 .i64 n n (Nat.le_refl _) (by rw [hz2]; omega) (by omega) W
  rw [hz1] at hmk
  have HE := Lib.hid hE
  have LE := Lib.hid hE.1
  have CL := Lib.hid (fun r A n c W a b => toR_any A n c r W a b)
  clear hE hi hz0 hz1 hz2
  go_enter Try.func59, Try.ntmps59
  go_wp2
  generalize hg : w.heap.size = g
  have HG := Lib.hid (Nat.le_of_eq hg)
  go_loopw [4] (fun i wr => (∃ k : Nat, k ≤ n ∧ i = .int .i64 k ∧ PartL wr g n k ls) ∧ Up w wr) (fun i _ => n - (intOf i).toNat)
  case atStart =>
    refine ⟨⟨0, by omega, rfl, ?_⟩, by first | exact (Up.refl _).alloc _ | (simpa using (Up.refl w).alloc _)⟩; subst hg
    first | exact PartL.begin w n _ ls _ | (have := PartL.begin w n 60 ls #[.slice none 0 0]; simpa using this)
  case round =>
    obtain ⟨⟨k, hk, rfl, hp⟩, ur⟩ := hrel
    have HP := Lib.hid hp
    have UR := Lib.hid ur
    clear hp
    by_cases hlt : k < n
    · obtain ⟨b, off, hA, hb, hc⟩ := (HE.out.up ur).2 (by omega)
      subst hA; obtain ⟨A3, n3, c3, p0, he3, hn3⟩ := hc k hlt; clear hc ur
      have cl := CL.out (ls.getD k [])
      generalize hpk : ls.getD k [] = p at he3 cl
      have HE2 := Lib.hid hpk
      clear hpk
      have C := Lib.hid (cl A3 n3 c3 wr hn3 he3)
      clear cl he3
      have hgl : g < wr.heap.size := HP.out.lt
      have i4 : (k : Int) < n := by omega
      have i5 : IntKind.i64.wrap ((k : Int) + 1) = (k : Int) + 1 := IntWalk.i64_in _ (by omega)
      go_wp2_with fail
      refine C.out.mono ?_; rintro x wA ⟨g', rfl, hg', hv', ho', uA⟩
      have P := HP.out.up uA
      have NI := Lib.hid (show NwR wA (g + 1) g' n3 p from ⟨by omega, hv', ho'⟩)
      have UA := Lib.hid (UR.out.trans uA)
      obtain ⟨v0, c0⟩ := P.some_ k (by omega)
      have f0 := P.free k (by omega)
      have HP2 := Lib.hid P
      clear P p0 hv' ho' uA hg'; go_wp2
      go_roundw
      case rel =>
        exact ⟨⟨k + 1, by omega, by first | rfl | go_num, HP2.out.put HE2.out hlt hn3 NI.out⟩, UA.out.setCell HG.out _⟩
      case measure => (simp [intOf]; try omega)
    · have hkn : k = n := by omega
      have i4 : ¬ (k : Int) < n := by omega
      clear ur; go_wp2; go_ret; refine ⟨g, rfl, ⟨by omega, LE.out, HP.out.lt, fun i hi => HP.out.at_ i (by omega), HP.out.free⟩, UR.out⟩
end Go.Proofs.Ytklldniapombiaa

namespace Go.Proofs.Ytklldniapombiaa
set_option maxRecDepth 100000
open Go.RowKit
/-- A simulation of the call's own. -/
def NewCmb (hs : List Ch) (ls : List (List Rec)) (n k : Nat) (w : World) (x : Ending) (w' : World) : Prop :=
  ∃ g g2, x = .returned (.agg #[.slice (some ⟨g, 0, none⟩) n n, .slice (some ⟨g2, 0, none⟩) k k]) ∧ ChsF w' w.heap.size g n hs ∧ LgsF w' w.heap.size g2 k ls ∧ Up w w'
set_option maxHeartbeats 800000 in
theorem toCmb_any (HA : Option Addr) (n hc : Nat) (LB : Option Addr) (k lc : Nat) (hs : List Ch) (ls : List (List Rec)) (w : World) (hV : CbV w HA n LB k hs ls) : Calls Try.prog 15 #[.agg #[.slice HA n hc, .slice LB k lc]] w (NewCmb hs ls n k w) := by
  have hn := hV.few.1
  have hk := hV.few.2
  have C0 := Lib.hid (fun W (u : Up w W) => toChs_any HA n hc hs W hn (hV.hosts.up u))
  have C1 := Lib.hid (fun W (u : Up w W) => toLgs_any LB k lc ls W hk (hV.logs.up u))
  unfold NewCmb; unfold NewChs at C0; unfold NewLgs at C1; clear hV hn hk
  have X := Lib.hid (((Blk.new w #[.slice HA n hc, .slice LB k lc] 29).alloc (.cells #[.slice none 0 0, .slice none 0 0] 41)).alloc (.cells #[.slice none 0 0, .slice none 0 0] 41))
  have R := Lib.hid ((Blk.new (w.alloc (.cells #[.slice HA n hc, .slice LB k lc] 29)) #[.slice none 0 0, .slice none 0 0] 41).alloc (.cells #[.slice none 0 0, .slice none 0 0] 41))
  have O := Lib.hid (Blk.new ((w.alloc (.cells #[.slice HA n hc, .slice LB k lc] 29)).alloc (.cells #[.slice none 0 0, .slice none 0 0] 41)) #[.slice none 0 0, .slice none 0 0] 41)
  simp only [World.size_alloc] at R O
  have U := Lib.hid ((((Up.refl w).alloc (.cells #[.slice HA n hc, .slice LB k lc] 29)).alloc (.cells #[.slice none 0 0, .slice none 0 0] 41)).alloc (.cells #[.slice none 0 0, .slice none 0 0] 41))
  have le_ : w.heap.size + 3 ≤ (((w.alloc (.cells #[.slice HA n hc, .slice LB k lc] 29)).alloc (.cells #[.slice none 0 0, .slice none 0 0] 41)).alloc (.cells #[.slice none 0 0, .slice none 0 0] 41)).heap.size := by simp
  go_enter Try.func15, Try.ntmps15
  go_wp2_with fail
  generalize ((w.alloc (.cells #[.slice HA n hc, .slice LB k lc] 29)).alloc (.cells #[.slice none 0 0, .slice none 0 0] 41)).alloc (.cells #[.slice none 0 0, .slice none 0 0] 41) = W at *
  generalize hbO : w.heap.size + 1 + 1 = bO at *
  generalize hbR : w.heap.size + 1 = bR at *
  generalize hbX : w.heap.size = bX at *
  have n1 : bX ≠ bR := by omega
  have n2 : bX ≠ bO := by omega
  have n3 : bR ≠ bO := by omega
  have n4 : bO ≠ bX := by omega
  have n5 : bO ≠ bR := by omega
  have n6 : bR ≠ bX := by omega
  have LT := Lib.hid (show w.heap.size ≤ bR ∧ w.heap.size ≤ bO ∧ bR < bX + 3 ∧ bO < bX + 3 by omega)
  clear hbO hbR
  have le_pre := le_
  refine (C0.out _ U.out).mono ?_; rintro x w1_ ⟨g, rfl, hv, u⟩
  have U := Lib.hid (U.out.trans u)
  have X := Lib.hid (X.out.up u)
  have R := Lib.hid (R.out.up u)
  have O := Lib.hid (O.out.up u)
  have le_ : bX + 3 ≤ w1_.heap.size := Nat.le_trans le_ u.size
  have N1 := Lib.hid (show ChsF w1_ (bX + 3) g n hs from ⟨Nat.le_trans le_pre hv.lo_, hv.len, hv.lt, hv.at_, hv.free⟩)
  clear hv le_pre; clear u
  have O2 := Lib.hid (Blk.castb (arr2 := #[.slice (some ⟨g, 0, none⟩) n n, .slice none 0 0]) (O.out.set 0 (.slice (some ⟨g, 0, none⟩) n n)) (by simp))
  have R2 := Lib.hid (R.out.far (b' := bO) 0 (.slice (some ⟨g, 0, none⟩) n n) n3)
  have X2 := Lib.hid (X.out.far (b' := bO) 0 (.slice (some ⟨g, 0, none⟩) n n) n2)
  have U2 := Lib.hid (U.out.setCell (p := ⟨bO, 0, none⟩) (LT.out.2.1) (.slice (some ⟨g, 0, none⟩) n n))
  have HS2 := Lib.hid ((Hib.refl (bX + 3) w1_).set (b := bO) (o := 0) (u := .slice (some ⟨g, 0, none⟩) n n) LT.out.2.2.2)
  have N12 := Lib.hid (N1.out.hib HS2.out)
  have o0 := O.out.cell (j := 0) rfl
  have o1 := O.out.cell (j := 1) rfl
  have fO := O.out.frozen
  have lo_ := O.out.lt
  have x1 := X.out.cell (j := 1) rfl
  have lx := X.out.lt
  have le2 : bX + 3 ≤ ((w1_.setCell ⟨bO, 0, none⟩ (.slice (some ⟨g, 0, none⟩) n n))).heap.size := by simpa using le_
  clear le_
  go_wp2_with fail
  generalize (w1_.setCell ⟨bO, 0, none⟩ (.slice (some ⟨g, 0, none⟩) n n)) = V0 at *
  have le_ := le2
  have O := O2
  have R := R2
  have X := X2
  have U := U2
  have N1 := N12
  clear le2 O2 R2 X2 U2 HS2 fO lo_ lx x1 o0 o1 N12
  have le_pre := le_
  refine (C1.out _ U.out).mono ?_; rintro x w2_ ⟨g2, rfl, hv, u⟩
  have U := Lib.hid (U.out.trans u)
  have X := Lib.hid (X.out.up u)
  have R := Lib.hid (R.out.up u)
  have O := Lib.hid (O.out.up u)
  have le_ : bX + 3 ≤ w2_.heap.size := Nat.le_trans le_ u.size
  have N1 := Lib.hid (N1.out.up u)
  have N2 := Lib.hid (show LgsF w2_ (bX + 3) g2 k ls from ⟨Nat.le_trans le_pre hv.lo_, hv.len, hv.lt, hv.at_, hv.free⟩)
  clear hv le_pre; clear u
  have O2 := Lib.hid (Blk.castb (arr2 := #[.slice (some ⟨g, 0, none⟩) n n, .slice (some ⟨g2, 0, none⟩) k k]) (O.out.set 1 (.slice (some ⟨g2, 0, none⟩) k k)) (by simp))
  have R2 := Lib.hid (R.out.far (b' := bO) 1 (.slice (some ⟨g2, 0, none⟩) k k) n3)
  have X2 := Lib.hid (X.out.far (b' := bO) 1 (.slice (some ⟨g2, 0, none⟩) k k) n2)
  have U2 := Lib.hid (U.out.setCell (p := ⟨bO, 1, none⟩) (LT.out.2.1) (.slice (some ⟨g2, 0, none⟩) k k))
  have HS2 := Lib.hid ((Hib.refl (bX + 3) w2_).set (b := bO) (o := 1) (u := .slice (some ⟨g2, 0, none⟩) k k) LT.out.2.2.2)
  have N12 := Lib.hid (N1.out.hib HS2.out)
  have N22 := Lib.hid (N2.out.hib HS2.out)
  have R3 := Lib.hid (Blk.castb (arr2 := #[.slice (some ⟨g, 0, none⟩) n n, .slice (some ⟨g2, 0, none⟩) k k]) ((R2.out.set 0 (.slice (some ⟨g, 0, none⟩) n n)).set 1 (.slice (some ⟨g2, 0, none⟩) k k)) (by simp))
  have U3 := Lib.hid ((U2.out.setCell (p := ⟨bR, 0, none⟩) (LT.out.1) (.slice (some ⟨g, 0, none⟩) n n)).setCell (p := ⟨bR, 1, none⟩) (LT.out.1) (.slice (some ⟨g2, 0, none⟩) k k))
  have HS3 := Lib.hid (((Hib.refl (bX + 3) (w2_.setCell ⟨bO, 1, none⟩ (.slice (some ⟨g2, 0, none⟩) k k))).set (b := bR) (o := 0) (u := .slice (some ⟨g, 0, none⟩) n n) LT.out.2.2.1).set (b := bR) (o := 1) (u := .slice (some ⟨g2, 0, none⟩) k k) LT.out.2.2.1)
  have N13 := Lib.hid (N12.out.hib HS3.out)
  have N23 := Lib.hid (N22.out.hib HS3.out)
  have o0 := O.out.cell (j := 0) rfl
  have o1 := O.out.cell (j := 1) rfl
  have fO := O.out.frozen
  have lo_ := O.out.lt
  have r0 := R.out.cell (j := 0) rfl
  have r1 := R.out.cell (j := 1) rfl
  have fR := R.out.frozen
  have lr := R.out.lt
  go_wp2; clear o0 r0 o1 r1 fO fR lo_ lr
  generalize (((w2_.setCell ⟨bO, 1, none⟩ (.slice (some ⟨g2, 0, none⟩) k k)).setCell ⟨bR, 0, none⟩ (.slice (some ⟨g, 0, none⟩) n n)).setCell ⟨bR, 1, none⟩ (.slice (some ⟨g2, 0, none⟩) k k)) = WF at *
  obtain ⟨k0, k1⟩ := And.intro (R3.out.cell (j := 0) rfl) (R3.out.cell (j := 1) rfl)
  exact bodyPost_ret (v := .agg #[.slice (some ⟨g, 0, none⟩) n n, .slice (some ⟨g2, 0, none⟩) k k]) (by simp [results, Try.results15, go_sem, k0, k1]) rfl ⟨g, g2, rfl, ⟨by have := N13.out.lo_; omega, N13.out.len, N13.out.lt, N13.out.at_, N13.out.free⟩, ⟨by have := N23.out.lo_; omega, N23.out.len, N23.out.lt, N23.out.at_, N23.out.free⟩, U3.out⟩
end Go.Proofs.Ytklldniapombiaa

namespace Go.Proofs.Ytklldniapombiaa
set_option maxRecDepth 100000
open Go.RowKit
theorem eqNms_same (A B : Option Addr) (n capa capb : Nat) (zs : List Int) (w : World) (hn : n ≤ 1000000000) (hE : Nms w A n zs) (hF : Nms w B n zs) :
    Calls Try.prog 164 #[.slice A n capa, .slice B n capb] w fun x w' => x = .returned (.bool true) ∧ Up w w' := by
  have HE := Lib.hid hE
  have HF := Lib.hid hF
  clear hE hF
  go_enter Try.func164, Try.ntmps164
  go_wp2
  go_loopw [5] (fun i wr => (∃ k : Nat, k ≤ n ∧ i = .int .i64 k) ∧ Up w wr) (fun i _ => n - (intOf i).toNat)
  case atStart => exact ⟨⟨0, by omega, rfl⟩, Up.refl _⟩
  case round =>
    obtain ⟨⟨k, hk, rfl⟩, ur⟩ := hrel
    by_cases hlt : k < n
    · obtain ⟨b, off, hA, hb, hc⟩ := (HE.out.up ur).2 (by omega)
      obtain ⟨b2, off2, hA2, hb2, hc2⟩ := (HF.out.up ur).2 (by omega); subst hA hA2
      have p0 := hc k hlt
      have q0 := hc2 k hlt
      clear hc hc2
      generalize zs.getD k 0 = z at p0 q0
      have bz : (z != z) = false := by simp
      have UR := Lib.hid ur
      have i4 : (k : Int) < n := by omega
      have i5 : IntKind.i64.wrap ((k : Int) + 1) = (k : Int) + 1 := IntWalk.i64_in _ (by omega)
      go_wp2_with fail
      refine region_qw (by kernel_rfl) (by kernel_rfl) ?_; refine qWalk_step ?_; intro K hK; go_simp; apply Exists.intro; refine And.intro ?_ ?_
      · intro w1 hw1
        try go_simp
        try rfl
      try go_simp
      refine hK _ ?_; clear hK K; refine qWalk_step ?_; intro K hK; go_simp; apply Exists.intro; refine And.intro ?_ ?_
      · intro w1 hw1
        try go_simp
        try rfl
      try go_simp
      refine hK _ ?_; clear hK K; refine qWalk_step ?_; intro K hK; go_simp; apply Exists.intro; refine And.intro ?_ ?_
      · intro w1 hw1
        try go_simp
        try rfl
      try go_simp
      refine hK _ ?_; clear hK K; refine qWalk_step ?_; intro K hK; go_simp; apply Exists.intro; refine And.intro ?_ ?_
      · intro w1 hw1
        obtain ⟨hc, hf, hz⟩ := hw1.facts
        try simp at hz
        try go_simp
        try rfl
      try go_simp
      refine hK _ ?_; clear hK K; refine qWalk_step ?_; intro K hK; go_simp; apply Exists.intro; refine And.intro ?_ ?_
      · intro w1 hw1
        try go_simp
        try rfl
      try go_simp
      refine hK _ ?_; clear hK K; refine qWalk_step ?_; intro K hK; go_simp; apply Exists.intro; refine And.intro ?_ ?_
      · intro w1 hw1
        try go_simp
        try rfl
      try go_simp
      refine hK _ ?_; clear hK K; refine qWalk_step ?_; intro K hK; go_simp; apply Exists.intro; refine And.intro ?_ ?_
      · intro w1 hw1
        try go_simp
        try rfl
      try go_simp
      refine hK _ ?_; clear hK K; refine qWalk_step ?_; intro K hK; go_simp; apply Exists.intro; refine And.intro ?_ ?_
      · intro w1 hw1
        obtain ⟨hc, hf, hz⟩ := hw1.facts
        try simp at hz
        try go_simp
        try rfl
      try go_simp
      refine hK _ ?_; clear hK K; refine qWalk_step ?_; intro K hK; go_simp; apply Exists.intro; refine And.intro ?_ ?_
      · intro w1 hw1
        try go_simp
        try rfl
      try go_simp
      refine hK _ ?_; clear hK K; refine qWalk_nil ?_; intro wA uA
      have UA := Lib.hid (UR.out.trans uA)
      clear uA; go_wp2
      go_roundw
      case rel => exact ⟨⟨k + 1, by omega, by go_num⟩, UA.out⟩
      case measure => simp [intOf]; omega
    · obtain rfl : k = n := by omega
      have i4 : ¬ (k : Int) < k := by omega
      go_wp2; go_ret
      exact ⟨rfl, ur⟩
theorem eqCst1_any (a : Cst) (w : World) : Calls Try.prog 138 #[a.v, a.v] w fun x w' => x = .returned (.bool true) ∧ Up w w' := by
  obtain ⟨a0, a1, a2⟩ := a; unfold Cst.v
  have b0 : (a0 != a0) = false := by simp
  have b1 : (a1 != a1) = false := by simp
  have b2 : (a2 != a2) = false := by simp
  go_enter Try.func138, Try.ntmps138
  go_wp2; go_ret
  exact ⟨rfl, ((Up.refl w).alloc _).alloc _⟩
set_option maxHeartbeats 4000000 in
theorem eqCh_same (h : Ch) (A : Option Addr) (n c : Nat) (B : Option Addr) (k d : Nat) (A' : Option Addr) (c' : Nat) (B' : Option Addr) (d' : Nat) (w : World) (hn : n ≤ 1048576) (hk : k ≤ 1048576)
    (h1 : Evs w A n h.wait) (h2 : Nms w B k h.ins) (h3 : Evs w A' n h.wait) (h4 : Nms w B' k h.ins) :
    Calls Try.prog 119 #[.agg #[.int .i64 h.now.s, .int .i64 h.now.sq, .int .i64 h.now.ct, .slice A n c, .slice B k d], .agg #[.int .i64 h.now.s, .int .i64 h.now.sq, .int .i64 h.now.ct, .slice A' n c', .slice B' k d']] w fun x w' => x = .returned (.bool true) ∧ Up w w' := by
  have C0 := Lib.hid (fun W => eqCst1_any h.now W)
  have C1 := Lib.hid (fun W (u : Up w W) => decide_eq_true (rfl : h.wait = h.wait) ▸ eqS_any A A' n n c c' h.wait h.wait W (by omega) (h1.up u) (h3.up u))
  have C2 := Lib.hid (fun W (u : Up w W) => eqNms_same B B' k d d' h.ins W (by omega) (h2.up u) (h4.up u))
  unfold Cst.v at C0
  have Y2 := Lib.hid ((Blk.new w #[.int .i64 h.now.s, .int .i64 h.now.sq, .int .i64 h.now.ct, .slice A n c, .slice B k d] 86).alloc (.cells #[.int .i64 h.now.s, .int .i64 h.now.sq, .int .i64 h.now.ct, .slice A' n c', .slice B' k d'] 86))
  have Y3 := Lib.hid (Blk.new (w.alloc (.cells #[.int .i64 h.now.s, .int .i64 h.now.sq, .int .i64 h.now.ct, .slice A n c, .slice B k d] 86)) #[.int .i64 h.now.s, .int .i64 h.now.sq, .int .i64 h.now.ct, .slice A' n c', .slice B' k d'] 86)
  simp only [World.size_alloc] at Y3
  have U := Lib.hid (((Up.refl w).alloc (.cells #[.int .i64 h.now.s, .int .i64 h.now.sq, .int .i64 h.now.ct, .slice A n c, .slice B k d] 86)).alloc (.cells #[.int .i64 h.now.s, .int .i64 h.now.sq, .int .i64 h.now.ct, .slice A' n c', .slice B' k d'] 86))
  clear h1 h2 h3 h4
  generalize h.now.s = z0 at *
  generalize h.now.sq = z1 at *
  generalize h.now.ct = z2 at *
  go_enter Try.func119, Try.ntmps119
  go_wp2_with fail
  refine (C0.out _).mono ?_; rintro x w1 ⟨rfl, u1⟩
  replace Y2 := Lib.hid (Y2.out.up u1)
  replace Y3 := Lib.hid (Y3.out.up u1)
  replace U := Lib.hid (U.out.trans u1)
  clear u1
  have x3 := Y2.out.cell (j := 3) rfl
  have x4 := Y2.out.cell (j := 4) rfl
  have y3 := Y3.out.cell (j := 3) rfl
  have y4 := Y3.out.cell (j := 4) rfl
  have lx := Y2.out.lt
  have ly := Y3.out.lt
  go_wp2_with fail
  refine (C1.out _ U.out).mono ?_; rintro x w2 ⟨rfl, u2⟩
  replace Y2 := Lib.hid (Y2.out.up u2)
  replace Y3 := Lib.hid (Y3.out.up u2)
  replace U := Lib.hid (U.out.trans u2)
  clear u2 x3 x4 y3 y4 lx ly
  have x3 := Y2.out.cell (j := 3) rfl
  have x4 := Y2.out.cell (j := 4) rfl
  have y3 := Y3.out.cell (j := 3) rfl
  have y4 := Y3.out.cell (j := 4) rfl
  have lx := Y2.out.lt
  have ly := Y3.out.lt
  go_wp2_with fail
  refine (C2.out _ U.out).mono ?_; rintro x w3 ⟨rfl, u3⟩; go_wp2; go_ret
  exact ⟨rfl, U.out.trans u3⟩
set_option maxHeartbeats 4000000 in
theorem eqChs_same (A B : Option Addr) (n capa capb : Nat) (hs : List Ch) (w : World) (hn : n ≤ 1000000000) (hE : Chs w A n hs) (hF : Chs w B n hs) :
    Calls Try.prog 63 #[.slice A n capa, .slice B n capb] w fun x w' => x = .returned (.bool true) ∧ Up w w' := by
  have HE := Lib.hid hE
  have HF := Lib.hid hF
  clear hE hF
  go_enter Try.func63, Try.ntmps63
  go_wp2
  go_loopw [5] (fun i wr => (∃ k : Nat, k ≤ n ∧ i = .int .i64 k) ∧ Up w wr) (fun i _ => n - (intOf i).toNat)
  case atStart => exact ⟨⟨0, by omega, rfl⟩, Up.refl _⟩
  case round =>
    obtain ⟨⟨k, hk, rfl⟩, ur⟩ := hrel
    by_cases hlt : k < n
    · obtain ⟨b, off, hA, hb, hc⟩ := (HE.out.up ur).2 (by omega)
      obtain ⟨b2, off2, hA2, hb2, hc2⟩ := (HF.out.up ur).2 (by omega); subst hA hA2
      have p0 := hc k hlt
      have q0 := hc2 k hlt
      clear hc hc2
      generalize hs.getD k default = h at p0 q0
      obtain ⟨A3, n3, c3, B3, k3, d3, ⟨p0, p1, p2, p3, p4⟩, ⟨h5, h6⟩, h7, h8⟩ := p0; obtain ⟨A4, n4, c4, B4, k4, d4, ⟨q0, q1, q2, q3, q4⟩, ⟨g5, g6⟩, g7, g8⟩ := q0
      obtain rfl : n3 = n4 := by rw [← h5.1, ← g5.1]
      obtain rfl : k3 = k4 := by rw [← h7.1, ← g7.1]
      have C := Lib.hid (fun W (u : Up wr W) => eqCh_same h A3 n3 c3 B3 k3 d3 A4 c4 B4 d4 W h6 h8 (h5.up u) (h7.up u) (g5.up u) (g7.up u))
      clear h5 h6 h7 h8 g5 g6 g7 g8
      generalize h.now.s = z0 at *
      generalize h.now.sq = z1 at *
      generalize h.now.ct = z2 at *
      have UR := Lib.hid ur
      have i4 : (k : Int) < n := by omega
      have i5 : IntKind.i64.wrap ((k : Int) + 1) = (k : Int) + 1 := IntWalk.i64_in _ (by omega)
      go_wp2_with fail
      refine region_qw (by kernel_rfl) (by kernel_rfl) ?_; refine qWalk_step ?_; intro K hK; go_simp; apply Exists.intro; refine And.intro ?_ ?_
      · intro w1 hw1
        try go_simp
        try rfl
      try go_simp
      refine hK _ ?_; clear hK K; refine qWalk_step ?_; intro K hK; go_simp; apply Exists.intro; refine And.intro ?_ ?_
      · intro w1 hw1
        try go_simp
        try rfl
      try go_simp
      refine hK _ ?_; clear hK K; refine qWalk_step ?_; intro K hK; go_simp; apply Exists.intro; refine And.intro ?_ ?_
      · intro w1 hw1
        try go_simp
        try rfl
      try go_simp
      refine hK _ ?_; clear hK K; refine qWalk_step ?_; intro K hK; go_simp; apply Exists.intro; refine And.intro ?_ ?_
      · intro w1 hw1
        obtain ⟨hc, hf, hz⟩ := hw1.facts
        try simp at hz
        try go_simp
        try rfl
      try go_simp
      refine hK _ ?_; clear hK K; refine qWalk_step ?_; intro K hK; go_simp; apply Exists.intro; refine And.intro ?_ ?_
      · intro w1 hw1
        try go_simp
        try rfl
      try go_simp
      refine hK _ ?_; clear hK K; refine qWalk_step ?_; intro K hK; go_simp; apply Exists.intro; refine And.intro ?_ ?_
      · intro w1 hw1
        try go_simp
        try rfl
      try go_simp
      refine hK _ ?_; clear hK K; refine qWalk_step ?_; intro K hK; go_simp; apply Exists.intro; refine And.intro ?_ ?_
      · intro w1 hw1
        try go_simp
        try rfl
      try go_simp
      refine hK _ ?_; clear hK K; refine qWalk_step ?_; intro K hK; go_simp; apply Exists.intro; refine And.intro ?_ ?_
      · intro w1 hw1
        obtain ⟨hc, hf, hz⟩ := hw1.facts
        try simp at hz
        try go_simp
        try rfl
      try go_simp
      refine hK _ ?_; clear hK K; refine qWalk_step ?_; intro K hK; go_simp; apply Exists.intro; refine And.intro ?_ ?_
      · intro w1 hw1
        try go_simp
        exact up_call hw1 (C.out _ hw1)
      try go_simp
      refine hK _ ?_; clear hK K; refine qWalk_step ?_; intro K hK; go_simp; apply Exists.intro; refine And.intro ?_ ?_
      · intro w1 hw1
        try go_simp
        try rfl
      try go_simp
      refine hK _ ?_; clear hK K; refine qWalk_nil ?_; intro wA uA
      have UA := Lib.hid (UR.out.trans uA)
      clear uA; go_wp2
      go_roundw
      case rel => exact ⟨⟨k + 1, by omega, by go_num⟩, UA.out⟩
      case measure => simp [intOf]; omega
    · obtain rfl : k = n := by omega
      have i4 : ¬ (k : Int) < k := by omega
      go_wp2; go_ret
      exact ⟨rfl, ur⟩
set_option maxHeartbeats 4000000 in
theorem eqLgs_same (A B : Option Addr) (n capa capb : Nat) (ls : List (List Rec)) (w : World) (hn : n ≤ 1000000000) (hE : Lgs w A n ls) (hF : Lgs w B n ls) :
    Calls Try.prog 64 #[.slice A n capa, .slice B n capb] w fun x w' => x = .returned (.bool true) ∧ Up w w' := by
  have HE := Lib.hid hE
  have HF := Lib.hid hF
  clear hE hF
  go_enter Try.func64, Try.ntmps64
  go_wp2
  go_loopw [5] (fun i wr => (∃ k : Nat, k ≤ n ∧ i = .int .i64 k) ∧ Up w wr) (fun i _ => n - (intOf i).toNat)
  case atStart => exact ⟨⟨0, by omega, rfl⟩, Up.refl _⟩
  case round =>
    obtain ⟨⟨k, hk, rfl⟩, ur⟩ := hrel
    by_cases hlt : k < n
    · obtain ⟨b, off, hA, hb, hc⟩ := (HE.out.up ur).2 (by omega)
      obtain ⟨b2, off2, hA2, hb2, hc2⟩ := (HF.out.up ur).2 (by omega); subst hA hA2; obtain ⟨A3, n3, c3, p0, he3, hn3⟩ := hc k hlt; obtain ⟨A4, n4, c4, q0, hf3, hn4⟩ := hc2 k hlt; clear hc hc2
      generalize ls.getD k [] = l at he3 hf3
      obtain rfl : n3 = n4 := by rw [← he3.1, ← hf3.1]
      have C := Lib.hid (fun W (u : Up wr W) => decide_eq_true (rfl : l = l) ▸ eqR_any A3 A4 n3 n3 c3 c4 l l W (by omega) (he3.up u) (hf3.up u))
      clear he3 hf3
      have UR := Lib.hid ur
      have i4 : (k : Int) < n := by omega
      have i5 : IntKind.i64.wrap ((k : Int) + 1) = (k : Int) + 1 := IntWalk.i64_in _ (by omega)
      go_wp2_with fail
      refine region_qw (by kernel_rfl) (by kernel_rfl) ?_; refine qWalk_step ?_; intro K hK; go_simp; apply Exists.intro; refine And.intro ?_ ?_
      · intro w1 hw1
        try go_simp
        try rfl
      try go_simp
      refine hK _ ?_; clear hK K; refine qWalk_step ?_; intro K hK; go_simp; apply Exists.intro; refine And.intro ?_ ?_
      · intro w1 hw1
        try go_simp
        try rfl
      try go_simp
      refine hK _ ?_; clear hK K; refine qWalk_step ?_; intro K hK; go_simp; apply Exists.intro; refine And.intro ?_ ?_
      · intro w1 hw1
        try go_simp
        try rfl
      try go_simp
      refine hK _ ?_; clear hK K; refine qWalk_step ?_; intro K hK; go_simp; apply Exists.intro; refine And.intro ?_ ?_
      · intro w1 hw1
        obtain ⟨hc, hf, hz⟩ := hw1.facts
        try simp at hz
        try go_simp
        try rfl
      try go_simp
      refine hK _ ?_; clear hK K; refine qWalk_step ?_; intro K hK; go_simp; apply Exists.intro; refine And.intro ?_ ?_
      · intro w1 hw1
        try go_simp
        try rfl
      try go_simp
      refine hK _ ?_; clear hK K; refine qWalk_step ?_; intro K hK; go_simp; apply Exists.intro; refine And.intro ?_ ?_
      · intro w1 hw1
        try go_simp
        try rfl
      try go_simp
      refine hK _ ?_; clear hK K; refine qWalk_step ?_; intro K hK; go_simp; apply Exists.intro; refine And.intro ?_ ?_
      · intro w1 hw1
        try go_simp
        try rfl
      try go_simp
      refine hK _ ?_; clear hK K; refine qWalk_step ?_; intro K hK; go_simp; apply Exists.intro; refine And.intro ?_ ?_
      · intro w1 hw1
        obtain ⟨hc, hf, hz⟩ := hw1.facts
        try simp at hz
        try go_simp
        try rfl
      try go_simp
      refine hK _ ?_; clear hK K; refine qWalk_step ?_; intro K hK; go_simp; apply Exists.intro; refine And.intro ?_ ?_
      · intro w1 hw1
        try go_simp
        exact up_call hw1 (C.out _ hw1)
      try go_simp
      refine hK _ ?_; clear hK K; refine qWalk_step ?_; intro K hK; go_simp; apply Exists.intro; refine And.intro ?_ ?_
      · intro w1 hw1
        try go_simp
        try rfl
      try go_simp
      refine hK _ ?_; clear hK K; refine qWalk_nil ?_; intro wA uA
      have UA := Lib.hid (UR.out.trans uA)
      clear uA; go_wp2
      go_roundw
      case rel => exact ⟨⟨k + 1, by omega, by go_num⟩, UA.out⟩
      case measure => simp [intOf]; omega
    · obtain rfl : k = n := by omega
      have i4 : ¬ (k : Int) < k := by omega
      go_wp2; go_ret
      exact ⟨rfl, ur⟩
set_option maxHeartbeats 4000000 in
theorem eqCb_same (A : Option Addr) (n c : Nat) (B : Option Addr) (k d : Nat) (A' : Option Addr) (c' : Nat) (B' : Option Addr) (d' : Nat) (hs : List Ch) (ls : List (List Rec)) (w : World) (h1 : CbV w A n B k hs ls) (h2 : CbV w A' n B' k hs ls) :
    Calls Try.prog 18 #[.agg #[.slice A n c, .slice B k d], .agg #[.slice A' n c', .slice B' k d']] w fun x w' => x = .returned (.bool true) ∧ Up w w' := by
  have hn := h1.few.1
  have hk := h1.few.2
  have C1 := Lib.hid (fun W (u : Up w W) => eqChs_same A A' n c c' hs W (by omega) (h1.hosts.up u) (h2.hosts.up u))
  have C2 := Lib.hid (fun W (u : Up w W) => eqLgs_same B B' k d d' ls W (by omega) (h1.logs.up u) (h2.logs.up u))
  have Y2 := Lib.hid ((Blk.new w #[.slice A n c, .slice B k d] 41).alloc (.cells #[.slice A' n c', .slice B' k d'] 41))
  have Y3 := Lib.hid (Blk.new (w.alloc (.cells #[.slice A n c, .slice B k d] 41)) #[.slice A' n c', .slice B' k d'] 41)
  simp only [World.size_alloc] at Y3
  have U := Lib.hid (((Up.refl w).alloc (.cells #[.slice A n c, .slice B k d] 41)).alloc (.cells #[.slice A' n c', .slice B' k d'] 41))
  clear h1 h2
  go_enter Try.func18, Try.ntmps18
  go_wp2_with fail
  refine (C1.out _ U.out).mono ?_; rintro x w1 ⟨rfl, u1⟩
  replace Y2 := Lib.hid (Y2.out.up u1)
  replace Y3 := Lib.hid (Y3.out.up u1)
  replace U := Lib.hid (U.out.trans u1)
  clear u1
  have x1 := Y2.out.cell (j := 1) rfl
  have y1 := Y3.out.cell (j := 1) rfl
  have lx := Y2.out.lt
  have ly := Y3.out.lt
  go_wp2_with fail
  refine (C2.out _ U.out).mono ?_; rintro x w2 ⟨rfl, u2⟩; go_wp2; go_ret
  exact ⟨rfl, U.out.trans u2⟩
end Go.Proofs.Ytklldniapombiaa

/-
  The laws' marks on a conservative simulation, in one sentence: they are laid in its blocks alone, and found again; for every simulation without records whose slices lie in blocks of their own.
  Rows of the call's own are kept, in one sentence: where their block is as it was they are; rows of other elements lie apart; no condition is made.
-/
import Derived.Test.YtipjcjjjkkaigaaDLEcbn03
import Derived.Test.YtipjcjjjkkaigaaDLEcbn09
namespace Go.Proofs.Ytipjcjjjkkaigaa
set_option maxRecDepth 100000
open Go.RowKit
theorem Blk.wr {w w' : World} {lo b t m : Nat} {A : Option Addr} {arr : Array Value} (h : Blk w b t arr) (k : Wr lo A m w w') (hne : 0 < m → ∀ o, A ≠ some ⟨b, o, none⟩) : Blk w' b t arr := by
  rcases k with ⟨_, u⟩ | ⟨h0, g, hA, _, mv⟩
  · exact h.up u
  · exact h.mv mv (fun e => hne h0 0 (e ▸ hA))
theorem Held.mv1 {w w' : World} {A : Option Addr} {n s g : Nat} {k0 : Int} (h : Held w A n s k0) (m : Mv g w w') (hne : 0 < n → ∀ o, A ≠ some ⟨g, o, none⟩) : Held w' A n s k0 := fun hn => by
  obtain ⟨b, off, hA, hb, hc⟩ := h hn
  exact ⟨b, off, hA, Nat.lt_of_lt_of_le hb m.size, fun i hi j hj => (m.cells _ _ hb (fun e => hne hn off (e ▸ hA))).trans (hc i hi j hj)⟩
theorem CMk.next {w w3 w4 w5 : World} {lo g n q : Nat} {hd : Nat → Hd} {k0 : Int} {LB : Option Addr} {arr3 : Array Value} (MK : CMk w lo g n hd k0 q) (AP : CAp lo g n hd LB) (hq : q < n) (M3 : Mv g w w3) (B3 : Blk w3 g 129 arr3)
    (h3 : (∀ i, i < n → ∀ j, j < 3 → ∃ v, arr3[i * 5 + j]? = some v) ∧ (∀ i, i < n → arr3[i * 5 + 3]? = some (.slice (hd i).A (hd i).n (hd i).c) ∧ arr3[i * 5 + 4]? = some (.slice (hd i).B (hd i).k (hd i).d)) ∧ ∀ i, i < q + 1 → ∀ j, j < 3 → arr3[i * 5 + j]? = some (.int .i64 (incr (Kf hd k0 i) j)))
    (hE4 : Held w4 (hd q).A (hd q).n 6 (Kf hd k0 q + 3)) (w4_ : Wr lo (hd q).A (hd q).n w3 w4) (hE5 : Held w5 (hd q).B (hd q).k 1 (Kf hd k0 q + 3 + 6 * ((hd q).n : Int))) (w5_ : Wr lo (hd q).B (hd q).k w4 w5) :
    CMk w5 lo g n hd k0 (q + 1) ∧ CWr g n hd w w5 := by
  refine ⟨⟨⟨arr3, (B3.wr w4_ (AP.ge q hq).1).wr w5_ (AP.ge q hq).2, h3⟩, fun i h1 h2 => ?_, fun i h1 h2 => ?_, fun i hi => ?_, fun i hi => ?_⟩, ?_⟩
  · exact (((MK.ev i (by omega) h2).mv M3 (AP.ge i h2).1).wr w4_ (AP.ape q i (by omega) h2).symm).wr w5_ (AP.apx i q h2 hq)
  · exact (((MK.in_ i (by omega) h2).mv M3 (AP.ge i h2).2).wr w4_ (AP.apx q i hq h2).symm).wr w5_ (AP.api q i (by omega) h2).symm
  · rcases Nat.lt_or_ge i q with h | h
    · exact (((MK.hev i h).mv1 M3 (AP.ge i (by omega)).1).wr w4_ (AP.ape i q h hq)).wr w5_ (AP.apx i q (by omega) hq)
    · obtain rfl : i = q := by omega
      exact hE4.wr w5_ (AP.apx i i hq hq)
  · rcases Nat.lt_or_ge i q with h | h
    · exact (((MK.hin i h).mv1 M3 (AP.ge i (by omega)).2).wr w4_ (AP.apx q i hq (by omega)).symm).wr w5_ (AP.api i q h hq)
    · obtain rfl : i = q := by omega
      exact hE5
  · exact ((CWr.mv M3 (fun h => (h (by omega)).1 rfl)).trans (CWr.wr w4_ (fun hn b o hA h => ((h (by omega)).2 q hq).1 hn o hA))).trans (CWr.wr w5_ (fun hn b o hA h => ((h (by omega)).2 q hq).2 hn o hA))
set_option maxHeartbeats 8000000 in
theorem markChs_any (lo g n c : Nat) (hd : Nat → Hd) (LB : Option Addr) (HA : Option Addr) (k0 : Int) (w : World) (h0 : 0 ≤ k0) (h1 : k0 ≤ 1000000) (hA : 0 < n → HA = some ⟨g, 0, none⟩) (ap : CAp lo g n hd LB) (hP : 0 < n → CMk w lo g n hd k0 0) :
    Calls Try.prog 78 #[.slice HA n c, .int .i64 k0] w fun x w' => x = .returned (.int .i64 (Kf hd k0 n)) ∧ (0 < n → CMk w' lo g n hd k0 n) ∧ CWr g n hd w w' := by
  have AP := Lib.hid ap
  have HA := Lib.hid hA
  have HP := Lib.hid hP
  have KI := Lib.hid (Kf_in (k0 := k0) n ap.few.2)
  have FW := ap.few.1
  clear hP hA ap
  go_enter Try.func78, Try.ntmps78
  go_wp2
  go_loopw [1, 5] (fun m i wr => (∃ q : Nat, q ≤ n ∧ i = .int .i64 q ∧ m = .int .i64 (Kf hd k0 q) ∧ (0 < n → CMk wr lo g n hd k0 q)) ∧ CWr g n hd w wr) (fun _ i _ => n - (intOf i).toNat)
  case atStart => exact ⟨⟨0, by omega, rfl, rfl, HP.out⟩, CWr.refl _ _ _ _⟩
  case round =>
    obtain ⟨⟨q, hq, rfl, rfl, hp⟩, cw⟩ := hrel
    have CW := Lib.hid cw
    clear cw
    by_cases hlt : q < n
    · have MK := Lib.hid (hp (by omega))
      have hHA := HA.out (by omega)
      subst hHA; obtain ⟨M3, arr3, B3, h3a, h3b, h3c⟩ := MK.out.three hlt
      have MV3 := Lib.hid M3
      have BK3 := Lib.hid B3
      have S3 := Lib.hid (And.intro h3a (And.intro h3b h3c))
      obtain ⟨arr, B0, h0a, h0b, h0c⟩ := MK.out.blk; obtain ⟨v0, e0⟩ := h0a q hlt 0 (by omega); obtain ⟨v1, e1⟩ := h0a q hlt 1 (by omega); obtain ⟨v2, e2⟩ := h0a q hlt 2 (by omega)
      have s0 := B0.cell e0
      have s1 := B0.cell e1
      have s2 := B0.cell e2
      have f0 := B0.frozen (q * 5)
      have f1 := B0.frozen (q * 5 + 1)
      have f2 := B0.frozen (q * 5 + 2)
      have lg := B0.lt
      have c3 := B3.cell (h3b q hlt).1
      have hK := KI.out q (by omega)
      have hnk := AP.out.few.2 q hlt
      have hkf : Kf hd k0 (q + 1) = Kf hd k0 q + 3 + 6 * ((hd q).n : Int) + ((hd q).k : Int) := rfl
      have KF := Lib.hid hkf
      have EV := Lib.hid ((MK.out.ev q (Nat.le_refl _) hlt).mv M3 (AP.out.ge q hlt).1)
      have lg3 : g < (putN wr g (q * 5) (Kf hd k0 q) 3).heap.size := B3.lt
      clear hp M3 B3 h3a h3b h3c B0 h0a h0b h0c e0 e1 e2 hkf; simp only [putN, incr, Nat.add_zero] at c3 BK3 MV3 EV lg3 s0
      have i4 : (q : Int) < n := by omega
      have KL : 0 ≤ Kf hd k0 q ∧ Kf hd k0 q ≤ 10000000 := by omega
      generalize hKq : Kf hd k0 q = K at *
      have MV0 := Lib.hid (Up.refl wr)
      go_wp2_with fail
      generalize ((wr.setCell ⟨g, q * 5, none⟩ (.int .i64 K)).setCell ⟨g, q * 5 + 1, none⟩ (.int .i64 (K + 1))).setCell ⟨g, q * 5 + 2, none⟩ (.int .i64 (K + 1 + 1)) = W3 at *
      refine (markE_k lo (hd q).A (hd q).n (hd q).c (K + 1 + 1 + 1) W3 (by omega) (by omega) (by omega) EV.out).mono ?_; rintro x w4 ⟨rfl, hE4, hw4⟩
      have HE4 := Lib.hid (show Held w4 (hd q).A (hd q).n 6 (K + 3) by rw [show K + 3 = K + 1 + 1 + 1 by omega]; exact hE4)
      have HW4 := Lib.hid hw4
      have IN4 := Lib.hid (((MK.out.in_ q (Nat.le_refl _) hlt).mv MV3.out (AP.out.ge q hlt).2).wr hw4 (AP.out.apx q q hlt hlt).symm)
      have b4 := BK3.out.wr hw4 (AP.out.ge q hlt).1
      have c4 := b4.cell (S3.out.2.1 q hlt).2
      have lg4 := b4.lt
      clear hE4 hw4 b4 c3 lg3 s0 s1 s2 f0 f1 f2 lg
      go_wp2_with fail
      refine (markN_k lo (hd q).B (hd q).k (hd q).d (K + 1 + 1 + 1 + 6 * ((hd q).n : Int)) w4 (by omega) (by omega) (by omega) IN4.out).mono ?_; rintro x w5 ⟨rfl, hE5, hw5⟩
      have NX := Lib.hid (CMk.next MK.out AP.out hlt MV3.out BK3.out S3.out (by rw [hKq]; exact HE4.out) HW4.out (by rw [hKq, show K + 3 + 6 * ((hd q).n : Int) = K + 1 + 1 + 1 + 6 * ((hd q).n : Int) by omega]; exact hE5) hw5)
      clear hE5 hw5 c4 lg4; go_wp2
      go_roundw
      case rel => exact ⟨⟨q + 1, by omega, by go_num, by rw [KF.out]; congr 1; omega, fun _ => NX.out.1⟩, CW.out.trans NX.out.2⟩
      case measure => simp [intOf]; omega
    · obtain rfl : q = n := by omega
      have i4 : ¬ (q : Int) < q := by omega
      go_wp2; go_ret
      exact ⟨rfl, hp, CW.out⟩
set_option maxHeartbeats 8000000 in
theorem heldChs_any (lo g n c : Nat) (hd : Nat → Hd) (LB : Option Addr) (HA : Option Addr) (k0 : Int) (w : World) (h0 : 0 ≤ k0) (h1 : k0 ≤ 1000000) (hA : 0 < n → HA = some ⟨g, 0, none⟩) (ap : CAp lo g n hd LB) (hP : 0 < n → CMk w lo g n hd k0 n) :
    Calls Try.prog 80 #[.slice HA n c, .int .i64 k0] w fun x w' => x = .returned (.int .i64 (Kf hd k0 n)) ∧ Up w w' := by
  have AP := Lib.hid ap
  have HA := Lib.hid hA
  have HP := Lib.hid hP
  have KI := Lib.hid (Kf_in (k0 := k0) n ap.few.2)
  have FW := ap.few.1
  clear hP hA ap
  go_enter Try.func80, Try.ntmps80
  go_wp2
  go_loopw [1, 5] (fun m i wr => (∃ q : Nat, q ≤ n ∧ i = .int .i64 q ∧ m = .int .i64 (Kf hd k0 q)) ∧ Up w wr) (fun _ i _ => n - (intOf i).toNat)
  case atStart => exact ⟨⟨0, by omega, rfl, rfl⟩, Up.refl _⟩
  case round =>
    obtain ⟨⟨q, hq, rfl, rfl⟩, ur⟩ := hrel
    have UR := Lib.hid ur
    clear ur
    by_cases hlt : q < n
    · have MK := Lib.hid ((HP.out (by omega)).up UR.out)
      have hHA := HA.out (by omega)
      subst hHA; obtain ⟨arr, B0, h0a, h0b, h0c⟩ := MK.out.blk
      have s0 := B0.cell (h0c q hlt 0 (by omega))
      have s1 := B0.cell (h0c q hlt 1 (by omega))
      have s2 := B0.cell (h0c q hlt 2 (by omega))
      have c3 := B0.cell (h0b q hlt).1
      have lg := B0.lt
      have BB := Lib.hid B0
      have S4 := Lib.hid (h0b q hlt).2
      have hK := KI.out q (by omega)
      have hnk := AP.out.few.2 q hlt
      have hkf : Kf hd k0 (q + 1) = Kf hd k0 q + 3 + 6 * ((hd q).n : Int) + ((hd q).k : Int) := rfl
      have KF := Lib.hid hkf
      have HE := Lib.hid (MK.out.hev q hlt)
      have HN := Lib.hid (MK.out.hin q hlt)
      clear h0a h0b h0c hkf B0; simp only [incr, Nat.add_zero] at s0 s1 s2
      have i4 : (q : Int) < n := by omega
      have KL : 0 ≤ Kf hd k0 q ∧ Kf hd k0 q ≤ 10000000 := by omega
      generalize hKq : Kf hd k0 q = K at *
      go_wp2_with fail
      refine (heldE_any (hd q).A (hd q).n (hd q).c (K + 1 + 1 + 1) wr (by omega) (by omega) (by omega) (by rw [show K + 1 + 1 + 1 = K + 3 by omega]; exact HE.out)).mono ?_; rintro x w4 ⟨rfl, u4⟩
      have j4 : ¬ K + 1 + 1 + 1 + 6 * ((hd q).n : Int) < 0 := by omega
      have b4 := BB.out.up u4
      have c4 := b4.cell S4.out
      have lg4 := b4.lt
      have U4 := Lib.hid (UR.out.trans u4)
      have HN4 := Lib.hid (HN.out.up u4)
      clear s0 s1 s2 c3 lg b4 u4
      go_wp2_with fail
      refine (heldN_any (hd q).B (hd q).k (hd q).d (K + 1 + 1 + 1 + 6 * ((hd q).n : Int)) w4 (by omega) (by omega) (by omega) (by rw [show K + 1 + 1 + 1 + 6 * ((hd q).n : Int) = K + 3 + 6 * ((hd q).n : Int) by omega]; exact HN4.out)).mono ?_; rintro x w5 ⟨rfl, u5⟩
      have j5 : ¬ K + 1 + 1 + 1 + 6 * ((hd q).n : Int) + ((hd q).k : Int) < 0 := by omega
      have U5 := Lib.hid (U4.out.trans u5)
      clear u5 c4 lg4; go_wp2
      go_roundw
      case rel => exact ⟨⟨q + 1, by omega, by go_num, by rw [KF.out]; congr 1; omega⟩, U5.out⟩
      case measure => simp [intOf]; omega
    · obtain rfl : q = n := by omega
      have i4 : ¬ (q : Int) < q := by omega
      go_wp2; go_ret
      exact ⟨rfl, UR.out⟩
/-- Rows of records, all empty. -/
def LgE (w : World) (B : Option Addr) (n : Nat) : Prop := 0 < n → ∃ b off, B = some ⟨b, off, none⟩ ∧ b < w.heap.size ∧ ∀ i, i < n → ∃ A c, w.cell? ⟨b, off + i, none⟩ = some (.slice A 0 c)
theorem LgE.up {w w' : World} {B : Option Addr} {n : Nat} (h : LgE w B n) (u : Up w w') : LgE w' B n := fun hn => by
  obtain ⟨b, off, hA, hb, hc⟩ := h hn; refine ⟨b, off, hA, Nat.lt_of_lt_of_le hb u.size, fun i hi => ?_⟩; obtain ⟨A, c, e⟩ := hc i hi
  exact ⟨A, c, (u.cells _ _ hb).trans e⟩
theorem LgE.cwr {w w' : World} {B : Option Addr} {m g n : Nat} {hd : Nat → Hd} (h : LgE w B m) (u : CWr g n hd w w') (hl : ∀ b o, B = some ⟨b, o, none⟩ → NEs g n hd b) : LgE w' B m := fun hn => by
  obtain ⟨b, off, hA, hb, hc⟩ := h hn; refine ⟨b, off, hA, Nat.lt_of_lt_of_le hb u.size, fun i hi => ?_⟩; obtain ⟨A, c, e⟩ := hc i hi
  exact ⟨A, c, (World.cell?_of_block (w := w) (a := ⟨b, off + i, none⟩) (u.block b hb (hl b off hA))).trans e⟩
set_option maxHeartbeats 4000000 in
theorem markLgs_any (B : Option Addr) (n d : Nat) (k0 : Int) (w : World) (hn : n ≤ 1000000) (h : LgE w B n) :
    Calls Try.prog 79 #[.slice B n d, .int .i64 k0] w fun x w' => x = .returned (.int .i64 k0) ∧ Up w w' := by
  have HE := Lib.hid h
  clear h
  go_enter Try.func79, Try.ntmps79
  go_wp2
  go_loopw [1, 5] (fun m i wr => (∃ k : Nat, k ≤ n ∧ i = .int .i64 k ∧ m = .int .i64 k0) ∧ Up w wr) (fun _ i _ => n - (intOf i).toNat)
  case atStart => exact ⟨⟨0, by omega, rfl, rfl⟩, Up.refl _⟩
  case round =>
    obtain ⟨⟨k, hk, rfl, rfl⟩, ur⟩ := hrel
    by_cases hlt : k < n
    · obtain ⟨b, off, hA, hb, hc⟩ := (HE.out.up ur) (by omega)
      subst hA; obtain ⟨A3, c3, e3⟩ := hc k hlt
      have UR := Lib.hid ur
      have i4 : (k : Int) < n := by omega
      clear hc ur
      go_wp2_with fail
      refine (markR_no A3 c3 k0 _).mono ?_; rintro x w4 ⟨rfl, u4⟩
      have U4 := Lib.hid (UR.out.trans u4)
      clear u4 e3; go_wp2
      go_roundw
      case rel => exact ⟨⟨k + 1, by omega, by go_num, rfl⟩, U4.out⟩
      case measure => simp [intOf]; omega
    · obtain rfl : k = n := by omega
      have i4 : ¬ (k : Int) < k := by omega
      go_wp2; go_ret
      exact ⟨rfl, ur⟩
set_option maxHeartbeats 4000000 in
theorem heldLgs_any (B : Option Addr) (n d : Nat) (k0 : Int) (w : World) (h0 : 0 ≤ k0) (h1 : k0 ≤ 1000000000) (hn : n ≤ 1000000) (h : LgE w B n) :
    Calls Try.prog 81 #[.slice B n d, .int .i64 k0] w fun x w' => x = .returned (.int .i64 k0) ∧ Up w w' := by
  have HE := Lib.hid h
  clear h
  have j0 : ¬ k0 < 0 := by omega
  go_enter Try.func81, Try.ntmps81
  go_wp2
  go_loopw [1, 5] (fun m i wr => (∃ k : Nat, k ≤ n ∧ i = .int .i64 k ∧ m = .int .i64 k0) ∧ Up w wr) (fun _ i _ => n - (intOf i).toNat)
  case atStart => exact ⟨⟨0, by omega, rfl, rfl⟩, Up.refl _⟩
  case round =>
    obtain ⟨⟨k, hk, rfl, rfl⟩, ur⟩ := hrel
    by_cases hlt : k < n
    · obtain ⟨b, off, hA, hb, hc⟩ := (HE.out.up ur) (by omega)
      subst hA; obtain ⟨A3, c3, e3⟩ := hc k hlt
      have UR := Lib.hid ur
      have i4 : (k : Int) < n := by omega
      clear hc ur
      go_wp2_with fail
      refine ((heldR_any A3 0 c3 k0 wr (by omega) h0 (by omega) (Held.none_ _ _ _ _)).mono (fun x w' h => (show x = .returned (.int .i64 k0) ∧ Up wr w' from ⟨by simpa using h.1, h.2⟩))).mono ?_; rintro x w4 ⟨rfl, u4⟩
      have U4 := Lib.hid (UR.out.trans u4)
      clear u4 e3; go_wp2
      go_roundw
      case rel => exact ⟨⟨k + 1, by omega, by go_num, rfl⟩, U4.out⟩
      case measure => simp [intOf]; omega
    · obtain rfl : k = n := by omega
      have i4 : ¬ (k : Int) < k := by omega
      go_wp2; go_ret
      exact ⟨rfl, ur⟩
theorem CMk.ne {w : World} {lo g n : Nat} {hd : Nat → Hd} {k0 : Int} (h : 0 < n → CMk w lo g n hd k0 0) {b : Nat} (hb : w.heap.size ≤ b) : NEs g n hd b := fun hn => by
  have h := h hn
  obtain ⟨arr, B0, _⟩ := h.blk
  have := B0.lt
  refine ⟨by omega, fun i hi => ⟨fun h0 o hA => ?_, fun h0 o hA => ?_⟩⟩
  · obtain ⟨g', h1, _, h3⟩ := h.ev i (by omega) hi h0
    rw [h1] at hA
    injection hA with hA
    injection hA with hA _ _
    have := h3.1
    omega
  · obtain ⟨g', h1, _, h3⟩ := h.in_ i (by omega) hi h0
    rw [h1] at hA
    injection hA with hA
    injection hA with hA _ _
    have := h3.1
    omega
set_option maxHeartbeats 4000000 in
theorem markCb_any (lo g n c : Nat) (hd : Nat → Hd) (LB : Option Addr) (m d : Nat) (HA : Option Addr) (k0 : Int) (w : World) (h0 : 0 ≤ k0) (h1 : k0 ≤ 1000000) (hm : m ≤ 1000000) (hA : 0 < n → HA = some ⟨g, 0, none⟩) (ap : CAp lo g n hd LB) (hP : 0 < n → CMk w lo g n hd k0 0) (hL : LgE w LB m) :
    Calls Try.prog 34 #[.agg #[.slice HA n c, .slice LB m d], .int .i64 k0] w fun x w' => x = .returned (.int .i64 (Kf hd k0 n)) ∧ (0 < n → CMk w' lo g n hd k0 n) ∧ LgE w' LB m ∧ CWr g n hd w w' := by
  have NEB := Lib.hid (CMk.ne hP (Nat.le_refl _))
  have ua := (Up.refl w).alloc (.cells #[.slice HA n c, .slice LB m d] 76)
  have U0 := Lib.hid ua
  have X2 := Lib.hid (Blk.new w #[.slice HA n c, .slice LB m d] 76)
  have LG := Lib.hid (hL.up ua)
  have CM := Lib.hid (markChs_any lo g n c hd LB HA k0 (w.alloc (.cells #[.slice HA n c, .slice LB m d] 76)) h0 h1 hA ap (fun hn => (hP hn).up ua))
  have AL := Lib.hid ap.logs
  clear hL ua hA ap hP
  go_enter Try.func34, Try.ntmps34
  go_wp2_with fail
  refine CM.out.mono ?_; rintro x w1 ⟨rfl, hmk, cw⟩
  have MK := Lib.hid hmk
  have CW := Lib.hid ((CWr.up U0.out).trans cw)
  have L1 := Lib.hid (LG.out.cwr cw AL.out)
  have x2 := cw.blk X2.out NEB.out
  have y1 := x2.cell (j := 1) rfl
  have ly := x2.lt
  clear hmk cw x2
  go_wp2_with fail
  refine (markLgs_any LB m d _ w1 hm L1.out).mono ?_; rintro x w2 ⟨rfl, u2⟩; go_wp2; go_ret
  exact ⟨rfl, fun hn => (MK.out hn).up u2, L1.out.up u2, CW.out.trans (CWr.up u2)⟩
set_option maxHeartbeats 4000000 in
theorem heldCb_any (lo g n c : Nat) (hd : Nat → Hd) (LB : Option Addr) (m d : Nat) (HA : Option Addr) (k0 : Int) (w : World) (h0 : 0 ≤ k0) (h1 : k0 ≤ 1000000) (hm : m ≤ 1000000) (hA : 0 < n → HA = some ⟨g, 0, none⟩) (ap : CAp lo g n hd LB) (hP : 0 < n → CMk w lo g n hd k0 n) (hL : LgE w LB m) :
    Calls Try.prog 35 #[.agg #[.slice HA n c, .slice LB m d], .int .i64 k0] w fun x w' => x = .returned (.int .i64 (Kf hd k0 n)) ∧ Up w w' := by
  have ua := (Up.refl w).alloc (.cells #[.slice HA n c, .slice LB m d] 76)
  have U0 := Lib.hid ua
  have X2 := Lib.hid (Blk.new w #[.slice HA n c, .slice LB m d] 76)
  have LG := Lib.hid (hL.up ua)
  have KI := Kf_in (k0 := k0) n ap.few.2 n (Nat.le_refl _)
  have FW := ap.few.1
  have CM := Lib.hid (heldChs_any lo g n c hd LB HA k0 (w.alloc (.cells #[.slice HA n c, .slice LB m d] 76)) h0 h1 hA ap (fun hn => (hP hn).up ua))
  generalize Kf hd k0 n = K at KI CM ⊢
  have j0 : ¬ K < 0 := by omega
  clear hL ua hA ap hP
  go_enter Try.func35, Try.ntmps35
  go_wp2_with fail
  refine CM.out.mono ?_; rintro x w1 ⟨rfl, u1⟩
  have U1 := Lib.hid (U0.out.trans u1)
  have L1 := Lib.hid (LG.out.up u1)
  have x2 := X2.out.up u1
  have y1 := x2.cell (j := 1) rfl
  have ly := x2.lt
  clear u1 x2
  go_wp2_with fail
  refine (heldLgs_any LB m d _ w1 (by omega) (by omega) hm L1.out).mono ?_; rintro x w2 ⟨rfl, u2⟩; go_wp2; go_ret
  exact ⟨rfl, U1.out.trans u2⟩
end Go.Proofs.Ytipjcjjjkkaigaa

namespace Go.Proofs.Ytipjcjjjkkaigaa
set_option maxRecDepth 100000
open Go.RowKit
theorem own_keep {w w' : World} {b e size n : Nat} {v : Value} {xs : List Value} (h : w.ownsRow b e size v n xs) (k : ∀ g, v.ownBlock = some g → g < w.heap.size → w'.heap[g]? = w.heap[g]?) : w'.ownsRow b e size v n xs := by
  refine ⟨h.1, ?_⟩
  rcases h.2 with h0 | ⟨g, cap, cur, rfl, hg, hb, hr⟩
  · exact .inl h0
  · exact .inr ⟨g, cap, cur, rfl, hg, (k g rfl (Array.getElem?_eq_some_iff.1 hb).1).trans hb, hr⟩
/-- Rows of other elements lie apart. -/
theorem own_apart {w : World} {b b' e e' size size' n n' : Nat} {v v' : Value} {xs xs' : List Value} (h : w.ownsRow b e size v n xs) (h' : w.ownsRow b' e' size' v' n' xs') (he : e ≠ e') : ∀ g, v.ownBlock = some g → v'.ownBlock = some g → False := fun g h1 h2 => by
  rcases h.2 with ⟨rfl, _⟩ | ⟨g1, cap, cur, rfl, _, hb, _⟩
  · cases h1
  rcases h'.2 with ⟨rfl, _⟩ | ⟨g2, cap', cur', rfl, _, hb', _⟩
  · cases h2
  injection h1 with h1
  injection h2 with h2
  have h1 : g1 = g := h1
  have h2 : g2 = g := h2
  subst h1; subst h2; rw [hb] at hb'
  injection hb' with hb'
  injection hb' with _ hb' _
  exact he hb'
/-- A row and a block of another kind lie apart. -/
theorem own_off {w : World} {b e size n p : Nat} {v : Value} {xs : List Value} {cur : Array Value} {e' : Nat} {fz : Nat × Nat} (h : w.ownsRow b e size v n xs) (hp : w.heap[p]? = some (.cells cur e' fz)) (he : e ≠ e') : ∀ g, v.ownBlock = some g → g ≠ p := fun g h1 h2 => by
  subst h2
  rcases h.2 with ⟨rfl, _⟩ | ⟨g1, cap, cur', rfl, _, hb, _⟩
  · cases h1
  injection h1 with h1
  have h1 : g1 = g := h1
  subst h1; rw [hb] at hp
  injection hp with hp
  injection hp with _ hp _
  exact he hp
end Go.Proofs.Ytipjcjjjkkaigaa

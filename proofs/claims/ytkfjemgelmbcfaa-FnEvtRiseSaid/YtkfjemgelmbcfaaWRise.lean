/-
  What FnEvtRise returns, in one sentence: true, with new blocks alone; for every code.
-/
import Derived.Test.YtkfjemgelmbcfaaDrawRise
import Derived.Test.YtkfjemgelmbcfaaCut
import Derived.Test.YtkfjemgelmbcfaaOk
import Derived.Test.YtkfjemgelmbcfaaMix
namespace Go.Proofs.Ytkfjemgelmbcfaa
set_option maxRecDepth 100000
open Go.RowKit

set_option maxRecDepth 100000 in
set_option maxHeartbeats 40000000 in
theorem walkRise {w : World} (A : Option Addr) (n cap : Nat) (hc : n ≤ cap) (hmax : cap ≤ 9223372036854775807) (hB : Bys w A n w.heap.size) :
    Calls Try.prog 5 #[.slice A n cap] w fun x w' => x = .returned (.bool true) ∧ Up w w' := by
  obtain ⟨i0, hi0, hz0, hz1, hz2⟩ := info_parts info50
  have INF := Lib.hid (And.intro hi0 (And.intro hz0 (And.intro hz1 hz2)))
  have SIX := Lib.hid (show 0 < 6 by omega)
  clear hi0 hz0 hz1 hz2
  have HB := Lib.hid hB
  clear hB
  by_cases h : 1048576 < n
  · have h' : (1048576 : Int) < n := by omega
    go_enter Try.func5, Try.ntmps5
    go_wp2
    go_ret
    exact ⟨rfl, Up.refl _⟩
  · have h' : ¬ (1048576 : Int) < n := by omega
    go_enter Try.func5, Try.ntmps5
    go_wp2_with fail
    refine (drawRise_any A n cap _ hc hmax HB.out).mono ?_
    rintro x w1 ⟨es, A1, c1, rfl, hl8, hc1, hm1, hE1, u1⟩
    have HE := Lib.hid hE1
    have U1 := Lib.hid u1
    have RF := Lib.hid (rise_front es)
    have RD := Lib.hid (rise_drop es)
    have RT := Lib.hid (rise_twice es)
    have LE := Lib.hid (show es.length = es.length from rfl)
    clear hE1 u1
    go_wp2_with fail
    refine (implRise_any A1 es.length c1 es _ (by omega) HE.out).mono ?_
    rintro x w2 ⟨rfl, u2⟩
    have U2 := Lib.hid u2
    clear u2
    go_wp2_with fail
    refine (specRise_any A1 es.length c1 es _ (by omega) (HE.out.up U2.out)).mono ?_
    rintro x w3 ⟨rfl, u3⟩
    have U3 := Lib.hid (U2.out.trans u3)
    clear u3 U2
    have neq0 : (riseB es != riseB es) = false := by cases riseB es <;> rfl
    have neq1 : (riseB es == riseB es) = true := by cases riseB es <;> rfl
    generalize hr : riseB es = r at neq0 neq1 RF RD
    have HR := Lib.hid hr
    clear hr
    have CN : Hid (∀ b W, Calls Try.prog 23 #[.slice b 0 0] W fun x w' => x = .returned (.bool true) ∧ Up W w') := Lib.hid fun b W => implRise_any b 0 0 [] W (by omega) ⟨rfl, fun h => absurd h (by omega)⟩
    go_wp2_with fail
    refine (CN.out _ _).mono ?_
    rintro x w4 ⟨rfl, u4⟩
    have U4 := Lib.hid ((Up.alloc U3.out (.cells #[] 50)).trans u4)
    clear u4 U3
    go_wp2_with fail
    go_loopw [5] (fun i wr => (∃ k : Nat, k ≤ es.length ∧ i = .int .i64 k) ∧ Up w1 wr) (fun i _ => es.length - (intOf i).toNat)
    case atStart => exact ⟨⟨0, by omega, rfl⟩, U4.out⟩
    case round =>
      obtain ⟨⟨k, hk, rfl⟩, ur⟩ := hrel
      have UR := Lib.hid ur
      have hs := ur.size
      clear ur U4
      by_cases hlt : k < es.length
      · have i1 : (0 : Int) ≤ k := by omega
        have i2 : (k : Int) ≤ c1 := by omega
        have i3 : (k : Int) < es.length := by omega
        have i4 : (k : Int) ≤ es.length := by omega
        have i5 : (0 : Int) ≤ (k : Int) + 1 := by omega
        have i6 : (k : Int) + 1 ≤ c1 := by omega
        have i7 : ((k : Int) + 1).toNat = k + 1 := by omega
        have i8 : (es.length : Int) ≤ c1 := by omega
        have i9 : IntKind.i64.wrap ((k : Int) + 1) = (k : Int) + 1 := IntWalk.i64_in _ (by omega)
        cases r
        · go_wp2_with fail
          refine region_mix [(0, true), (1, true), (2, true), (3, true), (4, true), (5, false), (6, true), (7, true), (8, true), (9, true), (10, true), (11, true), (12, true), (13, true), (14, false), (15, true), (16, true), (17, true), (18, true), (20, true), (21, true), (22, true), (23, true), (25, true), (26, true), (27, true), (19, false), (24, false), (28, false), (29, false), (30, true)] (by kernel_rfl) (by kernel_rfl) ?_
          refine mix_take rfl (by rfl) ?_
          apply Exists.intro
          refine ⟨fun w1 => ?_, ?_⟩
          · go_simp
            try rfl
          go_simp
          refine mix_take rfl (by rfl) ?_
          apply Exists.intro
          refine ⟨fun w1 => ?_, ?_⟩
          · go_simp
            try rfl
          go_simp
          refine mix_skip rfl (by rfl) ?_
          go_simp
          refine mix_skip rfl (by rfl) ?_
          go_simp
          refine mix_skip rfl (by rfl) ?_
          go_simp
          refine mix_skip rfl (by rfl) ?_
          go_simp
          refine mix_skip rfl (by rfl) ?_
          go_simp
          refine mix_take rfl (by rfl) ?_
          apply Exists.intro
          refine ⟨fun w1 => ?_, ?_⟩
          · go_simp
            try rfl
          go_simp
          refine mix_take rfl (by rfl) ?_
          apply Exists.intro
          refine ⟨fun w1 => ?_, ?_⟩
          · go_simp
            try rfl
          go_simp
          refine mix_take rfl (by rfl) ?_
          apply Exists.intro
          refine ⟨fun w1 => ?_, ?_⟩
          · go_simp
            try rfl
          go_simp
          refine mix_take rfl (by rfl) ?_
          apply Exists.intro
          refine ⟨fun w1 => ?_, ?_⟩
          · go_simp
            try rfl
          go_simp
          refine mix_skip rfl (by rfl) ?_
          go_simp
          refine mix_skip rfl (by rfl) ?_
          go_simp
          refine mix_skip rfl (by rfl) ?_
          go_simp
          refine mix_skip rfl (by rfl) ?_
          go_simp
          refine mix_skip rfl (by rfl) ?_
          go_simp
          refine mix_take rfl (by rfl) ?_
          apply Exists.intro
          refine ⟨fun w1 => ?_, ?_⟩
          · go_simp
            try rfl
          go_simp
          refine mix_take rfl (by rfl) ?_
          apply Exists.intro
          refine ⟨fun w1 => ?_, ?_⟩
          · go_simp
            try rfl
          go_simp
          refine mix_take rfl (by rfl) ?_
          apply Exists.intro
          refine ⟨fun w1 => ?_, ?_⟩
          · go_simp
            try rfl
          go_simp
          refine mix_take rfl (by rfl) ?_
          apply Exists.intro
          refine ⟨fun w1 => ?_, ?_⟩
          · go_simp
            try rfl
          go_simp
          refine mix_take rfl (by rfl) ?_
          apply Exists.intro
          refine ⟨fun w1 => ?_, ?_⟩
          · go_simp
            try rfl
          go_simp
          refine mix_take rfl (by rfl) ?_
          apply Exists.intro
          refine ⟨fun w1 => ?_, ?_⟩
          · go_simp
            try rfl
          go_simp
          refine mix_take rfl (by rfl) ?_
          apply Exists.intro
          refine ⟨fun w1 => ?_, ?_⟩
          · go_simp
            try rfl
          go_simp
          refine mix_take rfl (by rfl) ?_
          apply Exists.intro
          refine ⟨fun w1 => ?_, ?_⟩
          · go_simp
            try rfl
          go_simp
          refine mix_take rfl (by rfl) ?_
          apply Exists.intro
          refine ⟨fun w1 => ?_, ?_⟩
          · go_simp
            try rfl
          go_simp
          refine mix_take rfl (by rfl) ?_
          apply Exists.intro
          refine ⟨fun w1 => ?_, ?_⟩
          · go_simp
            try rfl
          go_simp
          refine mix_go rfl (by rfl) (fun K hK => ?_)
          go_simp
          refine hK _ _ ?_
          clear hK K
          go_simp
          refine mix_go rfl (by rfl) (fun K hK => ?_)
          have OW1 := Lib.hid (show (((wr.drew).alloc (.cells #[] 50))).ownsRow (wr.heap.size) 50 6 (.slice (some ⟨wr.heap.size, 0, none⟩) 0 0) 0 (flat []) from by have := World.ownsRow_lit (base := wr.heap.size) (e := 50) (size := 6) (wr.drew) #[] 0 (by simp) (by simp only [maxLen]; omega) (by simp); simpa [flat] using this)
          have UA := Lib.hid (Up.alloc (UR.out.drew) (.cells #[] 50))
          have RD1 := Lib.hid ((HE.out.up UA.out).front (k := k + 1) (by omega)).reads
          have HMX1 := Lib.hid (show 0 + (k + 1) ≤ maxLen by simp only [maxLen]; omega)
          have HBY1 := Lib.hid (show (0 + (k + 1)) * 48 ≤ 140737488355328 by omega)
          have HBS1 := Lib.hid (show wr.heap.size ≤ (((wr.drew).alloc (.cells #[] 50))).heap.size by simp)
          refine wp_append_any _ (.tmp 47) (.tmp 51) 24 rfl (wr.heap.size) 50 i0 _ 6 48 Try.underlying24 INF.out.1 INF.out.2.1 INF.out.2.2.1 INF.out.2.2.2 rfl SIX.out _ 0 (flat []) (by rfl) OW1.out _ A1 (k + 1) c1 (flat (es.take (k + 1))) (by rfl) RD1.out (flat_one _) HMX1.out HBY1.out HBS1.out ?_
          intro v5 w5 ho5 hg5 _
          refine hK _ _ ?_
          clear hK K
          have O5 := Lib.hid (show w5.ownsRow (wr.heap.size) 50 6 v5 (k + 1) (flat (es.take (k + 1))) from by simpa [flat] using ho5)
          have U5 := Lib.hid (UA.out.grown hg5 (fun j hj => by have := (OW1.out.lt j hj).1; omega))
          have HS5 := Lib.hid (show wr.heap.size ≤ w5.heap.size by have := hg5.size; simp at this; omega)
          clear ho5 hg5 OW1 UA RD1 HMX1 HBY1 HBS1
          go_simp
          refine mix_go rfl (by rfl) (fun K hK => ?_)
          have RD2 := Lib.hid ((HE.out.up U5.out).rest (k := k) (cap := c1) (by omega) (by omega)).reads
          have HMX2 := Lib.hid (show (k + 1) + (es.length - k) ≤ maxLen by simp only [maxLen]; omega)
          have HBY2 := Lib.hid (show ((k + 1) + (es.length - k)) * 48 ≤ 140737488355328 by omega)
          refine wp_append_any _ (.tmp 52) (.tmp 55) 24 rfl (wr.heap.size) 50 i0 _ 6 48 Try.underlying24 INF.out.1 INF.out.2.1 INF.out.2.2.1 INF.out.2.2.2 rfl SIX.out v5 (k + 1) (flat (es.take (k + 1))) (by rfl) O5.out _ _ (es.length - k) (c1 - k) (flat (es.drop k)) (by rfl) RD2.out (flat_one _) HMX2.out HBY2.out HS5.out ?_
          intro v6 w6 ho6 hg6 _
          refine hK _ _ ?_
          clear hK K
          have O6 := ho6
          rw [← flat_app] at O6
          have U6 := Lib.hid (U5.out.grown hg6 (fun j hj => by have := (O5.out.lt j hj).1; omega))
          obtain ⟨hn6, A6, c6, rfl, hc6, hm6⟩ := own_slice O6
          have C6 := implRise_any A6 _ c6 _ w6 (by omega) (own_evs O6)
          rw [RT.out k hlt] at C6
          have C6' := Lib.hid C6
          clear ho6 hg6 RD2 HMX2 HBY2 hn6 hc6 hm6 O6 C6
          go_simp
          refine mix_go rfl (by rfl) (fun K hK => ?_)
          go_simp
          refine (C6'.out).mono ?_
          rintro x w7 ⟨rfl, u7⟩
          refine hK _ _ ?_
          clear hK K
          have U7 := Lib.hid (U6.out.trans u7)
          clear u7 C6'
          go_simp
          refine mix_take rfl (by rfl) ?_
          apply Exists.intro
          refine ⟨fun w1 => ?_, ?_⟩
          · go_simp
            try rfl
          go_simp
          refine mix_nil ?_
          go_wp2
          go_roundw
          case rel => exact ⟨⟨k + 1, by omega, by go_num⟩, U7.out⟩
          case measure => simp [intOf]; omega
        · have C1 : Hid (∀ W, Evs W A1 es.length es → Calls Try.prog 23 #[.slice A1 k c1] W fun x w' => x = .returned (.bool true) ∧ Up W w') := Lib.hid fun W h => by have := implRise_any A1 k c1 (es.take k) W (by omega) (h.front (by omega)); rw [RF.out k (by first | trivial | rfl)] at this; exact this
          have C2 : Hid (∀ W, Evs W A1 es.length es → Calls Try.prog 23 #[.slice (if c1 = k then A1 else A1.map (fun x => x.add (k * 6))) (es.length - k) (c1 - k)] W fun x w' => x = .returned (.bool true) ∧ Up W w') := Lib.hid fun W h => by have := implRise_any _ (es.length - k) (c1 - k) (es.drop k) W (by omega) (h.rest (cap := c1) (by omega) (by omega)); rw [RD.out (by first | trivial | rfl) k] at this; exact this
          go_wp2_with fail
          refine region_mix [(0, true), (1, true), (2, true), (3, true), (4, true), (5, false), (6, true), (7, true), (8, true), (9, true), (10, true), (11, true), (12, true), (13, true), (14, false), (15, true), (16, true), (17, true), (18, true), (20, true), (21, true), (22, true), (23, true), (25, true), (26, true), (27, true), (19, false), (24, false), (28, false), (29, false), (30, true)] (by kernel_rfl) (by kernel_rfl) ?_
          refine mix_take rfl (by rfl) ?_
          apply Exists.intro
          refine ⟨fun w1 => ?_, ?_⟩
          · go_simp
            try rfl
          go_simp
          refine mix_take rfl (by rfl) ?_
          apply Exists.intro
          refine ⟨fun w1 => ?_, ?_⟩
          · go_simp
            try rfl
          go_simp
          refine mix_take rfl (by rfl) ?_
          apply Exists.intro
          refine ⟨fun w1 => ?_, ?_⟩
          · go_simp
            try rfl
          go_simp
          refine mix_take rfl (by rfl) ?_
          apply Exists.intro
          refine ⟨fun w1 => ?_, ?_⟩
          · go_simp
            try rfl
          go_simp
          refine mix_take rfl (by rfl) ?_
          apply Exists.intro
          refine ⟨fun w1 => ?_, ?_⟩
          · go_simp
            try rfl
          go_simp
          refine mix_go rfl (by rfl) (fun K hK => ?_)
          go_simp
          refine (C1.out _ (HE.out.up UR.out.drew)).mono ?_
          rintro x wA ⟨rfl, uA⟩
          refine hK _ _ ?_
          clear hK K
          have UA1 := Lib.hid (UR.out.drew.trans uA)
          clear uA
          go_simp
          refine mix_take rfl (by rfl) ?_
          apply Exists.intro
          refine ⟨fun w1 => ?_, ?_⟩
          · go_simp
            try rfl
          go_simp
          refine mix_take rfl (by rfl) ?_
          apply Exists.intro
          refine ⟨fun w1 => ?_, ?_⟩
          · go_simp
            try rfl
          go_simp
          refine mix_take rfl (by rfl) ?_
          apply Exists.intro
          refine ⟨fun w1 => ?_, ?_⟩
          · go_simp
            try rfl
          go_simp
          refine mix_take rfl (by rfl) ?_
          apply Exists.intro
          refine ⟨fun w1 => ?_, ?_⟩
          · go_simp
            try rfl
          go_simp
          refine mix_take rfl (by rfl) ?_
          apply Exists.intro
          refine ⟨fun w1 => ?_, ?_⟩
          · go_simp
            try rfl
          go_simp
          refine mix_take rfl (by rfl) ?_
          apply Exists.intro
          refine ⟨fun w1 => ?_, ?_⟩
          · go_simp
            try rfl
          go_simp
          refine mix_take rfl (by rfl) ?_
          apply Exists.intro
          refine ⟨fun w1 => ?_, ?_⟩
          · go_simp
            try rfl
          go_simp
          refine mix_take rfl (by rfl) ?_
          apply Exists.intro
          refine ⟨fun w1 => ?_, ?_⟩
          · go_simp
            try rfl
          go_simp
          refine mix_go rfl (by rfl) (fun K hK => ?_)
          go_simp
          refine (C2.out _ (HE.out.up UA1.out)).mono ?_
          rintro x wB ⟨rfl, uB⟩
          refine hK _ _ ?_
          clear hK K
          have UB := Lib.hid (UA1.out.trans uB)
          have hsB := UB.out.size
          clear uB UA1
          go_simp
          refine mix_take rfl (by rfl) ?_
          apply Exists.intro
          refine ⟨fun w1 => ?_, ?_⟩
          · go_simp
            try rfl
          go_simp
          refine mix_take rfl (by rfl) ?_
          apply Exists.intro
          refine ⟨fun w1 => ?_, ?_⟩
          · go_simp
            try rfl
          go_simp
          refine mix_take rfl (by rfl) ?_
          apply Exists.intro
          refine ⟨fun w1 => ?_, ?_⟩
          · go_simp
            try rfl
          go_simp
          refine mix_take rfl (by rfl) ?_
          apply Exists.intro
          refine ⟨fun w1 => ?_, ?_⟩
          · go_simp
            try rfl
          go_simp
          refine mix_take rfl (by rfl) ?_
          apply Exists.intro
          refine ⟨fun w1 => ?_, ?_⟩
          · go_simp
            try rfl
          go_simp
          refine mix_take rfl (by rfl) ?_
          apply Exists.intro
          refine ⟨fun w1 => ?_, ?_⟩
          · go_simp
            try rfl
          go_simp
          refine mix_take rfl (by rfl) ?_
          apply Exists.intro
          refine ⟨fun w1 => ?_, ?_⟩
          · go_simp
            try rfl
          go_simp
          refine mix_take rfl (by rfl) ?_
          apply Exists.intro
          refine ⟨fun w1 => ?_, ?_⟩
          · go_simp
            try rfl
          go_simp
          refine mix_take rfl (by rfl) ?_
          apply Exists.intro
          refine ⟨fun w1 => ?_, ?_⟩
          · go_simp
            try rfl
          go_simp
          refine mix_take rfl (by rfl) ?_
          apply Exists.intro
          refine ⟨fun w1 => ?_, ?_⟩
          · go_simp
            try rfl
          go_simp
          refine mix_take rfl (by rfl) ?_
          apply Exists.intro
          refine ⟨fun w1 => ?_, ?_⟩
          · go_simp
            try rfl
          go_simp
          refine mix_go rfl (by rfl) (fun K hK => ?_)
          go_simp
          refine hK _ _ ?_
          clear hK K
          go_simp
          refine mix_go rfl (by rfl) (fun K hK => ?_)
          have OW1 := Lib.hid (show (((wB).alloc (.cells #[] 50))).ownsRow (wB.heap.size) 50 6 (.slice (some ⟨wB.heap.size, 0, none⟩) 0 0) 0 (flat []) from by have := World.ownsRow_lit (base := wB.heap.size) (e := 50) (size := 6) (wB) #[] 0 (by simp) (by simp only [maxLen]; omega) (by simp); simpa [flat] using this)
          have UA := Lib.hid (Up.alloc (UB.out) (.cells #[] 50))
          have RD1 := Lib.hid ((HE.out.up UA.out).front (k := k + 1) (by omega)).reads
          have HMX1 := Lib.hid (show 0 + (k + 1) ≤ maxLen by simp only [maxLen]; omega)
          have HBY1 := Lib.hid (show (0 + (k + 1)) * 48 ≤ 140737488355328 by omega)
          have HBS1 := Lib.hid (show wB.heap.size ≤ (((wB).alloc (.cells #[] 50))).heap.size by simp)
          refine wp_append_any _ (.tmp 47) (.tmp 51) 24 rfl (wB.heap.size) 50 i0 _ 6 48 Try.underlying24 INF.out.1 INF.out.2.1 INF.out.2.2.1 INF.out.2.2.2 rfl SIX.out _ 0 (flat []) (by rfl) OW1.out _ A1 (k + 1) c1 (flat (es.take (k + 1))) (by rfl) RD1.out (flat_one _) HMX1.out HBY1.out HBS1.out ?_
          intro v5 w5 ho5 hg5 _
          refine hK _ _ ?_
          clear hK K
          have O5 := Lib.hid (show w5.ownsRow (wB.heap.size) 50 6 v5 (k + 1) (flat (es.take (k + 1))) from by simpa [flat] using ho5)
          have U5 := Lib.hid (UA.out.grown hg5 (fun j hj => by have := (OW1.out.lt j hj).1; omega))
          have HS5 := Lib.hid (show wB.heap.size ≤ w5.heap.size by have := hg5.size; simp at this; omega)
          clear ho5 hg5 OW1 UA RD1 HMX1 HBY1 HBS1
          go_simp
          refine mix_go rfl (by rfl) (fun K hK => ?_)
          have RD2 := Lib.hid ((HE.out.up U5.out).rest (k := k) (cap := c1) (by omega) (by omega)).reads
          have HMX2 := Lib.hid (show (k + 1) + (es.length - k) ≤ maxLen by simp only [maxLen]; omega)
          have HBY2 := Lib.hid (show ((k + 1) + (es.length - k)) * 48 ≤ 140737488355328 by omega)
          refine wp_append_any _ (.tmp 52) (.tmp 55) 24 rfl (wB.heap.size) 50 i0 _ 6 48 Try.underlying24 INF.out.1 INF.out.2.1 INF.out.2.2.1 INF.out.2.2.2 rfl SIX.out v5 (k + 1) (flat (es.take (k + 1))) (by rfl) O5.out _ _ (es.length - k) (c1 - k) (flat (es.drop k)) (by rfl) RD2.out (flat_one _) HMX2.out HBY2.out HS5.out ?_
          intro v6 w6 ho6 hg6 _
          refine hK _ _ ?_
          clear hK K
          have O6 := ho6
          rw [← flat_app] at O6
          have U6 := Lib.hid (U5.out.grown hg6 (fun j hj => by have := (O5.out.lt j hj).1; omega))
          obtain ⟨hn6, A6, c6, rfl, hc6, hm6⟩ := own_slice O6
          have C6 := implRise_any A6 _ c6 _ w6 (by omega) (own_evs O6)
          rw [RT.out k hlt] at C6
          have C6' := Lib.hid C6
          clear ho6 hg6 RD2 HMX2 HBY2 hn6 hc6 hm6 O6 C6
          go_simp
          refine mix_go rfl (by rfl) (fun K hK => ?_)
          go_simp
          refine (C6'.out).mono ?_
          rintro x w7 ⟨rfl, u7⟩
          refine hK _ _ ?_
          clear hK K
          have U7 := Lib.hid (U6.out.trans u7)
          clear u7 C6'
          go_simp
          refine mix_take rfl (by rfl) ?_
          apply Exists.intro
          refine ⟨fun w1 => ?_, ?_⟩
          · go_simp
            try rfl
          go_simp
          refine mix_nil ?_
          go_wp2
          go_roundw
          case rel => exact ⟨⟨k + 1, by omega, by go_num⟩, U7.out⟩
          case measure => simp [intOf]; omega
      · have i3 : ¬ (k : Int) < es.length := by omega
        go_wp2_with (first | (go_at_call 18; refine (tbOk_any _).mono ?_; rintro e w' ⟨rfl, u⟩; have U := Lib.hid (UR.out.trans u); clear u))
        go_ret
        exact ⟨rfl, U1.out.trans U.out⟩

end Go.Proofs.Ytkfjemgelmbcfaa

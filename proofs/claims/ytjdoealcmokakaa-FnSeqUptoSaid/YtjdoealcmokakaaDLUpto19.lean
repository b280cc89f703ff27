/-
  pendingHeap's methods found by its interface, in one sentence: which function, and which value it is called with; for every pointer to a slice.
  What container/heap's up does, in one sentence: a heap but for one event that is too small becomes a heap, none is lost; for every list of events in a block of the call's own.
  What container/heap's down does, in one sentence: a heap but for one event that is too great becomes a heap, none is lost; for every list of events in a block of the call's own.
  What container/heap's Pop does, in one sentence: the least event leaves the heap, the others are a heap, none is lost; for every heap of events in a block of the call's own.
-/
import Derived.Test.YtjdoealcmokakaaDLUpto18
namespace Go.Proofs.Ytjdoealcmokakaa
set_option maxRecDepth 100000
open Go.RowKit
theorem run_wrapNil {P : Program} (ts : Array TypeId) (t : TypeId) (a : Addr) (x y : String) (w : World) : (Builtin.ssaWrapNilChk_ ts t #[.pointer (some a), strVal x, strVal y]).run P w = .ok (.pointer (some a)) w := rfl
theorem run_asAddr {P : Program} (a : Addr) (w : World) : (asAddr (.pointer (some a))).run P w = .ok a w := rfl
theorem run_placeGet {P : Program} (t : TypeId) (v : Value) (w : World) : (Place.get t (.val v)).run P w = .ok v w := rfl
theorem meth_len (N p o : Nat) (A : Option Addr) (n c : Nat) (w : World) (h : w.cell? ⟨p, o, none⟩ = some (.slice A n c)) (_hl : p < w.heap.size) :
    (method (N + 1) 107 (.pointer (some ⟨p, o, none⟩)) "Len").run Try.prog w = .ok (121, .slice A n c) w := by
  have hi : ∃ i, ∀ w, (typeInfo 107).run Try.prog w = .ok i w ∧ ∃ m, i.methods.find? (·.name == "Len") = some m ∧ m.path = #[] ∧ m.func = some (121, false) := ⟨_, fun w => ⟨rfl, _, rfl, rfl, rfl⟩⟩
  obtain ⟨i, hi⟩ := hi; obtain ⟨h1, m, h2, h3, h4⟩ := hi w; rw [method]; simp [h1, h2, h3, h4, follow, receiverAt, run_wrapNil, run_asAddr, run_placeGet]; go_simp
theorem meth_less (N p o : Nat) (A : Option Addr) (n c : Nat) (w : World) (h : w.cell? ⟨p, o, none⟩ = some (.slice A n c)) (_hl : p < w.heap.size) :
    (method (N + 1) 107 (.pointer (some ⟨p, o, none⟩)) "Less").run Try.prog w = .ok (122, .slice A n c) w := by
  have hi : ∃ i, ∀ w, (typeInfo 107).run Try.prog w = .ok i w ∧ ∃ m, i.methods.find? (·.name == "Less") = some m ∧ m.path = #[] ∧ m.func = some (122, false) := ⟨_, fun w => ⟨rfl, _, rfl, rfl, rfl⟩⟩
  obtain ⟨i, hi⟩ := hi; obtain ⟨h1, m, h2, h3, h4⟩ := hi w; rw [method]; simp [h1, h2, h3, h4, follow, receiverAt, run_wrapNil, run_asAddr, run_placeGet]; go_simp
theorem meth_swap (N p o : Nat) (A : Option Addr) (n c : Nat) (w : World) (h : w.cell? ⟨p, o, none⟩ = some (.slice A n c)) (_hl : p < w.heap.size) :
    (method (N + 1) 107 (.pointer (some ⟨p, o, none⟩)) "Swap").run Try.prog w = .ok (123, .slice A n c) w := by
  have hi : ∃ i, ∀ w, (typeInfo 107).run Try.prog w = .ok i w ∧ ∃ m, i.methods.find? (·.name == "Swap") = some m ∧ m.path = #[] ∧ m.func = some (123, false) := ⟨_, fun w => ⟨rfl, _, rfl, rfl, rfl⟩⟩
  obtain ⟨i, hi⟩ := hi; obtain ⟨h1, m, h2, h3, h4⟩ := hi w; rw [method]; simp [h1, h2, h3, h4, follow, receiverAt, run_wrapNil, run_asAddr, run_placeGet]; go_simp
theorem meth_pop (N p o : Nat) (w : World) :
    (method (N + 1) 107 (.pointer (some ⟨p, o, none⟩)) "Pop").run Try.prog w = .ok (124, .pointer (some ⟨p, o, none⟩)) w := by
  have hi : ∃ i, ∀ w, (typeInfo 107).run Try.prog w = .ok i w ∧ ∃ m, i.methods.find? (·.name == "Pop") = some m ∧ m.path = #[] ∧ m.func = some (124, true) := ⟨_, fun w => ⟨rfl, _, rfl, rfl, rfl⟩⟩
  obtain ⟨i, hi⟩ := hi; obtain ⟨h1, m, h2, h3, h4⟩ := hi w; rw [method]; simp [h1, h2, h3, h4, follow, receiverAt, run_placeGet]
theorem meth_push (N p o : Nat) (w : World) :
    (method (N + 1) 107 (.pointer (some ⟨p, o, none⟩)) "Push").run Try.prog w = .ok (125, .pointer (some ⟨p, o, none⟩)) w := by
  have hi : ∃ i, ∀ w, (typeInfo 107).run Try.prog w = .ok i w ∧ ∃ m, i.methods.find? (·.name == "Push") = some m ∧ m.path = #[] ∧ m.func = some (125, true) := ⟨_, fun w => ⟨rfl, _, rfl, rfl, rfl⟩⟩
  obtain ⟨i, hi⟩ := hi; obtain ⟨h1, m, h2, h3, h4⟩ := hi w; rw [method]; simp [h1, h2, h3, h4, follow, receiverAt, run_placeGet]
end Go.Proofs.Ytjdoealcmokakaa

namespace Go.Proofs.Ytjdoealcmokakaa
set_option maxRecDepth 100000
open Go.RowKit
set_option maxHeartbeats 8000000 in
theorem hpUp_any (lo p o g n c j : Nat) (f : Nat → Evt) (w : World) (hR : Hp w lo g n c f) (hp : p ≠ g) (hc : w.cell? ⟨p, o, none⟩ = some (.slice (some ⟨g, 0, none⟩) n c)) (hl : p < w.heap.size) (hj : j < n) (hn : n ≤ 2000000) (hU : UpF f n j) :
    Calls Try.prog 92 #[.iface 107 (.pointer (some ⟨p, o, none⟩)), .int .i64 (j : Int)] w fun x w' => x = .returned (.tuple #[]) ∧ (∃ F, Hp w' lo g n c F ∧ Arr f F 0 n n ∧ HeapF F n) ∧ Mv g w w' := by
  have HR := Lib.hid hR
  have HU := Lib.hid hU
  clear hR hU
  go_enter Try.func92, Try.ntmps92
  go_wp2_with fail
  go_loopw [1] (fun v wr => (∃ (k : Nat) (F : Nat → Evt), v = .int .i64 (k : Int) ∧ k < n ∧ Hid (Hp wr lo g n c F) ∧ Hid (Arr f F 0 n n) ∧ Hid (UpF F n k)) ∧ Mv g w wr) (fun v _ => (intOf v).toNat)
  case atStart => exact ⟨⟨j, f, rfl, hj, HR, Lib.hid (Arr.refl _ _ _ _), HU⟩, Mv.refl _ _⟩
  case round =>
    obtain ⟨⟨k, F, rfl, hk, HF, HA, HK⟩, mv⟩ := hrel
    have MV := Lib.hid mv
    have hcr : wr.cell? ⟨p, o, none⟩ = some (.slice (some ⟨g, 0, none⟩) n c) := (mv.cells _ _ hl hp).trans hc
    have hlr : p < wr.heap.size := Nat.lt_of_lt_of_le hl mv.size
    clear mv
    have ML := fun N => meth_less N p o _ n c wr hcr hlr
    by_cases h0 : k = 0
    · subst h0
      have SX := Lib.hid (HK.out.stop (fun h => absurd h (by omega)))
      go_wp2
      exact bodyPost_end (v := .tuple #[]) (results_none Try.results92 _ _ _) rfl ⟨rfl, ⟨F, HF.out, HA.out, SX.out⟩, MV.out⟩
    · obtain ⟨i, hi, hik⟩ : ∃ i : Nat, i = (k - 1) / 2 ∧ i < k := ⟨(k - 1) / 2, rfl, by omega⟩
      have w1 : IntKind.i64.wrap ((k : Int) - 1) = ((k - 1 : Nat) : Int) := by rw [show ((k - 1 : Nat) : Int) = (k : Int) - 1 by omega]; exact IntWalk.i64_in _ (by omega)
      have d1 : Int.tdiv ((k - 1 : Nat) : Int) 2 = (i : Int) := by rw [Int.tdiv_eq_ediv_of_nonneg (by omega)]; omega
      have w2 : IntKind.i64.wrap (i : Int) = i := IntWalk.i64_in _ (by omega)
      have HI := Lib.hid hi
      have D2 := Lib.hid (show ((k - 1 : Nat) : Int) / 2 = (i : Int) by omega)
      clear hi
      have ne : ((i : Int) == (k : Int)) = false := by simp; omega
      have CL := Lib.hid (fun W (u : Up wr W) => hpLess_any g n c k i F W (HF.out.row.up u) hk (by omega))
      generalize hb : ltE (F k) (F i) = b at CL
      have HB := Lib.hid hb
      clear hb
      go_wp2_with fail
      try rw [D2.out]
      refine (CL.out _ (Up.refl _)).mono ?_; rintro x w3 ⟨rfl, u3⟩
      have HF3 := Lib.hid (HF.out.up u3)
      have MV3 := Lib.hid (MV.out.trans (u3.mv g))
      have hc3 : w3.cell? ⟨p, o, none⟩ = some (.slice (some ⟨g, 0, none⟩) n c) := (u3.cells _ _ hlr).trans hcr
      have hl3 : p < w3.heap.size := Nat.lt_of_lt_of_le hlr u3.size
      clear u3 hcr hlr ML CL
      have MS := fun N => meth_swap N p o _ n c w3 hc3 hl3
      cases b
      · have SX := Lib.hid (HK.out.stop (fun _ => by rw [← HI.out]; exact HB.out))
        go_wp2
        exact bodyPost_end (v := .tuple #[]) (results_none Try.results92 _ _ _) rfl ⟨rfl, ⟨F, HF3.out, HA.out, SX.out⟩, MV3.out⟩
      · have SX := Lib.hid (HK.out.step HI.out (by omega) hk HB.out)
        have AX := Lib.hid (HA.out.trans (swp_arr F (i := i) (j := k) (a := 0) (b := n) (N := n) hik (by omega) (by omega) (by omega)))
        go_wp2_with fail
        refine (hpSwap_any g n c i k F w3 lo HF3.out hik hk).mono ?_; rintro x w4 ⟨rfl, h4, m4⟩
        have H4 := Lib.hid h4
        have M4 := Lib.hid (MV3.out.trans m4)
        clear h4 m4; go_wp2
        go_roundw
        case rel => exact ⟨⟨i, swp F i k, by first | rfl | go_num, by omega, H4, AX, SX⟩, M4.out⟩
        case measure => (simp [intOf]; try omega)
end Go.Proofs.Ytjdoealcmokakaa

namespace Go.Proofs.Ytjdoealcmokakaa
set_option maxRecDepth 100000
open Go.RowKit
/-- The lesser of two children. -/
theorem DownF.kids {F : Nat → Evt} {m i j : Nat} (_hj : j = 2 * i + 1 ∨ j = 2 * i + 2) (h1 : leE (F j) (F (2 * i + 1))) (h2 : 2 * i + 2 < m → leE (F j) (F (2 * i + 2))) : ∀ k, 0 < k → k < m → (k - 1) / 2 = i → leE (F j) (F k) := fun k h0 hk hp => by
  have hk2 : k = 2 * i + 1 ∨ k = 2 * i + 2 := by omega
  rcases hk2 with rfl | rfl
  · exact h1
  · exact h2 hk
set_option maxHeartbeats 16000000 in
theorem hpDn_any (lo p o g n c m : Nat) (f : Nat → Evt) (w : World) (hR : Hp w lo g n c f) (hp : p ≠ g) (hc : w.cell? ⟨p, o, none⟩ = some (.slice (some ⟨g, 0, none⟩) n c)) (hl : p < w.heap.size) (hm : m < n) (hn : n ≤ 2000000) (hU : DownF f m 0) :
    Calls Try.prog 91 #[.iface 107 (.pointer (some ⟨p, o, none⟩)), .int .i64 0, .int .i64 (m : Int)] w fun x w' => (∃ b : Bool, x = .returned (.bool b)) ∧ (∃ F, Hp w' lo g n c F ∧ Arr f F 0 m n ∧ HeapF F m) ∧ Mv g w w' := by
  have HR := Lib.hid hR
  have HU := Lib.hid hU
  clear hR hU
  go_enter Try.func91, Try.ntmps91
  go_wp2_with fail
  go_loopw [7] (fun v wr => (∃ (k : Nat) (F : Nat → Evt), v = .int .i64 (k : Int) ∧ k ≤ m ∧ Hid (Hp wr lo g n c F) ∧ Hid (Arr f F 0 m n) ∧ Hid (DownF F m k)) ∧ Mv g w wr) (fun v _ => m - (intOf v).toNat)
  case atStart => exact ⟨⟨0, f, rfl, by omega, HR, Lib.hid (Arr.refl _ _ _ _), HU⟩, Mv.refl _ _⟩
  case round =>
    obtain ⟨⟨i, F, rfl, hi, HF, HA, HK⟩, mv⟩ := hrel
    have MV := Lib.hid mv
    have hcr : wr.cell? ⟨p, o, none⟩ = some (.slice (some ⟨g, 0, none⟩) n c) := (mv.cells _ _ hl hp).trans hc
    have hlr : p < wr.heap.size := Nat.lt_of_lt_of_le hl mv.size
    clear mv
    have w1 : IntKind.i64.wrap (2 * (i : Int)) = ((2 * i : Nat) : Int) := by rw [show ((2 * i : Nat) : Int) = 2 * (i : Int) by omega]; exact IntWalk.i64_in _ (by omega)
    obtain ⟨j1, hj1⟩ : ∃ j1, j1 = 2 * i + 1 := ⟨_, rfl⟩; obtain ⟨j2, hj2⟩ : ∃ j2, j2 = 2 * i + 2 := ⟨_, rfl⟩
    have HJ1 := Lib.hid hj1
    have HJ2 := Lib.hid hj2
    have w2 : IntKind.i64.wrap (((2 * i : Nat) : Int) + 1) = (j1 : Int) := by rw [show ((2 * i : Nat) : Int) + 1 = (j1 : Int) by omega]; exact IntWalk.i64_in _ (by omega)
    have w3 : IntKind.i64.wrap ((j1 : Int) + 1) = (j2 : Int) := by rw [show (j1 : Int) + 1 = (j2 : Int) by omega]; exact IntWalk.i64_in _ (by omega)
    generalize ((2 * i : Nat) : Int) = i2 at w1 w2
    clear hj1 hj2
    by_cases hs : m ≤ j1
    · have s1 : (m : Int) ≤ (j1 : Int) := by omega
      have SX := Lib.hid (HK.out.stop (fun k h0 hk hkp => absurd hk (by have := HJ1.out; omega)))
      go_wp2; go_ret
      exact ⟨⟨_, rfl⟩, ⟨F, HF.out, HA.out, SX.out⟩, MV.out⟩
    · have s1 : ¬ (m : Int) ≤ (j1 : Int) := by omega
      have s2 : ¬ (j1 : Int) < 0 := by omega
      have ML := fun N => meth_less N p o _ n c wr hcr hlr
      by_cases ht : j2 < m
      · have s3 : (j2 : Int) < (m : Int) := by omega
        have C1 := Lib.hid (fun V (u : Up wr V) => hpLess_any g n c j2 j1 F V (HF.out.row.up u) (by omega) (by omega))
        generalize hb1 : ltE (F j2) (F j1) = b1 at C1
        have HB1 := Lib.hid hb1
        clear hb1
        go_wp2_with fail
        refine (C1.out _ (Up.refl _)).mono ?_; rintro x w5 ⟨rfl, u5⟩
        have HF5 := Lib.hid (HF.out.up u5)
        have MV5 := Lib.hid (MV.out.trans (u5.mv g))
        have hc5 : w5.cell? ⟨p, o, none⟩ = some (.slice (some ⟨g, 0, none⟩) n c) := (u5.cells _ _ hlr).trans hcr
        have hl5 : p < w5.heap.size := Nat.lt_of_lt_of_le hlr u5.size
        clear u5 C1 ML
        have ML := fun N => meth_less N p o _ n c w5 hc5 hl5
        cases b1
        · have CL := Lib.hid (fun V (u : Up w5 V) => hpLess_any g n c j1 i F V (HF5.out.row.up u) (by have := HJ1.out; have := HJ2.out; omega) (by have := HJ1.out; omega))
          generalize hb : ltE (F j1) (F i) = b at CL
          have HB := Lib.hid hb
          clear hb
          have KD := Lib.hid (show ∀ k, 0 < k → k < m → (k - 1) / 2 = i → leE (F j1) (F k) from DownF.kids (j := j1) (by have := HJ1.out; have := HJ2.out; omega) (by rw [← HJ1.out]; exact leE_refl _) (by rw [← HJ2.out]; exact fun _ => HB1.out))
          go_wp2_with fail
          refine (CL.out _ (Up.refl _)).mono ?_; rintro x w7 ⟨rfl, u7⟩
          have HF7 := Lib.hid (HF5.out.up u7)
          have MV7 := Lib.hid (MV5.out.trans (u7.mv g))
          have hc7 : w7.cell? ⟨p, o, none⟩ = some (.slice (some ⟨g, 0, none⟩) n c) := (u7.cells _ _ hl5).trans hc5
          have hl7 : p < w7.heap.size := Nat.lt_of_lt_of_le hl5 u7.size
          clear u7 CL
          have MS := fun N => meth_swap N p o _ n c w7 hc7 hl7
          cases b
          · have SX := Lib.hid (HK.out.stop (fun k h0 hk hkp => leE_trans HB.out (KD.out k h0 hk hkp)))
            go_wp2; go_ret
            exact ⟨⟨_, rfl⟩, ⟨F, HF7.out, HA.out, SX.out⟩, MV7.out⟩
          · have SX := Lib.hid (HK.out.step (j := j1) (by have := HJ1.out; have := HJ2.out; omega) (by have := HJ1.out; have := HJ2.out; omega) (by have := HJ1.out; have := HJ2.out; omega) HB.out KD.out)
            have AX := Lib.hid (HA.out.trans (swp_arr F (i := i) (j := j1) (a := 0) (b := m) (N := n) (by have := HJ1.out; have := HJ2.out; omega) (by omega) (by have := HJ1.out; have := HJ2.out; omega) (by have := HJ1.out; have := HJ2.out; omega)))
            go_wp2_with fail
            refine (hpSwap_any g n c i j1 F w7 lo HF7.out (by have := HJ1.out; have := HJ2.out; omega) (by have := HJ1.out; have := HJ2.out; omega)).mono ?_; rintro x w8 ⟨rfl, h8, m8⟩
            have H8 := Lib.hid h8
            have M8 := Lib.hid (MV7.out.trans m8)
            clear h8 m8; go_wp2
            go_roundw
            case rel => exact ⟨⟨j1, swp F i j1, by first | rfl | go_num, by have := HJ1.out; have := HJ2.out; omega, H8, AX, SX⟩, M8.out⟩
            case measure => (have := HJ1.out; have := HJ2.out; simp [intOf]; try omega)
        · have CL := Lib.hid (fun V (u : Up w5 V) => hpLess_any g n c j2 i F V (HF5.out.row.up u) (by have := HJ1.out; have := HJ2.out; omega) (by have := HJ1.out; omega))
          generalize hb : ltE (F j2) (F i) = b at CL
          have HB := Lib.hid hb
          clear hb
          have KD := Lib.hid (show ∀ k, 0 < k → k < m → (k - 1) / 2 = i → leE (F j2) (F k) from DownF.kids (j := j2) (by have := HJ1.out; have := HJ2.out; omega) (by rw [← HJ1.out]; exact ltE_le HB1.out) (by rw [← HJ2.out]; exact fun _ => leE_refl _))
          go_wp2_with fail
          refine (CL.out _ (Up.refl _)).mono ?_; rintro x w7 ⟨rfl, u7⟩
          have HF7 := Lib.hid (HF5.out.up u7)
          have MV7 := Lib.hid (MV5.out.trans (u7.mv g))
          have hc7 : w7.cell? ⟨p, o, none⟩ = some (.slice (some ⟨g, 0, none⟩) n c) := (u7.cells _ _ hl5).trans hc5
          have hl7 : p < w7.heap.size := Nat.lt_of_lt_of_le hl5 u7.size
          clear u7 CL
          have MS := fun N => meth_swap N p o _ n c w7 hc7 hl7
          cases b
          · have SX := Lib.hid (HK.out.stop (fun k h0 hk hkp => leE_trans HB.out (KD.out k h0 hk hkp)))
            go_wp2; go_ret
            exact ⟨⟨_, rfl⟩, ⟨F, HF7.out, HA.out, SX.out⟩, MV7.out⟩
          · have SX := Lib.hid (HK.out.step (j := j2) (by have := HJ1.out; have := HJ2.out; omega) (by have := HJ1.out; have := HJ2.out; omega) (by have := HJ1.out; have := HJ2.out; omega) HB.out KD.out)
            have AX := Lib.hid (HA.out.trans (swp_arr F (i := i) (j := j2) (a := 0) (b := m) (N := n) (by have := HJ1.out; have := HJ2.out; omega) (by omega) (by have := HJ1.out; have := HJ2.out; omega) (by have := HJ1.out; have := HJ2.out; omega)))
            go_wp2_with fail
            refine (hpSwap_any g n c i j2 F w7 lo HF7.out (by have := HJ1.out; have := HJ2.out; omega) (by have := HJ1.out; have := HJ2.out; omega)).mono ?_; rintro x w8 ⟨rfl, h8, m8⟩
            have H8 := Lib.hid h8
            have M8 := Lib.hid (MV7.out.trans m8)
            clear h8 m8; go_wp2
            go_roundw
            case rel => exact ⟨⟨j2, swp F i j2, by first | rfl | go_num, by have := HJ1.out; have := HJ2.out; omega, H8, AX, SX⟩, M8.out⟩
            case measure => (have := HJ1.out; have := HJ2.out; simp [intOf]; try omega)
      · have s3 : ¬ (j2 : Int) < (m : Int) := by omega
        have HT := Lib.hid ht
        have CL := Lib.hid (fun V (u : Up wr V) => hpLess_any g n c j1 i F V (HF.out.row.up u) (by have := HJ1.out; have := HJ2.out; omega) (by have := HJ1.out; omega))
        generalize hb : ltE (F j1) (F i) = b at CL
        have HB := Lib.hid hb
        clear hb
        have KD := Lib.hid (show ∀ k, 0 < k → k < m → (k - 1) / 2 = i → leE (F j1) (F k) from DownF.kids (j := j1) (by have := HJ1.out; have := HJ2.out; omega) (by rw [← HJ1.out]; exact leE_refl _) (by rw [← HJ2.out]; exact fun h => absurd h HT.out))
        go_wp2_with fail
        refine (CL.out _ (Up.refl _)).mono ?_; rintro x w7 ⟨rfl, u7⟩
        have HF7 := Lib.hid (HF.out.up u7)
        have MV7 := Lib.hid (MV.out.trans (u7.mv g))
        have hc7 : w7.cell? ⟨p, o, none⟩ = some (.slice (some ⟨g, 0, none⟩) n c) := (u7.cells _ _ hlr).trans hcr
        have hl7 : p < w7.heap.size := Nat.lt_of_lt_of_le hlr u7.size
        clear u7 CL
        have MS := fun N => meth_swap N p o _ n c w7 hc7 hl7
        cases b
        · have SX := Lib.hid (HK.out.stop (fun k h0 hk hkp => leE_trans HB.out (KD.out k h0 hk hkp)))
          go_wp2; go_ret
          exact ⟨⟨_, rfl⟩, ⟨F, HF7.out, HA.out, SX.out⟩, MV7.out⟩
        · have SX := Lib.hid (HK.out.step (j := j1) (by have := HJ1.out; have := HJ2.out; omega) (by have := HJ1.out; have := HJ2.out; omega) (by have := HJ1.out; have := HJ2.out; omega) HB.out KD.out)
          have AX := Lib.hid (HA.out.trans (swp_arr F (i := i) (j := j1) (a := 0) (b := m) (N := n) (by have := HJ1.out; have := HJ2.out; omega) (by omega) (by have := HJ1.out; have := HJ2.out; omega) (by have := HJ1.out; have := HJ2.out; omega)))
          go_wp2_with fail
          refine (hpSwap_any g n c i j1 F w7 lo HF7.out (by have := HJ1.out; have := HJ2.out; omega) (by have := HJ1.out; have := HJ2.out; omega)).mono ?_; rintro x w8 ⟨rfl, h8, m8⟩
          have H8 := Lib.hid h8
          have M8 := Lib.hid (MV7.out.trans m8)
          clear h8 m8; go_wp2
          go_roundw
          case rel => exact ⟨⟨j1, swp F i j1, by first | rfl | go_num, by have := HJ1.out; have := HJ2.out; omega, H8, AX, SX⟩, M8.out⟩
          case measure => (have := HJ1.out; have := HJ2.out; simp [intOf]; try omega)
end Go.Proofs.Ytjdoealcmokakaa

namespace Go.Proofs.Ytjdoealcmokakaa
set_option maxRecDepth 100000
open Go.RowKit
/-- Changed are block g and cell o of block p alone. -/
structure HS (p o g : Nat) (w w' : World) : Prop where
  os : w'.os = w.os
  tape : w'.tape = w.tape
  output : w'.output = w.output
  size : w.heap.size ≤ w'.heap.size
  block : ∀ k, k < w.heap.size → k ≠ p → k ≠ g → w'.heap[k]? = w.heap[k]?
  pcell : ∀ j, j ≠ o → w'.cell? ⟨p, j, none⟩ = w.cell? ⟨p, j, none⟩
  pfz : ∀ j, w'.frozen? ⟨p, j, none⟩ = w.frozen? ⟨p, j, none⟩
theorem HS.of_mv {p o g : Nat} {w w' : World} (m : Mv g w w') (hp : p ≠ g) (hl : p < w.heap.size) : HS p o g w w' :=
  ⟨m.os, m.tape, m.output, m.size, fun k hk _ hg => m.block k hk hg, fun j _ => m.cells _ _ hl hp, fun j => by unfold World.frozen?; rw [m.block p hl hp]⟩
theorem HS.trans {p o g : Nat} {a b c : World} (h : HS p o g a b) (k : HS p o g b c) : HS p o g a c :=
  ⟨k.os.trans h.os, k.tape.trans h.tape, k.output.trans h.output, Nat.le_trans h.size k.size, fun j hj h1 h2 => (k.block j (Nat.lt_of_lt_of_le hj h.size) h1 h2).trans (h.block j hj h1 h2), fun j hj => (k.pcell j hj).trans (h.pcell j hj), fun j => (k.pfz j).trans (h.pfz j)⟩
theorem HS.set {p o g : Nat} {a b : World} (h : HS p o g a b) (v : Value) : HS p o g a (b.setCell ⟨p, o, none⟩ v) :=
  ⟨h.os, h.tape, h.output, by simpa using h.size, fun k hk h1 h2 => (Below.heap_setCell b ⟨p, o, none⟩ v k h1).trans (h.block k hk h1 h2), fun j hj => (World.cell?_setCell_other _ _ _ _ (addr_ne (.inr (Ne.symm hj)))).trans (h.pcell j hj), fun j => by have := h.pfz j; simpa [go_sem] using this⟩
theorem HS.up {p o g : Nat} {a b c : World} (h : HS p o g a b) (u : Up b c) (hl : p < a.heap.size) : HS p o g a c :=
  ⟨u.below.os.trans h.os, u.below.tape.trans h.tape, u.below.output.trans h.output, Nat.le_trans h.size u.size, fun k hk h1 h2 => (u.below.block k (Nat.lt_of_lt_of_le hk h.size)).trans (h.block k hk h1 h2), fun j hj => (u.cells _ _ (Nat.lt_of_lt_of_le hl h.size)).trans (h.pcell j hj), fun j => (u.frozens _ _ (Nat.lt_of_lt_of_le hl h.size)).trans (h.pfz j)⟩
set_option maxHeartbeats 4000000 in
theorem hpPopM_any (lo p o g n c : Nat) (f : Nat → Evt) (w : World) (hR : Hp w lo g (n + 1) c f) (_hp : p ≠ g) (hc : w.cell? ⟨p, o, none⟩ = some (.slice (some ⟨g, 0, none⟩) (n + 1) c)) (hf : w.frozen? ⟨p, o, none⟩ = false) (hl : p < w.heap.size) (hn : n ≤ 2000000) :
    Calls Try.prog 124 #[.pointer (some ⟨p, o, none⟩)] w fun x w' => x = .returned (.iface 39 (f n).v) ∧ ∃ ob, w' = (w.setCell ⟨p, o, none⟩ (.slice (some ⟨g, 0, none⟩) n c)).alloc ob := by
  have e1 := hR.row.2.1 n (by omega)
  have gl := hR.row.1
  have hcc : (n : Int) ≤ (c : Int) := by have := hR.len; omega
  generalize f n = x at e1 ⊢
  obtain ⟨xt, xto, xfr, xsq, xkd, xdt⟩ := x; unfold EvAt at e1; unfold Evt.v; dsimp only at e1 ⊢; obtain ⟨p0, p1, p2, p3, p4, p5⟩ := e1
  have i1 : IntKind.i64.wrap (((n + 1 : Nat) : Int) - 1) = (n : Int) := by rw [show ((n + 1 : Nat) : Int) - 1 = (n : Int) by omega]; exact IntWalk.i64_in _ (by omega)
  have l1 : (n : Int) < ((n + 1 : Nat) : Int) := by omega
  have l2 : (0 : Int) ≤ (n : Int) := by omega
  clear hR
  go_enter Try.func124, Try.ntmps124
  go_wp2; go_ret
  exact ⟨rfl, _, rfl⟩
theorem perm_pop {f F : Nat → Evt} {n : Nat} (ha : Arr (swp f 0 n) F 0 n (n + 1)) : (f 0 :: (List.range n).map F).Perm ((List.range (n + 1)).map f) := by
  have h1 : ((List.range (n + 1)).map f).Perm ((List.range (n + 1)).map (swp f 0 n)) := by
    by_cases h0 : n = 0
    · subst h0
      simp [swp]
    · exact swp_perm f (i := 0) (j := n) (by omega) (n + 1) (by omega)
  have h2 := ha.perm
  have h3 : F n = f 0 := by rw [ha.out n (.inr (by omega)), swp_r]
  have h4 : (List.range (n + 1)).map F = (List.range n).map F ++ [f 0] := by rw [List.range_succ, List.map_append, List.map_singleton, h3]
  rw [h4] at h2
  exact (List.perm_append_singleton (f 0) ((List.range n).map F)).symm.trans (h1.trans h2).symm
/-- What Pop gives. -/
def PopPost (lo p o g n c : Nat) (f : Nat → Evt) (w : World) (x : Ending) (w' : World) : Prop :=
  x = .returned (.iface 39 (f 0).v) ∧ ∃ F, Hp w' lo g n c F ∧ HeapF F n ∧ w'.cell? ⟨p, o, none⟩ = some (.slice (some ⟨g, 0, none⟩) n c) ∧ (f 0 :: (List.range n).map F).Perm ((List.range (n + 1)).map f) ∧ HS p o g w w'
set_option maxHeartbeats 8000000 in
theorem hpPop_any (lo p o g n c : Nat) (f : Nat → Evt) (w : World) (hR : Hp w lo g (n + 1) c f) (hH : HeapF f (n + 1)) (hp : p ≠ g) (hc : w.cell? ⟨p, o, none⟩ = some (.slice (some ⟨g, 0, none⟩) (n + 1) c)) (hf : w.frozen? ⟨p, o, none⟩ = false) (hl : p < w.heap.size) (hn : n + 1 ≤ 2000000) :
    Calls Try.prog 71 #[.iface 107 (.pointer (some ⟨p, o, none⟩))] w (PopPost lo p o g n c f w) := by
  have HR := Lib.hid hR
  have HH := Lib.hid hH
  clear hR hH
  have i1 : IntKind.i64.wrap (((n + 1 : Nat) : Int) - 1) = (n : Int) := by rw [show ((n + 1 : Nat) : Int) - 1 = (n : Int) by omega]; exact IntWalk.i64_in _ (by omega)
  have SW := Lib.hid (show Calls Try.prog 123 #[.slice (some ⟨g, 0, none⟩) (n + 1) c, .int .i64 0, .int .i64 (n : Int)] w fun x w' => x = .returned (.tuple #[]) ∧ Hp w' lo g (n + 1) c (swp f 0 n) ∧ Mv g w w' from by
    by_cases h0 : n = 0
    · subst h0
      exact (hpSwap_one g 1 c 0 f w lo HR.out (by omega)).mono fun x w' h => ⟨h.1, h.2.1.as_ (fun k hk => (by have hk0 : k = 0 := (by omega); rw [hk0]; simp [swp])), h.2.2⟩
    · exact hpSwap_any g (n + 1) c 0 n f w lo HR.out (by omega) (by omega))
  have ML := fun N => meth_len N p o _ (n + 1) c w hc hl
  have MW := fun N => meth_swap N p o _ (n + 1) c w hc hl
  have MP := fun N W => meth_pop N p o W
  go_enter Try.func71, Try.ntmps71
  go_wp2_with fail
  refine (hpLen_any _ (n + 1) c w).mono ?_; rintro x w1 ⟨rfl, hw⟩; rw [hw]
  go_wp2_with fail
  refine SW.out.mono ?_; rintro x w2 ⟨rfl, h2, m2⟩
  have H2 := Lib.hid h2
  have M2 := Lib.hid m2
  have hc2 : w2.cell? ⟨p, o, none⟩ = some (.slice (some ⟨g, 0, none⟩) (n + 1) c) := (m2.cells _ _ hl hp).trans hc
  have hl2 : p < w2.heap.size := Nat.lt_of_lt_of_le hl m2.size
  clear h2 m2 ML MW
  go_wp2_with fail
  refine (hpDn_any lo p o g (n + 1) c n (swp f 0 n) w2 H2.out hp hc2 hl2 (by omega) hn (DownF.start HH.out)).mono ?_; rintro x w3 ⟨⟨bb, rfl⟩, ⟨F, h3, ha, hh⟩, m3⟩
  have H3 := Lib.hid h3
  have HA := Lib.hid ha
  have HF := Lib.hid hh
  have M3 := Lib.hid (M2.out.trans m3)
  have hc3 : w3.cell? ⟨p, o, none⟩ = some (.slice (some ⟨g, 0, none⟩) (n + 1) c) := (m3.cells _ _ hl2 hp).trans hc2
  have hl3 : p < w3.heap.size := Nat.lt_of_lt_of_le hl2 m3.size
  have hf3 : w3.frozen? ⟨p, o, none⟩ = false := by have := (HS.of_mv (o := o) M3.out hp hl).pfz o; rw [this]; exact hf
  clear h3 ha hh m3
  go_wp2_with fail
  refine (hpPopM_any lo p o g n c F w3 H3.out hp hc3 hf3 hl3 (by omega)).mono ?_; rintro x w5 ⟨rfl, ob, rfl⟩
  have hF : F n = f 0 := by rw [HA.out.out n (.inr (by omega)), swp_r]
  have ua := (Up.refl (w3.setCell ⟨p, o, none⟩ (.slice (some ⟨g, 0, none⟩) n c))).alloc ob
  have RES := Lib.hid (show PopPost lo p o g n c f w (.returned (.iface 39 (f 0).v)) ((w3.setCell ⟨p, o, none⟩ (.slice (some ⟨g, 0, none⟩) n c)).alloc ob) from ⟨rfl, F, ((H3.out.mv (b := p) ((Mv.refl p _).setCell _) (Ne.symm hp)).up ua).less (by omega), HF.out, (ua.cells _ _ (by simpa using hl3)).trans (World.cell?_setCell_same _ _ _ hc3), perm_pop HA.out, ((HS.of_mv M3.out hp hl).set _).up ua hl⟩)
  go_wp2; go_ret
  exact RES.out
end Go.Proofs.Ytjdoealcmokakaa

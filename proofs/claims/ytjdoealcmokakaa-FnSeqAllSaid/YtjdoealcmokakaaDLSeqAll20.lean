/-
  What container/heap's down does, in one sentence: a heap but for one event that is too great becomes a heap, none is lost; for every list of events in a block of the call's own.
  What container/heap's Pop does, in one sentence: the least event leaves the heap, the others are a heap, none is lost; for every heap of events in a block of the call's own.
  What container/heap's Push does, in one sentence: the event joins the heap, none is lost; for every heap of events in a block of the call's own.
  Component states in a row of the call's own, in one sentence: their cells one behind the other, and what is read off again; for every list.
-/
import Derived.Deep.RegionLaw
import Derived.Test.YtjdoealcmokakaaDLSeqAll02
import Derived.Test.YtjdoealcmokakaaDLSeqAll04
import Derived.Test.YtjdoealcmokakaaDLSeqAll17
import Derived.Test.YtjdoealcmokakaaDLSeqAll19
namespace Go.Proofs.Ytjdoealcmokakaa
set_option maxRecDepth 100000
open Go.RowKit
/-- The lesser of two children. -/
theorem DownF.kids {F : Nat → Evt} {m i j : Nat} (_hj : j = 2 * i + 1 ∨ j = 2 * i + 2) (h1 : leE (F j) (F (2 * i + 1))) (h2 : 2 * i + 2 < m → leE (F j) (F (2 * i + 2))) : ∀ k, 0 < k → k < m → (k - 1) / 2 = i → leE (F j) (F k) := fun k h0 hk hp => by
  have hk2 : k = 2 * i + 1 ∨ k = 2 * i + 2 := by omega
  rcases hk2 with rfl | rfl
  · exact h1
  · exact h2 hk
set_option maxHeartbeats 16000000 in
theorem hpDn_any (lo p o g n c m : Nat) (f : Nat → Evt) (w : World) (hR : Hp w lo g n c f) (hp : p ≠ g) (hc : w.cell? ⟨p, o, none⟩ = some (.slice (some ⟨g, 0, none⟩) n c)) (hl : p < w.heap.size) (hm : m < n) (hn : n ≤ 2000000) (hU : DownF f m 0) :
    Calls Try.prog 91 #[.iface 107 (.pointer (some ⟨p, o, none⟩)), .int .i64 0, .int .i64 (m : Int)] w fun x w' => (∃ b : Bool, x = .returned (.bool b)) ∧ (∃ F, Hp w' lo g n c F ∧ Arr f F 0 m n ∧ HeapF F m) ∧ Mv g w w' := by
  have HR := Lib.hid hR
  have HU := Lib.hid hU
  clear hR hU
  go_enter Try.func91, Try.ntmps91
  go_wp2_with fail
  go_loopw [7] (fun v wr => (∃ (k : Nat) (F : Nat → Evt), v = .int .i64 (k : Int) ∧ k ≤ m ∧ Hid (Hp wr lo g n c F) ∧ Hid (Arr f F 0 m n) ∧ Hid (DownF F m k)) ∧ Mv g w wr) (fun v _ => m - (intOf v).toNat)
  case atStart => exact ⟨⟨0, f, rfl, by omega, HR, Lib.hid (Arr.refl _ _ _ _), HU⟩, Mv.refl _ _⟩
  case round =>
    obtain ⟨⟨i, F, rfl, hi, HF, HA, HK⟩, mv⟩ := hrel
    have MV := Lib.hid mv
    have hcr : wr.cell? ⟨p, o, none⟩ = some (.slice (some ⟨g, 0, none⟩) n c) := (mv.cells _ _ hl hp).trans hc
    have hlr : p < wr.heap.size := Nat.lt_of_lt_of_le hl mv.size
    clear mv
    have w1 : IntKind.i64.wrap (2 * (i : Int)) = ((2 * i : Nat) : Int) := by rw [show ((2 * i : Nat) : Int) = 2 * (i : Int) by omega]; exact IntWalk.i64_in _ (by omega)
    obtain ⟨j1, hj1⟩ : ∃ j1, j1 = 2 * i + 1 := ⟨_, rfl⟩; obtain ⟨j2, hj2⟩ : ∃ j2, j2 = 2 * i + 2 := ⟨_, rfl⟩
    have HJ1 := Lib.hid hj1
    have HJ2 := Lib.hid hj2
    have w2 : IntKind.i64.wrap (((2 * i : Nat) : Int) + 1) = (j1 : Int) := by rw [show ((2 * i : Nat) : Int) + 1 = (j1 : Int) by omega]; exact IntWalk.i64_in _ (by omega)
    have w3 : IntKind.i64.wrap ((j1 : Int) + 1) = (j2 : Int) := by rw [show (j1 : Int) + 1 = (j2 : Int) by omega]; exact IntWalk.i64_in _ (by omega)
    generalize ((2 * i : Nat) : Int) = i2 at w1 w2
    clear hj1 hj2
    by_cases hs : m ≤ j1
    · have s1 : (m : Int) ≤ (j1 : Int) := by omega
      have SX := Lib.hid (HK.out.stop (fun k h0 hk hkp => absurd hk (by have := HJ1.out; omega)))
      go_wp2; go_ret
      exact ⟨⟨_, rfl⟩, ⟨F, HF.out, HA.out, SX.out⟩, MV.out⟩
    · have s1 : ¬ (m : Int) ≤ (j1 : Int) := by omega
      have s2 : ¬ (j1 : Int) < 0 := by omega
      have ML := fun N => meth_less N p o _ n c wr hcr hlr
      by_cases ht : j2 < m
      · have s3 : (j2 : Int) < (m : Int) := by omega
        have C1 := Lib.hid (fun V (u : Up wr V) => hpLess_any g n c j2 j1 F V (HF.out.row.up u) (by omega) (by omega))
        generalize hb1 : ltE (F j2) (F j1) = b1 at C1
        have HB1 := Lib.hid hb1
        clear hb1
        go_wp2_with fail
        refine (C1.out _ (Up.refl _)).mono ?_; rintro x w5 ⟨rfl, u5⟩
        have HF5 := Lib.hid (HF.out.up u5)
        have MV5 := Lib.hid (MV.out.trans (u5.mv g))
        have hc5 : w5.cell? ⟨p, o, none⟩ = some (.slice (some ⟨g, 0, none⟩) n c) := (u5.cells _ _ hlr).trans hcr
        have hl5 : p < w5.heap.size := Nat.lt_of_lt_of_le hlr u5.size
        clear u5 C1 ML
        have ML := fun N => meth_less N p o _ n c w5 hc5 hl5
        cases b1
        · have CL := Lib.hid (fun V (u : Up w5 V) => hpLess_any g n c j1 i F V (HF5.out.row.up u) (by have := HJ1.out; have := HJ2.out; omega) (by have := HJ1.out; omega))
          generalize hb : ltE (F j1) (F i) = b at CL
          have HB := Lib.hid hb
          clear hb
          have KD := Lib.hid (show ∀ k, 0 < k → k < m → (k - 1) / 2 = i → leE (F j1) (F k) from DownF.kids (j := j1) (by have := HJ1.out; have := HJ2.out; omega) (by rw [← HJ1.out]; exact leE_refl _) (by rw [← HJ2.out]; exact fun _ => HB1.out))
          go_wp2_with fail
          refine (CL.out _ (Up.refl _)).mono ?_; rintro x w7 ⟨rfl, u7⟩
          have HF7 := Lib.hid (HF5.out.up u7)
          have MV7 := Lib.hid (MV5.out.trans (u7.mv g))
          have hc7 : w7.cell? ⟨p, o, none⟩ = some (.slice (some ⟨g, 0, none⟩) n c) := (u7.cells _ _ hl5).trans hc5
          have hl7 : p < w7.heap.size := Nat.lt_of_lt_of_le hl5 u7.size
          clear u7 CL
          have MS := fun N => meth_swap N p o _ n c w7 hc7 hl7
          cases b
          · have SX := Lib.hid (HK.out.stop (fun k h0 hk hkp => leE_trans HB.out (KD.out k h0 hk hkp)))
            go_wp2; go_ret
            exact ⟨⟨_, rfl⟩, ⟨F, HF7.out, HA.out, SX.out⟩, MV7.out⟩
          · have SX := Lib.hid (HK.out.step (j := j1) (by have := HJ1.out; have := HJ2.out; omega) (by have := HJ1.out; have := HJ2.out; omega) (by have := HJ1.out; have := HJ2.out; omega) HB.out KD.out)
            have AX := Lib.hid (HA.out.trans (swp_arr F (i := i) (j := j1) (a := 0) (b := m) (N := n) (by have := HJ1.out; have := HJ2.out; omega) (by omega) (by have := HJ1.out; have := HJ2.out; omega) (by have := HJ1.out; have := HJ2.out; omega)))
            go_wp2_with fail
            refine (hpSwap_any g n c i j1 F w7 lo HF7.out (by have := HJ1.out; have := HJ2.out; omega) (by have := HJ1.out; have := HJ2.out; omega)).mono ?_; rintro x w8 ⟨rfl, h8, m8⟩
            have H8 := Lib.hid h8
            have M8 := Lib.hid (MV7.out.trans m8)
            clear h8 m8; go_wp2
            go_roundw
            case rel => exact ⟨⟨j1, swp F i j1, by first | rfl | go_num, by have := HJ1.out; have := HJ2.out; omega, H8, AX, SX⟩, M8.out⟩
            case measure => (have := HJ1.out; have := HJ2.out; simp [intOf]; try omega)
        · have CL := Lib.hid (fun V (u : Up w5 V) => hpLess_any g n c j2 i F V (HF5.out.row.up u) (by have := HJ1.out; have := HJ2.out; omega) (by have := HJ1.out; omega))
          generalize hb : ltE (F j2) (F i) = b at CL
          have HB := Lib.hid hb
          clear hb
          have KD := Lib.hid (show ∀ k, 0 < k → k < m → (k - 1) / 2 = i → leE (F j2) (F k) from DownF.kids (j := j2) (by have := HJ1.out; have := HJ2.out; omega) (by rw [← HJ1.out]; exact ltE_le HB1.out) (by rw [← HJ2.out]; exact fun _ => leE_refl _))
          go_wp2_with fail
          refine (CL.out _ (Up.refl _)).mono ?_; rintro x w7 ⟨rfl, u7⟩
          have HF7 := Lib.hid (HF5.out.up u7)
          have MV7 := Lib.hid (MV5.out.trans (u7.mv g))
          have hc7 : w7.cell? ⟨p, o, none⟩ = some (.slice (some ⟨g, 0, none⟩) n c) := (u7.cells _ _ hl5).trans hc5
          have hl7 : p < w7.heap.size := Nat.lt_of_lt_of_le hl5 u7.size
          clear u7 CL
          have MS := fun N => meth_swap N p o _ n c w7 hc7 hl7
          cases b
          · have SX := Lib.hid (HK.out.stop (fun k h0 hk hkp => leE_trans HB.out (KD.out k h0 hk hkp)))
            go_wp2; go_ret
            exact ⟨⟨_, rfl⟩, ⟨F, HF7.out, HA.out, SX.out⟩, MV7.out⟩
          · have SX := Lib.hid (HK.out.step (j := j2) (by have := HJ1.out; have := HJ2.out; omega) (by have := HJ1.out; have := HJ2.out; omega) (by have := HJ1.out; have := HJ2.out; omega) HB.out KD.out)
            have AX := Lib.hid (HA.out.trans (swp_arr F (i := i) (j := j2) (a := 0) (b := m) (N := n) (by have := HJ1.out; have := HJ2.out; omega) (by omega) (by have := HJ1.out; have := HJ2.out; omega) (by have := HJ1.out; have := HJ2.out; omega)))
            go_wp2_with fail
            refine (hpSwap_any g n c i j2 F w7 lo HF7.out (by have := HJ1.out; have := HJ2.out; omega) (by have := HJ1.out; have := HJ2.out; omega)).mono ?_; rintro x w8 ⟨rfl, h8, m8⟩
            have H8 := Lib.hid h8
            have M8 := Lib.hid (MV7.out.trans m8)
            clear h8 m8; go_wp2
            go_roundw
            case rel => exact ⟨⟨j2, swp F i j2, by first | rfl | go_num, by have := HJ1.out; have := HJ2.out; omega, H8, AX, SX⟩, M8.out⟩
            case measure => (have := HJ1.out; have := HJ2.out; simp [intOf]; try omega)
      · have s3 : ¬ (j2 : Int) < (m : Int) := by omega
        have HT := Lib.hid ht
        have CL := Lib.hid (fun V (u : Up wr V) => hpLess_any g n c j1 i F V (HF.out.row.up u) (by have := HJ1.out; have := HJ2.out; omega) (by have := HJ1.out; omega))
        generalize hb : ltE (F j1) (F i) = b at CL
        have HB := Lib.hid hb
        clear hb
        have KD := Lib.hid (show ∀ k, 0 < k → k < m → (k - 1) / 2 = i → leE (F j1) (F k) from DownF.kids (j := j1) (by have := HJ1.out; have := HJ2.out; omega) (by rw [← HJ1.out]; exact leE_refl _) (by rw [← HJ2.out]; exact fun h => absurd h HT.out))
        go_wp2_with fail
        refine (CL.out _ (Up.refl _)).mono ?_; rintro x w7 ⟨rfl, u7⟩
        have HF7 := Lib.hid (HF.out.up u7)
        have MV7 := Lib.hid (MV.out.trans (u7.mv g))
        have hc7 : w7.cell? ⟨p, o, none⟩ = some (.slice (some ⟨g, 0, none⟩) n c) := (u7.cells _ _ hlr).trans hcr
        have hl7 : p < w7.heap.size := Nat.lt_of_lt_of_le hlr u7.size
        clear u7 CL
        have MS := fun N => meth_swap N p o _ n c w7 hc7 hl7
        cases b
        · have SX := Lib.hid (HK.out.stop (fun k h0 hk hkp => leE_trans HB.out (KD.out k h0 hk hkp)))
          go_wp2; go_ret
          exact ⟨⟨_, rfl⟩, ⟨F, HF7.out, HA.out, SX.out⟩, MV7.out⟩
        · have SX := Lib.hid (HK.out.step (j := j1) (by have := HJ1.out; have := HJ2.out; omega) (by have := HJ1.out; have := HJ2.out; omega) (by have := HJ1.out; have := HJ2.out; omega) HB.out KD.out)
          have AX := Lib.hid (HA.out.trans (swp_arr F (i := i) (j := j1) (a := 0) (b := m) (N := n) (by have := HJ1.out; have := HJ2.out; omega) (by omega) (by have := HJ1.out; have := HJ2.out; omega) (by have := HJ1.out; have := HJ2.out; omega)))
          go_wp2_with fail
          refine (hpSwap_any g n c i j1 F w7 lo HF7.out (by have := HJ1.out; have := HJ2.out; omega) (by have := HJ1.out; have := HJ2.out; omega)).mono ?_; rintro x w8 ⟨rfl, h8, m8⟩
          have H8 := Lib.hid h8
          have M8 := Lib.hid (MV7.out.trans m8)
          clear h8 m8; go_wp2
          go_roundw
          case rel => exact ⟨⟨j1, swp F i j1, by first | rfl | go_num, by have := HJ1.out; have := HJ2.out; omega, H8, AX, SX⟩, M8.out⟩
          case measure => (have := HJ1.out; have := HJ2.out; simp [intOf]; try omega)
end Go.Proofs.Ytjdoealcmokakaa

namespace Go.Proofs.Ytjdoealcmokakaa
set_option maxRecDepth 100000
open Go.RowKit
/-- Changed are block g and cell o of block p alone. -/
structure HS (p o g : Nat) (w w' : World) : Prop where
  os : w'.os = w.os
  tape : w'.tape = w.tape
  output : w'.output = w.output
  size : w.heap.size ≤ w'.heap.size
  block : ∀ k, k < w.heap.size → k ≠ p → k ≠ g → w'.heap[k]? = w.heap[k]?
  pcell : ∀ j, j ≠ o → w'.cell? ⟨p, j, none⟩ = w.cell? ⟨p, j, none⟩
  pfz : ∀ j, w'.frozen? ⟨p, j, none⟩ = w.frozen? ⟨p, j, none⟩
theorem HS.of_mv {p o g : Nat} {w w' : World} (m : Mv g w w') (hp : p ≠ g) (hl : p < w.heap.size) : HS p o g w w' :=
  ⟨m.os, m.tape, m.output, m.size, fun k hk _ hg => m.block k hk hg, fun j _ => m.cells _ _ hl hp, fun j => by unfold World.frozen?; rw [m.block p hl hp]⟩
theorem HS.trans {p o g : Nat} {a b c : World} (h : HS p o g a b) (k : HS p o g b c) : HS p o g a c :=
  ⟨k.os.trans h.os, k.tape.trans h.tape, k.output.trans h.output, Nat.le_trans h.size k.size, fun j hj h1 h2 => (k.block j (Nat.lt_of_lt_of_le hj h.size) h1 h2).trans (h.block j hj h1 h2), fun j hj => (k.pcell j hj).trans (h.pcell j hj), fun j => (k.pfz j).trans (h.pfz j)⟩
theorem HS.set {p o g : Nat} {a b : World} (h : HS p o g a b) (v : Value) : HS p o g a (b.setCell ⟨p, o, none⟩ v) :=
  ⟨h.os, h.tape, h.output, by simpa using h.size, fun k hk h1 h2 => (Below.heap_setCell b ⟨p, o, none⟩ v k h1).trans (h.block k hk h1 h2), fun j hj => (World.cell?_setCell_other _ _ _ _ (addr_ne (.inr (Ne.symm hj)))).trans (h.pcell j hj), fun j => by have := h.pfz j; simpa [go_sem] using this⟩
theorem HS.up {p o g : Nat} {a b c : World} (h : HS p o g a b) (u : Up b c) (hl : p < a.heap.size) : HS p o g a c :=
  ⟨u.below.os.trans h.os, u.below.tape.trans h.tape, u.below.output.trans h.output, Nat.le_trans h.size u.size, fun k hk h1 h2 => (u.below.block k (Nat.lt_of_lt_of_le hk h.size)).trans (h.block k hk h1 h2), fun j hj => (u.cells _ _ (Nat.lt_of_lt_of_le hl h.size)).trans (h.pcell j hj), fun j => (u.frozens _ _ (Nat.lt_of_lt_of_le hl h.size)).trans (h.pfz j)⟩
set_option maxHeartbeats 4000000 in
theorem hpPopM_any (lo p o g n c : Nat) (f : Nat → Evt) (w : World) (hR : Hp w lo g (n + 1) c f) (_hp : p ≠ g) (hc : w.cell? ⟨p, o, none⟩ = some (.slice (some ⟨g, 0, none⟩) (n + 1) c)) (hf : w.frozen? ⟨p, o, none⟩ = false) (hl : p < w.heap.size) (hn : n ≤ 2000000) :
    Calls Try.prog 124 #[.pointer (some ⟨p, o, none⟩)] w fun x w' => x = .returned (.iface 39 (f n).v) ∧ ∃ ob, w' = (w.setCell ⟨p, o, none⟩ (.slice (some ⟨g, 0, none⟩) n c)).alloc ob := by
  have e1 := hR.row.2.1 n (by omega)
  have gl := hR.row.1
  have hcc : (n : Int) ≤ (c : Int) := by have := hR.len; omega
  generalize f n = x at e1 ⊢
  obtain ⟨xt, xto, xfr, xsq, xkd, xdt⟩ := x; unfold EvAt at e1; unfold Evt.v; dsimp only at e1 ⊢; obtain ⟨p0, p1, p2, p3, p4, p5⟩ := e1
  have i1 : IntKind.i64.wrap (((n + 1 : Nat) : Int) - 1) = (n : Int) := by rw [show ((n + 1 : Nat) : Int) - 1 = (n : Int) by omega]; exact IntWalk.i64_in _ (by omega)
  have l1 : (n : Int) < ((n + 1 : Nat) : Int) := by omega
  have l2 : (0 : Int) ≤ (n : Int) := by omega
  clear hR
  go_enter Try.func124, Try.ntmps124
  go_wp2; go_ret
  exact ⟨rfl, _, rfl⟩
theorem perm_pop {f F : Nat → Evt} {n : Nat} (ha : Arr (swp f 0 n) F 0 n (n + 1)) : (f 0 :: (List.range n).map F).Perm ((List.range (n + 1)).map f) := by
  have h1 : ((List.range (n + 1)).map f).Perm ((List.range (n + 1)).map (swp f 0 n)) := by
    by_cases h0 : n = 0
    · subst h0
      simp [swp]
    · exact swp_perm f (i := 0) (j := n) (by omega) (n + 1) (by omega)
  have h2 := ha.perm
  have h3 : F n = f 0 := by rw [ha.out n (.inr (by omega)), swp_r]
  have h4 : (List.range (n + 1)).map F = (List.range n).map F ++ [f 0] := by rw [List.range_succ, List.map_append, List.map_singleton, h3]
  rw [h4] at h2
  exact (List.perm_append_singleton (f 0) ((List.range n).map F)).symm.trans (h1.trans h2).symm
/-- What Pop gives. -/
def PopPost (lo p o g n c : Nat) (f : Nat → Evt) (w : World) (x : Ending) (w' : World) : Prop :=
  x = .returned (.iface 39 (f 0).v) ∧ ∃ F, Hp w' lo g n c F ∧ HeapF F n ∧ w'.cell? ⟨p, o, none⟩ = some (.slice (some ⟨g, 0, none⟩) n c) ∧ (f 0 :: (List.range n).map F).Perm ((List.range (n + 1)).map f) ∧ HS p o g w w'
set_option maxHeartbeats 8000000 in
theorem hpPop_any (lo p o g n c : Nat) (f : Nat → Evt) (w : World) (hR : Hp w lo g (n + 1) c f) (hH : HeapF f (n + 1)) (hp : p ≠ g) (hc : w.cell? ⟨p, o, none⟩ = some (.slice (some ⟨g, 0, none⟩) (n + 1) c)) (hf : w.frozen? ⟨p, o, none⟩ = false) (hl : p < w.heap.size) (hn : n + 1 ≤ 2000000) :
    Calls Try.prog 71 #[.iface 107 (.pointer (some ⟨p, o, none⟩))] w (PopPost lo p o g n c f w) := by
  have HR := Lib.hid hR
  have HH := Lib.hid hH
  clear hR hH
  have i1 : IntKind.i64.wrap (((n + 1 : Nat) : Int) - 1) = (n : Int) := by rw [show ((n + 1 : Nat) : Int) - 1 = (n : Int) by omega]; exact IntWalk.i64_in _ (by omega)
  have SW := Lib.hid (show Calls Try.prog 123 #[.slice (some ⟨g, 0, none⟩) (n + 1) c, .int .i64 0, .int .i64 (n : Int)] w fun x w' => x = .returned (.tuple #[]) ∧ Hp w' lo g (n + 1) c (swp f 0 n) ∧ Mv g w w' from by
    by_cases h0 : n = 0
    · subst h0
      exact (hpSwap_one g 1 c 0 f w lo HR.out (by omega)).mono fun x w' h => ⟨h.1, h.2.1.as_ (fun k hk => (by have hk0 : k = 0 := (by omega); rw [hk0]; simp [swp])), h.2.2⟩
    · exact hpSwap_any g (n + 1) c 0 n f w lo HR.out (by omega) (by omega))
  have ML := fun N => meth_len N p o _ (n + 1) c w hc hl
  have MW := fun N => meth_swap N p o _ (n + 1) c w hc hl
  have MP := fun N W => meth_pop N p o W
  go_enter Try.func71, Try.ntmps71
  go_wp2_with fail
  refine (hpLen_any _ (n + 1) c w).mono ?_; rintro x w1 ⟨rfl, hw⟩; rw [hw]
  go_wp2_with fail
  refine SW.out.mono ?_; rintro x w2 ⟨rfl, h2, m2⟩
  have H2 := Lib.hid h2
  have M2 := Lib.hid m2
  have hc2 : w2.cell? ⟨p, o, none⟩ = some (.slice (some ⟨g, 0, none⟩) (n + 1) c) := (m2.cells _ _ hl hp).trans hc
  have hl2 : p < w2.heap.size := Nat.lt_of_lt_of_le hl m2.size
  clear h2 m2 ML MW
  go_wp2_with fail
  refine (hpDn_any lo p o g (n + 1) c n (swp f 0 n) w2 H2.out hp hc2 hl2 (by omega) hn (DownF.start HH.out)).mono ?_; rintro x w3 ⟨⟨bb, rfl⟩, ⟨F, h3, ha, hh⟩, m3⟩
  have H3 := Lib.hid h3
  have HA := Lib.hid ha
  have HF := Lib.hid hh
  have M3 := Lib.hid (M2.out.trans m3)
  have hc3 : w3.cell? ⟨p, o, none⟩ = some (.slice (some ⟨g, 0, none⟩) (n + 1) c) := (m3.cells _ _ hl2 hp).trans hc2
  have hl3 : p < w3.heap.size := Nat.lt_of_lt_of_le hl2 m3.size
  have hf3 : w3.frozen? ⟨p, o, none⟩ = false := by have := (HS.of_mv (o := o) M3.out hp hl).pfz o; rw [this]; exact hf
  clear h3 ha hh m3
  go_wp2_with fail
  refine (hpPopM_any lo p o g n c F w3 H3.out hp hc3 hf3 hl3 (by omega)).mono ?_; rintro x w5 ⟨rfl, ob, rfl⟩
  have hF : F n = f 0 := by rw [HA.out.out n (.inr (by omega)), swp_r]
  have ua := (Up.refl (w3.setCell ⟨p, o, none⟩ (.slice (some ⟨g, 0, none⟩) n c))).alloc ob
  have RES := Lib.hid (show PopPost lo p o g n c f w (.returned (.iface 39 (f 0).v)) ((w3.setCell ⟨p, o, none⟩ (.slice (some ⟨g, 0, none⟩) n c)).alloc ob) from ⟨rfl, F, ((H3.out.mv (b := p) ((Mv.refl p _).setCell _) (Ne.symm hp)).up ua).less (by omega), HF.out, (ua.cells _ _ (by simpa using hl3)).trans (World.cell?_setCell_same _ _ _ hc3), perm_pop HA.out, ((HS.of_mv M3.out hp hl).set _).up ua hl⟩)
  go_wp2; go_ret
  exact RES.out
end Go.Proofs.Ytjdoealcmokakaa

namespace Go.Proofs.Ytjdoealcmokakaa
set_option maxRecDepth 100000
open Go.RowKit
theorem ev1_new (w : World) (et eto efr esq ekd edt : Int) (t : TypeId) : Reads (w.alloc (.cells #[.int .i64 et, .int .i64 eto, .int .i64 efr, .int .i64 esq, .int .i64 ekd, .int .i64 edt] t)) (w.alloc (.cells #[.int .i64 et, .int .i64 eto, .int .i64 efr, .int .i64 esq, .int .i64 ekd, .int .i64 edt] t)).heap.size 6 (some ⟨w.heap.size, 0, none⟩) 1 (flat [⟨et, eto, efr, esq, ekd, edt⟩]) := by
  have hB := Box.new w ⟨et, eto, efr, esq, ekd, edt⟩ t
  have hb := hB.lt
  obtain ⟨⟨c0, c1, c2, c3, c4, c5⟩, _⟩ := hB.mk6; refine ⟨by rw [flat_len]; simp, fun _ => ⟨_, rfl, hb, fun j u hu => ?_⟩⟩; rw [Addr.add_lit, Nat.zero_add]
  have hu : [Value.int .i64 et, .int .i64 eto, .int .i64 efr, .int .i64 esq, .int .i64 ekd, .int .i64 edt][j]? = some u := hu
  have hj : j < 6 := (List.getElem?_eq_some_iff.1 hu).1
  have h6 : j = 0 ∨ j = 1 ∨ j = 2 ∨ j = 3 ∨ j = 4 ∨ j = 5 := by omega
  rcases h6 with rfl | rfl | rfl | rfl | rfl | rfl <;> (injection hu with hu; subst hu; assumption)
theorem mv_of_grown {w w' : World} {g n c : Nat} (h : w.grownBy w' (Value.slice (some ⟨g, 0, none⟩) n c).ownBlock) : Mv g w w' :=
  ⟨h.os, h.tape, h.output, h.size, fun k hk hne => h.block k hk (fun e => hne (by injection e))⟩
theorem HS.refl (p o g : Nat) (w : World) : HS p o g w w := ⟨rfl, rfl, rfl, Nat.le_refl _, fun _ _ _ _ => rfl, fun _ _ => rfl, fun _ => rfl⟩
/-- Changed are block g and cell o of block p alone, of the blocks that were there. -/
structure HS2 (p o g : Nat) (w w' : World) : Prop where
  os : w'.os = w.os
  tape : w'.tape = w.tape
  output : w'.output = w.output
  size : w.heap.size ≤ w'.heap.size
  block : ∀ k, k < w.heap.size → k ≠ p → k ≠ g → w'.heap[k]? = w.heap[k]?
  pcell : ∀ j, j ≠ o → w'.cell? ⟨p, j, none⟩ = w.cell? ⟨p, j, none⟩
  pfz : ∀ j, w'.frozen? ⟨p, j, none⟩ = w.frozen? ⟨p, j, none⟩
theorem HS2.mk' {p o g g1 : Nat} {w w1 w2 : World} (h : HS p o g w w1) (m : Mv g1 w1 w2) (hg : g1 = g ∨ w.heap.size ≤ g1) (hl : p < w1.heap.size) (hp : p ≠ g1) : HS2 p o g w w2 :=
  ⟨m.os.trans h.os, m.tape.trans h.tape, m.output.trans h.output, Nat.le_trans h.size m.size, fun k hk h1 h2 => (m.block k (Nat.lt_of_lt_of_le hk h.size) (by omega)).trans (h.block k hk h1 h2), fun j hj => (m.cells _ _ hl hp).trans (h.pcell j hj), fun j => (m.frozens _ _ hl hp).trans (h.pfz j)⟩
theorem perm_snoc (f : Nat → Evt) (e : Evt) (n : Nat) : ((List.range (n + 1)).map (fun i => if i < n then f i else e)).Perm (e :: (List.range n).map f) := by
  have h1 : (List.range n).map (fun i => if i < n then f i else e) = (List.range n).map f := List.map_congr_left (fun x hx => by have := List.mem_range.1 hx; simp [this])
  have h2 : (List.range (n + 1)).map (fun i => if i < n then f i else e) = (List.range n).map f ++ [e] := by rw [List.range_succ, List.map_append, h1]; simp
  rw [h2]
  exact List.perm_append_singleton e _
theorem push_fin {lo p o g n c g6 c6 : Nat} {f : Nat → Evt} {e : Evt} {w X w6 : World} (u0 : Up w X) (hl : p < w.heap.size) (hpg : p ≠ g)
    (ho6 : w6.ownsRow lo 39 6 (.slice (some ⟨g6, 0, none⟩) (n + 1) c6) (n + 1) (flat ((List.range n).map f) ++ flat [e])) (m6 : Mv g X w6)
    (hv6 : (Value.slice (some ⟨g6, 0, none⟩) (n + 1) c6).ownBlock = (Value.slice (some ⟨g, 0, none⟩) n c).ownBlock ∨ (Value.slice (some ⟨g6, 0, none⟩) (n + 1) c6).ownBlock = some X.heap.size)
    (hc6 : w6.cell? ⟨p, o, none⟩ = some (.slice (some ⟨g, 0, none⟩) n c)) :
    ∃ g' c', Hp (w6.setCell ⟨p, o, none⟩ (.slice (some ⟨g6, 0, none⟩) (n + 1) c6)) lo g' (n + 1) c' (fun i => if i < n then f i else e) ∧ (w6.setCell ⟨p, o, none⟩ (.slice (some ⟨g6, 0, none⟩) (n + 1) c6)).cell? ⟨p, o, none⟩ = some (.slice (some ⟨g', 0, none⟩) (n + 1) c') ∧ (g' = g ∨ w.heap.size ≤ g') ∧ HS p o g w (w6.setCell ⟨p, o, none⟩ (.slice (some ⟨g6, 0, none⟩) (n + 1) c6)) := by
  rw [← flat_app] at ho6
  have h1 := Hp.of_own ho6 (by omega)
  have hp6 : p ≠ g6 := by
    have hs := u0.size
    rcases hv6 with h | h
    · injection h with h
      have h : g6 = g := h
      omega
    · injection h with h
      have h : g6 = X.heap.size := h
      omega
  refine ⟨g6, c6, (h1.as_ (fun i hi => ?_)).mv (b := p) ((Mv.refl p _).setCell _) (Ne.symm hp6), World.cell?_setCell_same _ _ _ hc6, ?_, ((((HS.refl p o g w).up u0 hl).trans (HS.of_mv m6 hpg (Nat.lt_of_lt_of_le hl u0.size)))).set _⟩
  · by_cases h : i < n
    · rw [if_pos h]
      simp [List.getD, List.getElem?_append, h]
    · rw [if_neg h]
      have : i = n := by omega
      subst this; simp [List.getD]
  · have hs := u0.size
    rcases hv6 with h | h
    · injection h with h
      exact .inl h
    · injection h with h
      have h : g6 = X.heap.size := h
      exact .inr (by omega)
/-- What the method Push gives: a list with one event more. -/
def PushMPost (lo p o g n : Nat) (f : Nat → Evt) (e : Evt) (w : World) (x : Ending) (w' : World) : Prop :=
  x = .returned (.tuple #[]) ∧ ∃ g' c', Hp w' lo g' (n + 1) c' (fun i => if i < n then f i else e) ∧ w'.cell? ⟨p, o, none⟩ = some (.slice (some ⟨g', 0, none⟩) (n + 1) c') ∧ (g' = g ∨ w.heap.size ≤ g') ∧ HS p o g w w'
set_option maxHeartbeats 8000000 in
theorem hpPushM_any (lo p o g n c : Nat) (f : Nat → Evt) (e : Evt) (w : World) (hR : Hp w lo g n c f) (hpg : p ≠ g) (hl : p < w.heap.size) (hc : w.cell? ⟨p, o, none⟩ = some (.slice (some ⟨g, 0, none⟩) n c)) (hf : w.frozen? ⟨p, o, none⟩ = false) (hlo : lo ≤ w.heap.size) (hn : n ≤ 1500000) :
    Calls Try.prog 125 #[.pointer (some ⟨p, o, none⟩), .iface 39 e.v] w (PushMPost lo p o g n f e w) := by
  obtain ⟨i0, hi0, hz0, hz1, hz2⟩ := info_parts info39
  have INF := Lib.hid (And.intro hi0 (And.intro hz0 (And.intro hz1 hz2)))
  have SIX := Lib.hid (show 0 < 6 by omega)
  clear hi0 hz0 hz1 hz2
  have HR := Lib.hid hR
  have HF := Lib.hid hf
  have OW := Lib.hid hR.own
  obtain ⟨et, eto, efr, esq, ekd, edt⟩ := e; unfold Evt.v; dsimp only; clear hR hf
  have OWB := Lib.hid (own_up OW.out ((Up.refl w).alloc (.cells #[.int .i64 et, .int .i64 eto, .int .i64 efr, .int .i64 esq, .int .i64 ekd, .int .i64 edt] 39)))
  have RDX := Lib.hid (ev1_new w et eto efr esq ekd edt 39)
  have HMX := Lib.hid (show n + 1 ≤ maxLen by simp only [maxLen]; omega)
  have HBY := Lib.hid (show (n + 1) * 48 ≤ 140737488355328 by omega)
  have HBS := Lib.hid (show lo ≤ (w.alloc (.cells #[.int .i64 et, .int .i64 eto, .int .i64 efr, .int .i64 esq, .int .i64 ekd, .int .i64 edt] 39)).heap.size by simp; omega)
  have TA := fun W : World => (show (Instr.typeAssert (.iface 39 (.agg #[.int .i64 et, .int .i64 eto, .int .i64 efr, .int .i64 esq, .int .i64 ekd, .int .i64 edt])) 20 39 false).run Try.prog W = .ok (.agg #[.int .i64 et, .int .i64 eto, .int .i64 efr, .int .i64 esq, .int .i64 ekd, .int .i64 edt]) W from rfl)
  go_enter Try.func125, Try.ntmps125
  go_wp2_with fail
  go_region_law (refine wp_append_any _ (.tmp 7) (.tmp 10) 103 rfl lo 39 i0 _ 6 48 Try.underlying103 INF.out.1 INF.out.2.1 INF.out.2.2.1 INF.out.2.2.2 rfl SIX.out (.slice (some ⟨g, 0, none⟩) n c) n (flat ((List.range n).map f)) (by go_simp) (own_up OWB.out (Up.refl _).drew) _ (some ⟨w.heap.size, 0, none⟩) 1 1 (flat [⟨et, eto, efr, esq, ekd, edt⟩]) (by go_simp) RDX.out (flat_one _) HMX.out HBY.out HBS.out ?_; intro v6 w6 ho6 hg6 hv6; obtain ⟨g6, c6, rfl, hgb6, hlt6⟩ := ho6.form (by omega); have u0 := ((Up.refl w).alloc (.cells #[.int .i64 et, .int .i64 eto, .int .i64 efr, .int .i64 esq, .int .i64 ekd, .int .i64 edt] 39)).drew; have m6 := mv_of_grown hg6; have hc6 := (m6.cells p o (Nat.lt_of_lt_of_le hl u0.size) hpg).trans ((u0.cells p o hl).trans hc); have hf6 := (m6.frozens p o (Nat.lt_of_lt_of_le hl u0.size) hpg).trans ((u0.frozens p o hl).trans HF.out); have hl6 := Nat.lt_of_lt_of_le (Nat.lt_of_lt_of_le hl u0.size) m6.size)
  all_goals exact bodyPost_end (v := .tuple #[]) (results_none Try.results125 _ _ _) rfl ⟨rfl, push_fin u0 hl hpg ho6 m6 hv6 hc6⟩
/-- What Push gives: a heap with one event more. -/
def PushPost (lo p o g n : Nat) (f : Nat → Evt) (e : Evt) (w : World) (x : Ending) (w' : World) : Prop :=
  x = .returned (.tuple #[]) ∧ ∃ g' c' F, Hp w' lo g' (n + 1) c' F ∧ HeapF F (n + 1) ∧ w'.cell? ⟨p, o, none⟩ = some (.slice (some ⟨g', 0, none⟩) (n + 1) c') ∧ (g' = g ∨ w.heap.size ≤ g') ∧ ((List.range (n + 1)).map F).Perm (e :: (List.range n).map f) ∧ HS2 p o g w w'
set_option maxHeartbeats 8000000 in
theorem hpPush_any (lo p o g n c : Nat) (f : Nat → Evt) (e : Evt) (w : World) (hR : Hp w lo g n c f) (hH : HeapF f n) (hpg : p ≠ g) (hl : p < w.heap.size) (hc : w.cell? ⟨p, o, none⟩ = some (.slice (some ⟨g, 0, none⟩) n c)) (hf : w.frozen? ⟨p, o, none⟩ = false) (hlo : lo ≤ w.heap.size) (hn : n ≤ 1500000) :
    Calls Try.prog 72 #[.iface 107 (.pointer (some ⟨p, o, none⟩)), .iface 39 e.v] w (PushPost lo p o g n f e w) := by
  have HH := Lib.hid hH
  have CP := Lib.hid (hpPushM_any lo p o g n c f e w hR hpg hl hc hf hlo hn)
  have i1 : IntKind.i64.wrap (((n + 1 : Nat) : Int) - 1) = (n : Int) := by rw [show ((n + 1 : Nat) : Int) - 1 = (n : Int) by omega]; exact IntWalk.i64_in _ (by omega)
  have MP := fun N W => meth_push N p o W
  clear hR hH; unfold PushMPost at CP
  go_enter Try.func72, Try.ntmps72
  go_wp2_with fail
  refine CP.out.mono ?_; rintro x w1 ⟨rfl, g1, c1, h1, hc1, hg1, hs1⟩
  have H1 := Lib.hid h1
  have S1 := Lib.hid hs1
  have G1 := Lib.hid hg1
  have hl1 : p < w1.heap.size := Nat.lt_of_lt_of_le hl hs1.size
  have hpg1 : p ≠ g1 := by rcases hg1 with h | h <;> omega
  clear h1 hs1 hg1 MP
  have ML := fun N => meth_len N p o _ (n + 1) c1 w1 hc1 hl1
  go_wp2_with fail
  refine (hpLen_any _ (n + 1) c1 w1).mono ?_; rintro x w2 ⟨rfl, hw⟩; rw [hw]
  go_wp2_with fail
  refine (hpUp_any lo p o g1 (n + 1) c1 n (fun i => if i < n then f i else e) w1 H1.out hpg1 hc1 hl1 (by omega) (by omega) (UpF.start (fun i h0 hi => by have := HH.out i h0 hi; rw [if_pos hi, if_pos (by omega)]; exact this))).mono ?_; rintro x w3 ⟨rfl, ⟨F, h3, ha, hh⟩, m3⟩
  have RES := Lib.hid (show PushPost lo p o g n f e w (.returned (.tuple #[])) w3 from ⟨rfl, g1, c1, F, h3, hh, (m3.cells _ _ hl1 hpg1).trans hc1, G1.out, (ha.perm.symm.trans (perm_snoc f e n)), HS2.mk' S1.out m3 G1.out hl1 hpg1⟩)
  go_wp2
  exact bodyPost_end (v := .tuple #[]) (results_none Try.results72 _ _ _) rfl RES.out
end Go.Proofs.Ytjdoealcmokakaa

namespace Go.Proofs.Ytjdoealcmokakaa
set_option maxRecDepth 100000
open Go.RowKit
def Cst.c3 (r : Cst) : List Value := [.int .i64 r.s, .int .i64 r.sq, .int .i64 r.ct]
def flat3 : List Cst → List Value
  | [] => []
  | e :: r => e.c3 ++ flat3 r
theorem flat3_len : ∀ es : List Cst, (flat3 es).length = es.length * 3
  | [] => rfl
  | e :: r => by
    rw [flat3, List.length_append, flat3_len r]; simp [Cst.c3]
    omega
theorem flat3_app : ∀ es fs : List Cst, flat3 (es ++ fs) = flat3 es ++ flat3 fs
  | [], _ => rfl
  | e :: r, fs => by rw [List.cons_append, flat3, flat3_app r fs, flat3, List.append_assoc]
theorem flat3_get : ∀ (es : List Cst) (i k : Nat), i < es.length → k < 3 → (flat3 es)[i * 3 + k]? = (es.getD i default).c3[k]?
  | [], i, _, hi, _ => absurd hi (by simp)
  | e :: r, 0, k, _, hk => by
    rw [flat3, Nat.zero_mul, Nat.zero_add, List.getElem?_append_left (by simpa [Cst.c3] using hk)]
    rfl
  | e :: r, i + 1, k, hi, hk => by
    have hl : e.c3.length = 3 := rfl
    rw [flat3, List.getElem?_append_right (by omega), hl, show (i + 1) * 3 + k - 3 = i * 3 + k by omega, flat3_get r i k (by simpa using hi) hk]
    rfl
theorem flat3_one (es : List Cst) : ∀ u ∈ flat3 es, u.oneCell' = true := by
  induction es with
  | nil => intro u hu; cases hu
  | cons e r ih =>
    intro u hu; rw [flat3, List.mem_append] at hu
    rcases hu with hu | hu
    · simp only [Cst.c3, List.mem_cons, List.not_mem_nil, or_false] at hu
      rcases hu with rfl | rfl | rfl <;> rfl
    · exact ih u hu
theorem own3_csts {w : World} {base e n c : Nat} {A : Option Addr} {es : List Cst} (h : w.ownsRow base e 3 (.slice A n c) n (flat3 es)) : Csts w A n es := by
  have hl : es.length = n := by have := h.1; rw [flat3_len] at this; omega
  refine ⟨hl, fun hn => ?_⟩; obtain ⟨g, cap, hv, _, hlt⟩ := h.form hn
  injection hv with hA _ hcap
  subst hA hcap; refine ⟨g, 0, rfl, hlt, fun i hi => ?_⟩
  have f : ∀ k, k < 3 → w.cell? ⟨g, 0 + i * 3 + k, none⟩ = (es.getD i default).c3[k]? := fun k hk => by
    rw [Nat.zero_add, h.cellAt (i * 3 + k) (by omega), flat3_get es i k (by omega) hk]
  exact ⟨f 0 (by omega), f 1 (by omega), f 2 (by omega)⟩
theorem own3_slice {w : World} {base e n : Nat} {v : Value} {es : List Cst} (h : w.ownsRow base e 3 v n (flat3 es)) : n = es.length ∧ ∃ A c, v = .slice A n c ∧ n ≤ c ∧ c ≤ 9223372036854775807 := by
  have hl : es.length = n := by have := h.1; rw [flat3_len] at this; omega
  refine ⟨hl.symm, ?_⟩
  rcases h.2 with ⟨rfl, rfl⟩ | ⟨g, cap, cur, rfl, _, _, hnc, hm, _⟩
  · exact ⟨none, 0, rfl, Nat.le_refl _, by omega⟩
  · exact ⟨_, cap, rfl, hnc, by unfold maxLen at hm; omega⟩
theorem CstAt.at3 {w : World} {b o k : Nat} {r : Cst} {u : Value} (h : CstAt w b o r) (hk : k < 3) (hu : r.c3[k]? = some u) : w.cell? ⟨b, o + k, none⟩ = some u := by
  obtain ⟨h0, h1, h2⟩ := h
  have e : k = 0 ∨ k = 1 ∨ k = 2 := by omega
  rcases e with rfl | rfl | rfl
  · exact h0.trans hu
  · exact h1.trans hu
  · exact h2.trans hu
theorem Csts.reads {w : World} {A : Option Addr} {n : Nat} {es : List Cst} (h : Csts w A n es) : Reads w w.heap.size 3 A n (flat3 es) := by
  refine ⟨by rw [flat3_len, h.1], fun hn => ?_⟩; obtain ⟨b, off, hA, hb, hc⟩ := h.2 hn; refine ⟨_, hA, hb, fun j u hu => ?_⟩
  have hj : j < (flat3 es).length := (List.getElem?_eq_some_iff.1 hu).1
  rw [flat3_len, h.1] at hj
  have e : j = j / 3 * 3 + j % 3 := by omega
  have hi : j / 3 < n := by omega
  rw [e, flat3_get es _ _ (by rw [h.1]; exact hi) (by omega)] at hu
  have := (hc _ hi).at3 (by omega) hu
  have ad : (⟨b, off, none⟩ : Addr).add j = ⟨b, off + j / 3 * 3 + j % 3, none⟩ := by
    unfold Addr.add
    split
    · rename_i h0; subst h0; rfl
    · rw [Nat.add_assoc, ← e]
  rw [ad]
  exact this
end Go.Proofs.Ytjdoealcmokakaa

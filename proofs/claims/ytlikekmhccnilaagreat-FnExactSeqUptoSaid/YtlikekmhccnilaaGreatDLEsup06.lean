/-
  What container/heap's down does, in one sentence: a heap but for one event that is too great becomes a heap, none is lost; for every list of events in a block of the call's own.
  What container/heap's Pop does, in one sentence: the least event leaves the heap, the others are a heap, none is lost; for every heap of events in a block of the call's own.
  What container/heap's Push does, in one sentence: the event joins the heap, none is lost; for every heap of events in a block of the call's own.
  What markEvtEvtS and heldEvtEvtS do, in one sentence: the one lays numbers in a row into a list of its own, the other finds them there; for every list that lies in memory.
  What a new row of cells holds, in one sentence: something in each, none frozen; no condition is made.
  What toMdlSend returns, in one sentence: the same six numbers; for every send.
  What toMdlSendS returns, in one sentence: a new slice of the same sends; for every list that lies in memory.
-/
import Derived.Deep.RegionLaw
import Derived.Test.YtlikekmhccnilaaGreatDLEsup01
import Derived.Test.YtlikekmhccnilaaGreatDLEsup02
import Derived.Test.YtlikekmhccnilaaGreatDLEsup03
import Derived.Test.YtlikekmhccnilaaGreatDLEsup05
namespace Go.Proofs.YtlikekmhccnilaaGreat
set_option maxRecDepth 100000
open Go.RowKit
/-- The lesser of two children. -/
theorem DownF.kids {F : Nat → Evt} {m i j : Nat} (_hj : j = 2 * i + 1 ∨ j = 2 * i + 2) (h1 : leE (F j) (F (2 * i + 1))) (h2 : 2 * i + 2 < m → leE (F j) (F (2 * i + 2))) : ∀ k, 0 < k → k < m → (k - 1) / 2 = i → leE (F j) (F k) := fun k h0 hk hp => by
  have hk2 : k = 2 * i + 1 ∨ k = 2 * i + 2 := by omega
  rcases hk2 with rfl | rfl
  · exact h1
  · exact h2 hk
set_option maxHeartbeats 16000000 in
theorem hpDn_any (lo p o g n c m : Nat) (f : Nat → Evt) (w : World) (hR : Hp w lo g n c f) (hp : p ≠ g) (hc : w.cell? ⟨p, o, none⟩ = some (.slice (some ⟨g, 0, none⟩) n c)) (hl : p < w.heap.size) (hm : m < n) (hn : n ≤ 2000000) (hU : DownF f m 0) :
    Calls Tryz.prog 224 #[.iface 226 (.pointer (some ⟨p, o, none⟩)), .int .i64 0, .int .i64 (m : Int)] w fun x w' => (∃ b : Bool, x = .returned (.bool b)) ∧ (∃ F, Hp w' lo g n c F ∧ Arr f F 0 m n ∧ HeapF F m) ∧ Mv g w w' := by
  have HR := Lib.hid hR
  have HU := Lib.hid hU
  clear hR hU
  go_enter Tryz.func224, Tryz.ntmps224
  go_wp2_with fail
  go_loopw [7] (fun v wr => (∃ (k : Nat) (F : Nat → Evt), v = .int .i64 (k : Int) ∧ k ≤ m ∧ Hid (Hp wr lo g n c F) ∧ Hid (Arr f F 0 m n) ∧ Hid (DownF F m k)) ∧ Mv g w wr) (fun v _ => m - (intOf v).toNat)
  case atStart => exact ⟨⟨0, f, rfl, by omega, HR, Lib.hid (Arr.refl _ _ _ _), HU⟩, Mv.refl _ _⟩
  case round =>
    obtain ⟨⟨i, F, rfl, hi, HF, HA, HK⟩, mv⟩ := hrel
    have MV := Lib.hid mv
    have hcr : wr.cell? ⟨p, o, none⟩ = some (.slice (some ⟨g, 0, none⟩) n c) := (mv.cells _ _ hl hp).trans hc
    have hlr : p < wr.heap.size := Nat.lt_of_lt_of_le hl mv.size
    clear mv
    have w1 : IntKind.i64.wrap (2 * (i : Int)) = ((2 * i : Nat) : Int) := by rw [show ((2 * i : Nat) : Int) = 2 * (i : Int) by omega]; exact IntWalk.i64_in _ (by omega)
    obtain ⟨j1, hj1⟩ : ∃ j1, j1 = 2 * i + 1 := ⟨_, rfl⟩; obtain ⟨j2, hj2⟩ : ∃ j2, j2 = 2 * i + 2 := ⟨_, rfl⟩
    have HJ1 := Lib.hid hj1
    have HJ2 := Lib.hid hj2
    have w2 : IntKind.i64.wrap (((2 * i : Nat) : Int) + 1) = (j1 : Int) := by rw [show ((2 * i : Nat) : Int) + 1 = (j1 : Int) by omega]; exact IntWalk.i64_in _ (by omega)
    have w3 : IntKind.i64.wrap ((j1 : Int) + 1) = (j2 : Int) := by rw [show (j1 : Int) + 1 = (j2 : Int) by omega]; exact IntWalk.i64_in _ (by omega)
    generalize ((2 * i : Nat) : Int) = i2 at w1 w2
    clear hj1 hj2
    by_cases hs : m ≤ j1
    · have s1 : (m : Int) ≤ (j1 : Int) := by omega
      have SX := Lib.hid (HK.out.stop (fun k h0 hk hkp => absurd hk (by have := HJ1.out; omega)))
      go_wp2; go_ret
      exact ⟨⟨_, rfl⟩, ⟨F, HF.out, HA.out, SX.out⟩, MV.out⟩
    · have s1 : ¬ (m : Int) ≤ (j1 : Int) := by omega
      have s2 : ¬ (j1 : Int) < 0 := by omega
      have ML := fun N => meth_less N p o _ n c wr hcr hlr
      by_cases ht : j2 < m
      · have s3 : (j2 : Int) < (m : Int) := by omega
        have C1 := Lib.hid (fun V (u : Up wr V) => hpLess_any g n c j2 j1 F V (HF.out.row.up u) (by omega) (by omega))
        generalize hb1 : ltE (F j2) (F j1) = b1 at C1
        have HB1 := Lib.hid hb1
        clear hb1
        go_wp2_with fail
        refine (C1.out _ (Up.refl _)).mono ?_; rintro x w5 ⟨rfl, u5⟩
        have HF5 := Lib.hid (HF.out.up u5)
        have MV5 := Lib.hid (MV.out.trans (u5.mv g))
        have hc5 : w5.cell? ⟨p, o, none⟩ = some (.slice (some ⟨g, 0, none⟩) n c) := (u5.cells _ _ hlr).trans hcr
        have hl5 : p < w5.heap.size := Nat.lt_of_lt_of_le hlr u5.size
        clear u5 C1 ML
        have ML := fun N => meth_less N p o _ n c w5 hc5 hl5
        cases b1
        · have CL := Lib.hid (fun V (u : Up w5 V) => hpLess_any g n c j1 i F V (HF5.out.row.up u) (by have := HJ1.out; have := HJ2.out; omega) (by have := HJ1.out; omega))
          generalize hb : ltE (F j1) (F i) = b at CL
          have HB := Lib.hid hb
          clear hb
          have KD := Lib.hid (show ∀ k, 0 < k → k < m → (k - 1) / 2 = i → leE (F j1) (F k) from DownF.kids (j := j1) (by have := HJ1.out; have := HJ2.out; omega) (by rw [← HJ1.out]; exact leE_refl _) (by rw [← HJ2.out]; exact fun _ => HB1.out))
          go_wp2_with fail
          refine (CL.out _ (Up.refl _)).mono ?_; rintro x w7 ⟨rfl, u7⟩
          have HF7 := Lib.hid (HF5.out.up u7)
          have MV7 := Lib.hid (MV5.out.trans (u7.mv g))
          have hc7 : w7.cell? ⟨p, o, none⟩ = some (.slice (some ⟨g, 0, none⟩) n c) := (u7.cells _ _ hl5).trans hc5
          have hl7 : p < w7.heap.size := Nat.lt_of_lt_of_le hl5 u7.size
          clear u7 CL
          have MS := fun N => meth_swap N p o _ n c w7 hc7 hl7
          cases b
          · have SX := Lib.hid (HK.out.stop (fun k h0 hk hkp => leE_trans HB.out (KD.out k h0 hk hkp)))
            go_wp2; go_ret
            exact ⟨⟨_, rfl⟩, ⟨F, HF7.out, HA.out, SX.out⟩, MV7.out⟩
          · have SX := Lib.hid (HK.out.step (j := j1) (by have := HJ1.out; have := HJ2.out; omega) (by have := HJ1.out; have := HJ2.out; omega) (by have := HJ1.out; have := HJ2.out; omega) HB.out KD.out)
            have AX := Lib.hid (HA.out.trans (swp_arr F (i := i) (j := j1) (a := 0) (b := m) (N := n) (by have := HJ1.out; have := HJ2.out; omega) (by omega) (by have := HJ1.out; have := HJ2.out; omega) (by have := HJ1.out; have := HJ2.out; omega)))
            go_wp2_with fail
            refine (hpSwap_any g n c i j1 F w7 lo HF7.out (by have := HJ1.out; have := HJ2.out; omega) (by have := HJ1.out; have := HJ2.out; omega)).mono ?_; rintro x w8 ⟨rfl, h8, m8⟩
            have H8 := Lib.hid h8
            have M8 := Lib.hid (MV7.out.trans m8)
            clear h8 m8; go_wp2
            go_roundw
            case rel => exact ⟨⟨j1, swp F i j1, by first | rfl | go_num, by have := HJ1.out; have := HJ2.out; omega, H8, AX, SX⟩, M8.out⟩
            case measure => (have := HJ1.out; have := HJ2.out; simp [intOf]; try omega)
        · have CL := Lib.hid (fun V (u : Up w5 V) => hpLess_any g n c j2 i F V (HF5.out.row.up u) (by have := HJ1.out; have := HJ2.out; omega) (by have := HJ1.out; omega))
          generalize hb : ltE (F j2) (F i) = b at CL
          have HB := Lib.hid hb
          clear hb
          have KD := Lib.hid (show ∀ k, 0 < k → k < m → (k - 1) / 2 = i → leE (F j2) (F k) from DownF.kids (j := j2) (by have := HJ1.out; have := HJ2.out; omega) (by rw [← HJ1.out]; exact ltE_le HB1.out) (by rw [← HJ2.out]; exact fun _ => leE_refl _))
          go_wp2_with fail
          refine (CL.out _ (Up.refl _)).mono ?_; rintro x w7 ⟨rfl, u7⟩
          have HF7 := Lib.hid (HF5.out.up u7)
          have MV7 := Lib.hid (MV5.out.trans (u7.mv g))
          have hc7 : w7.cell? ⟨p, o, none⟩ = some (.slice (some ⟨g, 0, none⟩) n c) := (u7.cells _ _ hl5).trans hc5
          have hl7 : p < w7.heap.size := Nat.lt_of_lt_of_le hl5 u7.size
          clear u7 CL
          have MS := fun N => meth_swap N p o _ n c w7 hc7 hl7
          cases b
          · have SX := Lib.hid (HK.out.stop (fun k h0 hk hkp => leE_trans HB.out (KD.out k h0 hk hkp)))
            go_wp2; go_ret
            exact ⟨⟨_, rfl⟩, ⟨F, HF7.out, HA.out, SX.out⟩, MV7.out⟩
          · have SX := Lib.hid (HK.out.step (j := j2) (by have := HJ1.out; have := HJ2.out; omega) (by have := HJ1.out; have := HJ2.out; omega) (by have := HJ1.out; have := HJ2.out; omega) HB.out KD.out)
            have AX := Lib.hid (HA.out.trans (swp_arr F (i := i) (j := j2) (a := 0) (b := m) (N := n) (by have := HJ1.out; have := HJ2.out; omega) (by omega) (by have := HJ1.out; have := HJ2.out; omega) (by have := HJ1.out; have := HJ2.out; omega)))
            go_wp2_with fail
            refine (hpSwap_any g n c i j2 F w7 lo HF7.out (by have := HJ1.out; have := HJ2.out; omega) (by have := HJ1.out; have := HJ2.out; omega)).mono ?_; rintro x w8 ⟨rfl, h8, m8⟩
            have H8 := Lib.hid h8
            have M8 := Lib.hid (MV7.out.trans m8)
            clear h8 m8; go_wp2
            go_roundw
            case rel => exact ⟨⟨j2, swp F i j2, by first | rfl | go_num, by have := HJ1.out; have := HJ2.out; omega, H8, AX, SX⟩, M8.out⟩
            case measure => (have := HJ1.out; have := HJ2.out; simp [intOf]; try omega)
      · have s3 : ¬ (j2 : Int) < (m : Int) := by omega
        have HT := Lib.hid ht
        have CL := Lib.hid (fun V (u : Up wr V) => hpLess_any g n c j1 i F V (HF.out.row.up u) (by have := HJ1.out; have := HJ2.out; omega) (by have := HJ1.out; omega))
        generalize hb : ltE (F j1) (F i) = b at CL
        have HB := Lib.hid hb
        clear hb
        have KD := Lib.hid (show ∀ k, 0 < k → k < m → (k - 1) / 2 = i → leE (F j1) (F k) from DownF.kids (j := j1) (by have := HJ1.out; have := HJ2.out; omega) (by rw [← HJ1.out]; exact leE_refl _) (by rw [← HJ2.out]; exact fun h => absurd h HT.out))
        go_wp2_with fail
        refine (CL.out _ (Up.refl _)).mono ?_; rintro x w7 ⟨rfl, u7⟩
        have HF7 := Lib.hid (HF.out.up u7)
        have MV7 := Lib.hid (MV.out.trans (u7.mv g))
        have hc7 : w7.cell? ⟨p, o, none⟩ = some (.slice (some ⟨g, 0, none⟩) n c) := (u7.cells _ _ hlr).trans hcr
        have hl7 : p < w7.heap.size := Nat.lt_of_lt_of_le hlr u7.size
        clear u7 CL
        have MS := fun N => meth_swap N p o _ n c w7 hc7 hl7
        cases b
        · have SX := Lib.hid (HK.out.stop (fun k h0 hk hkp => leE_trans HB.out (KD.out k h0 hk hkp)))
          go_wp2; go_ret
          exact ⟨⟨_, rfl⟩, ⟨F, HF7.out, HA.out, SX.out⟩, MV7.out⟩
        · have SX := Lib.hid (HK.out.step (j := j1) (by have := HJ1.out; have := HJ2.out; omega) (by have := HJ1.out; have := HJ2.out; omega) (by have := HJ1.out; have := HJ2.out; omega) HB.out KD.out)
          have AX := Lib.hid (HA.out.trans (swp_arr F (i := i) (j := j1) (a := 0) (b := m) (N := n) (by have := HJ1.out; have := HJ2.out; omega) (by omega) (by have := HJ1.out; have := HJ2.out; omega) (by have := HJ1.out; have := HJ2.out; omega)))
          go_wp2_with fail
          refine (hpSwap_any g n c i j1 F w7 lo HF7.out (by have := HJ1.out; have := HJ2.out; omega) (by have := HJ1.out; have := HJ2.out; omega)).mono ?_; rintro x w8 ⟨rfl, h8, m8⟩
          have H8 := Lib.hid h8
          have M8 := Lib.hid (MV7.out.trans m8)
          clear h8 m8; go_wp2
          go_roundw
          case rel => exact ⟨⟨j1, swp F i j1, by first | rfl | go_num, by have := HJ1.out; have := HJ2.out; omega, H8, AX, SX⟩, M8.out⟩
          case measure => (have := HJ1.out; have := HJ2.out; simp [intOf]; try omega)
end Go.Proofs.YtlikekmhccnilaaGreat

namespace Go.Proofs.YtlikekmhccnilaaGreat
set_option maxRecDepth 100000
open Go.RowKit
/-- Changed are block g and cell o of block p alone. -/
structure HS (p o g : Nat) (w w' : World) : Prop where
  os : w'.os = w.os
  tape : w'.tape = w.tape
  output : w'.output = w.output
  size : w.heap.size ≤ w'.heap.size
  block : ∀ k, k < w.heap.size → k ≠ p → k ≠ g → w'.heap[k]? = w.heap[k]?
  pcell : ∀ j, j ≠ o → w'.cell? ⟨p, j, none⟩ = w.cell? ⟨p, j, none⟩
  pfz : ∀ j, w'.frozen? ⟨p, j, none⟩ = w.frozen? ⟨p, j, none⟩
theorem HS.of_mv {p o g : Nat} {w w' : World} (m : Mv g w w') (hp : p ≠ g) (hl : p < w.heap.size) : HS p o g w w' :=
  ⟨m.os, m.tape, m.output, m.size, fun k hk _ hg => m.block k hk hg, fun j _ => m.cells _ _ hl hp, fun j => by unfold World.frozen?; rw [m.block p hl hp]⟩
theorem HS.trans {p o g : Nat} {a b c : World} (h : HS p o g a b) (k : HS p o g b c) : HS p o g a c :=
  ⟨k.os.trans h.os, k.tape.trans h.tape, k.output.trans h.output, Nat.le_trans h.size k.size, fun j hj h1 h2 => (k.block j (Nat.lt_of_lt_of_le hj h.size) h1 h2).trans (h.block j hj h1 h2), fun j hj => (k.pcell j hj).trans (h.pcell j hj), fun j => (k.pfz j).trans (h.pfz j)⟩
theorem HS.set {p o g : Nat} {a b : World} (h : HS p o g a b) (v : Value) : HS p o g a (b.setCell ⟨p, o, none⟩ v) :=
  ⟨h.os, h.tape, h.output, by simpa using h.size, fun k hk h1 h2 => (Below.heap_setCell b ⟨p, o, none⟩ v k h1).trans (h.block k hk h1 h2), fun j hj => (World.cell?_setCell_other _ _ _ _ (addr_ne (.inr (Ne.symm hj)))).trans (h.pcell j hj), fun j => by have := h.pfz j; simpa [go_sem] using this⟩
theorem HS.up {p o g : Nat} {a b c : World} (h : HS p o g a b) (u : Up b c) (hl : p < a.heap.size) : HS p o g a c :=
  ⟨u.below.os.trans h.os, u.below.tape.trans h.tape, u.below.output.trans h.output, Nat.le_trans h.size u.size, fun k hk h1 h2 => (u.below.block k (Nat.lt_of_lt_of_le hk h.size)).trans (h.block k hk h1 h2), fun j hj => (u.cells _ _ (Nat.lt_of_lt_of_le hl h.size)).trans (h.pcell j hj), fun j => (u.frozens _ _ (Nat.lt_of_lt_of_le hl h.size)).trans (h.pfz j)⟩
set_option maxHeartbeats 4000000 in
theorem hpPopM_any (lo p o g n c : Nat) (f : Nat → Evt) (w : World) (hR : Hp w lo g (n + 1) c f) (_hp : p ≠ g) (hc : w.cell? ⟨p, o, none⟩ = some (.slice (some ⟨g, 0, none⟩) (n + 1) c)) (hf : w.frozen? ⟨p, o, none⟩ = false) (hl : p < w.heap.size) (hn : n ≤ 2000000) :
    Calls Tryz.prog 314 #[.pointer (some ⟨p, o, none⟩)] w fun x w' => x = .returned (.iface 130 (f n).v) ∧ ∃ ob, w' = (w.setCell ⟨p, o, none⟩ (.slice (some ⟨g, 0, none⟩) n c)).alloc ob := by
  have e1 := hR.row.2.1 n (by omega)
  have gl := hR.row.1
  have hcc : (n : Int) ≤ (c : Int) := by have := hR.len; omega
  generalize f n = x at e1 ⊢
  obtain ⟨xt, xto, xfr, xsq, xkd, xdt⟩ := x; unfold EvAt at e1; unfold Evt.v; dsimp only at e1 ⊢; obtain ⟨p0, p1, p2, p3, p4, p5⟩ := e1
  have i1 : IntKind.i64.wrap (((n + 1 : Nat) : Int) - 1) = (n : Int) := by rw [show ((n + 1 : Nat) : Int) - 1 = (n : Int) by omega]; exact IntWalk.i64_in _ (by omega)
  have l1 : (n : Int) < ((n + 1 : Nat) : Int) := by omega
  have l2 : (0 : Int) ≤ (n : Int) := by omega
  clear hR
  go_enter Tryz.func314, Tryz.ntmps314
  go_wp2; go_ret
  exact ⟨rfl, _, rfl⟩
theorem perm_pop {f F : Nat → Evt} {n : Nat} (ha : Arr (swp f 0 n) F 0 n (n + 1)) : (f 0 :: (List.range n).map F).Perm ((List.range (n + 1)).map f) := by
  have h1 : ((List.range (n + 1)).map f).Perm ((List.range (n + 1)).map (swp f 0 n)) := by
    by_cases h0 : n = 0
    · subst h0
      simp [swp]
    · exact swp_perm f (i := 0) (j := n) (by omega) (n + 1) (by omega)
  have h2 := ha.perm
  have h3 : F n = f 0 := by rw [ha.out n (.inr (by omega)), swp_r]
  have h4 : (List.range (n + 1)).map F = (List.range n).map F ++ [f 0] := by rw [List.range_succ, List.map_append, List.map_singleton, h3]
  rw [h4] at h2
  exact (List.perm_append_singleton (f 0) ((List.range n).map F)).symm.trans (h1.trans h2).symm
/-- What Pop gives. -/
def PopPost (lo p o g n c : Nat) (f : Nat → Evt) (w : World) (x : Ending) (w' : World) : Prop :=
  x = .returned (.iface 130 (f 0).v) ∧ ∃ F, Hp w' lo g n c F ∧ HeapF F n ∧ w'.cell? ⟨p, o, none⟩ = some (.slice (some ⟨g, 0, none⟩) n c) ∧ (f 0 :: (List.range n).map F).Perm ((List.range (n + 1)).map f) ∧ HS p o g w w'
set_option maxHeartbeats 8000000 in
theorem hpPop_any (lo p o g n c : Nat) (f : Nat → Evt) (w : World) (hR : Hp w lo g (n + 1) c f) (hH : HeapF f (n + 1)) (hp : p ≠ g) (hc : w.cell? ⟨p, o, none⟩ = some (.slice (some ⟨g, 0, none⟩) (n + 1) c)) (hf : w.frozen? ⟨p, o, none⟩ = false) (hl : p < w.heap.size) (hn : n + 1 ≤ 2000000) :
    Calls Tryz.prog 165 #[.iface 226 (.pointer (some ⟨p, o, none⟩))] w (PopPost lo p o g n c f w) := by
  have HR := Lib.hid hR
  have HH := Lib.hid hH
  clear hR hH
  have i1 : IntKind.i64.wrap (((n + 1 : Nat) : Int) - 1) = (n : Int) := by rw [show ((n + 1 : Nat) : Int) - 1 = (n : Int) by omega]; exact IntWalk.i64_in _ (by omega)
  have SW := Lib.hid (show Calls Tryz.prog 312 #[.slice (some ⟨g, 0, none⟩) (n + 1) c, .int .i64 0, .int .i64 (n : Int)] w fun x w' => x = .returned (.tuple #[]) ∧ Hp w' lo g (n + 1) c (swp f 0 n) ∧ Mv g w w' from by
    by_cases h0 : n = 0
    · subst h0
      exact (hpSwap_one g 1 c 0 f w lo HR.out (by omega)).mono fun x w' h => ⟨h.1, h.2.1.as_ (fun k hk => (by have hk0 : k = 0 := (by omega); rw [hk0]; simp [swp])), h.2.2⟩
    · exact hpSwap_any g (n + 1) c 0 n f w lo HR.out (by omega) (by omega))
  have ML := fun N => meth_len N p o _ (n + 1) c w hc hl
  have MW := fun N => meth_swap N p o _ (n + 1) c w hc hl
  have MP := fun N W => meth_pop N p o W
  go_enter Tryz.func165, Tryz.ntmps165
  go_wp2_with fail
  refine (hpLen_any _ (n + 1) c w).mono ?_; rintro x w1 ⟨rfl, hw⟩; rw [hw]
  go_wp2_with fail
  refine SW.out.mono ?_; rintro x w2 ⟨rfl, h2, m2⟩
  have H2 := Lib.hid h2
  have M2 := Lib.hid m2
  have hc2 : w2.cell? ⟨p, o, none⟩ = some (.slice (some ⟨g, 0, none⟩) (n + 1) c) := (m2.cells _ _ hl hp).trans hc
  have hl2 : p < w2.heap.size := Nat.lt_of_lt_of_le hl m2.size
  clear h2 m2 ML MW
  go_wp2_with fail
  refine (hpDn_any lo p o g (n + 1) c n (swp f 0 n) w2 H2.out hp hc2 hl2 (by omega) hn (DownF.start HH.out)).mono ?_; rintro x w3 ⟨⟨bb, rfl⟩, ⟨F, h3, ha, hh⟩, m3⟩
  have H3 := Lib.hid h3
  have HA := Lib.hid ha
  have HF := Lib.hid hh
  have M3 := Lib.hid (M2.out.trans m3)
  have hc3 : w3.cell? ⟨p, o, none⟩ = some (.slice (some ⟨g, 0, none⟩) (n + 1) c) := (m3.cells _ _ hl2 hp).trans hc2
  have hl3 : p < w3.heap.size := Nat.lt_of_lt_of_le hl2 m3.size
  have hf3 : w3.frozen? ⟨p, o, none⟩ = false := by have := (HS.of_mv (o := o) M3.out hp hl).pfz o; rw [this]; exact hf
  clear h3 ha hh m3
  go_wp2_with fail
  refine (hpPopM_any lo p o g n c F w3 H3.out hp hc3 hf3 hl3 (by omega)).mono ?_; rintro x w5 ⟨rfl, ob, rfl⟩
  have hF : F n = f 0 := by rw [HA.out.out n (.inr (by omega)), swp_r]
  have ua := (Up.refl (w3.setCell ⟨p, o, none⟩ (.slice (some ⟨g, 0, none⟩) n c))).alloc ob
  have RES := Lib.hid (show PopPost lo p o g n c f w (.returned (.iface 130 (f 0).v)) ((w3.setCell ⟨p, o, none⟩ (.slice (some ⟨g, 0, none⟩) n c)).alloc ob) from ⟨rfl, F, ((H3.out.mv (b := p) ((Mv.refl p _).setCell _) (Ne.symm hp)).up ua).less (by omega), HF.out, (ua.cells _ _ (by simpa using hl3)).trans (World.cell?_setCell_same _ _ _ hc3), perm_pop HA.out, ((HS.of_mv M3.out hp hl).set _).up ua hl⟩)
  go_wp2; go_ret
  exact RES.out
end Go.Proofs.YtlikekmhccnilaaGreat

namespace Go.Proofs.YtlikekmhccnilaaGreat
set_option maxRecDepth 100000
open Go.RowKit
theorem ev1_new (w : World) (et eto efr esq ekd edt : Int) (t : TypeId) : Reads (w.alloc (.cells #[.int .i64 et, .int .i64 eto, .int .i64 efr, .int .i64 esq, .int .i64 ekd, .int .i64 edt] t)) (w.alloc (.cells #[.int .i64 et, .int .i64 eto, .int .i64 efr, .int .i64 esq, .int .i64 ekd, .int .i64 edt] t)).heap.size 6 (some ⟨w.heap.size, 0, none⟩) 1 (flat [⟨et, eto, efr, esq, ekd, edt⟩]) := by
  have hB := Box.new w ⟨et, eto, efr, esq, ekd, edt⟩ t
  have hb := hB.lt
  obtain ⟨⟨c0, c1, c2, c3, c4, c5⟩, _⟩ := hB.mk6; refine ⟨by rw [flat_len]; simp, fun _ => ⟨_, rfl, hb, fun j u hu => ?_⟩⟩; rw [Addr.add_lit, Nat.zero_add]
  have hu : [Value.int .i64 et, .int .i64 eto, .int .i64 efr, .int .i64 esq, .int .i64 ekd, .int .i64 edt][j]? = some u := hu
  have hj : j < 6 := (List.getElem?_eq_some_iff.1 hu).1
  have h6 : j = 0 ∨ j = 1 ∨ j = 2 ∨ j = 3 ∨ j = 4 ∨ j = 5 := by omega
  rcases h6 with rfl | rfl | rfl | rfl | rfl | rfl <;> (injection hu with hu; subst hu; assumption)
theorem mv_of_grown {w w' : World} {g n c : Nat} (h : w.grownBy w' (Value.slice (some ⟨g, 0, none⟩) n c).ownBlock) : Mv g w w' :=
  ⟨h.os, h.tape, h.output, h.size, fun k hk hne => h.block k hk (fun e => hne (by injection e))⟩
theorem HS.refl (p o g : Nat) (w : World) : HS p o g w w := ⟨rfl, rfl, rfl, Nat.le_refl _, fun _ _ _ _ => rfl, fun _ _ => rfl, fun _ => rfl⟩
/-- Changed are block g and cell o of block p alone, of the blocks that were there. -/
structure HS2 (p o g : Nat) (w w' : World) : Prop where
  os : w'.os = w.os
  tape : w'.tape = w.tape
  output : w'.output = w.output
  size : w.heap.size ≤ w'.heap.size
  block : ∀ k, k < w.heap.size → k ≠ p → k ≠ g → w'.heap[k]? = w.heap[k]?
  pcell : ∀ j, j ≠ o → w'.cell? ⟨p, j, none⟩ = w.cell? ⟨p, j, none⟩
  pfz : ∀ j, w'.frozen? ⟨p, j, none⟩ = w.frozen? ⟨p, j, none⟩
theorem HS2.mk' {p o g g1 : Nat} {w w1 w2 : World} (h : HS p o g w w1) (m : Mv g1 w1 w2) (hg : g1 = g ∨ w.heap.size ≤ g1) (hl : p < w1.heap.size) (hp : p ≠ g1) : HS2 p o g w w2 :=
  ⟨m.os.trans h.os, m.tape.trans h.tape, m.output.trans h.output, Nat.le_trans h.size m.size, fun k hk h1 h2 => (m.block k (Nat.lt_of_lt_of_le hk h.size) (by omega)).trans (h.block k hk h1 h2), fun j hj => (m.cells _ _ hl hp).trans (h.pcell j hj), fun j => (m.frozens _ _ hl hp).trans (h.pfz j)⟩
theorem perm_snoc (f : Nat → Evt) (e : Evt) (n : Nat) : ((List.range (n + 1)).map (fun i => if i < n then f i else e)).Perm (e :: (List.range n).map f) := by
  have h1 : (List.range n).map (fun i => if i < n then f i else e) = (List.range n).map f := List.map_congr_left (fun x hx => by have := List.mem_range.1 hx; simp [this])
  have h2 : (List.range (n + 1)).map (fun i => if i < n then f i else e) = (List.range n).map f ++ [e] := by rw [List.range_succ, List.map_append, h1]; simp
  rw [h2]
  exact List.perm_append_singleton e _
theorem push_fin {lo p o g n c g6 c6 : Nat} {f : Nat → Evt} {e : Evt} {w X w6 : World} (u0 : Up w X) (hl : p < w.heap.size) (hpg : p ≠ g)
    (ho6 : w6.ownsRow lo 130 6 (.slice (some ⟨g6, 0, none⟩) (n + 1) c6) (n + 1) (flat ((List.range n).map f) ++ flat [e])) (m6 : Mv g X w6)
    (hv6 : (Value.slice (some ⟨g6, 0, none⟩) (n + 1) c6).ownBlock = (Value.slice (some ⟨g, 0, none⟩) n c).ownBlock ∨ (Value.slice (some ⟨g6, 0, none⟩) (n + 1) c6).ownBlock = some X.heap.size)
    (hc6 : w6.cell? ⟨p, o, none⟩ = some (.slice (some ⟨g, 0, none⟩) n c)) :
    ∃ g' c', Hp (w6.setCell ⟨p, o, none⟩ (.slice (some ⟨g6, 0, none⟩) (n + 1) c6)) lo g' (n + 1) c' (fun i => if i < n then f i else e) ∧ (w6.setCell ⟨p, o, none⟩ (.slice (some ⟨g6, 0, none⟩) (n + 1) c6)).cell? ⟨p, o, none⟩ = some (.slice (some ⟨g', 0, none⟩) (n + 1) c') ∧ (g' = g ∨ w.heap.size ≤ g') ∧ HS p o g w (w6.setCell ⟨p, o, none⟩ (.slice (some ⟨g6, 0, none⟩) (n + 1) c6)) := by
  rw [← flat_app] at ho6
  have h1 := Hp.of_own ho6 (by omega)
  have hp6 : p ≠ g6 := by
    have hs := u0.size
    rcases hv6 with h | h
    · injection h with h
      have h : g6 = g := h
      omega
    · injection h with h
      have h : g6 = X.heap.size := h
      omega
  refine ⟨g6, c6, (h1.as_ (fun i hi => ?_)).mv (b := p) ((Mv.refl p _).setCell _) (Ne.symm hp6), World.cell?_setCell_same _ _ _ hc6, ?_, ((((HS.refl p o g w).up u0 hl).trans (HS.of_mv m6 hpg (Nat.lt_of_lt_of_le hl u0.size)))).set _⟩
  · by_cases h : i < n
    · rw [if_pos h]
      simp [List.getD, List.getElem?_append, h]
    · rw [if_neg h]
      have : i = n := by omega
      subst this; simp [List.getD]
  · have hs := u0.size
    rcases hv6 with h | h
    · injection h with h
      exact .inl h
    · injection h with h
      have h : g6 = X.heap.size := h
      exact .inr (by omega)
/-- What the method Push gives: a list with one event more. -/
def PushMPost (lo p o g n : Nat) (f : Nat → Evt) (e : Evt) (w : World) (x : Ending) (w' : World) : Prop :=
  x = .returned (.tuple #[]) ∧ ∃ g' c', Hp w' lo g' (n + 1) c' (fun i => if i < n then f i else e) ∧ w'.cell? ⟨p, o, none⟩ = some (.slice (some ⟨g', 0, none⟩) (n + 1) c') ∧ (g' = g ∨ w.heap.size ≤ g') ∧ HS p o g w w'
set_option maxHeartbeats 8000000 in
theorem hpPushM_any (lo p o g n c : Nat) (f : Nat → Evt) (e : Evt) (w : World) (hR : Hp w lo g n c f) (hpg : p ≠ g) (hl : p < w.heap.size) (hc : w.cell? ⟨p, o, none⟩ = some (.slice (some ⟨g, 0, none⟩) n c)) (hf : w.frozen? ⟨p, o, none⟩ = false) (hlo : lo ≤ w.heap.size) (hn : n ≤ 1500000) :
    Calls Tryz.prog 315 #[.pointer (some ⟨p, o, none⟩), .iface 130 e.v] w (PushMPost lo p o g n f e w) := by
  obtain ⟨i0, hi0, hz0, hz1, hz2⟩ := info_parts info130
  have INF := Lib.hid (And.intro hi0 (And.intro hz0 (And.intro hz1 hz2)))
  have SIX := Lib.hid (show 0 < 6 by omega)
  clear hi0 hz0 hz1 hz2
  have HR := Lib.hid hR
  have HF := Lib.hid hf
  have OW := Lib.hid hR.own
  obtain ⟨et, eto, efr, esq, ekd, edt⟩ := e; unfold Evt.v; dsimp only; clear hR hf
  have OWB := Lib.hid (own_up OW.out ((Up.refl w).alloc (.cells #[.int .i64 et, .int .i64 eto, .int .i64 efr, .int .i64 esq, .int .i64 ekd, .int .i64 edt] 130)))
  have RDX := Lib.hid (ev1_new w et eto efr esq ekd edt 130)
  have HMX := Lib.hid (show n + 1 ≤ maxLen by simp only [maxLen]; omega)
  have HBY := Lib.hid (show (n + 1) * 48 ≤ 140737488355328 by omega)
  have HBS := Lib.hid (show lo ≤ (w.alloc (.cells #[.int .i64 et, .int .i64 eto, .int .i64 efr, .int .i64 esq, .int .i64 ekd, .int .i64 edt] 130)).heap.size by simp; omega)
  have TA := fun W : World => (show (Instr.typeAssert (.iface 130 (.agg #[.int .i64 et, .int .i64 eto, .int .i64 efr, .int .i64 esq, .int .i64 ekd, .int .i64 edt])) 20 130 false).run Tryz.prog W = .ok (.agg #[.int .i64 et, .int .i64 eto, .int .i64 efr, .int .i64 esq, .int .i64 ekd, .int .i64 edt]) W from rfl)
  go_enter Tryz.func315, Tryz.ntmps315
  go_wp2_with fail
  go_region_law (refine wp_append_any _ (.tmp 7) (.tmp 10) 222 rfl lo 130 i0 _ 6 48 Tryz.underlying222 INF.out.1 INF.out.2.1 INF.out.2.2.1 INF.out.2.2.2 rfl SIX.out (.slice (some ⟨g, 0, none⟩) n c) n (flat ((List.range n).map f)) (by go_simp) (own_up OWB.out (Up.refl _).drew) _ (some ⟨w.heap.size, 0, none⟩) 1 1 (flat [⟨et, eto, efr, esq, ekd, edt⟩]) (by go_simp) RDX.out (flat_one _) HMX.out HBY.out HBS.out ?_; intro v6 w6 ho6 hg6 hv6; obtain ⟨g6, c6, rfl, hgb6, hlt6⟩ := ho6.form (by omega); have u0 := ((Up.refl w).alloc (.cells #[.int .i64 et, .int .i64 eto, .int .i64 efr, .int .i64 esq, .int .i64 ekd, .int .i64 edt] 130)).drew; have m6 := mv_of_grown hg6; have hc6 := (m6.cells p o (Nat.lt_of_lt_of_le hl u0.size) hpg).trans ((u0.cells p o hl).trans hc); have hf6 := (m6.frozens p o (Nat.lt_of_lt_of_le hl u0.size) hpg).trans ((u0.frozens p o hl).trans HF.out); have hl6 := Nat.lt_of_lt_of_le (Nat.lt_of_lt_of_le hl u0.size) m6.size)
  all_goals exact bodyPost_end (v := .tuple #[]) (results_none Tryz.results315 _ _ _) rfl ⟨rfl, push_fin u0 hl hpg ho6 m6 hv6 hc6⟩
/-- What Push gives: a heap with one event more. -/
def PushPost (lo p o g n : Nat) (f : Nat → Evt) (e : Evt) (w : World) (x : Ending) (w' : World) : Prop :=
  x = .returned (.tuple #[]) ∧ ∃ g' c' F, Hp w' lo g' (n + 1) c' F ∧ HeapF F (n + 1) ∧ w'.cell? ⟨p, o, none⟩ = some (.slice (some ⟨g', 0, none⟩) (n + 1) c') ∧ (g' = g ∨ w.heap.size ≤ g') ∧ ((List.range (n + 1)).map F).Perm (e :: (List.range n).map f) ∧ HS2 p o g w w'
set_option maxHeartbeats 8000000 in
theorem hpPush_any (lo p o g n c : Nat) (f : Nat → Evt) (e : Evt) (w : World) (hR : Hp w lo g n c f) (hH : HeapF f n) (hpg : p ≠ g) (hl : p < w.heap.size) (hc : w.cell? ⟨p, o, none⟩ = some (.slice (some ⟨g, 0, none⟩) n c)) (hf : w.frozen? ⟨p, o, none⟩ = false) (hlo : lo ≤ w.heap.size) (hn : n ≤ 1500000) :
    Calls Tryz.prog 167 #[.iface 226 (.pointer (some ⟨p, o, none⟩)), .iface 130 e.v] w (PushPost lo p o g n f e w) := by
  have HH := Lib.hid hH
  have CP := Lib.hid (hpPushM_any lo p o g n c f e w hR hpg hl hc hf hlo hn)
  have i1 : IntKind.i64.wrap (((n + 1 : Nat) : Int) - 1) = (n : Int) := by rw [show ((n + 1 : Nat) : Int) - 1 = (n : Int) by omega]; exact IntWalk.i64_in _ (by omega)
  have MP := fun N W => meth_push N p o W
  clear hR hH; unfold PushMPost at CP
  go_enter Tryz.func167, Tryz.ntmps167
  go_wp2_with fail
  refine CP.out.mono ?_; rintro x w1 ⟨rfl, g1, c1, h1, hc1, hg1, hs1⟩
  have H1 := Lib.hid h1
  have S1 := Lib.hid hs1
  have G1 := Lib.hid hg1
  have hl1 : p < w1.heap.size := Nat.lt_of_lt_of_le hl hs1.size
  have hpg1 : p ≠ g1 := by rcases hg1 with h | h <;> omega
  clear h1 hs1 hg1 MP
  have ML := fun N => meth_len N p o _ (n + 1) c1 w1 hc1 hl1
  go_wp2_with fail
  refine (hpLen_any _ (n + 1) c1 w1).mono ?_; rintro x w2 ⟨rfl, hw⟩; rw [hw]
  go_wp2_with fail
  refine (hpUp_any lo p o g1 (n + 1) c1 n (fun i => if i < n then f i else e) w1 H1.out hpg1 hc1 hl1 (by omega) (by omega) (UpF.start (fun i h0 hi => by have := HH.out i h0 hi; rw [if_pos hi, if_pos (by omega)]; exact this))).mono ?_; rintro x w3 ⟨rfl, ⟨F, h3, ha, hh⟩, m3⟩
  have RES := Lib.hid (show PushPost lo p o g n f e w (.returned (.tuple #[])) w3 from ⟨rfl, g1, c1, F, h3, hh, (m3.cells _ _ hl1 hpg1).trans hc1, G1.out, (ha.perm.symm.trans (perm_snoc f e n)), HS2.mk' S1.out m3 G1.out hl1 hpg1⟩)
  go_wp2
  exact bodyPost_end (v := .tuple #[]) (results_none Tryz.results167 _ _ _) rfl RES.out
end Go.Proofs.YtlikekmhccnilaaGreat

namespace Go.Proofs.YtlikekmhccnilaaGreat
set_option maxRecDepth 100000
open Go.RowKit
def markAt (i : Nat) : Evt := ⟨1 + 6 * i, 1 + 6 * i + 1, 1 + 6 * i + 1 + 1, 1 + 6 * i + 1 + 1 + 1, 1 + 6 * i + 1 + 1 + 1 + 1, 1 + 6 * i + 1 + 1 + 1 + 1 + 1⟩
def marks (n : Nat) : List Evt := (List.range n).map markAt
end Go.Proofs.YtlikekmhccnilaaGreat

namespace Go.Proofs.YtlikekmhccnilaaGreat
set_option maxRecDepth 100000
open Go.RowKit
theorem made_cell (w : World) (z : Array Value) (N : Nat) (t : TypeId) (j : Nat) (hj : j < N) : (∃ v, (w.alloc (.cells (madeCells z N) t)).cell? ⟨w.heap.size, j, none⟩ = some v) ∧ (w.alloc (.cells (madeCells z N) t)).frozen? ⟨w.heap.size, j, none⟩ = false := by
  have hh := heap_alloc_new w (.cells (madeCells z N) t)
  refine ⟨?_, ?_⟩
  · rw [cell_of_row _ _ j _ _ _ hh]
    have : j < (madeCells z N).size := by rw [size_madeCells]; exact hj
    exact ⟨_, Array.getElem?_eq_getElem this⟩
  · unfold World.frozen?
    rw [hh]; simp
theorem Part.begin (w : World) (n : Nat) (t : TypeId) (es : List Evt) : Part (w.alloc (.cells (madeCells #[.int .i64 0, .int .i64 0, .int .i64 0, .int .i64 0, .int .i64 0, .int .i64 0] (n * 6)) t)) w.heap.size n 0 es :=
  ⟨by simp, fun i hi => absurd hi (by omega), fun j hj => made_cell w _ _ t j hj⟩
end Go.Proofs.YtlikekmhccnilaaGreat

namespace Go.Proofs.YtlikekmhccnilaaGreat
set_option maxRecDepth 100000
open Go.RowKit
theorem toSnd_any (e : Evt) (w : World) :
    Calls Tryz.prog 270 #[e.v] w fun x w' => x = .returned e.v ∧ Up w w' := by
  obtain ⟨et, eto, efr, esq, ekd, edt⟩ := e; unfold Evt.v; dsimp only
  go_enter Tryz.func270, Tryz.ntmps270
  go_wp2; refine bodyPost_ret (v := .agg #[.int .i64 et, .int .i64 eto, .int .i64 efr, .int .i64 esq, .int .i64 ekd, .int .i64 edt]) (by simp [results, Tryz.results270, go_sem]) rfl ⟨rfl, (((Up.refl _).alloc _).alloc _).alloc _⟩
end Go.Proofs.YtlikekmhccnilaaGreat

namespace Go.Proofs.YtlikekmhccnilaaGreat
set_option maxRecDepth 100000
open Go.RowKit
theorem info274 : (Tryz.prog.info? 274).map (fun i => (i.zero, i.size, i.bytes)) = some (some (.agg #[.int .i64 0, .int .i64 0, .int .i64 0, .int .i64 0, .int .i64 0, .int .i64 0]), 6, 48) := by kernel_rfl
set_option maxHeartbeats 1000000 in
theorem toSndS_any (A : Option Addr) (n cap : Nat) (es : List Evt) (w : World) (hn : n ≤ 1000000000) (hE : Evs w A n es) :
    Calls Tryz.prog 255 #[.slice A n cap] w (NewEvs es n w) := by
  obtain ⟨i0, hi, hz0, hz1, hz2⟩ := info_parts info274
  have hmk := fun W => run_make_rowN (P := Tryz.prog) 208 274 i0 _ Tryz.underlying208 hi hz0 .i64 .i64 n n (Nat.le_refl _) (by rw [hz2]; omega) (by omega) W
  rw [hz1] at hmk
  have HE := Lib.hid hE
  have LE := Lib.hid hE.1
  have CL := Lib.hid (fun a W => toSnd_any a W)
  clear hE hi hz0 hz1 hz2
  go_enter Tryz.func255, Tryz.ntmps255
  go_wp2
  generalize hg : w.heap.size = g
  have HG := Lib.hid (Nat.le_of_eq hg)
  go_loopw [4] (fun i wr => (∃ k : Nat, k ≤ n ∧ i = .int .i64 k ∧ Part wr g n k es) ∧ Up w wr) (fun i _ => n - (intOf i).toNat)
  case atStart =>
    refine ⟨⟨0, by omega, rfl, ?_⟩, (Up.refl _).alloc _⟩; subst hg
    exact Part.begin w n _ es
  case round =>
    obtain ⟨⟨k, hk, rfl, hp⟩, ur⟩ := hrel
    by_cases hlt : k < n
    · obtain ⟨b, off, hA, hb, hc⟩ := HE.out.2 (by omega)
      subst hA
      have a0 := (hc k hlt).up ur hb
      have hb' : b < wr.heap.size := by have := ur.size; omega
      clear hc
      have cl := CL.out (es.getD k default)
      have HP := Lib.hid hp
      clear hp
      generalize hpk : es.getD k default = p at a0 cl
      obtain ⟨pt, pto, pfr, psq, pkd, pdt⟩ := p
      have HE' := Lib.hid hpk
      clear hpk; unfold EvAt at a0; unfold Evt.v at cl; dsimp only at a0 cl; obtain ⟨p0, p1, p2, p3, p4, p5⟩ := a0
      have C := Lib.hid cl
      clear cl
      have i4 : (k : Int) < n := by omega
      go_wp2_with fail
      refine (C.out _).mono ?_; rintro x wA ⟨rfl, uA⟩
      have P := HP.out.up uA
      obtain ⟨⟨v0, c0⟩, f0⟩ := P.2.2 (k * 6) (by omega); obtain ⟨⟨v1, c1⟩, f1⟩ := P.2.2 (k * 6 + 1) (by omega); obtain ⟨⟨v2, c2⟩, f2⟩ := P.2.2 (k * 6 + 2) (by omega); obtain ⟨⟨v3, c3⟩, f3⟩ := P.2.2 (k * 6 + 3) (by omega); obtain ⟨⟨v4, c4⟩, f4⟩ := P.2.2 (k * 6 + 4) (by omega); obtain ⟨⟨v5, c5⟩, f5⟩ := P.2.2 (k * 6 + 5) (by omega)
      have HP2 := Lib.hid P
      clear P p0 p1 p2 p3 p4 p5; go_wp2
      go_roundw
      case rel =>
        have hq := HP2.out.put HE'.out hlt
        have hu := (ur.trans uA).putEv (b := g) (o := k * 6) (e := ⟨pt, pto, pfr, psq, pkd, pdt⟩) HG.out
        unfold putEv at hq hu
        exact ⟨⟨k + 1, by omega, by go_num, hq⟩, hu⟩
      case measure => simp [intOf]; omega
    · have HP := Lib.hid hp
      clear hp; go_wp2; go_ret
      exact ⟨g, rfl, by omega, HP.out.own LE.out (by omega), ur⟩
end Go.Proofs.YtlikekmhccnilaaGreat

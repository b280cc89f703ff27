/-
  Two conservative simulations with the same values, in one sentence: the laws' comparison says that they are equal; for every two that lie in memory.
  What FnExactCmbNew returns, in one sentence: true, with new blocks alone; for every model that lies in memory.
-/
import Derived.Deep.RegionHeld3
import Derived.Test.YtipjcjjjkkaigaaDLEcbn01
import Derived.Test.YtipjcjjjkkaigaaDLEcbn02
import Derived.Test.YtipjcjjjkkaigaaDLEcbn03
import Derived.Test.YtipjcjjjkkaigaaDLEcbn04
import Derived.Test.YtipjcjjjkkaigaaDLEcbn05
import Derived.Test.YtipjcjjjkkaigaaDLEcbn07
import Derived.Test.YtipjcjjjkkaigaaDLEcbn08
import Derived.Test.YtipjcjjjkkaigaaDLEcbn09
import Derived.Test.YtipjcjjjkkaigaaDLEcbn13
import Derived.Test.YtipjcjjjkkaigaaDLEcbn15
namespace Go.Proofs.Ytipjcjjjkkaigaa
set_option maxRecDepth 100000
open Go.RowKit
theorem eqNms_same (A B : Option Addr) (n capa capb : Nat) (zs : List Int) (w : World) (hn : n ≤ 1000000000) (hE : Nms w A n zs) (hF : Nms w B n zs) :
    Calls Try.prog 143 #[.slice A n capa, .slice B n capb] w fun x w' => x = .returned (.bool true) ∧ Up w w' := by
  have HE := Lib.hid hE
  have HF := Lib.hid hF
  clear hE hF
  go_enter Try.func143, Try.ntmps143
  go_wp2
  go_loopw [5] (fun i wr => (∃ k : Nat, k ≤ n ∧ i = .int .i64 k) ∧ Up w wr) (fun i _ => n - (intOf i).toNat)
  case atStart => exact ⟨⟨0, by omega, rfl⟩, Up.refl _⟩
  case round =>
    obtain ⟨⟨k, hk, rfl⟩, ur⟩ := hrel
    by_cases hlt : k < n
    · obtain ⟨b, off, hA, hb, hc⟩ := (HE.out.up ur).2 (by omega)
      obtain ⟨b2, off2, hA2, hb2, hc2⟩ := (HF.out.up ur).2 (by omega); subst hA hA2
      have p0 := hc k hlt
      have q0 := hc2 k hlt
      clear hc hc2
      generalize zs.getD k 0 = z at p0 q0
      have bz : (z != z) = false := by simp
      have UR := Lib.hid ur
      have i4 : (k : Int) < n := by omega
      have i5 : IntKind.i64.wrap ((k : Int) + 1) = (k : Int) + 1 := IntWalk.i64_in _ (by omega)
      go_wp2_with fail
      refine region_qw (by kernel_rfl) (by kernel_rfl) ?_; refine qWalk_step ?_; intro K hK; go_simp; apply Exists.intro; refine And.intro ?_ ?_
      · intro w1 hw1
        try go_simp
        try rfl
      try go_simp
      refine hK _ ?_; clear hK K; refine qWalk_step ?_; intro K hK; go_simp; apply Exists.intro; refine And.intro ?_ ?_
      · intro w1 hw1
        try go_simp
        try rfl
      try go_simp
      refine hK _ ?_; clear hK K; refine qWalk_step ?_; intro K hK; go_simp; apply Exists.intro; refine And.intro ?_ ?_
      · intro w1 hw1
        try go_simp
        try rfl
      try go_simp
      refine hK _ ?_; clear hK K; refine qWalk_step ?_; intro K hK; go_simp; apply Exists.intro; refine And.intro ?_ ?_
      · intro w1 hw1
        obtain ⟨hc, hf, hz⟩ := hw1.facts
        try simp at hz
        try go_simp
        try rfl
      try go_simp
      refine hK _ ?_; clear hK K; refine qWalk_step ?_; intro K hK; go_simp; apply Exists.intro; refine And.intro ?_ ?_
      · intro w1 hw1
        try go_simp
        try rfl
      try go_simp
      refine hK _ ?_; clear hK K; refine qWalk_step ?_; intro K hK; go_simp; apply Exists.intro; refine And.intro ?_ ?_
      · intro w1 hw1
        try go_simp
        try rfl
      try go_simp
      refine hK _ ?_; clear hK K; refine qWalk_step ?_; intro K hK; go_simp; apply Exists.intro; refine And.intro ?_ ?_
      · intro w1 hw1
        try go_simp
        try rfl
      try go_simp
      refine hK _ ?_; clear hK K; refine qWalk_step ?_; intro K hK; go_simp; apply Exists.intro; refine And.intro ?_ ?_
      · intro w1 hw1
        obtain ⟨hc, hf, hz⟩ := hw1.facts
        try simp at hz
        try go_simp
        try rfl
      try go_simp
      refine hK _ ?_; clear hK K; refine qWalk_step ?_; intro K hK; go_simp; apply Exists.intro; refine And.intro ?_ ?_
      · intro w1 hw1
        try go_simp
        try rfl
      try go_simp
      refine hK _ ?_; clear hK K; refine qWalk_nil ?_; intro wA uA
      have UA := Lib.hid (UR.out.trans uA)
      clear uA; go_wp2
      go_roundw
      case rel => exact ⟨⟨k + 1, by omega, by go_num⟩, UA.out⟩
      case measure => simp [intOf]; omega
    · obtain rfl : k = n := by omega
      have i4 : ¬ (k : Int) < k := by omega
      go_wp2; go_ret
      exact ⟨rfl, ur⟩
theorem eqCst1_any (a : Cst) (w : World) : Calls Try.prog 45 #[a.v, a.v] w fun x w' => x = .returned (.bool true) ∧ Up w w' := by
  obtain ⟨a0, a1, a2⟩ := a; unfold Cst.v
  have b0 : (a0 != a0) = false := by simp
  have b1 : (a1 != a1) = false := by simp
  have b2 : (a2 != a2) = false := by simp
  go_enter Try.func45, Try.ntmps45
  go_wp2; go_ret
  exact ⟨rfl, ((Up.refl w).alloc _).alloc _⟩
set_option maxHeartbeats 4000000 in
theorem eqCh_same (h : Ch) (A : Option Addr) (n c : Nat) (B : Option Addr) (k d : Nat) (A' : Option Addr) (c' : Nat) (B' : Option Addr) (d' : Nat) (w : World) (hn : n ≤ 1000000) (hk : k ≤ 1000000)
    (h1 : Evs w A n h.wait) (h2 : Nms w B k h.ins) (h3 : Evs w A' n h.wait) (h4 : Nms w B' k h.ins) :
    Calls Try.prog 112 #[.agg #[.int .i64 h.now.s, .int .i64 h.now.sq, .int .i64 h.now.ct, .slice A n c, .slice B k d], .agg #[.int .i64 h.now.s, .int .i64 h.now.sq, .int .i64 h.now.ct, .slice A' n c', .slice B' k d']] w fun x w' => x = .returned (.bool true) ∧ Up w w' := by
  have C0 := Lib.hid (fun W => eqCst1_any h.now W)
  have C1 := Lib.hid (fun W (u : Up w W) => decide_eq_true (rfl : h.wait = h.wait) ▸ eqS_any A A' n n c c' h.wait h.wait W (by omega) (h1.up u) (h3.up u))
  have C2 := Lib.hid (fun W (u : Up w W) => eqNms_same B B' k d d' h.ins W (by omega) (h2.up u) (h4.up u))
  unfold Cst.v at C0
  have Y2 := Lib.hid ((Blk.new w #[.int .i64 h.now.s, .int .i64 h.now.sq, .int .i64 h.now.ct, .slice A n c, .slice B k d] 129).alloc (.cells #[.int .i64 h.now.s, .int .i64 h.now.sq, .int .i64 h.now.ct, .slice A' n c', .slice B' k d'] 129))
  have Y3 := Lib.hid (Blk.new (w.alloc (.cells #[.int .i64 h.now.s, .int .i64 h.now.sq, .int .i64 h.now.ct, .slice A n c, .slice B k d] 129)) #[.int .i64 h.now.s, .int .i64 h.now.sq, .int .i64 h.now.ct, .slice A' n c', .slice B' k d'] 129)
  simp only [World.size_alloc] at Y3
  have U := Lib.hid (((Up.refl w).alloc (.cells #[.int .i64 h.now.s, .int .i64 h.now.sq, .int .i64 h.now.ct, .slice A n c, .slice B k d] 129)).alloc (.cells #[.int .i64 h.now.s, .int .i64 h.now.sq, .int .i64 h.now.ct, .slice A' n c', .slice B' k d'] 129))
  clear h1 h2 h3 h4
  generalize h.now.s = z0 at *
  generalize h.now.sq = z1 at *
  generalize h.now.ct = z2 at *
  go_enter Try.func112, Try.ntmps112
  go_wp2_with fail
  refine (C0.out _).mono ?_; rintro x w1 ⟨rfl, u1⟩
  replace Y2 := Lib.hid (Y2.out.up u1)
  replace Y3 := Lib.hid (Y3.out.up u1)
  replace U := Lib.hid (U.out.trans u1)
  clear u1
  have x3 := Y2.out.cell (j := 3) rfl
  have x4 := Y2.out.cell (j := 4) rfl
  have y3 := Y3.out.cell (j := 3) rfl
  have y4 := Y3.out.cell (j := 4) rfl
  have lx := Y2.out.lt
  have ly := Y3.out.lt
  go_wp2_with fail
  refine (C1.out _ U.out).mono ?_; rintro x w2 ⟨rfl, u2⟩
  replace Y2 := Lib.hid (Y2.out.up u2)
  replace Y3 := Lib.hid (Y3.out.up u2)
  replace U := Lib.hid (U.out.trans u2)
  clear u2 x3 x4 y3 y4 lx ly
  have x3 := Y2.out.cell (j := 3) rfl
  have x4 := Y2.out.cell (j := 4) rfl
  have y3 := Y3.out.cell (j := 3) rfl
  have y4 := Y3.out.cell (j := 4) rfl
  have lx := Y2.out.lt
  have ly := Y3.out.lt
  go_wp2_with fail
  refine (C2.out _ U.out).mono ?_; rintro x w3 ⟨rfl, u3⟩; go_wp2; go_ret
  exact ⟨rfl, U.out.trans u3⟩
set_option maxHeartbeats 4000000 in
theorem eqChs_same (A B : Option Addr) (n capa capb : Nat) (hs : List Ch) (w : World) (hn : n ≤ 1000000000) (hE : Chs w A n hs) (hF : Chs w B n hs) :
    Calls Try.prog 76 #[.slice A n capa, .slice B n capb] w fun x w' => x = .returned (.bool true) ∧ Up w w' := by
  have HE := Lib.hid hE
  have HF := Lib.hid hF
  clear hE hF
  go_enter Try.func76, Try.ntmps76
  go_wp2
  go_loopw [5] (fun i wr => (∃ k : Nat, k ≤ n ∧ i = .int .i64 k) ∧ Up w wr) (fun i _ => n - (intOf i).toNat)
  case atStart => exact ⟨⟨0, by omega, rfl⟩, Up.refl _⟩
  case round =>
    obtain ⟨⟨k, hk, rfl⟩, ur⟩ := hrel
    by_cases hlt : k < n
    · obtain ⟨b, off, hA, hb, hc⟩ := (HE.out.up ur).2 (by omega)
      obtain ⟨b2, off2, hA2, hb2, hc2⟩ := (HF.out.up ur).2 (by omega); subst hA hA2
      have p0 := hc k hlt
      have q0 := hc2 k hlt
      clear hc hc2
      generalize hs.getD k default = h at p0 q0
      obtain ⟨A3, n3, c3, B3, k3, d3, ⟨p0, p1, p2, p3, p4⟩, ⟨h5, h6⟩, h7, h8⟩ := p0; obtain ⟨A4, n4, c4, B4, k4, d4, ⟨q0, q1, q2, q3, q4⟩, ⟨g5, g6⟩, g7, g8⟩ := q0
      obtain rfl : n3 = n4 := by rw [← h5.1, ← g5.1]
      obtain rfl : k3 = k4 := by rw [← h7.1, ← g7.1]
      have C := Lib.hid (fun W (u : Up wr W) => eqCh_same h A3 n3 c3 B3 k3 d3 A4 c4 B4 d4 W h6 h8 (h5.up u) (h7.up u) (g5.up u) (g7.up u))
      clear h5 h6 h7 h8 g5 g6 g7 g8
      generalize h.now.s = z0 at *
      generalize h.now.sq = z1 at *
      generalize h.now.ct = z2 at *
      have UR := Lib.hid ur
      have i4 : (k : Int) < n := by omega
      have i5 : IntKind.i64.wrap ((k : Int) + 1) = (k : Int) + 1 := IntWalk.i64_in _ (by omega)
      go_wp2_with fail
      refine region_qw (by kernel_rfl) (by kernel_rfl) ?_; refine qWalk_step ?_; intro K hK; go_simp; apply Exists.intro; refine And.intro ?_ ?_
      · intro w1 hw1
        try go_simp
        try rfl
      try go_simp
      refine hK _ ?_; clear hK K; refine qWalk_step ?_; intro K hK; go_simp; apply Exists.intro; refine And.intro ?_ ?_
      · intro w1 hw1
        try go_simp
        try rfl
      try go_simp
      refine hK _ ?_; clear hK K; refine qWalk_step ?_; intro K hK; go_simp; apply Exists.intro; refine And.intro ?_ ?_
      · intro w1 hw1
        try go_simp
        try rfl
      try go_simp
      refine hK _ ?_; clear hK K; refine qWalk_step ?_; intro K hK; go_simp; apply Exists.intro; refine And.intro ?_ ?_
      · intro w1 hw1
        obtain ⟨hc, hf, hz⟩ := hw1.facts
        try simp at hz
        try go_simp
        try rfl
      try go_simp
      refine hK _ ?_; clear hK K; refine qWalk_step ?_; intro K hK; go_simp; apply Exists.intro; refine And.intro ?_ ?_
      · intro w1 hw1
        try go_simp
        try rfl
      try go_simp
      refine hK _ ?_; clear hK K; refine qWalk_step ?_; intro K hK; go_simp; apply Exists.intro; refine And.intro ?_ ?_
      · intro w1 hw1
        try go_simp
        try rfl
      try go_simp
      refine hK _ ?_; clear hK K; refine qWalk_step ?_; intro K hK; go_simp; apply Exists.intro; refine And.intro ?_ ?_
      · intro w1 hw1
        try go_simp
        try rfl
      try go_simp
      refine hK _ ?_; clear hK K; refine qWalk_step ?_; intro K hK; go_simp; apply Exists.intro; refine And.intro ?_ ?_
      · intro w1 hw1
        obtain ⟨hc, hf, hz⟩ := hw1.facts
        try simp at hz
        try go_simp
        try rfl
      try go_simp
      refine hK _ ?_; clear hK K; refine qWalk_step ?_; intro K hK; go_simp; apply Exists.intro; refine And.intro ?_ ?_
      · intro w1 hw1
        try go_simp
        exact up_call hw1 (C.out _ hw1)
      try go_simp
      refine hK _ ?_; clear hK K; refine qWalk_step ?_; intro K hK; go_simp; apply Exists.intro; refine And.intro ?_ ?_
      · intro w1 hw1
        try go_simp
        try rfl
      try go_simp
      refine hK _ ?_; clear hK K; refine qWalk_nil ?_; intro wA uA
      have UA := Lib.hid (UR.out.trans uA)
      clear uA; go_wp2
      go_roundw
      case rel => exact ⟨⟨k + 1, by omega, by go_num⟩, UA.out⟩
      case measure => simp [intOf]; omega
    · obtain rfl : k = n := by omega
      have i4 : ¬ (k : Int) < k := by omega
      go_wp2; go_ret
      exact ⟨rfl, ur⟩
set_option maxHeartbeats 4000000 in
theorem eqLgs_same (A B : Option Addr) (n capa capb : Nat) (ls : List (List Rec)) (w : World) (hn : n ≤ 1000000000) (hE : Lgs w A n ls) (hF : Lgs w B n ls) :
    Calls Try.prog 77 #[.slice A n capa, .slice B n capb] w fun x w' => x = .returned (.bool true) ∧ Up w w' := by
  have HE := Lib.hid hE
  have HF := Lib.hid hF
  clear hE hF
  go_enter Try.func77, Try.ntmps77
  go_wp2
  go_loopw [5] (fun i wr => (∃ k : Nat, k ≤ n ∧ i = .int .i64 k) ∧ Up w wr) (fun i _ => n - (intOf i).toNat)
  case atStart => exact ⟨⟨0, by omega, rfl⟩, Up.refl _⟩
  case round =>
    obtain ⟨⟨k, hk, rfl⟩, ur⟩ := hrel
    by_cases hlt : k < n
    · obtain ⟨b, off, hA, hb, hc⟩ := (HE.out.up ur).2 (by omega)
      obtain ⟨b2, off2, hA2, hb2, hc2⟩ := (HF.out.up ur).2 (by omega); subst hA hA2; obtain ⟨A3, n3, c3, p0, he3, hn3⟩ := hc k hlt; obtain ⟨A4, n4, c4, q0, hf3, hn4⟩ := hc2 k hlt; clear hc hc2
      generalize ls.getD k [] = l at he3 hf3
      obtain rfl : n3 = n4 := by rw [← he3.1, ← hf3.1]
      have C := Lib.hid (fun W (u : Up wr W) => decide_eq_true (rfl : l = l) ▸ eqR_any A3 A4 n3 n3 c3 c4 l l W (by omega) (he3.up u) (hf3.up u))
      clear he3 hf3
      have UR := Lib.hid ur
      have i4 : (k : Int) < n := by omega
      have i5 : IntKind.i64.wrap ((k : Int) + 1) = (k : Int) + 1 := IntWalk.i64_in _ (by omega)
      go_wp2_with fail
      refine region_qw (by kernel_rfl) (by kernel_rfl) ?_; refine qWalk_step ?_; intro K hK; go_simp; apply Exists.intro; refine And.intro ?_ ?_
      · intro w1 hw1
        try go_simp
        try rfl
      try go_simp
      refine hK _ ?_; clear hK K; refine qWalk_step ?_; intro K hK; go_simp; apply Exists.intro; refine And.intro ?_ ?_
      · intro w1 hw1
        try go_simp
        try rfl
      try go_simp
      refine hK _ ?_; clear hK K; refine qWalk_step ?_; intro K hK; go_simp; apply Exists.intro; refine And.intro ?_ ?_
      · intro w1 hw1
        try go_simp
        try rfl
      try go_simp
      refine hK _ ?_; clear hK K; refine qWalk_step ?_; intro K hK; go_simp; apply Exists.intro; refine And.intro ?_ ?_
      · intro w1 hw1
        obtain ⟨hc, hf, hz⟩ := hw1.facts
        try simp at hz
        try go_simp
        try rfl
      try go_simp
      refine hK _ ?_; clear hK K; refine qWalk_step ?_; intro K hK; go_simp; apply Exists.intro; refine And.intro ?_ ?_
      · intro w1 hw1
        try go_simp
        try rfl
      try go_simp
      refine hK _ ?_; clear hK K; refine qWalk_step ?_; intro K hK; go_simp; apply Exists.intro; refine And.intro ?_ ?_
      · intro w1 hw1
        try go_simp
        try rfl
      try go_simp
      refine hK _ ?_; clear hK K; refine qWalk_step ?_; intro K hK; go_simp; apply Exists.intro; refine And.intro ?_ ?_
      · intro w1 hw1
        try go_simp
        try rfl
      try go_simp
      refine hK _ ?_; clear hK K; refine qWalk_step ?_; intro K hK; go_simp; apply Exists.intro; refine And.intro ?_ ?_
      · intro w1 hw1
        obtain ⟨hc, hf, hz⟩ := hw1.facts
        try simp at hz
        try go_simp
        try rfl
      try go_simp
      refine hK _ ?_; clear hK K; refine qWalk_step ?_; intro K hK; go_simp; apply Exists.intro; refine And.intro ?_ ?_
      · intro w1 hw1
        try go_simp
        exact up_call hw1 (C.out _ hw1)
      try go_simp
      refine hK _ ?_; clear hK K; refine qWalk_step ?_; intro K hK; go_simp; apply Exists.intro; refine And.intro ?_ ?_
      · intro w1 hw1
        try go_simp
        try rfl
      try go_simp
      refine hK _ ?_; clear hK K; refine qWalk_nil ?_; intro wA uA
      have UA := Lib.hid (UR.out.trans uA)
      clear uA; go_wp2
      go_roundw
      case rel => exact ⟨⟨k + 1, by omega, by go_num⟩, UA.out⟩
      case measure => simp [intOf]; omega
    · obtain rfl : k = n := by omega
      have i4 : ¬ (k : Int) < k := by omega
      go_wp2; go_ret
      exact ⟨rfl, ur⟩
set_option maxHeartbeats 4000000 in
theorem eqCb_same (A : Option Addr) (n c : Nat) (B : Option Addr) (k d : Nat) (A' : Option Addr) (c' : Nat) (B' : Option Addr) (d' : Nat) (hs : List Ch) (ls : List (List Rec)) (w : World) (h1 : CbV w A n B k hs ls) (h2 : CbV w A' n B' k hs ls) :
    Calls Try.prog 33 #[.agg #[.slice A n c, .slice B k d], .agg #[.slice A' n c', .slice B' k d']] w fun x w' => x = .returned (.bool true) ∧ Up w w' := by
  have hn := h1.few.1
  have hk := h1.few.2
  have C1 := Lib.hid (fun W (u : Up w W) => eqChs_same A A' n c c' hs W (by omega) (h1.hosts.up u) (h2.hosts.up u))
  have C2 := Lib.hid (fun W (u : Up w W) => eqLgs_same B B' k d d' ls W (by omega) (h1.logs.up u) (h2.logs.up u))
  have Y2 := Lib.hid ((Blk.new w #[.slice A n c, .slice B k d] 76).alloc (.cells #[.slice A' n c', .slice B' k d'] 76))
  have Y3 := Lib.hid (Blk.new (w.alloc (.cells #[.slice A n c, .slice B k d] 76)) #[.slice A' n c', .slice B' k d'] 76)
  simp only [World.size_alloc] at Y3
  have U := Lib.hid (((Up.refl w).alloc (.cells #[.slice A n c, .slice B k d] 76)).alloc (.cells #[.slice A' n c', .slice B' k d'] 76))
  clear h1 h2
  go_enter Try.func33, Try.ntmps33
  go_wp2_with fail
  refine (C1.out _ U.out).mono ?_; rintro x w1 ⟨rfl, u1⟩
  replace Y2 := Lib.hid (Y2.out.up u1)
  replace Y3 := Lib.hid (Y3.out.up u1)
  replace U := Lib.hid (U.out.trans u1)
  clear u1
  have x1 := Y2.out.cell (j := 1) rfl
  have y1 := Y3.out.cell (j := 1) rfl
  have lx := Y2.out.lt
  have ly := Y3.out.lt
  go_wp2_with fail
  refine (C2.out _ U.out).mono ?_; rintro x w2 ⟨rfl, u2⟩; go_wp2; go_ret
  exact ⟨rfl, U.out.trans u2⟩
end Go.Proofs.Ytipjcjjjkkaigaa

namespace Go.Proofs.Ytipjcjjjkkaigaa
set_option maxRecDepth 100000
open Go.RowKit
theorem CMk.neLo {w : World} {lo g n : Nat} {hd : Nat → Hd} {k0 : Int} {LB : Option Addr} (ap : CAp lo g n hd LB) (h : 0 < n → CMk w lo g n hd k0 0) {b : Nat} (hb : b < lo) : NEs g n hd b := fun hn => by
  have h := h hn
  have hl := ap.lo
  refine ⟨by omega, fun i hi => ⟨fun h0 o hA => ?_, fun h0 o hA => ?_⟩⟩
  · obtain ⟨g', h1, h2, _⟩ := h.ev i (by omega) hi h0
    rw [h1] at hA
    injection hA with hA
    injection hA with hA _ _
    omega
  · obtain ⟨g', h1, h2, _⟩ := h.in_ i (by omega) hi h0
    rw [h1] at hA
    injection hA with hA
    injection hA with hA _ _
    omega
theorem Blk.intsC {lo hi b t : Nat} {w w' : World} {arr : Array Value} (h : Blk w b t arr) (m : Ints lo hi w w') (hb : b < lo ∨ hi ≤ b) : Blk w' b t arr := (m.block b h.lt hb).trans h
theorem two_upc {w w' : World} {b0 b1 : Nat} {x0 x1 x2 y0 y1 y2 : Value} (u : Up w w')
    (h : b0 < w.heap.size ∧ b1 < w.heap.size ∧ w.cell? ⟨b0, 0, none⟩ = some x0 ∧ w.cell? ⟨b0, 1, none⟩ = some x1 ∧ w.cell? ⟨b0, 2, none⟩ = some x2 ∧ w.cell? ⟨b1, 0, none⟩ = some y0 ∧ w.cell? ⟨b1, 1, none⟩ = some y1 ∧ w.cell? ⟨b1, 2, none⟩ = some y2) :
    b0 < w'.heap.size ∧ b1 < w'.heap.size ∧ w'.cell? ⟨b0, 0, none⟩ = some x0 ∧ w'.cell? ⟨b0, 1, none⟩ = some x1 ∧ w'.cell? ⟨b0, 2, none⟩ = some x2 ∧ w'.cell? ⟨b1, 0, none⟩ = some y0 ∧ w'.cell? ⟨b1, 1, none⟩ = some y1 ∧ w'.cell? ⟨b1, 2, none⟩ = some y2 := by
  obtain ⟨h0, h1, k0, k1, k2, l0, l1, l2⟩ := h
  have := u.size
  exact ⟨by omega, by omega, (u.cells _ _ h0).trans k0, (u.cells _ _ h0).trans k1, (u.cells _ _ h0).trans k2, (u.cells _ _ h1).trans l0, (u.cells _ _ h1).trans l1, (u.cells _ _ h1).trans l2⟩
set_option maxHeartbeats 4000000 in
theorem walkEcbn (v : Value) (m : Mdl) {w : World} (h : ∃ A n c B k d, v = .agg #[.slice A n c, .slice B k d, .int .i64 m.til] ∧ MdlV w A n B k m) :
    Calls Try.prog 8 #[v] w fun x w' => x = .returned (.bool true) ∧ Up w w' := by
  obtain ⟨A, n, c, B, k, d, rfl, hM⟩ := h
  have HM := Lib.hid hM
  have hk := hM.big
  have BX := Lib.hid (Box3.new w (.slice A n c) (.slice B k d) (.int .i64 m.til) 25)
  have CS := Lib.hid (fun W (u : Up w W) => szMdl_any A n c B k d m W (hM.up u))
  have CT := Lib.hid (fun W (u : Up w W) hS => toMdl_any A n c B k d m W (hM.up u) hS)
  have CP := Lib.hid (fun A n c B k d W (h : MdlV W A n B k m) => specCb_any A n c B k d m W h)
  have CI := Lib.hid (fun A n c B k d W (h : MdlV W A n B k m) => implCb_any A n c B k d m W h)
  have CE := Lib.hid (fun A n c B k d A' n' c' B' k' d' W (h1 : MdlV W A n B k m) (h2 : MdlV W A' n' B' k' m) (hS : FitM m) => eqMdl_any A n c B k d m A' n' c' B' k' d' m W h1 h2 hS)
  rw [decide_eq_true (rfl : m = m)] at CE
  have FEW := cbN_few m
  have OPS := Lib.hid (fun v w (h : CbVal m v w) => (show ∃ HA hc LB lc, v = .agg #[.slice HA (cbN m) hc, .slice LB (cbN m) lc] ∧ CbV w HA (cbN m) LB (cbN m) (cbH m) (cbL m) from h))
  have OPI := Lib.hid (fun lo v w (h : CbKeep lo m v w) => (show ∃ HA hc LB lc g hd, v = .agg #[.slice HA (cbN m) hc, .slice LB (cbN m) lc] ∧ (0 < cbN m → HA = some ⟨g, 0, none⟩) ∧ CAp lo g (cbN m) hd LB ∧ ∀ w', Kp lo w w' → CbV w' HA (cbN m) LB (cbN m) (cbH m) (cbL m) ∧ (0 < cbN m → CMk w' lo g (cbN m) hd 1 0) ∧ LgE w' LB (cbN m) from h))
  generalize cbN m = N at FEW OPS OPI
  generalize cbH m = hs at OPS OPI
  generalize cbL m = ls at OPS OPI
  have CQ := Lib.hid (fun A c B d A' c' B' d' W (h1 : CbV W A N B N hs ls) (h2 : CbV W A' N B' N hs ls) => eqCb_same A N c B N d A' c' B' d' hs ls W h1 h2)
  clear hM; unfold NewMdl at CT
  generalize htil : m.til = til at *
  go_enter Try.func8, Try.ntmps8
  go_wp2_with fail
  refine (CS.out _ ((Up.refl _).alloc _)).mono ?_; rintro x w1 ⟨z, rfl, hz, u1⟩
  have U1 := Lib.hid (((Up.refl w).alloc _).trans u1)
  have B1 := Lib.hid (BX.out.up u1)
  clear u1
  rcases hz with rfl | ⟨z0, z1, hS⟩
  · go_wp2
    go_ret
    exact ⟨rfl, U1.out⟩
  · have SH := Lib.hid hS
    have j0 : ¬ z < 0 := by omega
    have hn6 : n ≤ 1048576 := hS.few
    have hk6 : k ≤ 1048576 := by have := hS.fit.2; have := HM.out.starts.1; omega
    clear hS; obtain ⟨q0, q1, q2⟩ := And.intro B1.out.c0 (And.intro B1.out.c1 B1.out.c2)
    go_wp2_with fail
    generalize hb3 : w.heap.size = b3 at *
    refine (CT.out _ U1.out SH.out).mono ?_; rintro x w2 ⟨g1, g2, rfl, hg1, hg2, o1, o2, u2⟩
    have V2 := Lib.hid (NewMdl.v o1 o2 hk)
    have U2 := Lib.hid (U1.out.trans u2)
    have B2 := Lib.hid (B1.out.up u2)
    clear o1 o2 hg1 hg2 u2 q0 q1 q2
    go_wp2_with fail
    refine (CP.out _ _ _ _ _ _ _ V2.out).mono ?_; rintro x w3 ⟨v, rfl, hres, u3⟩; obtain ⟨HA, hc, LB, lc, rfl, val⟩ := OPS.out _ _ hres
    have ua := (Up.refl w3).alloc (.cells #[.slice HA N hc, .slice LB N lc] 76)
    have SV := Lib.hid (val.up ua)
    have X3 := Lib.hid (Blk.new w3 #[.slice HA N hc, .slice LB N lc] 76)
    have U3 := Lib.hid (U2.out.trans (u3.trans ua))
    have B3 := Lib.hid (B2.out.up (u3.trans ua))
    clear hres val u3 ua V2; obtain ⟨q0, q1, q2⟩ := And.intro B3.out.c0 (And.intro B3.out.c1 B3.out.c2)
    go_wp2_with fail
    generalize hb4 : w3.heap.size = b4 at *
    generalize w3.alloc (.cells #[.slice HA N hc, .slice LB N lc] 76) = W3 at *
    clear hb4; refine (CT.out _ U3.out SH.out).mono ?_; rintro x w4 ⟨g1, g2, rfl, hg1, hg2, o1, o2, u4⟩
    have SZ1 := Lib.hid (o1.sh (lo := W3.heap.size) (hi := w4.heap.size) SH.out.shorts hg1 (Nat.le_refl _))
    have SZ2 := Lib.hid (o2.sh (lo := W3.heap.size) (hi := w4.heap.size) hg2 (Nat.le_refl _))
    have ua := (Up.refl w4).alloc (.cells #[.slice (some ⟨g1, 0, none⟩) n n, .slice (some ⟨g2, 0, none⟩) k k, .int .i64 til] 38)
    have X4 := Lib.hid (Box3.new w4 (.slice (some ⟨g1, 0, none⟩) n n) (.slice (some ⟨g2, 0, none⟩) k k) (.int .i64 til) 38)
    have VX := Lib.hid ((NewMdl.v o1 o2 hk).up ua)
    replace SZ1 := Lib.hid (SZ1.out.ints ua.ints)
    replace SZ2 := Lib.hid (SZ2.out.ints ua.ints)
    have U34 := Lib.hid (u4.trans ua)
    have hHI : W3.heap.size ≤ w4.heap.size := u4.size
    clear o1 o2 u4 ua q0 q1 q2 hg1 hg2
    go_wp2_with fail
    have HV0 := Lib.hid (show w4.heap.size + 1 = (w4.alloc (.cells #[.slice (some ⟨g1, 0, none⟩) n n, .slice (some ⟨g2, 0, none⟩) k k, .int .i64 til] 38)).heap.size by simp)
    generalize hb10 : w4.heap.size = b10 at *
    generalize w4.alloc (.cells #[.slice (some ⟨g1, 0, none⟩) n n, .slice (some ⟨g2, 0, none⟩) k k, .int .i64 til] 38) = V0 at *
    have hV0 : b10 + 1 = V0.heap.size := HV0.out
    clear hb10; refine (CI.out _ _ _ _ _ _ _ VX.out).mono ?_; rintro x w5 ⟨v, rfl, hres, u5⟩; obtain ⟨GA, gc, GB, gd, gg, hd, rfl, hGA, ap, keep⟩ := OPI.out _ _ _ hres
    have ua := (Up.refl w5).alloc (.cells #[.slice GA N gc, .slice GB N gd] 76)
    have u6 := u5.trans ua
    have HGA := Lib.hid hGA
    have AP := Lib.hid ap
    have KEEP := Lib.hid keep
    have NE6 := Lib.hid (CMk.ne (keep w5 (Kp.refl _ _)).2.1 (Nat.le_refl w5.heap.size))
    have NEL := Lib.hid (fun b (hb : b < V0.heap.size) => CMk.neLo ap (keep w5 (Kp.refl _ _)).2.1 hb)
    have K5 := Lib.hid ((Kp.refl V0.heap.size w5).up ua)
    have X6 := Lib.hid (Blk.new w5 #[.slice GA N gc, .slice GB N gd] 76)
    replace U34 := Lib.hid (U34.out.trans u6)
    replace X4 := Lib.hid (X4.out.up u6)
    replace VX := Lib.hid (VX.out.up u6)
    replace SZ1 := Lib.hid (SZ1.out.ints u6.ints)
    replace SZ2 := Lib.hid (SZ2.out.ints u6.ints)
    have hb6l := Lib.hid (show V0.heap.size ≤ w5.heap.size from u5.size)
    have X3' := Lib.hid (X3.out.up U34.out)
    clear hres ap keep hGA u5 ua u6
    have p0 := X3'.out.cell (j := 0) rfl
    have p1 := X3'.out.cell (j := 1) rfl
    have lp := X3'.out.lt
    go_wp2_with fail
    have HV6 := Lib.hid (show w5.heap.size + 1 = (w5.alloc (.cells #[.slice GA N gc, .slice GB N gd] 76)).heap.size by simp)
    generalize w5.alloc (.cells #[.slice GA N gc, .slice GB N gd] 76) = W6 at *
    generalize hb6 : w5.heap.size = b6 at *
    clear p0 p1 lp
    have hW6 : V0.heap.size ≤ W6.heap.size := by have := HV6.out; have := hb6l.out; omega
    refine (CQ.out _ _ _ _ _ _ _ _ _ (KEEP.out _ K5.out).1 (SV.out.up U34.out)).mono ?_; rintro x w7 ⟨rfl, u7⟩
    replace U34 := Lib.hid (U34.out.trans u7)
    replace X4 := Lib.hid (X4.out.up u7)
    replace X6 := Lib.hid (X6.out.up u7)
    replace K5 := Lib.hid (K5.out.up u7)
    replace VX := Lib.hid (VX.out.up u7)
    replace SZ1 := Lib.hid (SZ1.out.ints u7.ints)
    replace SZ2 := Lib.hid (SZ2.out.ints u7.ints)
    have hW7 : V0.heap.size ≤ w7.heap.size := by have := u7.size; omega
    have B7 := Lib.hid (B3.out.up U34.out)
    have U7 := Lib.hid (U3.out.trans U34.out)
    clear u7
    go_wp2_with fail
    have HB := And.intro B7.out.lt (And.intro X4.out.lt (And.intro B7.out.c0 (And.intro B7.out.c1 (And.intro B7.out.c2 (And.intro X4.out.c0 (And.intro X4.out.c1 X4.out.c2))))))
    have HH := Lib.hid HB
    obtain ⟨l0, l1, q0, q1, q2, r0, r1, r2⟩ := HB
    have ud := (Up.refl w7).drew
    go_region_held3 (fun w' => b3 < w'.heap.size ∧ b10 < w'.heap.size ∧ w'.cell? ⟨b3, 0, none⟩ = some (.slice A n c) ∧ w'.cell? ⟨b3, 1, none⟩ = some (.slice B k d) ∧ w'.cell? ⟨b3, 2, none⟩ = some (.int .i64 til) ∧ w'.cell? ⟨b10, 0, none⟩ = some (.slice (some ⟨g1, 0, none⟩) n n) ∧ w'.cell? ⟨b10, 1, none⟩ = some (.slice (some ⟨g2, 0, none⟩) k k) ∧ w'.cell? ⟨b10, 2, none⟩ = some (.int .i64 til))
      (first | (exact HH.out) | (exact two_upc uF (by assumption)) | (exact two_upc uE (by assumption)))
      (first
        | (go_at_call 12; refine (CT.out _ (U7.out.trans (Up.refl _).drew) SH.out).mono ?_; rintro x wE ⟨g5, g6, rfl, hg5, hg6, o5, o6, uE⟩; have VE := Lib.hid (NewMdl.v o5 o6 hk); clear o5 o6)
        | (go_at_call 15; refine (CE.out _ n n _ k k _ n n _ k k _ (VX.out.up ((Up.refl _).drew.trans uE)) VE.out SH.out.fit).mono ?_; rintro x wF ⟨rfl, uF⟩))
    have u8 := ((Up.refl w7).drew.trans uE).trans uF
    replace U34 := Lib.hid (U34.out.trans u8)
    replace X4 := Lib.hid (X4.out.up u8)
    replace X6 := Lib.hid (X6.out.up u8)
    replace K5 := Lib.hid (K5.out.up u8)
    replace SZ1 := Lib.hid (SZ1.out.ints u8.ints)
    replace SZ2 := Lib.hid (SZ2.out.ints u8.ints)
    have hW8 : V0.heap.size ≤ wF.heap.size := by have := u8.size; omega
    clear u8 uE uF ud l0 l1 q0 q1 q2 r0 r1 r2 VE VX HH B7 U7; obtain ⟨q0, q1, q2⟩ := And.intro X4.out.c0 (And.intro X4.out.c1 X4.out.c2)
    have hb6 : V0.heap.size ≤ b6 := hb6l.out
    go_wp2_with fail
    refine (markMdl_any W3.heap.size b10 g1 g2 n n k k til _ hn6 hk6 SZ1.out SZ2.out (by omega)).mono ?_; rintro x w8 ⟨mz, rfl, hmz0, hmz1, m8⟩
    replace X6 := Lib.hid (X6.out.intsC m8 (.inr (by omega)))
    replace K5 := Lib.hid (K5.out.ints m8 (by omega))
    replace U34 := Lib.hid (m8.up U34.out (Nat.le_refl _))
    have hW9 : V0.heap.size ≤ w8.heap.size := by have := m8.size; omega
    have jm : ¬ mz < 0 := by omega
    clear m8 q0 q1 q2 SZ1 SZ2 X4
    replace X3' := Lib.hid (X3.out.up U34.out)
    have p0 := X3'.out.cell (j := 0) rfl
    have p1 := X3'.out.cell (j := 1) rfl
    have lp := X3'.out.lt
    have q0 := X6.out.cell (j := 0) rfl
    have q1 := X6.out.cell (j := 1) rfl
    have lq := X6.out.lt
    go_wp2_with fail
    refine (CQ.out _ _ _ _ _ _ _ _ _ (KEEP.out _ K5.out).1 (SV.out.up U34.out)).mono ?_; rintro x w9 ⟨rfl, u9⟩
    replace U34 := Lib.hid (U34.out.trans u9)
    replace X6 := Lib.hid (X6.out.up u9)
    replace K5 := Lib.hid (K5.out.up u9)
    have MK := Lib.hid (KEEP.out _ K5.out).2
    clear p0 p1 q0 q1 lp lq; clear u9 X3' KEEP K5
    have q0 := X6.out.cell (j := 0) rfl
    have q1 := X6.out.cell (j := 1) rfl
    have lq := X6.out.lt
    go_wp2_with fail
    refine (markCb_any V0.heap.size gg N gc hd GB N gd GA 1 _ (by omega) (by omega) (by omega) HGA.out AP.out MK.out.1 MK.out.2).mono ?_; rintro x w10 ⟨rfl, hmk, hlg, cw⟩
    have HE := Lib.hid hmk
    have LE := Lib.hid hlg
    have KF := Lib.hid (Kf_in (k0 := 1) N AP.out.few.2 N (Nat.le_refl _))
    replace U34 := Lib.hid (cw.top U34.out (fun b hb => NEL.out b (by omega)))
    replace X6 := Lib.hid (cw.blk X6.out NE6.out)
    clear hmk hlg cw q0 q1 lq MK NEL NE6
    have CH := Lib.hid (fun W (u : Up w10 W) => heldCb_any V0.heap.size gg N gc hd GB N gd GA 1 W (by omega) (by omega) (by omega) HGA.out AP.out (fun hn => (HE.out hn).up u) (LE.out.up u))
    generalize Kf hd 1 N = kk at CH KF
    have jq : ¬ kk < 0 := by have := KF.out; omega
    have bne0 : (kk != kk) = false := by simp
    have q0 := X6.out.cell (j := 0) rfl
    have q1 := X6.out.cell (j := 1) rfl
    have lq := X6.out.lt
    have B7 := Lib.hid (B3.out.up U34.out)
    have U7 := Lib.hid (U3.out.trans U34.out)
    obtain ⟨r0, r1, r2⟩ := And.intro B7.out.c0 (And.intro B7.out.c1 B7.out.c2)
    go_wp2_with fail
    refine (CH.out _ (Up.refl _)).mono ?_; rintro x w11 ⟨rfl, u11⟩
    have UC := Lib.hid u11
    replace U34 := Lib.hid (U34.out.trans u11)
    replace U7 := Lib.hid (U7.out.trans u11)
    replace X6 := Lib.hid (X6.out.up u11)
    clear q0 q1 lq; clear u11 r0 r1 r2 B7
    have B7 := Lib.hid (B3.out.up U34.out)
    obtain ⟨r0, r1, r2⟩ := And.intro B7.out.c0 (And.intro B7.out.c1 B7.out.c2)
    go_wp2_with fail
    refine (CT.out _ U7.out SH.out).mono ?_; rintro x w12 ⟨g5, g6, rfl, hg5, hg6, o5, o6, u12⟩
    have V12 := Lib.hid (NewMdl.v o5 o6 hk)
    clear o5 o6 hg5 hg6 r0 r1 r2 B7
    go_wp2_with fail
    refine (CI.out _ _ _ _ _ _ _ V12.out).mono ?_; rintro x w13 ⟨v, rfl, hres, u13⟩; obtain ⟨DA, dc, DB, dd, dg, dh, rfl, _, _, keep⟩ := OPI.out _ _ _ hres
    have ua := (Up.refl w13).alloc (.cells #[.slice DA N dc, .slice DB N dd] 76)
    have u14 := (u12.trans u13).trans ua
    have DV := Lib.hid ((keep w13 (Kp.refl _ _)).1.up ua)
    replace UC := Lib.hid (UC.out.trans u14)
    replace U34 := Lib.hid (U34.out.trans u14)
    replace X6 := Lib.hid (X6.out.up u14)
    clear hres keep u12 u13 u14 ua V12
    have X3' := Lib.hid (X3.out.up U34.out)
    have p0 := X3'.out.cell (j := 0) rfl
    have p1 := X3'.out.cell (j := 1) rfl
    have lp := X3'.out.lt
    go_wp2_with fail
    generalize hb14 : w13.heap.size = b14 at *
    generalize w13.alloc (.cells #[.slice DA N dc, .slice DB N dd] 76) = W14 at *
    clear p0 p1 lp; clear hb14 X3'; refine (CQ.out _ _ _ _ _ _ _ _ _ DV.out (SV.out.up U34.out)).mono ?_; rintro x w15 ⟨rfl, u15⟩
    replace UC := Lib.hid (UC.out.trans u15)
    replace U34 := Lib.hid (U34.out.trans u15)
    replace X6 := Lib.hid (X6.out.up u15)
    clear u15 DV
    have q0 := X6.out.cell (j := 0) rfl
    have q1 := X6.out.cell (j := 1) rfl
    have lq := X6.out.lt
    go_wp2_with fail
    refine (CH.out _ UC.out).mono ?_; rintro x w16 ⟨rfl, u16⟩
    replace U7 := Lib.hid (U3.out.trans (U34.out.trans u16))
    clear q0 q1 lq; clear u16; go_wp2; go_ret
    exact ⟨rfl, U7.out⟩
end Go.Proofs.Ytipjcjjjkkaigaa

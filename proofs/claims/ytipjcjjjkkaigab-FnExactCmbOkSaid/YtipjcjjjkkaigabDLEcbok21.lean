/-
  Two conservative simulations with the same values, in one sentence: the laws' comparison says that they are equal; for every two that lie in memory.
-/
import Derived.Test.YtipjcjjjkkaigabDLEcbok08
import Derived.Test.YtipjcjjjkkaigabDLEcbok09
import Derived.Test.YtipjcjjjkkaigabDLEcbok12
namespace Go.Proofs.Ytipjcjjjkkaigab
set_option maxRecDepth 100000
open Go.RowKit
theorem eqNms_same (A B : Option Addr) (n capa capb : Nat) (zs : List Int) (w : World) (hn : n ≤ 1000000000) (hE : Nms w A n zs) (hF : Nms w B n zs) :
    Calls Try.prog 97 #[.slice A n capa, .slice B n capb] w fun x w' => x = .returned (.bool true) ∧ Up w w' := by
  have HE := Lib.hid hE
  have HF := Lib.hid hF
  clear hE hF
  go_enter Try.func97, Try.ntmps97
  go_wp2
  go_loopw [5] (fun i wr => (∃ k : Nat, k ≤ n ∧ i = .int .i64 k) ∧ Up w wr) (fun i _ => n - (intOf i).toNat)
  case atStart => exact ⟨⟨0, by omega, rfl⟩, Up.refl _⟩
  case round =>
    obtain ⟨⟨k, hk, rfl⟩, ur⟩ := hrel
    by_cases hlt : k < n
    · obtain ⟨b, off, hA, hb, hc⟩ := (HE.out.up ur).2 (by omega)
      obtain ⟨b2, off2, hA2, hb2, hc2⟩ := (HF.out.up ur).2 (by omega); subst hA hA2
      have p0 := hc k hlt
      have q0 := hc2 k hlt
      clear hc hc2
      generalize zs.getD k 0 = z at p0 q0
      have bz : (z != z) = false := by simp
      have UR := Lib.hid ur
      have i4 : (k : Int) < n := by omega
      have i5 : IntKind.i64.wrap ((k : Int) + 1) = (k : Int) + 1 := IntWalk.i64_in _ (by omega)
      go_wp2_with fail
      refine region_qw (by kernel_rfl) (by kernel_rfl) ?_; refine qWalk_step ?_; intro K hK; go_simp; apply Exists.intro; refine And.intro ?_ ?_
      · intro w1 hw1
        try go_simp
        try rfl
      try go_simp
      refine hK _ ?_; clear hK K; refine qWalk_step ?_; intro K hK; go_simp; apply Exists.intro; refine And.intro ?_ ?_
      · intro w1 hw1
        try go_simp
        try rfl
      try go_simp
      refine hK _ ?_; clear hK K; refine qWalk_step ?_; intro K hK; go_simp; apply Exists.intro; refine And.intro ?_ ?_
      · intro w1 hw1
        try go_simp
        try rfl
      try go_simp
      refine hK _ ?_; clear hK K; refine qWalk_step ?_; intro K hK; go_simp; apply Exists.intro; refine And.intro ?_ ?_
      · intro w1 hw1
        obtain ⟨hc, hf, hz⟩ := hw1.facts
        try simp at hz
        try go_simp
        try rfl
      try go_simp
      refine hK _ ?_; clear hK K; refine qWalk_step ?_; intro K hK; go_simp; apply Exists.intro; refine And.intro ?_ ?_
      · intro w1 hw1
        try go_simp
        try rfl
      try go_simp
      refine hK _ ?_; clear hK K; refine qWalk_step ?_; intro K hK; go_simp; apply Exists.intro; refine And.intro ?_ ?_
      · intro w1 hw1
        try go_simp
        try rfl
      try go_simp
      refine hK _ ?_; clear hK K; refine qWalk_step ?_; intro K hK; go_simp; apply Exists.intro; refine And.intro ?_ ?_
      · intro w1 hw1
        try go_simp
        try rfl
      try go_simp
      refine hK _ ?_; clear hK K; refine qWalk_step ?_; intro K hK; go_simp; apply Exists.intro; refine And.intro ?_ ?_
      · intro w1 hw1
        obtain ⟨hc, hf, hz⟩ := hw1.facts
        try simp at hz
        try go_simp
        try rfl
      try go_simp
      refine hK _ ?_; clear hK K; refine qWalk_step ?_; intro K hK; go_simp; apply Exists.intro; refine And.intro ?_ ?_
      · intro w1 hw1
        try go_simp
        try rfl
      try go_simp
      refine hK _ ?_; clear hK K; refine qWalk_nil ?_; intro wA uA
      have UA := Lib.hid (UR.out.trans uA)
      clear uA; go_wp2
      go_roundw
      case rel => exact ⟨⟨k + 1, by omega, by go_num⟩, UA.out⟩
      case measure => simp [intOf]; omega
    · obtain rfl : k = n := by omega
      have i4 : ¬ (k : Int) < k := by omega
      go_wp2; go_ret
      exact ⟨rfl, ur⟩
theorem eqCst1_any (a : Cst) (w : World) : Calls Try.prog 96 #[a.v, a.v] w fun x w' => x = .returned (.bool true) ∧ Up w w' := by
  obtain ⟨a0, a1, a2⟩ := a; unfold Cst.v
  have b0 : (a0 != a0) = false := by simp
  have b1 : (a1 != a1) = false := by simp
  have b2 : (a2 != a2) = false := by simp
  go_enter Try.func96, Try.ntmps96
  go_wp2; go_ret
  exact ⟨rfl, ((Up.refl w).alloc _).alloc _⟩
set_option maxHeartbeats 4000000 in
theorem eqCh_same (h : Ch) (A : Option Addr) (n c : Nat) (B : Option Addr) (k d : Nat) (A' : Option Addr) (c' : Nat) (B' : Option Addr) (d' : Nat) (w : World) (hn : n ≤ 1048576) (hk : k ≤ 1048576)
    (h1 : Evs w A n h.wait) (h2 : Nms w B k h.ins) (h3 : Evs w A' n h.wait) (h4 : Nms w B' k h.ins) :
    Calls Try.prog 61 #[.agg #[.int .i64 h.now.s, .int .i64 h.now.sq, .int .i64 h.now.ct, .slice A n c, .slice B k d], .agg #[.int .i64 h.now.s, .int .i64 h.now.sq, .int .i64 h.now.ct, .slice A' n c', .slice B' k d']] w fun x w' => x = .returned (.bool true) ∧ Up w w' := by
  have C0 := Lib.hid (fun W => eqCst1_any h.now W)
  have C1 := Lib.hid (fun W (u : Up w W) => decide_eq_true (rfl : h.wait = h.wait) ▸ eqS_any A A' n n c c' h.wait h.wait W (by omega) (h1.up u) (h3.up u))
  have C2 := Lib.hid (fun W (u : Up w W) => eqNms_same B B' k d d' h.ins W (by omega) (h2.up u) (h4.up u))
  unfold Cst.v at C0
  have Y2 := Lib.hid ((Blk.new w #[.int .i64 h.now.s, .int .i64 h.now.sq, .int .i64 h.now.ct, .slice A n c, .slice B k d] 56).alloc (.cells #[.int .i64 h.now.s, .int .i64 h.now.sq, .int .i64 h.now.ct, .slice A' n c', .slice B' k d'] 56))
  have Y3 := Lib.hid (Blk.new (w.alloc (.cells #[.int .i64 h.now.s, .int .i64 h.now.sq, .int .i64 h.now.ct, .slice A n c, .slice B k d] 56)) #[.int .i64 h.now.s, .int .i64 h.now.sq, .int .i64 h.now.ct, .slice A' n c', .slice B' k d'] 56)
  simp only [World.size_alloc] at Y3
  have U := Lib.hid (((Up.refl w).alloc (.cells #[.int .i64 h.now.s, .int .i64 h.now.sq, .int .i64 h.now.ct, .slice A n c, .slice B k d] 56)).alloc (.cells #[.int .i64 h.now.s, .int .i64 h.now.sq, .int .i64 h.now.ct, .slice A' n c', .slice B' k d'] 56))
  clear h1 h2 h3 h4
  generalize h.now.s = z0 at *
  generalize h.now.sq = z1 at *
  generalize h.now.ct = z2 at *
  go_enter Try.func61, Try.ntmps61
  go_wp2_with fail
  refine (C0.out _).mono ?_; rintro x w1 ⟨rfl, u1⟩
  replace Y2 := Lib.hid (Y2.out.up u1)
  replace Y3 := Lib.hid (Y3.out.up u1)
  replace U := Lib.hid (U.out.trans u1)
  clear u1
  have x3 := Y2.out.cell (j := 3) rfl
  have x4 := Y2.out.cell (j := 4) rfl
  have y3 := Y3.out.cell (j := 3) rfl
  have y4 := Y3.out.cell (j := 4) rfl
  have lx := Y2.out.lt
  have ly := Y3.out.lt
  go_wp2_with fail
  refine (C1.out _ U.out).mono ?_; rintro x w2 ⟨rfl, u2⟩
  replace Y2 := Lib.hid (Y2.out.up u2)
  replace Y3 := Lib.hid (Y3.out.up u2)
  replace U := Lib.hid (U.out.trans u2)
  clear u2 x3 x4 y3 y4 lx ly
  have x3 := Y2.out.cell (j := 3) rfl
  have x4 := Y2.out.cell (j := 4) rfl
  have y3 := Y3.out.cell (j := 3) rfl
  have y4 := Y3.out.cell (j := 4) rfl
  have lx := Y2.out.lt
  have ly := Y3.out.lt
  go_wp2_with fail
  refine (C2.out _ U.out).mono ?_; rintro x w3 ⟨rfl, u3⟩; go_wp2; go_ret
  exact ⟨rfl, U.out.trans u3⟩
set_option maxHeartbeats 4000000 in
theorem eqChs_same (A B : Option Addr) (n capa capb : Nat) (hs : List Ch) (w : World) (hn : n ≤ 1000000000) (hE : Chs w A n hs) (hF : Chs w B n hs) :
    Calls Try.prog 34 #[.slice A n capa, .slice B n capb] w fun x w' => x = .returned (.bool true) ∧ Up w w' := by
  have HE := Lib.hid hE
  have HF := Lib.hid hF
  clear hE hF
  go_enter Try.func34, Try.ntmps34
  go_wp2
  go_loopw [5] (fun i wr => (∃ k : Nat, k ≤ n ∧ i = .int .i64 k) ∧ Up w wr) (fun i _ => n - (intOf i).toNat)
  case atStart => exact ⟨⟨0, by omega, rfl⟩, Up.refl _⟩
  case round =>
    obtain ⟨⟨k, hk, rfl⟩, ur⟩ := hrel
    by_cases hlt : k < n
    · obtain ⟨b, off, hA, hb, hc⟩ := (HE.out.up ur).2 (by omega)
      obtain ⟨b2, off2, hA2, hb2, hc2⟩ := (HF.out.up ur).2 (by omega); subst hA hA2
      have p0 := hc k hlt
      have q0 := hc2 k hlt
      clear hc hc2
      generalize hs.getD k default = h at p0 q0
      obtain ⟨A3, n3, c3, B3, k3, d3, ⟨p0, p1, p2, p3, p4⟩, ⟨h5, h6⟩, h7, h8⟩ := p0; obtain ⟨A4, n4, c4, B4, k4, d4, ⟨q0, q1, q2, q3, q4⟩, ⟨g5, g6⟩, g7, g8⟩ := q0
      obtain rfl : n3 = n4 := by rw [← h5.1, ← g5.1]
      obtain rfl : k3 = k4 := by rw [← h7.1, ← g7.1]
      have C := Lib.hid (fun W (u : Up wr W) => eqCh_same h A3 n3 c3 B3 k3 d3 A4 c4 B4 d4 W h6 h8 (h5.up u) (h7.up u) (g5.up u) (g7.up u))
      clear h5 h6 h7 h8 g5 g6 g7 g8
      generalize h.now.s = z0 at *
      generalize h.now.sq = z1 at *
      generalize h.now.ct = z2 at *
      have UR := Lib.hid ur
      have i4 : (k : Int) < n := by omega
      have i5 : IntKind.i64.wrap ((k : Int) + 1) = (k : Int) + 1 := IntWalk.i64_in _ (by omega)
      go_wp2_with fail
      refine region_qw (by kernel_rfl) (by kernel_rfl) ?_; refine qWalk_step ?_; intro K hK; go_simp; apply Exists.intro; refine And.intro ?_ ?_
      · intro w1 hw1
        try go_simp
        try rfl
      try go_simp
      refine hK _ ?_; clear hK K; refine qWalk_step ?_; intro K hK; go_simp; apply Exists.intro; refine And.intro ?_ ?_
      · intro w1 hw1
        try go_simp
        try rfl
      try go_simp
      refine hK _ ?_; clear hK K; refine qWalk_step ?_; intro K hK; go_simp; apply Exists.intro; refine And.intro ?_ ?_
      · intro w1 hw1
        try go_simp
        try rfl
      try go_simp
      refine hK _ ?_; clear hK K; refine qWalk_step ?_; intro K hK; go_simp; apply Exists.intro; refine And.intro ?_ ?_
      · intro w1 hw1
        obtain ⟨hc, hf, hz⟩ := hw1.facts
        try simp at hz
        try go_simp
        try rfl
      try go_simp
      refine hK _ ?_; clear hK K; refine qWalk_step ?_; intro K hK; go_simp; apply Exists.intro; refine And.intro ?_ ?_
      · intro w1 hw1
        try go_simp
        try rfl
      try go_simp
      refine hK _ ?_; clear hK K; refine qWalk_step ?_; intro K hK; go_simp; apply Exists.intro; refine And.intro ?_ ?_
      · intro w1 hw1
        try go_simp
        try rfl
      try go_simp
      refine hK _ ?_; clear hK K; refine qWalk_step ?_; intro K hK; go_simp; apply Exists.intro; refine And.intro ?_ ?_
      · intro w1 hw1
        try go_simp
        try rfl
      try go_simp
      refine hK _ ?_; clear hK K; refine qWalk_step ?_; intro K hK; go_simp; apply Exists.intro; refine And.intro ?_ ?_
      · intro w1 hw1
        obtain ⟨hc, hf, hz⟩ := hw1.facts
        try simp at hz
        try go_simp
        try rfl
      try go_simp
      refine hK _ ?_; clear hK K; refine qWalk_step ?_; intro K hK; go_simp; apply Exists.intro; refine And.intro ?_ ?_
      · intro w1 hw1
        try go_simp
        exact up_call hw1 (C.out _ hw1)
      try go_simp
      refine hK _ ?_; clear hK K; refine qWalk_step ?_; intro K hK; go_simp; apply Exists.intro; refine And.intro ?_ ?_
      · intro w1 hw1
        try go_simp
        try rfl
      try go_simp
      refine hK _ ?_; clear hK K; refine qWalk_nil ?_; intro wA uA
      have UA := Lib.hid (UR.out.trans uA)
      clear uA; go_wp2
      go_roundw
      case rel => exact ⟨⟨k + 1, by omega, by go_num⟩, UA.out⟩
      case measure => simp [intOf]; omega
    · obtain rfl : k = n := by omega
      have i4 : ¬ (k : Int) < k := by omega
      go_wp2; go_ret
      exact ⟨rfl, ur⟩
set_option maxHeartbeats 4000000 in
theorem eqLgs_same (A B : Option Addr) (n capa capb : Nat) (ls : List (List Rec)) (w : World) (hn : n ≤ 1000000000) (hE : Lgs w A n ls) (hF : Lgs w B n ls) :
    Calls Try.prog 35 #[.slice A n capa, .slice B n capb] w fun x w' => x = .returned (.bool true) ∧ Up w w' := by
  have HE := Lib.hid hE
  have HF := Lib.hid hF
  clear hE hF
  go_enter Try.func35, Try.ntmps35
  go_wp2
  go_loopw [5] (fun i wr => (∃ k : Nat, k ≤ n ∧ i = .int .i64 k) ∧ Up w wr) (fun i _ => n - (intOf i).toNat)
  case atStart => exact ⟨⟨0, by omega, rfl⟩, Up.refl _⟩
  case round =>
    obtain ⟨⟨k, hk, rfl⟩, ur⟩ := hrel
    by_cases hlt : k < n
    · obtain ⟨b, off, hA, hb, hc⟩ := (HE.out.up ur).2 (by omega)
      obtain ⟨b2, off2, hA2, hb2, hc2⟩ := (HF.out.up ur).2 (by omega); subst hA hA2; obtain ⟨A3, n3, c3, p0, he3, hn3⟩ := hc k hlt; obtain ⟨A4, n4, c4, q0, hf3, hn4⟩ := hc2 k hlt; clear hc hc2
      generalize ls.getD k [] = l at he3 hf3
      obtain rfl : n3 = n4 := by rw [← he3.1, ← hf3.1]
      have C := Lib.hid (fun W (u : Up wr W) => decide_eq_true (rfl : l = l) ▸ eqR_any A3 A4 n3 n3 c3 c4 l l W (by omega) (he3.up u) (hf3.up u))
      clear he3 hf3
      have UR := Lib.hid ur
      have i4 : (k : Int) < n := by omega
      have i5 : IntKind.i64.wrap ((k : Int) + 1) = (k : Int) + 1 := IntWalk.i64_in _ (by omega)
      go_wp2_with fail
      refine region_qw (by kernel_rfl) (by kernel_rfl) ?_; refine qWalk_step ?_; intro K hK; go_simp; apply Exists.intro; refine And.intro ?_ ?_
      · intro w1 hw1
        try go_simp
        try rfl
      try go_simp
      refine hK _ ?_; clear hK K; refine qWalk_step ?_; intro K hK; go_simp; apply Exists.intro; refine And.intro ?_ ?_
      · intro w1 hw1
        try go_simp
        try rfl
      try go_simp
      refine hK _ ?_; clear hK K; refine qWalk_step ?_; intro K hK; go_simp; apply Exists.intro; refine And.intro ?_ ?_
      · intro w1 hw1
        try go_simp
        try rfl
      try go_simp
      refine hK _ ?_; clear hK K; refine qWalk_step ?_; intro K hK; go_simp; apply Exists.intro; refine And.intro ?_ ?_
      · intro w1 hw1
        obtain ⟨hc, hf, hz⟩ := hw1.facts
        try simp at hz
        try go_simp
        try rfl
      try go_simp
      refine hK _ ?_; clear hK K; refine qWalk_step ?_; intro K hK; go_simp; apply Exists.intro; refine And.intro ?_ ?_
      · intro w1 hw1
        try go_simp
        try rfl
      try go_simp
      refine hK _ ?_; clear hK K; refine qWalk_step ?_; intro K hK; go_simp; apply Exists.intro; refine And.intro ?_ ?_
      · intro w1 hw1
        try go_simp
        try rfl
      try go_simp
      refine hK _ ?_; clear hK K; refine qWalk_step ?_; intro K hK; go_simp; apply Exists.intro; refine And.intro ?_ ?_
      · intro w1 hw1
        try go_simp
        try rfl
      try go_simp
      refine hK _ ?_; clear hK K; refine qWalk_step ?_; intro K hK; go_simp; apply Exists.intro; refine And.intro ?_ ?_
      · intro w1 hw1
        obtain ⟨hc, hf, hz⟩ := hw1.facts
        try simp at hz
        try go_simp
        try rfl
      try go_simp
      refine hK _ ?_; clear hK K; refine qWalk_step ?_; intro K hK; go_simp; apply Exists.intro; refine And.intro ?_ ?_
      · intro w1 hw1
        try go_simp
        exact up_call hw1 (C.out _ hw1)
      try go_simp
      refine hK _ ?_; clear hK K; refine qWalk_step ?_; intro K hK; go_simp; apply Exists.intro; refine And.intro ?_ ?_
      · intro w1 hw1
        try go_simp
        try rfl
      try go_simp
      refine hK _ ?_; clear hK K; refine qWalk_nil ?_; intro wA uA
      have UA := Lib.hid (UR.out.trans uA)
      clear uA; go_wp2
      go_roundw
      case rel => exact ⟨⟨k + 1, by omega, by go_num⟩, UA.out⟩
      case measure => simp [intOf]; omega
    · obtain rfl : k = n := by omega
      have i4 : ¬ (k : Int) < k := by omega
      go_wp2; go_ret
      exact ⟨rfl, ur⟩
set_option maxHeartbeats 4000000 in
theorem eqCb_same (A : Option Addr) (n c : Nat) (B : Option Addr) (k d : Nat) (A' : Option Addr) (c' : Nat) (B' : Option Addr) (d' : Nat) (hs : List Ch) (ls : List (List Rec)) (w : World) (h1 : CbV w A n B k hs ls) (h2 : CbV w A' n B' k hs ls) :
    Calls Try.prog 13 #[.agg #[.slice A n c, .slice B k d], .agg #[.slice A' n c', .slice B' k d']] w fun x w' => x = .returned (.bool true) ∧ Up w w' := by
  have hn := h1.few.1
  have hk := h1.few.2
  have C1 := Lib.hid (fun W (u : Up w W) => eqChs_same A A' n c c' hs W (by omega) (h1.hosts.up u) (h2.hosts.up u))
  have C2 := Lib.hid (fun W (u : Up w W) => eqLgs_same B B' k d d' ls W (by omega) (h1.logs.up u) (h2.logs.up u))
  have Y2 := Lib.hid ((Blk.new w #[.slice A n c, .slice B k d] 41).alloc (.cells #[.slice A' n c', .slice B' k d'] 41))
  have Y3 := Lib.hid (Blk.new (w.alloc (.cells #[.slice A n c, .slice B k d] 41)) #[.slice A' n c', .slice B' k d'] 41)
  simp only [World.size_alloc] at Y3
  have U := Lib.hid (((Up.refl w).alloc (.cells #[.slice A n c, .slice B k d] 41)).alloc (.cells #[.slice A' n c', .slice B' k d'] 41))
  clear h1 h2
  go_enter Try.func13, Try.ntmps13
  go_wp2_with fail
  refine (C1.out _ U.out).mono ?_; rintro x w1 ⟨rfl, u1⟩
  replace Y2 := Lib.hid (Y2.out.up u1)
  replace Y3 := Lib.hid (Y3.out.up u1)
  replace U := Lib.hid (U.out.trans u1)
  clear u1
  have x1 := Y2.out.cell (j := 1) rfl
  have y1 := Y3.out.cell (j := 1) rfl
  have lx := Y2.out.lt
  have ly := Y3.out.lt
  go_wp2_with fail
  refine (C2.out _ U.out).mono ?_; rintro x w2 ⟨rfl, u2⟩; go_wp2; go_ret
  exact ⟨rfl, U.out.trans u2⟩
end Go.Proofs.Ytipjcjjjkkaigab

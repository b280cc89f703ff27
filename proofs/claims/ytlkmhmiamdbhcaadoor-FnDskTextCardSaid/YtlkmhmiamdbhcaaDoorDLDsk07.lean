/-
  What DskText and RecText of the program return, in one sentence: the same texts as the reference's; for every kind, number and record.
  What impl.DskRead returns, in one sentence: what happens that the string says, if it says any; for every string of at most a million bytes.
  What DrawDskText gives, in one sentence: an action of two small numbers, with new blocks alone; for every code that lies in memory.
-/
import Derived.Test.YtlkmhmiamdbhcaaDoorDLDsk01
import Derived.Test.YtlkmhmiamdbhcaaDoorDLDsk02
import Derived.Test.YtlkmhmiamdbhcaaDoorDLDsk04
import Derived.Test.YtlkmhmiamdbhcaaDoorDLDsk06
namespace Go.Proofs.YtlkmhmiamdbhcaaDoor
set_option maxRecDepth 100000
open Go.RowKit
theorem withinU (n lo hi : Int) (w : World) : Calls Tryd.prog 24 #[.int .i64 n, .int .i64 lo, .int .i64 hi] w fun e w' => e = .returned (.bool (inB n lo hi)) ∧ Up w w' := (within_any n lo hi w).mono fun _ _ h => ⟨h.1, h.2 ▸ Up.refl w⟩
theorem one_cell (w : World) (n : Int) : ∀ i, i < 1 → (w.alloc (.cells #[.int .i64 n] 3)).cell? ⟨w.heap.size, i, none⟩ = some (.int .i64 (([n] : List Int).getD i 0)) := fun i hi => by
  obtain rfl : i = 0 := by omega
  have hh := heap_alloc_new w (.cells #[.int .i64 n] 3)
  rw [cell_of_row _ _ 0 _ _ _ hh]
  rfl
/-- What is known of the format of an action. -/
theorem fmt_facts (q : Nat) (at_ : Int) (hq : 1 ≤ q ∧ q ≤ 5) : ∃ (wd : ByteArray) (top : Int) (P0 : List UInt8) (Ps : List (List UInt8)), fmtCells[q * 2]? = some (.string wd) ∧ fmtCells[q * 2 + 1]? = some (.int .i64 top) ∧ wd.size < 1000 ∧ Lib.countB wd ⟨#[35]⟩ = Ps.length ∧
    (Lib.splitB ⟨#[35]⟩ 0 Ps.length wd).map Value.string = (P0 :: Ps).map (fun p : List UInt8 => Value.string ⟨p.toArray⟩) ∧ Ps.length ≤ 1 ∧ (∀ p, p ∈ P0 :: Ps → p.length ≤ 1000) ∧ top ≤ 999 ∧ (inB at_ 0 top = true → P0 ++ joinS Ps [at_] = dskS q at_) ∧ (inB at_ 0 top = false → [] = dskS q at_) := by
  have h5 : q = 1 ∨ q = 2 ∨ q = 3 ∨ q = 4 ∨ q = 5 := by omega
  rcases h5 with rfl | rfl | rfl | rfl | rfl
  · refine ⟨⟨([100, 111, 32, 35] : List UInt8).toArray⟩, 999, [100, 111, 32], [[]], rfl, rfl, by decide, by kernel_rfl, by kernel_rfl, by decide, by decide, by decide, fun h => ?_, fun h => ?_⟩
    · unfold dskS
      rw [if_pos (by decide), if_neg (by decide), if_pos h]; simp [joinS, wordS]
    · unfold dskS
      rw [if_pos (by decide), if_neg (by decide), h]
      rfl
  · refine ⟨⟨([104, 101, 97, 114, 32, 35] : List UInt8).toArray⟩, 999, [104, 101, 97, 114, 32], [[]], rfl, rfl, by decide, by kernel_rfl, by kernel_rfl, by decide, by decide, by decide, fun h => ?_, fun h => ?_⟩
    · unfold dskS
      rw [if_pos (by decide), if_neg (by decide), if_pos h]; simp [joinS, wordS]
    · unfold dskS
      rw [if_pos (by decide), if_neg (by decide), h]
      rfl
  · refine ⟨⟨([98, 101, 103, 105, 110] : List UInt8).toArray⟩, 0, [98, 101, 103, 105, 110], [], rfl, rfl, by decide, by kernel_rfl, by kernel_rfl, by decide, by decide, by decide, fun h => ?_, fun h => ?_⟩
    · have h0 : at_ = 0 := by rw [inB_iff] at h; omega
      subst h0
      rfl
    · have h0 : at_ ≠ 0 := fun e => by subst e; cases h
      unfold dskS; rw [if_pos (by decide), if_pos (by decide), if_neg h0]
  · refine ⟨⟨([118, 105, 115, 105, 116] : List UInt8).toArray⟩, 0, [118, 105, 115, 105, 116], [], rfl, rfl, by decide, by kernel_rfl, by kernel_rfl, by decide, by decide, by decide, fun h => ?_, fun h => ?_⟩
    · have h0 : at_ = 0 := by rw [inB_iff] at h; omega
      subst h0
      rfl
    · have h0 : at_ ≠ 0 := fun e => by subst e; cases h
      unfold dskS; rw [if_pos (by decide), if_pos (by decide), if_neg h0]
  · refine ⟨⟨([102, 114, 101, 101, 32, 35] : List UInt8).toArray⟩, 999, [102, 114, 101, 101, 32], [[]], rfl, rfl, by decide, by kernel_rfl, by kernel_rfl, by decide, by decide, by decide, fun h => ?_, fun h => ?_⟩
    · unfold dskS
      rw [if_pos (by decide), if_neg (by decide), if_pos h]; simp [joinS, wordS]
    · unfold dskS
      rw [if_pos (by decide), if_neg (by decide), h]
      rfl
set_option maxHeartbeats 2000000 in
theorem implDsk_any (k at_ : Int) (w : World) (ht : Tabs w) : Calls Tryd.prog 10 #[.agg #[.int .i64 k, .int .i64 at_]] w fun x w' => x = .returned (.string ⟨(dskS k at_).toArray⟩) ∧ Up w w' := by
  have HT := Lib.hid (fun W (u : Up w W) => ht.up u)
  have X := Lib.hid (Blq.new w #[.int .i64 k, .int .i64 at_] 25)
  have U := Lib.hid ((Up.refl w).alloc (.cells #[.int .i64 k, .int .i64 at_] 25))
  by_cases hk : 1 ≤ k ∧ k ≤ 5
  · obtain ⟨q, rfl⟩ : ∃ q : Nat, k = q := ⟨k.toNat, by omega⟩
    obtain ⟨wd, top, P0, Ps, f0, f1, hwd, hcn, hsp, hle, hp, htp, hr1, hr0⟩ := fmt_facts q at_ (by omega)
    have CL := Lib.hid (fun W (u : Up w W) g cc (hq : g < W.heap.size) (hN : ∀ i, i < 1 → W.cell? ⟨g, i, none⟩ = some (.int .i64 (([at_] : List Int).getD i 0))) (ha : at_ ≤ 999) => line_any wd top P0 Ps g 1 cc [at_] W hwd hcn hsp (HT.out W u) rfl hle (by decide) hq hN (by
      intro n hn; simp only [List.mem_singleton] at hn
      omega) hp)
    have F0 := Lib.hid (fun W (u : Up w W) => (HT.out W u).fm _ _ f0)
    have F1 := Lib.hid (fun W (u : Up w W) => (HT.out W u).fm _ _ f1)
    have HTP := Lib.hid htp
    have R0 := Lib.hid (show inB at_ 0 top = false → (⟨#[]⟩ : ByteArray) = ⟨(dskS q at_).toArray⟩ from fun h => by rw [← hr0 h])
    have R1 := Lib.hid (show inB at_ 0 top = true → (⟨(P0 ++ joinS Ps [at_]).toArray⟩ : ByteArray) = ⟨(dskS q at_).toArray⟩ from fun h => by rw [← hr1 h])
    generalize P0 ++ joinS Ps [at_] = rs at CL R1
    generalize dskS q at_ = res at R0 R1 ⊢
    have hin : inB (q : Int) 1 5 = true := by rw [inB_iff]; exact hk
    have HIN := Lib.hid hin
    have HK := Lib.hid (show (q : Int) < 12 ∧ (0 : Int) ≤ q by omega)
    clear hr0 hr1 f0 f1 hwd hcn hsp hle hp htp hk hin
    go_enter Tryd.func10, Tryd.ntmps10
    go_wp2_with fail
    generalize hW0 : (w.alloc (.cells #[.int .i64 (q : Int), .int .i64 at_] 25)) = W0 at *
    generalize hb0 : w.heap.size = b0 at *
    clear hW0 hb0
    have x0 := X.out.cell (j := 0) rfl
    have x1 := X.out.cell (j := 1) rfl
    have xl := X.out.lt
    have g0 := F0.out _ U.out
    have g1 := F1.out _ U.out
    have gl := World.block_lt_of_cell? _ _ g0
    have k1 := HK.out.1
    have k2 := HK.out.2
    have h1 := HIN.out
    refine region_qw (by kernel_rfl) (by kernel_rfl) ?_; refine qWalk_step ?_; intro K hK; go_simp; apply Exists.intro; refine And.intro ?_ ?_
    · intro w1 hw1
      try go_simp
      try rfl
    try go_simp
    refine hK _ ?_; clear hK K; refine qWalk_step ?_; intro K hK; go_simp; apply Exists.intro; refine And.intro ?_ ?_
    · intro w1 hw1
      obtain ⟨hc, hf, hz⟩ := hw1.facts
      try simp at hz
      try go_simp
      try rfl
    try go_simp
    refine hK _ ?_; clear hK K; refine qWalk_step ?_; intro K hK; go_simp; apply Exists.intro; refine And.intro ?_ ?_
    · intro w1 hw1
      try go_simp
      exact up_call hw1 ((withinU (q : Int) 1 5 _))
    try go_simp
    refine hK _ ?_; clear hK K; refine qWalk_step ?_; intro K hK; go_simp; apply Exists.intro; refine And.intro ?_ ?_
    · intro w1 hw1
      try go_simp
      try rfl
    try go_simp
    refine hK _ ?_; clear hK K; refine qWalk_step ?_; intro K hK; go_simp; apply Exists.intro; refine And.intro ?_ ?_
    · intro w1 hw1
      try go_simp
      try rfl
    try go_simp
    refine hK _ ?_; clear hK K; refine qWalk_step ?_; intro K hK; go_simp; apply Exists.intro; refine And.intro ?_ ?_
    · intro w1 hw1
      try go_simp
      try rfl
    try go_simp
    refine hK _ ?_; clear hK K; refine qWalk_step ?_; intro K hK; go_simp; apply Exists.intro; refine And.intro ?_ ?_
    · intro w1 hw1
      obtain ⟨hc, hf, hz⟩ := hw1.facts
      try simp at hz
      try go_simp
      try rfl
    try go_simp
    refine hK _ ?_; clear hK K; refine qWalk_step ?_; intro K hK; go_simp; apply Exists.intro; refine And.intro ?_ ?_
    · intro w1 hw1
      try go_simp
      try rfl
    try go_simp
    refine hK _ ?_; clear hK K; refine qWalk_step ?_; intro K hK; go_simp; apply Exists.intro; refine And.intro ?_ ?_
    · intro w1 hw1
      obtain ⟨hc, hf, hz⟩ := hw1.facts
      try simp at hz
      try go_simp
      try rfl
    try go_simp
    refine hK _ ?_; clear hK K; refine qWalk_step ?_; intro K hK; go_simp; apply Exists.intro; refine And.intro ?_ ?_
    · intro w1 hw1
      try go_simp
      try rfl
    try go_simp
    refine hK _ ?_; clear hK K; refine qWalk_step ?_; intro K hK; go_simp; apply Exists.intro; refine And.intro ?_ ?_
    · intro w1 hw1
      try go_simp
      try rfl
    try go_simp
    refine hK _ ?_; clear hK K; refine qWalk_step ?_; intro K hK; go_simp; apply Exists.intro; refine And.intro ?_ ?_
    · intro w1 hw1
      obtain ⟨hc, hf, hz⟩ := hw1.facts
      try simp at hz
      try go_simp
      try rfl
    try go_simp
    refine hK _ ?_; clear hK K; refine qWalk_step ?_; intro K hK; go_simp; apply Exists.intro; refine And.intro ?_ ?_
    · intro w1 hw1
      try go_simp
      exact up_call hw1 ((withinU at_ 0 top _))
    try go_simp
    refine hK _ ?_; clear hK K; refine qWalk_step ?_; intro K hK; go_simp; apply Exists.intro; refine And.intro ?_ ?_
    · intro w1 hw1
      try go_simp
      try rfl
    try go_simp
    refine hK _ ?_; clear hK K; refine qWalk_step ?_; intro K hK; go_simp; apply Exists.intro; refine And.intro ?_ ?_
    · intro w1 hw1
      try go_simp
      try rfl
    try go_simp
    refine hK _ ?_; clear hK K; refine qWalk_nil ?_; intro wA uA
    have UA := Lib.hid (U.out.trans uA)
    replace X := Lib.hid (X.out.up uA)
    clear uA x0 x1 xl g0 g1 gl U
    cases hs : inB at_ 0 top
    · have HR := Lib.hid (R0.out hs)
      clear hs; go_wp2; go_ret
      exact ⟨ret_str HR.out, UA.out⟩
    · have HR := Lib.hid (R1.out hs)
      have ha : at_ ≤ 999 := by have := HTP.out; rw [inB_iff] at hs; omega
      have CLq := Lib.hid (fun W (u : Up w W) g cc hq hN => CL.out W u g cc hq hN ha)
      clear hs ha CL R0 R1 k1 k2 h1
      have k1 := HK.out.1
      have k2 := HK.out.2
      go_wp2_with fail
      refine region_mixH (fun w' => Up wA w') [(0, true), (1, true), (2, true), (3, true), (4, true), (5, true), (6, false), (7, false), (8, true)] (by kernel_rfl) (by kernel_rfl) (Up.refl _).drew ?_; refine mixH_take rfl (by rfl) ?_; apply Exists.intro; refine ⟨fun w1 hS1 => ?_, ?_⟩
      · clear hS1
        go_simp
        try rfl
      go_simp; refine mixH_take rfl (by rfl) ?_; apply Exists.intro; refine ⟨fun w1 hS1 => ?_, ?_⟩
      · obtain ⟨x0, x1, xl⟩ := And.intro ((X.out.up hS1).cell (j := 0) rfl) (And.intro ((X.out.up hS1).cell (j := 1) rfl) (X.out.up hS1).lt)
        obtain ⟨g0, g1⟩ := And.intro (F0.out _ (UA.out.trans hS1)) (F1.out _ (UA.out.trans hS1))
        have gl := World.block_lt_of_cell? _ _ g0
        clear hS1; go_simp
        try rfl
      go_simp; refine mixH_take rfl (by rfl) ?_; apply Exists.intro; refine ⟨fun w1 hS1 => ?_, ?_⟩
      · clear hS1
        go_simp
        try rfl
      go_simp; refine mixH_take rfl (by rfl) ?_; apply Exists.intro; refine ⟨fun w1 hS1 => ?_, ?_⟩
      · obtain ⟨x0, x1, xl⟩ := And.intro ((X.out.up hS1).cell (j := 0) rfl) (And.intro ((X.out.up hS1).cell (j := 1) rfl) (X.out.up hS1).lt)
        obtain ⟨g0, g1⟩ := And.intro (F0.out _ (UA.out.trans hS1)) (F1.out _ (UA.out.trans hS1))
        have gl := World.block_lt_of_cell? _ _ g0
        clear hS1; go_simp
        try rfl
      go_simp; refine mixH_take rfl (by rfl) ?_; apply Exists.intro; refine ⟨fun w1 hS1 => ?_, ?_⟩
      · clear hS1
        go_simp
        try rfl
      go_simp; refine mixH_take rfl (by rfl) ?_; apply Exists.intro; refine ⟨fun w1 hS1 => ?_, ?_⟩
      · obtain ⟨x0, x1, xl⟩ := And.intro ((X.out.up hS1).cell (j := 0) rfl) (And.intro ((X.out.up hS1).cell (j := 1) rfl) (X.out.up hS1).lt)
        obtain ⟨g0, g1⟩ := And.intro (F0.out _ (UA.out.trans hS1)) (F1.out _ (UA.out.trans hS1))
        have gl := World.block_lt_of_cell? _ _ g0
        clear hS1; go_simp
        try rfl
      go_simp; refine mixH_go rfl (by rfl) (fun K hK => ?_); go_simp; refine hK _ _ ((Up.refl _).drew.alloc _) ?_; clear hK K; go_simp; refine mixH_go rfl (by rfl) (fun K hK => ?_); go_simp; refine (CLq.out _ (UA.out.trans ((Up.refl _).drew.alloc _)) _ _ (by simp) (one_cell wA.drew at_)).mono ?_; rintro x wC ⟨rfl, uC⟩; refine hK _ _ (((Up.refl _).drew.alloc _).trans uC) ?_; clear hK K; go_simp; refine mixH_take rfl (by rfl) ?_; apply Exists.intro; refine ⟨fun w1 hS1 => ?_, ?_⟩
      · clear hS1
        go_simp
        try rfl
      go_simp; refine mixH_nil ?_
      have UF := Lib.hid (UA.out.trans (((Up.refl _).drew.alloc _).trans uC))
      go_wp2; go_ret
      exact ⟨ret_str HR.out, UF.out⟩
  · have hin : inB k 1 5 = false := by
      cases h : inB k 1 5
      · rfl
      · rw [inB_iff] at h
        exact absurd h hk
    have HR := Lib.hid (show (⟨#[]⟩ : ByteArray) = ⟨(dskS k at_).toArray⟩ by unfold dskS; rw [hin]; rfl)
    generalize dskS k at_ = res at HR ⊢
    clear hk
    go_enter Tryd.func10, Tryd.ntmps10
    go_wp2_with fail
    generalize hW0 : (w.alloc (.cells #[.int .i64 k, .int .i64 at_] 25)) = W0 at *
    generalize hb0 : w.heap.size = b0 at *
    clear hW0 hb0
    have x0 := X.out.cell (j := 0) rfl
    have xl := X.out.lt
    refine region_qw (by kernel_rfl) (by kernel_rfl) ?_; refine qWalk_step ?_; intro K hK; go_simp; apply Exists.intro; refine And.intro ?_ ?_
    · intro w1 hw1
      try go_simp
      try rfl
    try go_simp
    refine hK _ ?_; clear hK K; refine qWalk_step ?_; intro K hK; go_simp; apply Exists.intro; refine And.intro ?_ ?_
    · intro w1 hw1
      obtain ⟨hc, hf, hz⟩ := hw1.facts
      try simp at hz
      try go_simp
      try rfl
    try go_simp
    refine hK _ ?_; clear hK K; refine qWalk_step ?_; intro K hK; go_simp; apply Exists.intro; refine And.intro ?_ ?_
    · intro w1 hw1
      try go_simp
      exact up_call hw1 ((withinU k 1 5 _))
    try go_simp
    refine hK _ ?_; clear hK K; refine qWalk_step ?_; intro K hK; go_simp; apply Exists.intro; refine And.intro ?_ ?_
    · intro w1 hw1
      try go_simp
      try rfl
    try go_simp
    refine hK _ ?_; clear hK K; refine qWalk_step ?_; intro K hK; go_simp; apply Exists.intro; refine And.intro ?_ ?_
    · intro w1 hw1
      try go_simp
      try rfl
    try go_simp
    refine hK _ ?_; clear hK K; refine qWalk_step ?_; intro K hK; go_simp; refine hK _ ?_; clear hK K; refine qWalk_step ?_; intro K hK; go_simp; refine hK _ ?_; clear hK K; refine qWalk_step ?_; intro K hK; go_simp; refine hK _ ?_; clear hK K; refine qWalk_step ?_; intro K hK; go_simp; refine hK _ ?_; clear hK K; refine qWalk_step ?_; intro K hK; go_simp; refine hK _ ?_; clear hK K; refine qWalk_step ?_; intro K hK; go_simp; refine hK _ ?_; clear hK K; refine qWalk_step ?_; intro K hK; go_simp; refine hK _ ?_; clear hK K; refine qWalk_step ?_; intro K hK; go_simp; refine hK _ ?_; clear hK K; refine qWalk_step ?_
    intro K hK; go_simp; refine hK _ ?_; clear hK K; refine qWalk_step ?_; intro K hK; go_simp; apply Exists.intro; refine And.intro ?_ ?_
    · intro w1 hw1
      try go_simp
      try rfl
    try go_simp
    refine hK _ ?_; clear hK K; refine qWalk_nil ?_; intro wA uA
    have UA := Lib.hid (U.out.trans uA)
    clear uA x0 xl; go_wp2; go_ret
    exact ⟨ret_str HR.out, UA.out⟩
end Go.Proofs.YtlkmhmiamdbhcaaDoor

namespace Go.Proofs.YtlkmhmiamdbhcaaDoor
set_option maxRecDepth 100000
open Go.RowKit
theorem laid2 {w : World} {b e : Nat} {arr : Array Value} (h : Blq w b e arr) (hs : arr.size = 2) (v0 v1 : Value) :
    ((w.setCell ⟨b, 0, none⟩ v0).setCell ⟨b, 1, none⟩ v1).cell? ⟨b, 0, none⟩ = some v0 ∧ ((w.setCell ⟨b, 0, none⟩ v0).setCell ⟨b, 1, none⟩ v1).cell? ⟨b, 1, none⟩ = some v1 := by
  have ne : ∀ k j, k ≠ j → (⟨b, k, none⟩ : Addr) ≠ ⟨b, j, none⟩ := fun k j hk => addr_ne (by omega)
  have sm : ∀ j, j < 2 → ∃ u, w.cell? ⟨b, j, none⟩ = some u := fun j hj => ⟨_, h.cell (j := j) (Array.getElem?_eq_getElem (by omega))⟩
  obtain ⟨u0, h0⟩ := sm 0 (by omega); obtain ⟨u1, h1⟩ := sm 1 (by omega)
  exact ⟨by rw [World.cell?_setCell_other _ _ _ _ (ne _ _ (by omega)), World.cell?_setCell_same _ _ _ h0], by rw [World.cell?_setCell_same _ _ _ ((World.cell?_setCell_other _ _ _ _ (ne _ _ (by omega))).trans h1)]⟩
theorem Blq.unfrozen {w : World} {b e : Nat} {arr : Array Value} (h : Blq w b e arr) (j : Nat) : w.frozen? ⟨b, j, none⟩ = false := by
  unfold Blq at h; unfold World.frozen?; rw [h]; simp
set_option maxHeartbeats 2000000 in
theorem implRead_any (s : List UInt8) (hl : s.length ≤ 1048576) (w : World) (ht : Tabs w) (hs : Sent w) :
    Calls Tryd.prog 12 #[.string ⟨s.toArray⟩] w fun x w' => (∃ k n b, x = .returned (.tuple #[.agg #[.int .i64 k, .int .i64 n], .bool b]) ∧ ResA s k n b) ∧ Up w w' := by
  have HT := Lib.hid ht
  have HS := Lib.hid hs
  have HL := Lib.hid hl
  have CL := Lib.hid (fun W => lastIx_any s (by omega) W)
  have CI := Lib.hid (fun W (u : Up w W) k n => implDsk_any k n W (ht.up u))
  obtain ⟨lb0, lb1⟩ := last_bounds s
  have CA := Lib.hid (fun W (u : Up w W) => atoi_any (lastF s) (by unfold lastF; rw [List.length_drop]; omega) W (hs.up u))
  have LF := Lib.hid (show (s.drop (Lib.lastIndex s [32] + 1).toNat).take (s.length - (Lib.lastIndex s [32] + 1).toNat) = lastF s by
    unfold lastF
    rw [List.take_of_length_le (by rw [List.length_drop]; omega)])
  have KO := Lib.hid (fun (hno : s = [] ∨ ∀ k, 1 ≤ k → k ≤ 5 → dskS k (atV (lastF s)) ≠ s) => (show ResA s 0 0 false from .inr ⟨rfl, rfl, rfl, fun k n h => by
    rcases Classical.em (s = []) with e | e
    · exact e
    · rcases hno with e2 | hno
      · exact e2
      · have := last_of h e
        have hk := kind_in h e
        exact absurd (this ▸ h) (hno k hk.1 hk.2)⟩))
  have KY := Lib.hid (fun k (h1 : s ≠ []) (h2 : dskS k (atV (lastF s)) = s) => (show ResA s k (atV (lastF s)) true from .inl ⟨rfl, h2, h1⟩))
  generalize atV (lastF s) = a at CA KO KY
  have U := Lib.hid ((Up.refl w).alloc (.cells #[.int .i64 0, .int .i64 0] 25))
  have X := Lib.hid (Blq.new w #[.int .i64 0, .int .i64 0] 25)
  generalize hz : Lib.lastIndex s [32] = z at CL lb0 lb1 LF
  clear hz ht hs
  go_enter Tryd.func12, Tryd.ntmps12
  go_wp2_with fail
  refine (CL.out _).mono ?_; rintro x w1 ⟨rfl, hw⟩; subst hw
  have i1 : IntKind.i64.wrap (z + 1) = z + 1 := IntWalk.i64_in _ (by omega)
  have i2 : 0 ≤ z + 1 := by omega
  have szs : (⟨s.toArray⟩ : ByteArray).size = s.length := by simp [ByteArray.size]
  have i3 : z + 1 ≤ (s.length : Int) := by omega
  go_wp2_with fail
  have ex : (⟨s.toArray⟩ : ByteArray).extract (z + 1).toNat s.length = ⟨(lastF s).toArray⟩ := by rw [ByteArray.extract_mk, LF.out]
  rw [ex]; refine (CA.out _ U.out).mono ?_; rintro x w2 ⟨⟨er, rfl⟩, u⟩
  replace U := Lib.hid (U.out.trans u)
  replace X := Lib.hid (X.out.up u)
  clear u CA CL LF i1 i2 i3 ex szs lb0 lb1; go_wp2
  go_loopw [6] (fun kv wr => ∃ q : Nat, kv = .int .i64 q ∧ 1 ≤ q ∧ q ≤ 6 ∧ (∀ k : Int, 1 ≤ k → k < q → s = [] ∨ dskS k a ≠ s) ∧ Up w wr ∧ Blq wr w.heap.size 25 #[.int .i64 0, .int .i64 0]) (fun kv _ => 6 - (intOf kv).toNat)
  case atStart => exact ⟨1, rfl, by omega, by omega, fun k h1 h2 => absurd h2 (by omega), U.out, X.out⟩
  case round =>
    obtain ⟨q, rfl, q1, q6, hno, ur, xr⟩ := hrel
    have XR := Lib.hid xr
    have UR := Lib.hid ur
    have HN := Lib.hid hno
    have sz := xr.lt
    clear hno ur xr
    by_cases hq : q = 6
    · subst hq
      obtain ⟨k0, k1⟩ := laid2 XR.out rfl (.int .i64 0) (.int .i64 0)
      have x0 := XR.out.cell (j := 0) rfl
      have x1 := XR.out.cell (j := 1) rfl
      have ff := XR.out.unfrozen
      have UE := Lib.hid ((UR.out.setCell (p := ⟨w.heap.size, 0, none⟩) (Nat.le_refl _) (.int .i64 0)).setCell (p := ⟨w.heap.size, 1, none⟩) (Nat.le_refl _) (.int .i64 0))
      have RS := Lib.hid (KO.out (by
        rcases Classical.em (s = []) with e | e
        · exact .inl e
        · exact .inr fun k h1 h2 => by rcases HN.out k h1 (by omega) with h | h; (exact absurd h e); exact h))
      go_wp2
      exact bodyPost_ret (v := .tuple #[.agg #[.int .i64 0, .int .i64 0], .bool false]) (by simp [results, Tryd.results12, go_sem, k0, k1]) rfl ⟨⟨0, 0, false, rfl, RS.out⟩, UE.out⟩
    · have q5 : (q : Int) ≤ 5 := by omega
      have i1 : IntKind.i64.wrap ((q : Int) + 1) = (q : Int) + 1 := IntWalk.i64_in _ (by omega)
      by_cases hse : s = []
      · have he : s.isEmpty = true := by rw [hse]; rfl
        go_wp2
        go_roundw
        case rel => exact ⟨q + 1, rfl, by omega, by omega, fun k _ _ => .inl hse, UR.out.alloc _, XR.out.up ((Up.refl _).alloc _)⟩
        case measure => simp [intOf]; omega
      · have he : s.isEmpty = false := by cases s with | nil => exact absurd rfl hse | cons c r => rfl
        go_wp2_with fail
        refine (CI.out _ (UR.out.alloc _) _ _).mono ?_; rintro x w3 ⟨rfl, u⟩
        replace UR := Lib.hid ((UR.out.alloc _).trans u)
        replace XR := Lib.hid ((XR.out.up ((Up.refl _).alloc _)).up u)
        have Y := Lib.hid ((Blq.new wr #[.int .i64 (q : Int), .int .i64 a] 25).up u)
        have y0 := Y.out.cell (j := 0) rfl
        have y1 := Y.out.cell (j := 1) rfl
        clear u
        by_cases hd : dskS q a = s
        · obtain ⟨k0, k1⟩ := laid2 XR.out rfl (.int .i64 q) (.int .i64 a)
          have x0 := XR.out.cell (j := 0) rfl
          have x1 := XR.out.cell (j := 1) rfl
          have ff := XR.out.unfrozen
          have UE := Lib.hid ((UR.out.setCell (p := ⟨w.heap.size, 0, none⟩) (Nat.le_refl _) (.int .i64 q)).setCell (p := ⟨w.heap.size, 1, none⟩) (Nat.le_refl _) (.int .i64 a))
          have RS := Lib.hid (KY.out q hse hd)
          clear XR UR HN KO KY
          have hd1 : (dskS q a == s) = true := by rw [hd]; exact BEq.rfl
          generalize dskS q a = l at hd hd1 ⊢
          go_wp2
          exact bodyPost_ret (v := .tuple #[.agg #[.int .i64 q, .int .i64 a], .bool true]) (by simp [results, Tryd.results12, go_sem, k0, k1]) rfl ⟨⟨q, a, true, rfl, RS.out⟩, UE.out⟩
        · have hd1 : (dskS q a == s) = false := by rw [beq_eq_false_iff_ne]; exact hd
          have hd2 : ¬ s = dskS q a := fun e => hd e.symm
          have HD := Lib.hid hd
          generalize dskS q a = l at hd hd1 hd2 ⊢
          go_wp2
          go_roundw
          case rel => exact ⟨q + 1, rfl, by omega, by omega, fun k h1 h2 => by
            rcases Int.lt_or_le k q with h | h
            · exact HN.out k h1 h
            · exact .inr (by rw [show k = q by omega]; exact HD.out), UR.out, XR.out⟩
          case measure => simp [intOf]; omega
end Go.Proofs.YtlkmhmiamdbhcaaDoor

namespace Go.Proofs.YtlkmhmiamdbhcaaDoor
set_option maxRecDepth 100000
open Go.RowKit
def DrawnAct (w : World) (x : Ending) (w' : World) : Prop := ∃ k n : Int, x = .returned (.agg #[.int .i64 k, .int .i64 n]) ∧ Up w w'
set_option maxHeartbeats 2000000 in
theorem drawDT_any (A : Option Addr) (n cap : Nat) (w : World) (hc : n ≤ cap) (hmax : cap ≤ 9223372036854775807) (hB : Bys w A n w.heap.size) :
    Calls Tryd.prog 17 #[.slice A n cap] w (DrawnAct w) := by
  have HB := Lib.hid hB
  clear hB
  have U0 := Lib.hid ((Up.refl w).alloc (.cells #[.int .i64 0, .int .i64 0] 25))
  have X0 := Lib.hid (Blq.new w #[.int .i64 0, .int .i64 0] 25)
  have HB0 : Bys (w.alloc (.cells #[.int .i64 0, .int .i64 0] 25)) A n (w.alloc (.cells #[.int .i64 0, .int .i64 0] 25)).heap.size := fun h0 => by
    obtain ⟨b, off, hA, hb, hcc⟩ := HB.out.keep (fun b o hb => U0.out.cells b o hb) h0
    exact ⟨b, off, hA, by simp; omega, hcc⟩
  have CO := Lib.hid (open_any A n cap _ hc hmax HB0)
  clear HB0
  go_enter Tryd.func17, Tryd.ntmps17
  go_wp2_with fail
  refine CO.out.mono ?_; rintro x w1 ⟨g, rfl, hg, r1, u1⟩
  have hg' : w.heap.size + 1 ≤ g := by simpa using hg
  have R1 := Lib.hid r1
  have U1 := Lib.hid (U0.out.trans u1)
  have X1 := Lib.hid (X0.out.up u1)
  clear hg r1 u1 U0 X0 CO HB
  go_wp2_with fail
  refine (pick_any g 0 7 _ ⟨by omega, by omega⟩ (by omega) R1.out).mono ?_; intro x w2 pk; obtain ⟨k, rfl, k0', k1', k2', r2, m2⟩ := pk.cases (by omega)
  have R2 := Lib.hid r2
  have U2 := Lib.hid (m2.up U1.out (by omega))
  have X2 := Lib.hid (X1.out.mv m2 (by omega))
  clear pk r2 m2 R1 U1 X1
  go_wp2_with fail
  refine (pick_any g 1 20 _ ⟨by omega, by omega⟩ (by omega) R2.out).mono ?_; intro x w3 pk; obtain ⟨p, rfl, p0, p1, p2, r3, m3⟩ := pk.cases (by omega)
  have R3 := Lib.hid r3
  have g3 : g < w3.heap.size := r3.lt'
  have U3 := Lib.hid (m3.up U2.out (by omega))
  have X3 := Lib.hid (X2.out.mv m3 (by omega))
  clear pk r3 m3 R2 U2 X2
  go_wp2_with fail
  refine (pick_any g 2 6 _ ⟨by omega, by omega⟩ (by omega) ((R3.out.alloc _).alloc _)).mono ?_; intro x w4 pk; obtain ⟨q, rfl, q0, q1, q2, r4, m4⟩ := pk.cases (by omega)
  have U4 := Lib.hid (m4.up ((U3.out.alloc _).alloc _) (by omega))
  have X4 := Lib.hid (((X3.out.up ((Up.refl _).alloc _)).up ((Up.refl _).alloc _)).mv m4 (by omega))
  have A4 := Lib.hid (((Blq.new w3 #[.int .i64 p, .int .i64 0, .int .i64 (-1), .int .i64 1000] 3).up ((Up.refl _).alloc (.cells #[.int .i64 0, .int .i64 0, .int .i64 1, .int .i64 1, .int .i64 2, .int .i64 3] 3))).mv m4 (by omega))
  have B4 := Lib.hid ((Blq.new (w3.alloc (.cells #[.int .i64 p, .int .i64 0, .int .i64 (-1), .int .i64 1000] 3)) #[.int .i64 0, .int .i64 0, .int .i64 1, .int .i64 1, .int .i64 2, .int .i64 3] 3).mv m4 (by simp; omega))
  obtain ⟨t, s, t0, t1, hb, ha⟩ : ∃ t s : Int, 0 ≤ t ∧ t < 4 ∧ w4.cell? ⟨(w3.alloc (.cells #[.int .i64 p, .int .i64 0, .int .i64 (-1), .int .i64 1000] 3)).heap.size, q.toNat, none⟩ = some (.int .i64 t) ∧ w4.cell? ⟨w3.heap.size, t.toNat, none⟩ = some (.int .i64 s) := by
    have hq : q = 0 ∨ q = 1 ∨ q = 2 ∨ q = 3 ∨ q = 4 ∨ q = 5 := by omega
    rcases hq with rfl | rfl | rfl | rfl | rfl | rfl
    · exact ⟨0, p, by omega, by omega, B4.out.cell (j := 0) rfl, A4.out.cell (j := 0) rfl⟩
    · exact ⟨0, p, by omega, by omega, B4.out.cell (j := 1) rfl, A4.out.cell (j := 0) rfl⟩
    · exact ⟨1, 0, by omega, by omega, B4.out.cell (j := 2) rfl, A4.out.cell (j := 1) rfl⟩
    · exact ⟨1, 0, by omega, by omega, B4.out.cell (j := 3) rfl, A4.out.cell (j := 1) rfl⟩
    · exact ⟨2, -1, by omega, by omega, B4.out.cell (j := 4) rfl, A4.out.cell (j := 2) rfl⟩
    · exact ⟨3, 1000, by omega, by omega, B4.out.cell (j := 5) rfl, A4.out.cell (j := 3) rfl⟩
  have q3 : q < 6 := by omega
  simp only [World.size_alloc] at hb; clear pk r4 m4 q1 q2 A4 B4 U3 X3 R3; obtain ⟨k0, k1⟩ := laid2 X4.out rfl (.int .i64 k) (.int .i64 s)
  have UE := Lib.hid ((U4.out.setCell (p := ⟨w.heap.size, 0, none⟩) (Nat.le_refl _) (.int .i64 k)).setCell (p := ⟨w.heap.size, 1, none⟩) (Nat.le_refl _) (.int .i64 s))
  have x0 := X4.out.cell (j := 0) rfl
  have x1 := X4.out.cell (j := 1) rfl
  have ff := X4.out.unfrozen
  clear X4 U4; go_wp2
  exact bodyPost_ret (v := .agg #[.int .i64 k, .int .i64 s]) (by simp [results, Tryd.results17, go_sem, k0, k1]) rfl ⟨k, s, rfl, UE.out⟩
end Go.Proofs.YtlkmhmiamdbhcaaDoor

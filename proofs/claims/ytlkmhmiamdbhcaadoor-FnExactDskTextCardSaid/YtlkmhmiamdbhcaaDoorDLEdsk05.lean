/-
  What DskText and RecText of the program return, in one sentence: the same texts as the reference's; for every kind, number and record.
  What FnExactDskText and FnExactRecText return, in one sentence: true, with new blocks alone; for every action and every record, where the tables hold what the program's text lays.
  For every action the law FnExactDskText returns true and leaves its argument and the table of formats as they were; the tables hold what the program's text lays.
-/
import Derived.Deep.AppendLies
import Derived.Deep.Draws
import Derived.DeepKeys4
import Derived.Laws.OwnMore
import Derived.Lib.AppendZeros
import Derived.Maps.AppendAt
import Derived.Maps.OwnSet
import Derived.OwnWalk
import Derived.ProofKit
import Derived.RegionTactic
import Derived.StillTailTactics
import Derived.Test.YtlkmhmiamdbhcaaDoorCards
import Derived.Test.YtlkmhmiamdbhcaaDoorDLEdsk01
import Derived.Test.YtlkmhmiamdbhcaaDoorDLEdsk02
import Derived.Test.YtlkmhmiamdbhcaaDoorDLEdsk03
import Derived.Test.YtlkmhmiamdbhcaaDoorDLEdsk04
import Derived.WalkKit
namespace Go.Proofs.YtlkmhmiamdbhcaaDoor
set_option maxRecDepth 100000
open Go.RowKit
theorem withinU (n lo hi : Int) (w : World) : Calls Tryd.prog 24 #[.int .i64 n, .int .i64 lo, .int .i64 hi] w fun e w' => e = .returned (.bool (inB n lo hi)) ∧ Up w w' := (within_any n lo hi w).mono fun _ _ h => ⟨h.1, h.2 ▸ Up.refl w⟩
theorem one_cell (w : World) (n : Int) : ∀ i, i < 1 → (w.alloc (.cells #[.int .i64 n] 3)).cell? ⟨w.heap.size, i, none⟩ = some (.int .i64 (([n] : List Int).getD i 0)) := fun i hi => by
  obtain rfl : i = 0 := by omega
  have hh := heap_alloc_new w (.cells #[.int .i64 n] 3)
  rw [cell_of_row _ _ 0 _ _ _ hh]
  rfl
/-- What is known of the format of an action. -/
theorem fmt_facts (q : Nat) (at_ : Int) (hq : 1 ≤ q ∧ q ≤ 5) : ∃ (wd : ByteArray) (top : Int) (P0 : List UInt8) (Ps : List (List UInt8)), fmtCells[q * 2]? = some (.string wd) ∧ fmtCells[q * 2 + 1]? = some (.int .i64 top) ∧ wd.size < 1000 ∧ Lib.countB wd ⟨#[35]⟩ = Ps.length ∧
    (Lib.splitB ⟨#[35]⟩ 0 Ps.length wd).map Value.string = (P0 :: Ps).map (fun p : List UInt8 => Value.string ⟨p.toArray⟩) ∧ Ps.length ≤ 1 ∧ (∀ p, p ∈ P0 :: Ps → p.length ≤ 1000) ∧ top ≤ 999 ∧ (inB at_ 0 top = true → P0 ++ joinS Ps [at_] = dskS q at_) ∧ (inB at_ 0 top = false → [] = dskS q at_) := by
  have h5 : q = 1 ∨ q = 2 ∨ q = 3 ∨ q = 4 ∨ q = 5 := by omega
  rcases h5 with rfl | rfl | rfl | rfl | rfl
  · refine ⟨⟨([100, 111, 32, 35] : List UInt8).toArray⟩, 999, [100, 111, 32], [[]], rfl, rfl, by decide, by kernel_rfl, by kernel_rfl, by decide, by decide, by decide, fun h => ?_, fun h => ?_⟩
    · unfold dskS
      rw [if_pos (by decide), if_neg (by decide), if_pos h]; simp [joinS, wordS]
    · unfold dskS
      rw [if_pos (by decide), if_neg (by decide), h]
      rfl
  · refine ⟨⟨([104, 101, 97, 114, 32, 35] : List UInt8).toArray⟩, 999, [104, 101, 97, 114, 32], [[]], rfl, rfl, by decide, by kernel_rfl, by kernel_rfl, by decide, by decide, by decide, fun h => ?_, fun h => ?_⟩
    · unfold dskS
      rw [if_pos (by decide), if_neg (by decide), if_pos h]; simp [joinS, wordS]
    · unfold dskS
      rw [if_pos (by decide), if_neg (by decide), h]
      rfl
  · refine ⟨⟨([98, 101, 103, 105, 110] : List UInt8).toArray⟩, 0, [98, 101, 103, 105, 110], [], rfl, rfl, by decide, by kernel_rfl, by kernel_rfl, by decide, by decide, by decide, fun h => ?_, fun h => ?_⟩
    · have h0 : at_ = 0 := by rw [inB_iff] at h; omega
      subst h0
      rfl
    · have h0 : at_ ≠ 0 := fun e => by subst e; cases h
      unfold dskS; rw [if_pos (by decide), if_pos (by decide), if_neg h0]
  · refine ⟨⟨([118, 105, 115, 105, 116] : List UInt8).toArray⟩, 0, [118, 105, 115, 105, 116], [], rfl, rfl, by decide, by kernel_rfl, by kernel_rfl, by decide, by decide, by decide, fun h => ?_, fun h => ?_⟩
    · have h0 : at_ = 0 := by rw [inB_iff] at h; omega
      subst h0
      rfl
    · have h0 : at_ ≠ 0 := fun e => by subst e; cases h
      unfold dskS; rw [if_pos (by decide), if_pos (by decide), if_neg h0]
  · refine ⟨⟨([102, 114, 101, 101, 32, 35] : List UInt8).toArray⟩, 999, [102, 114, 101, 101, 32], [[]], rfl, rfl, by decide, by kernel_rfl, by kernel_rfl, by decide, by decide, by decide, fun h => ?_, fun h => ?_⟩
    · unfold dskS
      rw [if_pos (by decide), if_neg (by decide), if_pos h]; simp [joinS, wordS]
    · unfold dskS
      rw [if_pos (by decide), if_neg (by decide), h]
      rfl
set_option maxHeartbeats 2000000 in
theorem implDsk_any (k at_ : Int) (w : World) (ht : Tabs w) : Calls Tryd.prog 10 #[.agg #[.int .i64 k, .int .i64 at_]] w fun x w' => x = .returned (.string ⟨(dskS k at_).toArray⟩) ∧ Up w w' := by
  have HT := Lib.hid (fun W (u : Up w W) => ht.up u)
  have X := Lib.hid (Blq.new w #[.int .i64 k, .int .i64 at_] 25)
  have U := Lib.hid ((Up.refl w).alloc (.cells #[.int .i64 k, .int .i64 at_] 25))
  by_cases hk : 1 ≤ k ∧ k ≤ 5
  · obtain ⟨q, rfl⟩ : ∃ q : Nat, k = q := ⟨k.toNat, by omega⟩
    obtain ⟨wd, top, P0, Ps, f0, f1, hwd, hcn, hsp, hle, hp, htp, hr1, hr0⟩ := fmt_facts q at_ (by omega)
    have CL := Lib.hid (fun W (u : Up w W) g cc (hq : g < W.heap.size) (hN : ∀ i, i < 1 → W.cell? ⟨g, i, none⟩ = some (.int .i64 (([at_] : List Int).getD i 0))) (ha : at_ ≤ 999) => line_any wd top P0 Ps g 1 cc [at_] W hwd hcn hsp (HT.out W u) rfl hle (by decide) hq hN (by
      intro n hn; simp only [List.mem_singleton] at hn
      omega) hp)
    have F0 := Lib.hid (fun W (u : Up w W) => (HT.out W u).fm _ _ f0)
    have F1 := Lib.hid (fun W (u : Up w W) => (HT.out W u).fm _ _ f1)
    have HTP := Lib.hid htp
    have R0 := Lib.hid (show inB at_ 0 top = false → (⟨#[]⟩ : ByteArray) = ⟨(dskS q at_).toArray⟩ from fun h => by rw [← hr0 h])
    have R1 := Lib.hid (show inB at_ 0 top = true → (⟨(P0 ++ joinS Ps [at_]).toArray⟩ : ByteArray) = ⟨(dskS q at_).toArray⟩ from fun h => by rw [← hr1 h])
    generalize P0 ++ joinS Ps [at_] = rs at CL R1
    generalize dskS q at_ = res at R0 R1 ⊢
    have hin : inB (q : Int) 1 5 = true := by rw [inB_iff]; exact hk
    have HIN := Lib.hid hin
    have HK := Lib.hid (show (q : Int) < 12 ∧ (0 : Int) ≤ q by omega)
    clear hr0 hr1 f0 f1 hwd hcn hsp hle hp htp hk hin
    go_enter Tryd.func10, Tryd.ntmps10
    go_wp2_with fail
    generalize hW0 : (w.alloc (.cells #[.int .i64 (q : Int), .int .i64 at_] 25)) = W0 at *
    generalize hb0 : w.heap.size = b0 at *
    clear hW0 hb0
    have x0 := X.out.cell (j := 0) rfl
    have x1 := X.out.cell (j := 1) rfl
    have xl := X.out.lt
    have g0 := F0.out _ U.out
    have g1 := F1.out _ U.out
    have gl := World.block_lt_of_cell? _ _ g0
    have k1 := HK.out.1
    have k2 := HK.out.2
    have h1 := HIN.out
    refine region_qw (by kernel_rfl) (by kernel_rfl) ?_; refine qWalk_step ?_; intro K hK; go_simp; apply Exists.intro; refine And.intro ?_ ?_
    · intro w1 hw1
      try go_simp
      try rfl
    try go_simp
    refine hK _ ?_; clear hK K; refine qWalk_step ?_; intro K hK; go_simp; apply Exists.intro; refine And.intro ?_ ?_
    · intro w1 hw1
      obtain ⟨hc, hf, hz⟩ := hw1.facts
      try simp at hz
      try go_simp
      try rfl
    try go_simp
    refine hK _ ?_; clear hK K; refine qWalk_step ?_; intro K hK; go_simp; apply Exists.intro; refine And.intro ?_ ?_
    · intro w1 hw1
      try go_simp
      exact up_call hw1 ((withinU (q : Int) 1 5 _))
    try go_simp
    refine hK _ ?_; clear hK K; refine qWalk_step ?_; intro K hK; go_simp; apply Exists.intro; refine And.intro ?_ ?_
    · intro w1 hw1
      try go_simp
      try rfl
    try go_simp
    refine hK _ ?_; clear hK K; refine qWalk_step ?_; intro K hK; go_simp; apply Exists.intro; refine And.intro ?_ ?_
    · intro w1 hw1
      try go_simp
      try rfl
    try go_simp
    refine hK _ ?_; clear hK K; refine qWalk_step ?_; intro K hK; go_simp; apply Exists.intro; refine And.intro ?_ ?_
    · intro w1 hw1
      try go_simp
      try rfl
    try go_simp
    refine hK _ ?_; clear hK K; refine qWalk_step ?_; intro K hK; go_simp; apply Exists.intro; refine And.intro ?_ ?_
    · intro w1 hw1
      obtain ⟨hc, hf, hz⟩ := hw1.facts
      try simp at hz
      try go_simp
      try rfl
    try go_simp
    refine hK _ ?_; clear hK K; refine qWalk_step ?_; intro K hK; go_simp; apply Exists.intro; refine And.intro ?_ ?_
    · intro w1 hw1
      try go_simp
      try rfl
    try go_simp
    refine hK _ ?_; clear hK K; refine qWalk_step ?_; intro K hK; go_simp; apply Exists.intro; refine And.intro ?_ ?_
    · intro w1 hw1
      obtain ⟨hc, hf, hz⟩ := hw1.facts
      try simp at hz
      try go_simp
      try rfl
    try go_simp
    refine hK _ ?_; clear hK K; refine qWalk_step ?_; intro K hK; go_simp; apply Exists.intro; refine And.intro ?_ ?_
    · intro w1 hw1
      try go_simp
      try rfl
    try go_simp
    refine hK _ ?_; clear hK K; refine qWalk_step ?_; intro K hK; go_simp; apply Exists.intro; refine And.intro ?_ ?_
    · intro w1 hw1
      try go_simp
      try rfl
    try go_simp
    refine hK _ ?_; clear hK K; refine qWalk_step ?_; intro K hK; go_simp; apply Exists.intro; refine And.intro ?_ ?_
    · intro w1 hw1
      obtain ⟨hc, hf, hz⟩ := hw1.facts
      try simp at hz
      try go_simp
      try rfl
    try go_simp
    refine hK _ ?_; clear hK K; refine qWalk_step ?_; intro K hK; go_simp; apply Exists.intro; refine And.intro ?_ ?_
    · intro w1 hw1
      try go_simp
      exact up_call hw1 ((withinU at_ 0 top _))
    try go_simp
    refine hK _ ?_; clear hK K; refine qWalk_step ?_; intro K hK; go_simp; apply Exists.intro; refine And.intro ?_ ?_
    · intro w1 hw1
      try go_simp
      try rfl
    try go_simp
    refine hK _ ?_; clear hK K; refine qWalk_step ?_; intro K hK; go_simp; apply Exists.intro; refine And.intro ?_ ?_
    · intro w1 hw1
      try go_simp
      try rfl
    try go_simp
    refine hK _ ?_; clear hK K; refine qWalk_nil ?_; intro wA uA
    have UA := Lib.hid (U.out.trans uA)
    replace X := Lib.hid (X.out.up uA)
    clear uA x0 x1 xl g0 g1 gl U
    cases hs : inB at_ 0 top
    · have HR := Lib.hid (R0.out hs)
      clear hs; go_wp2; go_ret
      exact ⟨ret_str HR.out, UA.out⟩
    · have HR := Lib.hid (R1.out hs)
      have ha : at_ ≤ 999 := by have := HTP.out; rw [inB_iff] at hs; omega
      have CLq := Lib.hid (fun W (u : Up w W) g cc hq hN => CL.out W u g cc hq hN ha)
      clear hs ha CL R0 R1 k1 k2 h1
      have k1 := HK.out.1
      have k2 := HK.out.2
      go_wp2_with fail
      refine region_mixH (fun w' => Up wA w') [(0, true), (1, true), (2, true), (3, true), (4, true), (5, true), (6, false), (7, false), (8, true)] (by kernel_rfl) (by kernel_rfl) (Up.refl _).drew ?_; refine mixH_take rfl (by rfl) ?_; apply Exists.intro; refine ⟨fun w1 hS1 => ?_, ?_⟩
      · clear hS1
        go_simp
        try rfl
      go_simp; refine mixH_take rfl (by rfl) ?_; apply Exists.intro; refine ⟨fun w1 hS1 => ?_, ?_⟩
      · obtain ⟨x0, x1, xl⟩ := And.intro ((X.out.up hS1).cell (j := 0) rfl) (And.intro ((X.out.up hS1).cell (j := 1) rfl) (X.out.up hS1).lt)
        obtain ⟨g0, g1⟩ := And.intro (F0.out _ (UA.out.trans hS1)) (F1.out _ (UA.out.trans hS1))
        have gl := World.block_lt_of_cell? _ _ g0
        clear hS1; go_simp
        try rfl
      go_simp; refine mixH_take rfl (by rfl) ?_; apply Exists.intro; refine ⟨fun w1 hS1 => ?_, ?_⟩
      · clear hS1
        go_simp
        try rfl
      go_simp; refine mixH_take rfl (by rfl) ?_; apply Exists.intro; refine ⟨fun w1 hS1 => ?_, ?_⟩
      · obtain ⟨x0, x1, xl⟩ := And.intro ((X.out.up hS1).cell (j := 0) rfl) (And.intro ((X.out.up hS1).cell (j := 1) rfl) (X.out.up hS1).lt)
        obtain ⟨g0, g1⟩ := And.intro (F0.out _ (UA.out.trans hS1)) (F1.out _ (UA.out.trans hS1))
        have gl := World.block_lt_of_cell? _ _ g0
        clear hS1; go_simp
        try rfl
      go_simp; refine mixH_take rfl (by rfl) ?_; apply Exists.intro; refine ⟨fun w1 hS1 => ?_, ?_⟩
      · clear hS1
        go_simp
        try rfl
      go_simp; refine mixH_take rfl (by rfl) ?_; apply Exists.intro; refine ⟨fun w1 hS1 => ?_, ?_⟩
      · obtain ⟨x0, x1, xl⟩ := And.intro ((X.out.up hS1).cell (j := 0) rfl) (And.intro ((X.out.up hS1).cell (j := 1) rfl) (X.out.up hS1).lt)
        obtain ⟨g0, g1⟩ := And.intro (F0.out _ (UA.out.trans hS1)) (F1.out _ (UA.out.trans hS1))
        have gl := World.block_lt_of_cell? _ _ g0
        clear hS1; go_simp
        try rfl
      go_simp; refine mixH_go rfl (by rfl) (fun K hK => ?_); go_simp; refine hK _ _ ((Up.refl _).drew.alloc _) ?_; clear hK K; go_simp; refine mixH_go rfl (by rfl) (fun K hK => ?_); go_simp; refine (CLq.out _ (UA.out.trans ((Up.refl _).drew.alloc _)) _ _ (by simp) (one_cell wA.drew at_)).mono ?_; rintro x wC ⟨rfl, uC⟩; refine hK _ _ (((Up.refl _).drew.alloc _).trans uC) ?_; clear hK K; go_simp; refine mixH_take rfl (by rfl) ?_; apply Exists.intro; refine ⟨fun w1 hS1 => ?_, ?_⟩
      · clear hS1
        go_simp
        try rfl
      go_simp; refine mixH_nil ?_
      have UF := Lib.hid (UA.out.trans (((Up.refl _).drew.alloc _).trans uC))
      go_wp2; go_ret
      exact ⟨ret_str HR.out, UF.out⟩
  · have hin : inB k 1 5 = false := by
      cases h : inB k 1 5
      · rfl
      · rw [inB_iff] at h
        exact absurd h hk
    have HR := Lib.hid (show (⟨#[]⟩ : ByteArray) = ⟨(dskS k at_).toArray⟩ by unfold dskS; rw [hin]; rfl)
    generalize dskS k at_ = res at HR ⊢
    clear hk
    go_enter Tryd.func10, Tryd.ntmps10
    go_wp2_with fail
    generalize hW0 : (w.alloc (.cells #[.int .i64 k, .int .i64 at_] 25)) = W0 at *
    generalize hb0 : w.heap.size = b0 at *
    clear hW0 hb0
    have x0 := X.out.cell (j := 0) rfl
    have xl := X.out.lt
    refine region_qw (by kernel_rfl) (by kernel_rfl) ?_; refine qWalk_step ?_; intro K hK; go_simp; apply Exists.intro; refine And.intro ?_ ?_
    · intro w1 hw1
      try go_simp
      try rfl
    try go_simp
    refine hK _ ?_; clear hK K; refine qWalk_step ?_; intro K hK; go_simp; apply Exists.intro; refine And.intro ?_ ?_
    · intro w1 hw1
      obtain ⟨hc, hf, hz⟩ := hw1.facts
      try simp at hz
      try go_simp
      try rfl
    try go_simp
    refine hK _ ?_; clear hK K; refine qWalk_step ?_; intro K hK; go_simp; apply Exists.intro; refine And.intro ?_ ?_
    · intro w1 hw1
      try go_simp
      exact up_call hw1 ((withinU k 1 5 _))
    try go_simp
    refine hK _ ?_; clear hK K; refine qWalk_step ?_; intro K hK; go_simp; apply Exists.intro; refine And.intro ?_ ?_
    · intro w1 hw1
      try go_simp
      try rfl
    try go_simp
    refine hK _ ?_; clear hK K; refine qWalk_step ?_; intro K hK; go_simp; apply Exists.intro; refine And.intro ?_ ?_
    · intro w1 hw1
      try go_simp
      try rfl
    try go_simp
    refine hK _ ?_; clear hK K; refine qWalk_step ?_; intro K hK; go_simp; refine hK _ ?_; clear hK K; refine qWalk_step ?_; intro K hK; go_simp; refine hK _ ?_; clear hK K; refine qWalk_step ?_; intro K hK; go_simp; refine hK _ ?_; clear hK K; refine qWalk_step ?_; intro K hK; go_simp; refine hK _ ?_; clear hK K; refine qWalk_step ?_; intro K hK; go_simp; refine hK _ ?_; clear hK K; refine qWalk_step ?_; intro K hK; go_simp; refine hK _ ?_; clear hK K; refine qWalk_step ?_; intro K hK; go_simp; refine hK _ ?_; clear hK K; refine qWalk_step ?_; intro K hK; go_simp; refine hK _ ?_; clear hK K; refine qWalk_step ?_
    intro K hK; go_simp; refine hK _ ?_; clear hK K; refine qWalk_step ?_; intro K hK; go_simp; apply Exists.intro; refine And.intro ?_ ?_
    · intro w1 hw1
      try go_simp
      try rfl
    try go_simp
    refine hK _ ?_; clear hK K; refine qWalk_nil ?_; intro wA uA
    have UA := Lib.hid (U.out.trans uA)
    clear uA x0 xl; go_wp2; go_ret
    exact ⟨ret_str HR.out, UA.out⟩
end Go.Proofs.YtlkmhmiamdbhcaaDoor

namespace Go.Proofs.YtlkmhmiamdbhcaaDoor
set_option maxRecDepth 100000
open Go.RowKit
theorem toAct_any (k at_ : Int) (w : World) : Calls Tryd.prog 9 #[.agg #[.int .i64 k, .int .i64 at_]] w fun x w' => x = .returned (.agg #[.int .i64 k, .int .i64 at_]) ∧ Up w w' := by
  have U := Lib.hid ((((Up.refl w).alloc (.cells #[.int .i64 k, .int .i64 at_] 23)).alloc (.cells #[.int .i64 k, .int .i64 at_] 25)).alloc (.cells #[.int .i64 k, .int .i64 at_] 25))
  go_enter Tryd.func9, Tryd.ntmps9
  go_wp2
  exact bodyPost_ret (v := .agg #[.int .i64 k, .int .i64 at_]) (by simp [results, Tryd.results9, go_sem]) rfl ⟨rfl, U.out⟩
set_option maxHeartbeats 2000000 in
theorem walkEdsk (k at_ : Int) (w : World) (ht : Tabs w) : Calls Tryd.prog 3 #[.agg #[.int .i64 k, .int .i64 at_]] w fun x w' => x = .returned (.bool true) ∧ Up w w' := by
  have HT := Lib.hid (fun W (u : Up w W) => ht.up u)
  have CS := Lib.hid (fun W => specDsk_any k at_ W)
  have CI := Lib.hid (fun W (u : Up w W) => implDsk_any k at_ W (ht.up u))
  have X := Lib.hid (Blq.new w #[.int .i64 k, .int .i64 at_] 23)
  have U := Lib.hid ((Up.refl w).alloc (.cells #[.int .i64 k, .int .i64 at_] 23))
  generalize dskS k at_ = l at CS CI
  clear ht
  go_enter Tryd.func3, Tryd.ntmps3
  go_wp2_with fail
  refine (toAct_any k at_ _).mono ?_; rintro x w1 ⟨rfl, u⟩
  replace U := Lib.hid (U.out.trans u)
  replace X := Lib.hid (X.out.up u)
  clear u
  go_wp2_with fail
  refine (CS.out _).mono ?_; rintro x w2 ⟨rfl, u⟩
  replace U := Lib.hid (U.out.trans u)
  replace X := Lib.hid (X.out.up u)
  clear u
  have x0 := X.out.cell (j := 0) rfl
  have x1 := X.out.cell (j := 1) rfl
  have xl := X.out.lt
  go_wp2_with fail
  clear x0 x1 xl; refine (toAct_any k at_ _).mono ?_; rintro x w3 ⟨rfl, u⟩
  replace U := Lib.hid (U.out.trans u)
  clear u
  go_wp2_with fail
  refine (CI.out _ U.out).mono ?_; rintro x w4 ⟨rfl, u⟩
  replace U := Lib.hid (U.out.trans u)
  clear u; go_wp2; go_ret
  exact ⟨rfl, U.out⟩
end Go.Proofs.YtlkmhmiamdbhcaaDoor

namespace Go.Proofs.YtlkmhmiamdbhcaaDoor.fnExactDskText
set_option maxRecDepth 100000
open Go.ChangeShapes Go.WideShapes Go.ChangeAt Go.RowKit Go.Joins Go.Deep
set_option linter.unusedVariables false
/-- What the row's list gives. -/
theorem tabs {W : World} (hL : laidMetH Tryd.prog Rows.fnExactDskTextRow.laid W) (hsh : W.ShapedOpen Tryd.prog) : Tabs W := by
  have h : laidMet Tryd.prog Rows.fnExactDskTextRow.laid W := hL
  obtain ⟨ps, hv, _⟩ := h; refine ⟨Tryd.laysM146.s1_3 W hsh, pow_of (laid_mem hv _ _ ?_), fmts_of (laid_mem hv _ _ ?_)⟩
  · unfold Rows.fnExactDskTextRow
    exact (.tail _ (.tail _ (.head _)))
  · unfold Rows.fnExactDskTextRow
    exact (.tail _ (.tail _ (.tail _ (.tail _ (.head _)))))
set_option maxRecDepth 100000 in
theorem contract (H : Type) (enc : TypeId × Value → H) (W : World) (base : Nat) (args : Array Value) (ds gs : List (DataW H)) (before : List MemPlace)
    (hval0 : ∀ (j : Nat) t v, Tryd.f3.params[j]? = some t → args[j]? = some v → Value.okWide Tryd.prog W .any base t v)
    (hW : DataW.Whole enc Tryd.prog Tryd.f3.params.toList Rows.fnExactDskTextSpec.vars false W args.toList ds gs before) (hL : laidMetH Tryd.prog Rows.fnExactDskTextRow.laid W) (hsh : W.ShapedOpen Tryd.prog) :
    Calls Tryd.prog 3 args W fun e W' => ∃ v, e = .returned v ∧ Rows.fnExactDskTextSpec.post enc Tryd.prog Tryd.f3 false true false false W args v W' := by
  have hval := hval0
  have hW' := hW
  obtain ⟨p, q, hA0, hV, rfl, hfz, hnd⟩ := hW
  have hA : DataW.TrodAll enc Tryd.prog W 0 (fun _ => true) true Tryd.f3.params.toList args.toList ds p := hA0
  rw [Tryd.params3] at hA hval; obtain ⟨v0, vs0, d0, ds0, p0, q0, hargs, rfl, rfl, h0, r0⟩ := trodAll_cons hA; obtain ⟨rfl, rfl, rfl⟩ := trodAll_nil r0
  obtain rfl : args = #[v0] := by cases args; simp_all
  have hV2 := hV
  obtain ⟨_, _, _, _, dg, _, rfl, _⟩ := trodVars_one hV2
  have k0 := h0
  have lt0 : ∀ x ∈ p0, x.block < W.heap.size := by obtain ⟨m, hm⟩ := k0; exact DataW.trod_lt m _ _ _ hm
  obtain ⟨kk0, a0, rfl⟩ := open_act (hval 0 23 v0 rfl rfl) h0; clear hA0 hval0
  refine (walkEdsk kk0 a0 W (tabs hL hsh)).mono fun e W' ⟨he, bel⟩ => ?_
  subst he
  exact ⟨_, rfl, _, _, _, [], _, _, hW', trodAll_mk1 (shut_bool Tryd.underlying4 _), (trodAll_cons_mk (Below.trod laidOut (by kernel_rfl) (of_decide_eq_true (by kernel_rfl)) k0 bel lt0) trodAll_mk0), Below.trodVars laidOut bel (by kernel_rfl) hV, bel.frame _, fun h => by cases h⟩
/-- What a datum of one or two levels reads as, cell for cell. -/
def flat0 : DataW Unit → List Value
  | .lit (.int k n) => [.int k n]
  | .lit (.string s) => [.string ⟨s.toArray⟩]
  | .lit (.bool b) => [.bool b]
  | _ => []
def flat1 : DataW Unit → List Value
  | .agg l => l.flatMap flat0
  | d => flat0 d
def flat2 : DataW Unit → List Value
  | .agg l => l.flatMap flat1
  | d => flat0 d
def put (d : DataW Unit) : Obj → Obj
  | .cells _ t frozen => .cells (flat2 d).toArray t frozen
  | o => o
/-- A world for the witness: the settled one, the tables holding what their initialisers lay. -/
noncomputable def laidWorld (os : Os) : World :=
  { World.holding Tryd.prog os ⟨#[], #[], []⟩ with heap := ((((((World.holding Tryd.prog os ⟨#[], #[], []⟩).heap.modify 0 (put Rows.laid_loop_example_turnback_impl_lineFormats)).modify 4 (put Rows.laid_unicode_utf8_first)).modify 5 (put Rows.laid_unicode_utf8_acceptRanges)).modify 6 (put Rows.laid_internal_strconv_uint64pow10)).modify 7 (put Rows.laid_math_bits_deBruijn32tab)).modify 8 (put Rows.laid_math_bits_deBruijn64tab) }
theorem laid_met (os : Os) : laidMet Tryd.prog Rows.fnExactDskTextRow.laid ((laidWorld os).forCall (fun _ _ => 0) ⟨#[], #[.agg #[.int .i64 0, .int .i64 0]], []⟩).memory :=
  laidMet_of_run' 8 (by kernel_rfl) (by kernel_rfl)
theorem reads (os : Os) {H : Type} (enc : TypeId × Value → H) : ∃ (gs : List (DataW H)) (places : List MemPlace), DataW.whole enc Tryd.prog ((laidWorld os).forCall (fun _ _ => 0) ⟨#[], #[.agg #[.int .i64 0, .int .i64 0]], []⟩).memory Tryd.f3.params.toList Rows.fnExactDskTextSpec.vars false #[.agg #[.int .i64 0, .int .i64 0]].toList 8 = some ([.agg [.lit (.int .i64 0), .lit (.int .i64 0)]], gs, places) := by
  have h : (DataW.whole enc Tryd.prog ((laidWorld os).forCall (fun _ _ => 0) ⟨#[], #[.agg #[.int .i64 0, .int .i64 0]], []⟩).memory Tryd.f3.params.toList Rows.fnExactDskTextSpec.vars false #[.agg #[.int .i64 0, .int .i64 0]].toList 8).map (fun x => x.1) = some [.agg [.lit (.int .i64 0), .lit (.int .i64 0)]] := by kernel_rfl
  obtain ⟨⟨ds, gs, places⟩, h1, h2⟩ := Option.map_eq_some_iff.mp h
  exact ⟨gs, places, by rw [h1]; exact congrArg (fun z => some (z, gs, places)) h2⟩
set_option maxRecDepth 100000 in
theorem lifted (os : Os) (started : os.Started) (H : Type) (enc : TypeId × Value → H) (F : Stop.Interp) :
    ReturnsInHanded {} Tryd.checked os 3 .any ((OpenSpec.ofChange Rows.fnExactDskTextSpec).preRow enc Tryd.prog Tryd.f3 Rows.fnExactDskTextRow.domain false Rows.fnExactDskTextRow.laid) (((OpenSpec.ofChange Rows.fnExactDskTextSpec).at F).post enc Tryd.prog Tryd.f3 false true false false) := by
  obtain ⟨gs, places, hx⟩ := reads os enc
  refine returnsInHanded_of_row (C := Tryd.checked) (s := OpenSpec.ofChange Rows.fnExactDskTextSpec) own started (by kernel_rfl) Tryd.func3
    (witness_row_at (enc := enc) (C := Tryd.checked) false (laidWorld os) #[.agg #[.int .i64 0, .int .i64 0]] rfl (by kernel_rfl) (by kernel_rfl) (by kernel_rfl)
      (OpenSpec.preRow_of_cond 8 hx (by kernel_rfl) (fun k hk => by cases hk) (by kernel_rfl) (laid_met os))) ?_
  intro W base args ds gs before hval hW _ _ _ hL hsh _
  exact contract H enc W base args ds gs before hval hW hL hsh
theorem said : Rows.FnExactDskTextSaid :=
  OpenClaim.holds_of_cond 3 Tryd.f3 rfl rfl rfl rfl rfl rfl rfl ⟨rfl, rfl, rfl, rfl, rfl⟩ rfl rfl rfl rfl rfl (by kernel_rfl) Tryd.func3 (by kernel_rfl)
    (of_decide_eq_true (by kernel_rfl)) (by unfold Func.isWrapper; first | (rw [if_pos (by decide +kernel)]; kernel_rfl) | (rw [if_neg (by decide +kernel)]; exact ⟨rfl, rfl⟩))
    (fun os started H enc _ F => by rw [OpenClaim.pre_eq_preRow]; exact lifted os started H enc F)
/-- No parameter wants a stand-in; the program's own looks are on. -/
theorem plain (f : FuncId) (fn : Func) (hf : Tryd.pinned.checked.prog.funcNamed "loop.example/turnback/laws.FnExactDskText" = some f) (hfn : Tryd.pinned.checked.prog.funcs[f]? = some fn) :
    true = Tryd.pinned.checked.prog.looks [] ∧ ∀ (j : Nat) t, fn.params[j]? = some t → Tryd.pinned.checked.prog.wantsStandIn t = false := by
  obtain rfl : f = 3 := Option.some.inj ((show Tryd.prog.funcNamed "loop.example/turnback/laws.FnExactDskText" = some 3 by kernel_rfl).symm.trans hf) |>.symm
  obtain rfl : fn = Tryd.f3 := (Option.some.inj (Tryd.func3.symm.trans hfn)).symm; refine ⟨by kernel_rfl, fun j t ht => ?_⟩; rw [Tryd.params3] at ht
  obtain rfl : t = 23 := by simpa using Array.mem_of_getElem? ht
  exact (show Tryd.prog.wantsStandIn 23 = false by kernel_rfl)
/-- The card. -/
theorem proved : Rows.FnExactDskTextCardSaid :=
  Claim7.holds_tied_plain_at .later [] _ _ _ _ said (fun _ h => by cases h) (by kernel_rfl) (fun _ h => by cases h) fnExactDskText_row_tie rfl ⟨rfl, rfl⟩ (by kernel_rfl) rfl plain (by kernel_rfl)
end Go.Proofs.YtlkmhmiamdbhcaaDoor.fnExactDskText

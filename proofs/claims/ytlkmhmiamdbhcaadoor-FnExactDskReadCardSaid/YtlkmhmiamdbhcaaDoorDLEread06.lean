/-
  What strconv.Atoi and the last space give here, in one sentence: the number beside the error, or the string's own; for every string of at most two million bytes, where the two errors' variables hold errors.
  What DskText and RecText of the program return, in one sentence: the same texts as the reference's; for every kind, number and record.
  What impl.DskRead returns, in one sentence: what happens that the string says, if it says any; for every string of at most a million bytes.
-/
import Derived.Test.YtlkmhmiamdbhcaaDoorDLEread01
import Derived.Test.YtlkmhmiamdbhcaaDoorDLEread03
import Derived.Test.YtlkmhmiamdbhcaaDoorDLEread04
import Derived.Test.YtlkmhmiamdbhcaaDoorDLEread05
namespace Go.Proofs.YtlkmhmiamdbhcaaDoor
set_option maxRecDepth 100000
open Go.RowKit
/-- The two errors' variables hold errors. -/
structure Sent (w : World) : Prop where
  sy : ∃ a b, w.cell? ⟨2, 0, none⟩ = some (.iface a b)
  rg : ∃ a b, w.cell? ⟨3, 0, none⟩ = some (.iface a b)
theorem Sent.up {w w' : World} (h : Sent w) (u : Up w w') : Sent w' := by
  obtain ⟨⟨a, b, h1⟩, ⟨c, d, h2⟩⟩ := h
  exact ⟨⟨a, b, (u.cells _ _ (World.block_lt_of_cell? _ _ h1)).trans h1⟩, ⟨c, d, (u.cells _ _ (World.block_lt_of_cell? _ _ h2)).trans h2⟩⟩
theorem atoi_any (l : List UInt8) (hl : l.length ≤ 2000000) (w : World) (hs : Sent w) : Calls Tryd.prog 27 #[.string ⟨l.toArray⟩] w fun x w' => (∃ e, x = .returned (.tuple #[.int .i64 (atV l), e])) ∧ Up w w' := by
  have sz : (⟨l.toArray⟩ : ByteArray).size = l.length := by simp [ByteArray.size]
  have tl : (⟨l.toArray⟩ : ByteArray).data.toList = l := rfl
  cases h : Lib.atoiAll l with
  | ok v =>
    have e : atV l = v := by unfold atV; rw [h]
    rw [e]; refine (Tryd.strconv_Atoi_ok ⟨l.toArray⟩ (by omega) v h w).mono ?_; rintro x w' ⟨rfl, hw⟩; refine ⟨⟨_, rfl⟩, ?_⟩
    rcases hw with rfl | ⟨t, rfl⟩
    · exact Up.refl _
    · exact Lib.bytesWorld_below w _ t
  | range =>
    have e : atV l = Lib.atoiSat l := by unfold atV; rw [h]
    rw [e]; obtain ⟨a, b, hv⟩ := hs.rg; refine (Tryd.strconv_Atoi_range ⟨l.toArray⟩ (by omega) h _ w hv (.inr ⟨a, b, rfl⟩)).mono ?_; rintro x w' ⟨N, rfl, _, _, hw⟩
    exact ⟨⟨_, rfl⟩, hw⟩
  | _ =>
    have e : atV l = 0 := by unfold atV; rw [h]
    rw [e]; obtain ⟨a, b, hv⟩ := hs.sy; refine (Tryd.strconv_Atoi_syntax ⟨l.toArray⟩ (by omega) h _ w hv (.inr ⟨a, b, rfl⟩)).mono ?_; rintro x w' ⟨N, rfl, _, _, hw⟩
    exact ⟨⟨_, rfl⟩, hw⟩
theorem last_bounds (s : List UInt8) : -1 ≤ Lib.lastIndex s [32] ∧ Lib.lastIndex s [32] < s.length := by
  unfold Lib.lastIndex
  split
  · rename_i h
    rcases Lib.lastOcc_spec s [32] (s.length - [(32 : UInt8)].length + 1) with ⟨e, _⟩ | ⟨i, hi, e, _⟩
    · rw [e]; omega
    · rw [e]
      simp only [List.length_cons, List.length_nil] at h hi
      omega
  · omega
theorem lastIx_any (s : List UInt8) (hl : s.length ≤ 2000000) (w : World) : Calls Tryd.prog 28 #[.string ⟨s.toArray⟩, .string ⟨#[32]⟩] w fun x w' => x = .returned (.int .i64 (Lib.lastIndex s [32])) ∧ w' = w :=
  Tryd.strings_LastIndex ⟨s.toArray⟩ ⟨#[32]⟩ (by rw [show (⟨s.toArray⟩ : ByteArray).size = s.length by simp [ByteArray.size]]; omega) w
end Go.Proofs.YtlkmhmiamdbhcaaDoor

namespace Go.Proofs.YtlkmhmiamdbhcaaDoor
set_option maxRecDepth 100000
open Go.RowKit
theorem withinU (n lo hi : Int) (w : World) : Calls Tryd.prog 24 #[.int .i64 n, .int .i64 lo, .int .i64 hi] w fun e w' => e = .returned (.bool (inB n lo hi)) ∧ Up w w' := (within_any n lo hi w).mono fun _ _ h => ⟨h.1, h.2 ▸ Up.refl w⟩
theorem one_cell (w : World) (n : Int) : ∀ i, i < 1 → (w.alloc (.cells #[.int .i64 n] 3)).cell? ⟨w.heap.size, i, none⟩ = some (.int .i64 (([n] : List Int).getD i 0)) := fun i hi => by
  obtain rfl : i = 0 := by omega
  have hh := heap_alloc_new w (.cells #[.int .i64 n] 3)
  rw [cell_of_row _ _ 0 _ _ _ hh]
  rfl
/-- What is known of the format of an action. -/
theorem fmt_facts (q : Nat) (at_ : Int) (hq : 1 ≤ q ∧ q ≤ 5) : ∃ (wd : ByteArray) (top : Int) (P0 : List UInt8) (Ps : List (List UInt8)), fmtCells[q * 2]? = some (.string wd) ∧ fmtCells[q * 2 + 1]? = some (.int .i64 top) ∧ wd.size < 1000 ∧ Lib.countB wd ⟨#[35]⟩ = Ps.length ∧
    (Lib.splitB ⟨#[35]⟩ 0 Ps.length wd).map Value.string = (P0 :: Ps).map (fun p : List UInt8 => Value.string ⟨p.toArray⟩) ∧ Ps.length ≤ 1 ∧ (∀ p, p ∈ P0 :: Ps → p.length ≤ 1000) ∧ top ≤ 999 ∧ (inB at_ 0 top = true → P0 ++ joinS Ps [at_] = dskS q at_) ∧ (inB at_ 0 top = false → [] = dskS q at_) := by
  have h5 : q = 1 ∨ q = 2 ∨ q = 3 ∨ q = 4 ∨ q = 5 := by omega
  rcases h5 with rfl | rfl | rfl | rfl | rfl
  · refine ⟨⟨([100, 111, 32, 35] : List UInt8).toArray⟩, 999, [100, 111, 32], [[]], rfl, rfl, by decide, by kernel_rfl, by kernel_rfl, by decide, by decide, by decide, fun h => ?_, fun h => ?_⟩
    · unfold dskS
      rw [if_pos (by decide), if_neg (by decide), if_pos h]; simp [joinS, wordS]
    · unfold dskS
      rw [if_pos (by decide), if_neg (by decide), h]
      rfl
  · refine ⟨⟨([104, 101, 97, 114, 32, 35] : List UInt8).toArray⟩, 999, [104, 101, 97, 114, 32], [[]], rfl, rfl, by decide, by kernel_rfl, by kernel_rfl, by decide, by decide, by decide, fun h => ?_, fun h => ?_⟩
    · unfold dskS
      rw [if_pos (by decide), if_neg (by decide), if_pos h]; simp [joinS, wordS]
    · unfold dskS
      rw [if_pos (by decide), if_neg (by decide), h]
      rfl
  · refine ⟨⟨([98, 101, 103, 105, 110] : List UInt8).toArray⟩, 0, [98, 101, 103, 105, 110], [], rfl, rfl, by decide, by kernel_rfl, by kernel_rfl, by decide, by decide, by decide, fun h => ?_, fun h => ?_⟩
    · have h0 : at_ = 0 := by rw [inB_iff] at h; omega
      subst h0
      rfl
    · have h0 : at_ ≠ 0 := fun e => by subst e; cases h
      unfold dskS; rw [if_pos (by decide), if_pos (by decide), if_neg h0]
  · refine ⟨⟨([118, 105, 115, 105, 116] : List UInt8).toArray⟩, 0, [118, 105, 115, 105, 116], [], rfl, rfl, by decide, by kernel_rfl, by kernel_rfl, by decide, by decide, by decide, fun h => ?_, fun h => ?_⟩
    · have h0 : at_ = 0 := by rw [inB_iff] at h; omega
      subst h0
      rfl
    · have h0 : at_ ≠ 0 := fun e => by subst e; cases h
      unfold dskS; rw [if_pos (by decide), if_pos (by decide), if_neg h0]
  · refine ⟨⟨([102, 114, 101, 101, 32, 35] : List UInt8).toArray⟩, 999, [102, 114, 101, 101, 32], [[]], rfl, rfl, by decide, by kernel_rfl, by kernel_rfl, by decide, by decide, by decide, fun h => ?_, fun h => ?_⟩
    · unfold dskS
      rw [if_pos (by decide), if_neg (by decide), if_pos h]; simp [joinS, wordS]
    · unfold dskS
      rw [if_pos (by decide), if_neg (by decide), h]
      rfl
set_option maxHeartbeats 2000000 in
theorem implDsk_any (k at_ : Int) (w : World) (ht : Tabs w) : Calls Tryd.prog 10 #[.agg #[.int .i64 k, .int .i64 at_]] w fun x w' => x = .returned (.string ⟨(dskS k at_).toArray⟩) ∧ Up w w' := by
  have HT := Lib.hid (fun W (u : Up w W) => ht.up u)
  have X := Lib.hid (Blq.new w #[.int .i64 k, .int .i64 at_] 25)
  have U := Lib.hid ((Up.refl w).alloc (.cells #[.int .i64 k, .int .i64 at_] 25))
  by_cases hk : 1 ≤ k ∧ k ≤ 5
  · obtain ⟨q, rfl⟩ : ∃ q : Nat, k = q := ⟨k.toNat, by omega⟩
    obtain ⟨wd, top, P0, Ps, f0, f1, hwd, hcn, hsp, hle, hp, htp, hr1, hr0⟩ := fmt_facts q at_ (by omega)
    have CL := Lib.hid (fun W (u : Up w W) g cc (hq : g < W.heap.size) (hN : ∀ i, i < 1 → W.cell? ⟨g, i, none⟩ = some (.int .i64 (([at_] : List Int).getD i 0))) (ha : at_ ≤ 999) => line_any wd top P0 Ps g 1 cc [at_] W hwd hcn hsp (HT.out W u) rfl hle (by decide) hq hN (by
      intro n hn; simp only [List.mem_singleton] at hn
      omega) hp)
    have F0 := Lib.hid (fun W (u : Up w W) => (HT.out W u).fm _ _ f0)
    have F1 := Lib.hid (fun W (u : Up w W) => (HT.out W u).fm _ _ f1)
    have HTP := Lib.hid htp
    have R0 := Lib.hid (show inB at_ 0 top = false → (⟨#[]⟩ : ByteArray) = ⟨(dskS q at_).toArray⟩ from fun h => by rw [← hr0 h])
    have R1 := Lib.hid (show inB at_ 0 top = true → (⟨(P0 ++ joinS Ps [at_]).toArray⟩ : ByteArray) = ⟨(dskS q at_).toArray⟩ from fun h => by rw [← hr1 h])
    generalize P0 ++ joinS Ps [at_] = rs at CL R1
    generalize dskS q at_ = res at R0 R1 ⊢
    have hin : inB (q : Int) 1 5 = true := by rw [inB_iff]; exact hk
    have HIN := Lib.hid hin
    have HK := Lib.hid (show (q : Int) < 12 ∧ (0 : Int) ≤ q by omega)
    clear hr0 hr1 f0 f1 hwd hcn hsp hle hp htp hk hin
    go_enter Tryd.func10, Tryd.ntmps10
    go_wp2_with fail
    generalize hW0 : (w.alloc (.cells #[.int .i64 (q : Int), .int .i64 at_] 25)) = W0 at *
    generalize hb0 : w.heap.size = b0 at *
    clear hW0 hb0
    have x0 := X.out.cell (j := 0) rfl
    have x1 := X.out.cell (j := 1) rfl
    have xl := X.out.lt
    have g0 := F0.out _ U.out
    have g1 := F1.out _ U.out
    have gl := World.block_lt_of_cell? _ _ g0
    have k1 := HK.out.1
    have k2 := HK.out.2
    have h1 := HIN.out
    refine region_qw (by kernel_rfl) (by kernel_rfl) ?_; refine qWalk_step ?_; intro K hK; go_simp; apply Exists.intro; refine And.intro ?_ ?_
    · intro w1 hw1
      try go_simp
      try rfl
    try go_simp
    refine hK _ ?_; clear hK K; refine qWalk_step ?_; intro K hK; go_simp; apply Exists.intro; refine And.intro ?_ ?_
    · intro w1 hw1
      obtain ⟨hc, hf, hz⟩ := hw1.facts
      try simp at hz
      try go_simp
      try rfl
    try go_simp
    refine hK _ ?_; clear hK K; refine qWalk_step ?_; intro K hK; go_simp; apply Exists.intro; refine And.intro ?_ ?_
    · intro w1 hw1
      try go_simp
      exact up_call hw1 ((withinU (q : Int) 1 5 _))
    try go_simp
    refine hK _ ?_; clear hK K; refine qWalk_step ?_; intro K hK; go_simp; apply Exists.intro; refine And.intro ?_ ?_
    · intro w1 hw1
      try go_simp
      try rfl
    try go_simp
    refine hK _ ?_; clear hK K; refine qWalk_step ?_; intro K hK; go_simp; apply Exists.intro; refine And.intro ?_ ?_
    · intro w1 hw1
      try go_simp
      try rfl
    try go_simp
    refine hK _ ?_; clear hK K; refine qWalk_step ?_; intro K hK; go_simp; apply Exists.intro; refine And.intro ?_ ?_
    · intro w1 hw1
      try go_simp
      try rfl
    try go_simp
    refine hK _ ?_; clear hK K; refine qWalk_step ?_; intro K hK; go_simp; apply Exists.intro; refine And.intro ?_ ?_
    · intro w1 hw1
      obtain ⟨hc, hf, hz⟩ := hw1.facts
      try simp at hz
      try go_simp
      try rfl
    try go_simp
    refine hK _ ?_; clear hK K; refine qWalk_step ?_; intro K hK; go_simp; apply Exists.intro; refine And.intro ?_ ?_
    · intro w1 hw1
      try go_simp
      try rfl
    try go_simp
    refine hK _ ?_; clear hK K; refine qWalk_step ?_; intro K hK; go_simp; apply Exists.intro; refine And.intro ?_ ?_
    · intro w1 hw1
      obtain ⟨hc, hf, hz⟩ := hw1.facts
      try simp at hz
      try go_simp
      try rfl
    try go_simp
    refine hK _ ?_; clear hK K; refine qWalk_step ?_; intro K hK; go_simp; apply Exists.intro; refine And.intro ?_ ?_
    · intro w1 hw1
      try go_simp
      try rfl
    try go_simp
    refine hK _ ?_; clear hK K; refine qWalk_step ?_; intro K hK; go_simp; apply Exists.intro; refine And.intro ?_ ?_
    · intro w1 hw1
      try go_simp
      try rfl
    try go_simp
    refine hK _ ?_; clear hK K; refine qWalk_step ?_; intro K hK; go_simp; apply Exists.intro; refine And.intro ?_ ?_
    · intro w1 hw1
      obtain ⟨hc, hf, hz⟩ := hw1.facts
      try simp at hz
      try go_simp
      try rfl
    try go_simp
    refine hK _ ?_; clear hK K; refine qWalk_step ?_; intro K hK; go_simp; apply Exists.intro; refine And.intro ?_ ?_
    · intro w1 hw1
      try go_simp
      exact up_call hw1 ((withinU at_ 0 top _))
    try go_simp
    refine hK _ ?_; clear hK K; refine qWalk_step ?_; intro K hK; go_simp; apply Exists.intro; refine And.intro ?_ ?_
    · intro w1 hw1
      try go_simp
      try rfl
    try go_simp
    refine hK _ ?_; clear hK K; refine qWalk_step ?_; intro K hK; go_simp; apply Exists.intro; refine And.intro ?_ ?_
    · intro w1 hw1
      try go_simp
      try rfl
    try go_simp
    refine hK _ ?_; clear hK K; refine qWalk_nil ?_; intro wA uA
    have UA := Lib.hid (U.out.trans uA)
    replace X := Lib.hid (X.out.up uA)
    clear uA x0 x1 xl g0 g1 gl U
    cases hs : inB at_ 0 top
    · have HR := Lib.hid (R0.out hs)
      clear hs; go_wp2; go_ret
      exact ⟨ret_str HR.out, UA.out⟩
    · have HR := Lib.hid (R1.out hs)
      have ha : at_ ≤ 999 := by have := HTP.out; rw [inB_iff] at hs; omega
      have CLq := Lib.hid (fun W (u : Up w W) g cc hq hN => CL.out W u g cc hq hN ha)
      clear hs ha CL R0 R1 k1 k2 h1
      have k1 := HK.out.1
      have k2 := HK.out.2
      go_wp2_with fail
      refine region_mixH (fun w' => Up wA w') [(0, true), (1, true), (2, true), (3, true), (4, true), (5, true), (6, false), (7, false), (8, true)] (by kernel_rfl) (by kernel_rfl) (Up.refl _).drew ?_; refine mixH_take rfl (by rfl) ?_; apply Exists.intro; refine ⟨fun w1 hS1 => ?_, ?_⟩
      · clear hS1
        go_simp
        try rfl
      go_simp; refine mixH_take rfl (by rfl) ?_; apply Exists.intro; refine ⟨fun w1 hS1 => ?_, ?_⟩
      · obtain ⟨x0, x1, xl⟩ := And.intro ((X.out.up hS1).cell (j := 0) rfl) (And.intro ((X.out.up hS1).cell (j := 1) rfl) (X.out.up hS1).lt)
        obtain ⟨g0, g1⟩ := And.intro (F0.out _ (UA.out.trans hS1)) (F1.out _ (UA.out.trans hS1))
        have gl := World.block_lt_of_cell? _ _ g0
        clear hS1; go_simp
        try rfl
      go_simp; refine mixH_take rfl (by rfl) ?_; apply Exists.intro; refine ⟨fun w1 hS1 => ?_, ?_⟩
      · clear hS1
        go_simp
        try rfl
      go_simp; refine mixH_take rfl (by rfl) ?_; apply Exists.intro; refine ⟨fun w1 hS1 => ?_, ?_⟩
      · obtain ⟨x0, x1, xl⟩ := And.intro ((X.out.up hS1).cell (j := 0) rfl) (And.intro ((X.out.up hS1).cell (j := 1) rfl) (X.out.up hS1).lt)
        obtain ⟨g0, g1⟩ := And.intro (F0.out _ (UA.out.trans hS1)) (F1.out _ (UA.out.trans hS1))
        have gl := World.block_lt_of_cell? _ _ g0
        clear hS1; go_simp
        try rfl
      go_simp; refine mixH_take rfl (by rfl) ?_; apply Exists.intro; refine ⟨fun w1 hS1 => ?_, ?_⟩
      · clear hS1
        go_simp
        try rfl
      go_simp; refine mixH_take rfl (by rfl) ?_; apply Exists.intro; refine ⟨fun w1 hS1 => ?_, ?_⟩
      · obtain ⟨x0, x1, xl⟩ := And.intro ((X.out.up hS1).cell (j := 0) rfl) (And.intro ((X.out.up hS1).cell (j := 1) rfl) (X.out.up hS1).lt)
        obtain ⟨g0, g1⟩ := And.intro (F0.out _ (UA.out.trans hS1)) (F1.out _ (UA.out.trans hS1))
        have gl := World.block_lt_of_cell? _ _ g0
        clear hS1; go_simp
        try rfl
      go_simp; refine mixH_go rfl (by rfl) (fun K hK => ?_); go_simp; refine hK _ _ ((Up.refl _).drew.alloc _) ?_; clear hK K; go_simp; refine mixH_go rfl (by rfl) (fun K hK => ?_); go_simp; refine (CLq.out _ (UA.out.trans ((Up.refl _).drew.alloc _)) _ _ (by simp) (one_cell wA.drew at_)).mono ?_; rintro x wC ⟨rfl, uC⟩; refine hK _ _ (((Up.refl _).drew.alloc _).trans uC) ?_; clear hK K; go_simp; refine mixH_take rfl (by rfl) ?_; apply Exists.intro; refine ⟨fun w1 hS1 => ?_, ?_⟩
      · clear hS1
        go_simp
        try rfl
      go_simp; refine mixH_nil ?_
      have UF := Lib.hid (UA.out.trans (((Up.refl _).drew.alloc _).trans uC))
      go_wp2; go_ret
      exact ⟨ret_str HR.out, UF.out⟩
  · have hin : inB k 1 5 = false := by
      cases h : inB k 1 5
      · rfl
      · rw [inB_iff] at h
        exact absurd h hk
    have HR := Lib.hid (show (⟨#[]⟩ : ByteArray) = ⟨(dskS k at_).toArray⟩ by unfold dskS; rw [hin]; rfl)
    generalize dskS k at_ = res at HR ⊢
    clear hk
    go_enter Tryd.func10, Tryd.ntmps10
    go_wp2_with fail
    generalize hW0 : (w.alloc (.cells #[.int .i64 k, .int .i64 at_] 25)) = W0 at *
    generalize hb0 : w.heap.size = b0 at *
    clear hW0 hb0
    have x0 := X.out.cell (j := 0) rfl
    have xl := X.out.lt
    refine region_qw (by kernel_rfl) (by kernel_rfl) ?_; refine qWalk_step ?_; intro K hK; go_simp; apply Exists.intro; refine And.intro ?_ ?_
    · intro w1 hw1
      try go_simp
      try rfl
    try go_simp
    refine hK _ ?_; clear hK K; refine qWalk_step ?_; intro K hK; go_simp; apply Exists.intro; refine And.intro ?_ ?_
    · intro w1 hw1
      obtain ⟨hc, hf, hz⟩ := hw1.facts
      try simp at hz
      try go_simp
      try rfl
    try go_simp
    refine hK _ ?_; clear hK K; refine qWalk_step ?_; intro K hK; go_simp; apply Exists.intro; refine And.intro ?_ ?_
    · intro w1 hw1
      try go_simp
      exact up_call hw1 ((withinU k 1 5 _))
    try go_simp
    refine hK _ ?_; clear hK K; refine qWalk_step ?_; intro K hK; go_simp; apply Exists.intro; refine And.intro ?_ ?_
    · intro w1 hw1
      try go_simp
      try rfl
    try go_simp
    refine hK _ ?_; clear hK K; refine qWalk_step ?_; intro K hK; go_simp; apply Exists.intro; refine And.intro ?_ ?_
    · intro w1 hw1
      try go_simp
      try rfl
    try go_simp
    refine hK _ ?_; clear hK K; refine qWalk_step ?_; intro K hK; go_simp; refine hK _ ?_; clear hK K; refine qWalk_step ?_; intro K hK; go_simp; refine hK _ ?_; clear hK K; refine qWalk_step ?_; intro K hK; go_simp; refine hK _ ?_; clear hK K; refine qWalk_step ?_; intro K hK; go_simp; refine hK _ ?_; clear hK K; refine qWalk_step ?_; intro K hK; go_simp; refine hK _ ?_; clear hK K; refine qWalk_step ?_; intro K hK; go_simp; refine hK _ ?_; clear hK K; refine qWalk_step ?_; intro K hK; go_simp; refine hK _ ?_; clear hK K; refine qWalk_step ?_; intro K hK; go_simp; refine hK _ ?_; clear hK K; refine qWalk_step ?_
    intro K hK; go_simp; refine hK _ ?_; clear hK K; refine qWalk_step ?_; intro K hK; go_simp; apply Exists.intro; refine And.intro ?_ ?_
    · intro w1 hw1
      try go_simp
      try rfl
    try go_simp
    refine hK _ ?_; clear hK K; refine qWalk_nil ?_; intro wA uA
    have UA := Lib.hid (U.out.trans uA)
    clear uA x0 xl; go_wp2; go_ret
    exact ⟨ret_str HR.out, UA.out⟩
end Go.Proofs.YtlkmhmiamdbhcaaDoor

namespace Go.Proofs.YtlkmhmiamdbhcaaDoor
set_option maxRecDepth 100000
open Go.RowKit
theorem laid2 {w : World} {b e : Nat} {arr : Array Value} (h : Blq w b e arr) (hs : arr.size = 2) (v0 v1 : Value) :
    ((w.setCell ⟨b, 0, none⟩ v0).setCell ⟨b, 1, none⟩ v1).cell? ⟨b, 0, none⟩ = some v0 ∧ ((w.setCell ⟨b, 0, none⟩ v0).setCell ⟨b, 1, none⟩ v1).cell? ⟨b, 1, none⟩ = some v1 := by
  have ne : ∀ k j, k ≠ j → (⟨b, k, none⟩ : Addr) ≠ ⟨b, j, none⟩ := fun k j hk => addr_ne (by omega)
  have sm : ∀ j, j < 2 → ∃ u, w.cell? ⟨b, j, none⟩ = some u := fun j hj => ⟨_, h.cell (j := j) (Array.getElem?_eq_getElem (by omega))⟩
  obtain ⟨u0, h0⟩ := sm 0 (by omega); obtain ⟨u1, h1⟩ := sm 1 (by omega)
  exact ⟨by rw [World.cell?_setCell_other _ _ _ _ (ne _ _ (by omega)), World.cell?_setCell_same _ _ _ h0], by rw [World.cell?_setCell_same _ _ _ ((World.cell?_setCell_other _ _ _ _ (ne _ _ (by omega))).trans h1)]⟩
theorem Blq.unfrozen {w : World} {b e : Nat} {arr : Array Value} (h : Blq w b e arr) (j : Nat) : w.frozen? ⟨b, j, none⟩ = false := by
  unfold Blq at h; unfold World.frozen?; rw [h]; simp
set_option maxHeartbeats 2000000 in
theorem implRead_any (s : List UInt8) (hl : s.length ≤ 1048576) (w : World) (ht : Tabs w) (hs : Sent w) :
    Calls Tryd.prog 12 #[.string ⟨s.toArray⟩] w fun x w' => (∃ k n b, x = .returned (.tuple #[.agg #[.int .i64 k, .int .i64 n], .bool b]) ∧ ResA s k n b) ∧ Up w w' := by
  have HT := Lib.hid ht
  have HS := Lib.hid hs
  have HL := Lib.hid hl
  have CL := Lib.hid (fun W => lastIx_any s (by omega) W)
  have CI := Lib.hid (fun W (u : Up w W) k n => implDsk_any k n W (ht.up u))
  obtain ⟨lb0, lb1⟩ := last_bounds s
  have CA := Lib.hid (fun W (u : Up w W) => atoi_any (lastF s) (by unfold lastF; rw [List.length_drop]; omega) W (hs.up u))
  have LF := Lib.hid (show (s.drop (Lib.lastIndex s [32] + 1).toNat).take (s.length - (Lib.lastIndex s [32] + 1).toNat) = lastF s by
    unfold lastF
    rw [List.take_of_length_le (by rw [List.length_drop]; omega)])
  have KO := Lib.hid (fun (hno : s = [] ∨ ∀ k, 1 ≤ k → k ≤ 5 → dskS k (atV (lastF s)) ≠ s) => (show ResA s 0 0 false from .inr ⟨rfl, rfl, rfl, fun k n h => by
    rcases Classical.em (s = []) with e | e
    · exact e
    · rcases hno with e2 | hno
      · exact e2
      · have := last_of h e
        have hk := kind_in h e
        exact absurd (this ▸ h) (hno k hk.1 hk.2)⟩))
  have KY := Lib.hid (fun k (h1 : s ≠ []) (h2 : dskS k (atV (lastF s)) = s) => (show ResA s k (atV (lastF s)) true from .inl ⟨rfl, h2, h1⟩))
  generalize atV (lastF s) = a at CA KO KY
  have U := Lib.hid ((Up.refl w).alloc (.cells #[.int .i64 0, .int .i64 0] 25))
  have X := Lib.hid (Blq.new w #[.int .i64 0, .int .i64 0] 25)
  generalize hz : Lib.lastIndex s [32] = z at CL lb0 lb1 LF
  clear hz ht hs
  go_enter Tryd.func12, Tryd.ntmps12
  go_wp2_with fail
  refine (CL.out _).mono ?_; rintro x w1 ⟨rfl, hw⟩; subst hw
  have i1 : IntKind.i64.wrap (z + 1) = z + 1 := IntWalk.i64_in _ (by omega)
  have i2 : 0 ≤ z + 1 := by omega
  have szs : (⟨s.toArray⟩ : ByteArray).size = s.length := by simp [ByteArray.size]
  have i3 : z + 1 ≤ (s.length : Int) := by omega
  go_wp2_with fail
  have ex : (⟨s.toArray⟩ : ByteArray).extract (z + 1).toNat s.length = ⟨(lastF s).toArray⟩ := by rw [ByteArray.extract_mk, LF.out]
  rw [ex]; refine (CA.out _ U.out).mono ?_; rintro x w2 ⟨⟨er, rfl⟩, u⟩
  replace U := Lib.hid (U.out.trans u)
  replace X := Lib.hid (X.out.up u)
  clear u CA CL LF i1 i2 i3 ex szs lb0 lb1; go_wp2
  go_loopw [6] (fun kv wr => ∃ q : Nat, kv = .int .i64 q ∧ 1 ≤ q ∧ q ≤ 6 ∧ (∀ k : Int, 1 ≤ k → k < q → s = [] ∨ dskS k a ≠ s) ∧ Up w wr ∧ Blq wr w.heap.size 25 #[.int .i64 0, .int .i64 0]) (fun kv _ => 6 - (intOf kv).toNat)
  case atStart => exact ⟨1, rfl, by omega, by omega, fun k h1 h2 => absurd h2 (by omega), U.out, X.out⟩
  case round =>
    obtain ⟨q, rfl, q1, q6, hno, ur, xr⟩ := hrel
    have XR := Lib.hid xr
    have UR := Lib.hid ur
    have HN := Lib.hid hno
    have sz := xr.lt
    clear hno ur xr
    by_cases hq : q = 6
    · subst hq
      obtain ⟨k0, k1⟩ := laid2 XR.out rfl (.int .i64 0) (.int .i64 0)
      have x0 := XR.out.cell (j := 0) rfl
      have x1 := XR.out.cell (j := 1) rfl
      have ff := XR.out.unfrozen
      have UE := Lib.hid ((UR.out.setCell (p := ⟨w.heap.size, 0, none⟩) (Nat.le_refl _) (.int .i64 0)).setCell (p := ⟨w.heap.size, 1, none⟩) (Nat.le_refl _) (.int .i64 0))
      have RS := Lib.hid (KO.out (by
        rcases Classical.em (s = []) with e | e
        · exact .inl e
        · exact .inr fun k h1 h2 => by rcases HN.out k h1 (by omega) with h | h; (exact absurd h e); exact h))
      go_wp2
      exact bodyPost_ret (v := .tuple #[.agg #[.int .i64 0, .int .i64 0], .bool false]) (by simp [results, Tryd.results12, go_sem, k0, k1]) rfl ⟨⟨0, 0, false, rfl, RS.out⟩, UE.out⟩
    · have q5 : (q : Int) ≤ 5 := by omega
      have i1 : IntKind.i64.wrap ((q : Int) + 1) = (q : Int) + 1 := IntWalk.i64_in _ (by omega)
      by_cases hse : s = []
      · have he : s.isEmpty = true := by rw [hse]; rfl
        go_wp2
        go_roundw
        case rel => exact ⟨q + 1, rfl, by omega, by omega, fun k _ _ => .inl hse, UR.out.alloc _, XR.out.up ((Up.refl _).alloc _)⟩
        case measure => simp [intOf]; omega
      · have he : s.isEmpty = false := by cases s with | nil => exact absurd rfl hse | cons c r => rfl
        go_wp2_with fail
        refine (CI.out _ (UR.out.alloc _) _ _).mono ?_; rintro x w3 ⟨rfl, u⟩
        replace UR := Lib.hid ((UR.out.alloc _).trans u)
        replace XR := Lib.hid ((XR.out.up ((Up.refl _).alloc _)).up u)
        have Y := Lib.hid ((Blq.new wr #[.int .i64 (q : Int), .int .i64 a] 25).up u)
        have y0 := Y.out.cell (j := 0) rfl
        have y1 := Y.out.cell (j := 1) rfl
        clear u
        by_cases hd : dskS q a = s
        · obtain ⟨k0, k1⟩ := laid2 XR.out rfl (.int .i64 q) (.int .i64 a)
          have x0 := XR.out.cell (j := 0) rfl
          have x1 := XR.out.cell (j := 1) rfl
          have ff := XR.out.unfrozen
          have UE := Lib.hid ((UR.out.setCell (p := ⟨w.heap.size, 0, none⟩) (Nat.le_refl _) (.int .i64 q)).setCell (p := ⟨w.heap.size, 1, none⟩) (Nat.le_refl _) (.int .i64 a))
          have RS := Lib.hid (KY.out q hse hd)
          clear XR UR HN KO KY
          have hd1 : (dskS q a == s) = true := by rw [hd]; exact BEq.rfl
          generalize dskS q a = l at hd hd1 ⊢
          go_wp2
          exact bodyPost_ret (v := .tuple #[.agg #[.int .i64 q, .int .i64 a], .bool true]) (by simp [results, Tryd.results12, go_sem, k0, k1]) rfl ⟨⟨q, a, true, rfl, RS.out⟩, UE.out⟩
        · have hd1 : (dskS q a == s) = false := by rw [beq_eq_false_iff_ne]; exact hd
          have hd2 : ¬ s = dskS q a := fun e => hd e.symm
          have HD := Lib.hid hd
          generalize dskS q a = l at hd hd1 hd2 ⊢
          go_wp2
          go_roundw
          case rel => exact ⟨q + 1, rfl, by omega, by omega, fun k h1 h2 => by
            rcases Int.lt_or_le k q with h | h
            · exact HN.out k h1 h
            · exact .inr (by rw [show k = q by omega]; exact HD.out), UR.out, XR.out⟩
          case measure => simp [intOf]; omega
end Go.Proofs.YtlkmhmiamdbhcaaDoor

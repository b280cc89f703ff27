/-
  What l20Cmp gives, in one sentence: a component state of three small numbers, and the reader some steps further; for every reader.
  A region that draws its order, walked operation by operation, in one sentence: what is pure may be taken first, and of the others that are ready each may be next; a chosen condition on the world holds throughout.
-/
import Derived.Test.YtklldniapombiaaDLWev14
import Derived.Test.YtklldniapombiaaDLWev33
namespace Go.Proofs.Ytklldniapombiaa
set_option maxRecDepth 100000
open Go.RowKit
/-- What the drawing of a component gives. -/
def CmpDrawn (g N : Nat) (w : World) (x : Ending) (w' : World) : Prop :=
  ∃ c : Cst, x = .returned c.v ∧ ((-1000000 ≤ c.s ∧ c.s ≤ 1000000) ∧ (-1000000 ≤ c.sq ∧ c.sq ≤ 1000000) ∧ (-1000000 ≤ c.ct ∧ c.ct ≤ 1000000)) ∧ Rd w' g N ∧ Mv g w w'
set_option maxHeartbeats 4000000 in
theorem l20Cmp_any (g N : Nat) (n : Int) (w : World) (hn : I64 n) (hN : N ≤ 900000) (hR : Rd w g N) :
    Calls Try.prog 156 #[.pointer (some ⟨g, 0, none⟩), .int .i64 n] w (CmpDrawn g (N + 30) w) := by
  have hgw : g < w.heap.size := hR.lt'
  have R0 := Lib.hid (hR.alloc (.cells #[.int .i64 0, .int .i64 0, .int .i64 0] 76))
  have HN := Lib.hid hn
  clear hR hn
  go_enter Try.func156, Try.ntmps156
  go_wp2_with fail
  refine region_rely 17 [(17, false)] [6, 7, 8, 9, 10, 11, 12, 13, 14, 15, 16, 17, 18, 19, 20, 21, 5] (Left g (N + 17) (w.alloc (.cells #[.int .i64 0, .int .i64 0, .int .i64 0] 76))) (Mv g) (cmpR g (w.heap.size + 1)) (by kernel_rfl) (by kernel_rfl) (by kernel_rfl) ⟨⟨N, by omega, R0.out⟩, (Mv.refl _ _).drew⟩ (fun d v w w' => cmpR_mv d v w w') ?_ ?_
  · simp only [List.take_succ_cons, List.take_zero, StepsR]
    refine ⟨?_, ?_, ?_, ?_, ?_, ?_, ?_, ?_, ?_, ?_, ?_, ?_, ?_, ?_, ?_, ?_, ?_, trivial⟩
    · intro X w1 k hG hdep
      simp only [opW_def, mixT]; go_simp
      exact ⟨⟨.pointer (some ⟨g, 0, none⟩), by first | rfl | simp [Act.put], Mv.refl _ _, hG.less, (by first | (rw [cmpR_6]; exact rfl) | exact (show IsPtr g _ _ from rfl))⟩⟩
    · intro X w1 k hG hdep
      have e : IsPtr g (X 6) w1 := (by rw [← cmpR_6 g (w.heap.size + 1)]; exact hdep 6 (by decide +kernel) : IsPtr g (X 6) w1)
      unfold IsPtr at e; simp only [opW_def, mixT, e]; go_simp; refine (Left.pick hG (by omega) 97 (by omega) (by omega)).mono ?_; rintro x w2 ⟨z, rfl, hz, m, hl⟩
      exact ⟨⟨.int .i64 z, by first | rfl | simp [Act.put], m, hl, (by first | (rw [cmpR_7]; exact ⟨z, rfl, by omega, by omega⟩) | exact (show IsN (-1000000) 1000000 _ _ from ⟨z, rfl, by omega, by omega⟩))⟩⟩
    · intro X w1 k hG hdep
      simp only [opW_def, mixT]; go_simp
      exact ⟨⟨.pointer (some ⟨g, 0, none⟩), by first | rfl | simp [Act.put], Mv.refl _ _, hG.less, (by first | (rw [cmpR_8]; exact rfl) | exact (show IsPtr g _ _ from rfl))⟩⟩
    · intro X w1 k hG hdep
      have e : IsPtr g (X 8) w1 := (by rw [← cmpR_8 g (w.heap.size + 1)]; exact hdep 8 (by decide +kernel) : IsPtr g (X 8) w1)
      unfold IsPtr at e; simp only [opW_def, mixT, e]; go_simp; refine (Left.pick hG (by omega) 13 (by omega) (by omega)).mono ?_; rintro x w2 ⟨z, rfl, hz, m, hl⟩
      exact ⟨⟨.int .i64 z, by first | rfl | simp [Act.put], m, hl, (by first | (rw [cmpR_9]; exact ⟨z, rfl, by omega, by omega⟩) | exact (show IsN (-1000000) 1000000 _ _ from ⟨z, rfl, by omega, by omega⟩))⟩⟩
    · intro X w1 k hG hdep
      obtain ⟨z9, e9, lo9, hi9⟩ := (by rw [← cmpR_9 g (w.heap.size + 1)]; exact hdep 9 (by decide +kernel) : IsN (-1000000) 1000000 (X 9) w1)
      have hB : w.heap.size + 1 ≤ w1.heap.size := by have := hG.2.size; simpa using this
      have hg := hG.lt
      simp only [opW_def, mixT, e9]; go_simp
      exact ⟨⟨.slice (some ⟨w1.heap.size, 0, none⟩) 2 2, by first | rfl | simp [Act.put], (Mv.refl _ _).alloc _, hG.mv ((Up.refl _).alloc _), (by first | (rw [cmpR_10]; exact IsTwo.new w1 z9 12 _ hg hB (by omega) (by omega)) | exact (show IsTwo g _ _ _ from IsTwo.new w1 z9 12 _ hg hB (by omega) (by omega)))⟩⟩
    · intro X w1 k hG hdep
      simp only [opW_def, mixT]; go_simp
      exact ⟨⟨.pointer (some ⟨g, 0, none⟩), by first | rfl | simp [Act.put], Mv.refl _ _, hG.less, (by first | (rw [cmpR_11]; exact rfl) | exact (show IsPtr g _ _ from rfl))⟩⟩
    · intro X w1 k hG hdep
      have e : IsPtr g (X 11) w1 := (by rw [← cmpR_11 g (w.heap.size + 1)]; exact hdep 11 (by decide +kernel) : IsPtr g (X 11) w1)
      unfold IsPtr at e; simp only [opW_def, mixT, e]; go_simp; refine (Left.pick hG (by omega) 2 (by omega) (by omega)).mono ?_; rintro x w2 ⟨z, rfl, hz, m, hl⟩
      exact ⟨⟨.int .i64 z, by first | rfl | simp [Act.put], m, hl, (by first | (rw [cmpR_12]; exact ⟨z, rfl, by omega, by omega⟩) | exact (show IsN 0 1 _ _ from ⟨z, rfl, by omega, by omega⟩))⟩⟩
    · intro X w1 k hG hdep
      simp only [opW_def, mixT]; go_simp
      exact ⟨⟨.pointer (some ⟨g, 0, none⟩), by first | rfl | simp [Act.put], Mv.refl _ _, hG.less, (by first | (rw [cmpR_13]; exact rfl) | exact (show IsPtr g _ _ from rfl))⟩⟩
    · intro X w1 k hG hdep
      have e : IsPtr g (X 13) w1 := (by rw [← cmpR_13 g (w.heap.size + 1)]; exact hdep 13 (by decide +kernel) : IsPtr g (X 13) w1)
      unfold IsPtr at e; simp only [opW_def, mixT, e]; go_simp; refine (Left.pick hG (by omega) 2 (by omega) (by omega)).mono ?_; rintro x w2 ⟨z, rfl, hz, m, hl⟩
      exact ⟨⟨.int .i64 z, by first | rfl | simp [Act.put], m, hl, (by first | (rw [cmpR_14]; exact ⟨z, rfl, by omega, by omega⟩) | exact (show IsN 0 1 _ _ from ⟨z, rfl, by omega, by omega⟩))⟩⟩
    · intro X w1 k hG hdep
      obtain ⟨z14, e14, lo14, hi14⟩ := (by rw [← cmpR_14 g (w.heap.size + 1)]; exact hdep 14 (by decide +kernel) : IsN 0 1 (X 14) w1)
      have i1 : IntKind.i64.wrap (1 + z14) = 1 + z14 := IntWalk.i64_in _ (by omega)
      simp only [opW_def, mixT, e14]; go_simp
      exact ⟨⟨.int .i64 (1 + z14), by first | rfl | simp [Act.put], Mv.refl _ _, hG.less, (by first | (rw [cmpR_15]; exact ⟨1 + z14, rfl, by omega, by omega⟩) | exact (show IsN 1 2 _ _ from ⟨1 + z14, rfl, by omega, by omega⟩))⟩⟩
    · intro X w1 k hG hdep
      obtain ⟨z12, e12, lo12, hi12⟩ := (by rw [← cmpR_12 g (w.heap.size + 1)]; exact hdep 12 (by decide +kernel) : IsN 0 1 (X 12) w1); obtain ⟨z15, e15, lo15, hi15⟩ := (by rw [← cmpR_15 g (w.heap.size + 1)]; exact hdep 15 (by decide +kernel) : IsN 1 2 (X 15) w1)
      have h12 : z12 = 0 ∨ z12 = 1 := by omega
      have h15 : z15 = 1 ∨ z15 = 2 := by omega
      rcases h12 with rfl | rfl <;> rcases h15 with rfl | rfl
      · simp only [opW_def, mixT, e12, e15]
        go_simp
        exact ⟨⟨.int .i64 0, by first | rfl | simp [Act.put], Mv.refl _ _, hG.less, (by first | (rw [cmpR_16]; exact ⟨0, rfl, by omega, by omega⟩) | exact (show IsN 0 1 _ _ from ⟨0, rfl, by omega, by omega⟩))⟩⟩
      · simp only [opW_def, mixT, e12, e15]
        go_simp
        exact ⟨⟨.int .i64 0, by first | rfl | simp [Act.put], Mv.refl _ _, hG.less, (by first | (rw [cmpR_16]; exact ⟨0, rfl, by omega, by omega⟩) | exact (show IsN 0 1 _ _ from ⟨0, rfl, by omega, by omega⟩))⟩⟩
      · simp only [opW_def, mixT, e12, e15]
        go_simp
        exact ⟨⟨.int .i64 0, by first | rfl | simp [Act.put], Mv.refl _ _, hG.less, (by first | (rw [cmpR_16]; exact ⟨0, rfl, by omega, by omega⟩) | exact (show IsN 0 1 _ _ from ⟨0, rfl, by omega, by omega⟩))⟩⟩
      · simp only [opW_def, mixT, e12, e15]
        go_simp
        exact ⟨⟨.int .i64 1, by first | rfl | simp [Act.put], Mv.refl _ _, hG.less, (by first | (rw [cmpR_16]; exact ⟨1, rfl, by omega, by omega⟩) | exact (show IsN 0 1 _ _ from ⟨1, rfl, by omega, by omega⟩))⟩⟩
    · intro X w1 k hG hdep
      obtain ⟨b, x, y, e10, h1, h2, h3, h4, h5, h6, h7⟩ := (by rw [← cmpR_10 g (w.heap.size + 1)]; exact hdep 10 (by decide +kernel) : IsTwo g (w.heap.size + 1) (X 10) w1); obtain ⟨z16, e16, lo16, hi16⟩ := (by rw [← cmpR_16 g (w.heap.size + 1)]; exact hdep 16 (by decide +kernel) : IsN 0 1 (X 16) w1)
      have h16 : z16 = 0 ∨ z16 = 1 := by omega
      rcases h16 with rfl | rfl
      · simp only [opW_def, mixT, e10, e16]
        go_simp
        exact ⟨⟨.pointer (some ⟨b, 0, none⟩), by first | rfl | simp [Act.put], Mv.refl _ _, hG.less, (by first | (rw [cmpR_17]; exact ⟨b, 0, x, rfl, h1, h3, h4, h6.1, h6.2⟩) | exact (show IsCell g _ _ from ⟨b, 0, x, rfl, h1, h3, h4, h6.1, h6.2⟩))⟩⟩
      · simp only [opW_def, mixT, e10, e16]
        go_simp
        exact ⟨⟨.pointer (some ⟨b, 1, none⟩), by first | rfl | simp [Act.put], Mv.refl _ _, hG.less, (by first | (rw [cmpR_17]; exact ⟨b, 1, y, rfl, h1, h3, h5, h7.1, h7.2⟩) | exact (show IsCell g _ _ from ⟨b, 1, y, rfl, h1, h3, h5, h7.1, h7.2⟩))⟩⟩
    · intro X w1 k hG hdep
      obtain ⟨b, j, x, e17, h1, h2, h3, h4, h5⟩ := (by rw [← cmpR_17 g (w.heap.size + 1)]; exact hdep 17 (by decide +kernel) : IsCell g (X 17) w1); simp only [opW_def, mixT, e17]; go_simp
      exact ⟨⟨.int .i64 x, by first | rfl | simp [Act.put], Mv.refl _ _, hG.less, (by first | (rw [cmpR_18]; exact ⟨x, rfl, h4, h5⟩) | exact (show IsN (-1000000) 1000000 _ _ from ⟨x, rfl, h4, h5⟩))⟩⟩
    · intro X w1 k hG hdep
      simp only [opW_def, mixT]; go_simp
      exact ⟨⟨.pointer (some ⟨g, 0, none⟩), by first | rfl | simp [Act.put], Mv.refl _ _, hG.less, (by first | (rw [cmpR_19]; exact rfl) | exact (show IsPtr g _ _ from rfl))⟩⟩
    · intro X w1 k hG hdep
      have e : IsPtr g (X 19) w1 := (by rw [← cmpR_19 g (w.heap.size + 1)]; exact hdep 19 (by decide +kernel) : IsPtr g (X 19) w1)
      unfold IsPtr at e; simp only [opW_def, mixT, e]; go_simp; refine (Left.pick hG (by omega) 9 (by omega) (by omega)).mono ?_; rintro x w2 ⟨z, rfl, hz, m, hl⟩
      exact ⟨⟨.int .i64 z, by first | rfl | simp [Act.put], m, hl, (by first | (rw [cmpR_20]; exact ⟨z, rfl, by omega, by omega⟩) | exact (show IsN (-1000000) 1000000 _ _ from ⟨z, rfl, by omega, by omega⟩))⟩⟩
    · intro X w1 k hG hdep
      obtain ⟨z7, e7, lo7, hi7⟩ := (by rw [← cmpR_7 g (w.heap.size + 1)]; exact hdep 7 (by decide +kernel) : IsN (-1000000) 1000000 (X 7) w1); obtain ⟨z18, e18, lo18, hi18⟩ := (by rw [← cmpR_18 g (w.heap.size + 1)]; exact hdep 18 (by decide +kernel) : IsN (-1000000) 1000000 (X 18) w1); obtain ⟨z20, e20, lo20, hi20⟩ := (by rw [← cmpR_20 g (w.heap.size + 1)]; exact hdep 20 (by decide +kernel) : IsN (-1000000) 1000000 (X 20) w1); simp only [opW_def, mixT, e7, e18, e20]; go_simp
      exact ⟨⟨.agg #[.int .i64 z7, .int .i64 z18, .int .i64 z20], by first | rfl | simp [Act.put], Mv.refl _ _, hG.less, (by first | (rw [cmpR_21]; exact ⟨z7, z18, z20, rfl, by omega, by omega, by omega⟩) | exact (show IsCst _ _ from ⟨z7, z18, z20, rfl, by omega, by omega, by omega⟩))⟩⟩
    · intro X w1 k hG hdep
      have hB : w.heap.size + 1 ≤ w1.heap.size := by have := hG.2.size; simpa using this
      have hg := hG.lt
      simp only [opW_def, mixT]; go_simp
      exact ⟨⟨.pointer (some ⟨w1.heap.size, 0, none⟩), by first | rfl | simp [Act.put], (Mv.refl _ _).alloc _, hG.mv ((Up.refl _).alloc _), (by first | (rw [cmpR_5]; exact IsNew3.new w1 _ _ _ _ hg hB) | exact (show IsNew3 g _ _ _ from IsNew3.new w1 _ _ _ _ hg hB))⟩⟩
  · intro X w1 hG hR
    obtain ⟨s, q, t, e21, hs, hq, ht⟩ := (by rw [← cmpR_21 g (w.heap.size + 1)]; exact hR 15 (by omega) : IsCst (X 21) w1); obtain ⟨b5, e5, b5g, b5w, b5l, b5s, b5f⟩ := (by rw [← cmpR_5 g (w.heap.size + 1)]; exact hR 16 (by omega) : IsNew3 g (w.heap.size + 1) (X 5) w1)
    have HG := Lib.hid hG
    obtain ⟨v0, c0⟩ := b5s 0 (by omega); obtain ⟨v1, c1⟩ := b5s 1 (by omega); obtain ⟨v2, c2⟩ := b5s 2 (by omega)
    have B5S := Lib.hid b5s
    have B5F := Lib.hid b5f
    clear hG hR b5s; simp only [mixT, e21, e5]; refine mix_go rfl (by rfl) (fun K hK => ?_); go_simp; refine hK _ _ ?_; clear hK K; refine mix_nil ?_; obtain ⟨⟨N1, hN1, rd1⟩, mv1⟩ := HG.out
    have D5 := Lib.hid (Cell3.laid b5l B5S.out B5F.out s q t)
    have D4 := Lib.hid (((((Cell3.new w 0 0 0 76).mv mv1 (by omega)).far (p := ⟨b5, 0, none⟩) (by dsimp only; omega) (.int .i64 s)).far (p := ⟨b5, 1, none⟩) (by dsimp only; omega) (.int .i64 q)).far (p := ⟨b5, 2, none⟩) (by dsimp only; omega) (.int .i64 t))
    have hb5 : g < b5 := by omega
    have RR := Lib.hid (((rd1.setCell (p := ⟨b5, 0, none⟩) hb5 (.int .i64 s)).setCell (p := ⟨b5, 1, none⟩) hb5 (.int .i64 q)).setCell (p := ⟨b5, 2, none⟩) hb5 (.int .i64 t))
    have m0 : Mv g w w1 := ((Mv.refl g w).alloc _).trans mv1
    have hb5w : w.heap.size ≤ b5 := by omega
    have MM := Lib.hid (((m0.setNew (p := ⟨b5, 0, none⟩) hb5w (.int .i64 s)).setNew (p := ⟨b5, 1, none⟩) hb5w (.int .i64 q)).setNew (p := ⟨b5, 2, none⟩) hb5w (.int .i64 t))
    have hnb : w.heap.size ≠ b5 := by omega
    clear HG B5S B5F c0 c1 c2 b5f rd1 mv1 m0 R0
    go_wp2_with fail
    refine (odd_any g N1 n _ HN.out (by omega) RR.out).mono ?_; rintro x w5 ⟨bb, rfl, r5, m5⟩
    have D5 := Lib.hid (D5.out.mv m5 b5g)
    have D4 := Lib.hid (D4.out.mv m5 (by omega))
    have RR := Lib.hid r5
    have MM := Lib.hid (MM.out.trans m5)
    clear r5 m5
    cases bb
    · obtain ⟨e0, e1, e2⟩ := And.intro D5.out.c0 (And.intro D5.out.c1 D5.out.c2)
      obtain ⟨p0, p1, p2⟩ := And.intro D4.out.c0 (And.intro D4.out.c1 D4.out.c2)
      have pf := D4.out.f
      have E := D4.out.laid' s q t
      obtain ⟨k0, k1, k2⟩ := And.intro E.c0 (And.intro E.c1 E.c2)
      have UE := Lib.hid (((MM.out.setNew (p := ⟨w.heap.size, 0, none⟩) (Nat.le_refl _) (.int .i64 s)).setNew (p := ⟨w.heap.size, 1, none⟩) (Nat.le_refl _) (.int .i64 q)).setNew (p := ⟨w.heap.size, 2, none⟩) (Nat.le_refl _) (.int .i64 t))
      have RE := Lib.hid (((RR.out.setCell (p := ⟨w.heap.size, 0, none⟩) hgw (.int .i64 s)).setCell (p := ⟨w.heap.size, 1, none⟩) hgw (.int .i64 q)).setCell (p := ⟨w.heap.size, 2, none⟩) hgw (.int .i64 t))
      clear E; go_wp2
      exact bodyPost_ret (v := .agg #[.int .i64 s, .int .i64 q, .int .i64 t]) (by simp [results, Try.results156, go_sem, k0, k1, k2]) rfl ⟨⟨s, q, t⟩, rfl, ⟨by dsimp only; omega, by dsimp only; omega, by dsimp only; omega⟩, RE.out.mono (by omega), UE.out⟩
    · go_wp2_with fail
      refine (pick_any g (N1 + 1) 3 _ ⟨by omega, by omega⟩ (by omega) RR.out).mono ?_; intro x w6 pk; obtain ⟨v6, rfl, a6, b6, c6, r6, m6⟩ := pk.cases (by omega)
      have D5 := Lib.hid (D5.out.mv m6 b5g)
      have D4 := Lib.hid (D4.out.mv m6 (by omega))
      have RR := Lib.hid r6
      have MM := Lib.hid (MM.out.trans m6)
      have hg6 : g < w6.heap.size := r6.lt'
      obtain ⟨N2, hN2⟩ : ∃ N2, N2 = N1 + 1 + 1 := ⟨_, rfl⟩; rw [← hN2] at RR
      have l4 : w.heap.size < w6.heap.size := D4.out.lt
      have l5 : b5 < w6.heap.size := D5.out.lt
      clear pk r6 m6 b6
      have d6 : v6 = 0 ∨ v6 = 1 ∨ v6 = 2 := by omega
      clear c6 a6
      rcases d6 with rfl | rfl | rfl
      · go_wp2_with fail
        refine (pick_any g N2 2 _ ⟨by omega, by omega⟩ (by omega) (RR.out.alloc _)).mono ?_; intro x w8 pk; obtain ⟨v7, rfl, a7, b7, c7, r7, m7⟩ := pk.cases (by omega); obtain ⟨v8, hv8, hl8⟩ := two_num m7 hg6 a7 (by omega)
        have l7 : v7 < 2 := by omega
        have D4 := Lib.hid (((D4.out.mv ((Up.refl _).alloc _ |>.mv g) (by omega)).mv m7 (by omega)).far (p := ⟨b5, 0, none⟩) (by dsimp only; omega) (.int .i64 v8))
        have d5 := (D5.out.mv ((Up.refl _).alloc _ |>.mv g) b5g).mv m7 b5g
        have D5 := Lib.hid (d5.set0 v8)
        have RR := Lib.hid (r7.setCell (p := ⟨b5, 0, none⟩) (by dsimp only; omega) (.int .i64 v8))
        have MM := Lib.hid (((MM.out.alloc _).trans m7).setNew (p := ⟨b5, 0, none⟩) (by dsimp only; omega) (.int .i64 v8))
        have hw8 : w6.heap.size < w8.heap.size := by have := m7.size; simp at this; omega
        obtain ⟨o0, o1, o2⟩ := And.intro d5.c0 (And.intro d5.c1 d5.c2)
        have of := d5.f
        clear pk r7 m7 c7 d5
        have hv8' : -1000000 ≤ v8 ∧ v8 ≤ 1000000 := by rcases hv8 with h | h <;> omega
        obtain ⟨e0, e1, e2⟩ := And.intro D5.out.c0 (And.intro D5.out.c1 D5.out.c2); obtain ⟨p0, p1, p2⟩ := And.intro D4.out.c0 (And.intro D4.out.c1 D4.out.c2)
        have pf := D4.out.f
        have E := D4.out.laid' v8 q t
        obtain ⟨k0, k1, k2⟩ := And.intro E.c0 (And.intro E.c1 E.c2)
        have UE := Lib.hid (((MM.out.setNew (p := ⟨w.heap.size, 0, none⟩) (Nat.le_refl _) (.int .i64 v8)).setNew (p := ⟨w.heap.size, 1, none⟩) (Nat.le_refl _) (.int .i64 q)).setNew (p := ⟨w.heap.size, 2, none⟩) (Nat.le_refl _) (.int .i64 t))
        have RE := Lib.hid (((RR.out.setCell (p := ⟨w.heap.size, 0, none⟩) hgw (.int .i64 v8)).setCell (p := ⟨w.heap.size, 1, none⟩) hgw (.int .i64 q)).setCell (p := ⟨w.heap.size, 2, none⟩) hgw (.int .i64 t))
        clear E; go_wp2
        exact bodyPost_ret (v := .agg #[.int .i64 v8, .int .i64 q, .int .i64 t]) (by simp [results, Try.results156, go_sem, k0, k1, k2]) rfl ⟨⟨v8, q, t⟩, rfl, ⟨by dsimp only; omega, by dsimp only; omega, by dsimp only; omega⟩, RE.out.mono (by omega), UE.out⟩
      · go_wp2_with fail
        refine (pick_any g N2 2 _ ⟨by omega, by omega⟩ (by omega) (RR.out.alloc _)).mono ?_; intro x w8 pk; obtain ⟨v7, rfl, a7, b7, c7, r7, m7⟩ := pk.cases (by omega); obtain ⟨v8, hv8, hl8⟩ := two_num m7 hg6 a7 (by omega)
        have l7 : v7 < 2 := by omega
        have D4 := Lib.hid (((D4.out.mv ((Up.refl _).alloc _ |>.mv g) (by omega)).mv m7 (by omega)).far (p := ⟨b5, 1, none⟩) (by dsimp only; omega) (.int .i64 v8))
        have d5 := (D5.out.mv ((Up.refl _).alloc _ |>.mv g) b5g).mv m7 b5g
        have D5 := Lib.hid (d5.set1 v8)
        have RR := Lib.hid (r7.setCell (p := ⟨b5, 1, none⟩) (by dsimp only; omega) (.int .i64 v8))
        have MM := Lib.hid (((MM.out.alloc _).trans m7).setNew (p := ⟨b5, 1, none⟩) (by dsimp only; omega) (.int .i64 v8))
        have hw8 : w6.heap.size < w8.heap.size := by have := m7.size; simp at this; omega
        obtain ⟨o0, o1, o2⟩ := And.intro d5.c0 (And.intro d5.c1 d5.c2)
        have of := d5.f
        clear pk r7 m7 c7 d5
        have hv8' : -1000000 ≤ v8 ∧ v8 ≤ 1000000 := by rcases hv8 with h | h <;> omega
        obtain ⟨e0, e1, e2⟩ := And.intro D5.out.c0 (And.intro D5.out.c1 D5.out.c2); obtain ⟨p0, p1, p2⟩ := And.intro D4.out.c0 (And.intro D4.out.c1 D4.out.c2)
        have pf := D4.out.f
        have E := D4.out.laid' s v8 t
        obtain ⟨k0, k1, k2⟩ := And.intro E.c0 (And.intro E.c1 E.c2)
        have UE := Lib.hid (((MM.out.setNew (p := ⟨w.heap.size, 0, none⟩) (Nat.le_refl _) (.int .i64 s)).setNew (p := ⟨w.heap.size, 1, none⟩) (Nat.le_refl _) (.int .i64 v8)).setNew (p := ⟨w.heap.size, 2, none⟩) (Nat.le_refl _) (.int .i64 t))
        have RE := Lib.hid (((RR.out.setCell (p := ⟨w.heap.size, 0, none⟩) hgw (.int .i64 s)).setCell (p := ⟨w.heap.size, 1, none⟩) hgw (.int .i64 v8)).setCell (p := ⟨w.heap.size, 2, none⟩) hgw (.int .i64 t))
        clear E; go_wp2
        exact bodyPost_ret (v := .agg #[.int .i64 s, .int .i64 v8, .int .i64 t]) (by simp [results, Try.results156, go_sem, k0, k1, k2]) rfl ⟨⟨s, v8, t⟩, rfl, ⟨by dsimp only; omega, by dsimp only; omega, by dsimp only; omega⟩, RE.out.mono (by omega), UE.out⟩
      · have o2 := D5.out.c2
        have of := D5.out.f
        have D5x := D5
        clear D5
        have D5 := Lib.hid (D5x.out.set2 (-1))
        have D4 := Lib.hid (D4.out.far (p := ⟨b5, 2, none⟩) (by dsimp only; omega) (.int .i64 (-1)))
        have RR := Lib.hid (RR.out.setCell (p := ⟨b5, 2, none⟩) hb5 (.int .i64 (-1)))
        have MM := Lib.hid (MM.out.setNew (p := ⟨b5, 2, none⟩) hb5w (.int .i64 (-1)))
        obtain ⟨e0, e1, e2⟩ := And.intro D5.out.c0 (And.intro D5.out.c1 D5.out.c2); obtain ⟨p0, p1, p2⟩ := And.intro D4.out.c0 (And.intro D4.out.c1 D4.out.c2)
        have pf := D4.out.f
        have E := D4.out.laid' s q (-1)
        obtain ⟨k0, k1, k2⟩ := And.intro E.c0 (And.intro E.c1 E.c2)
        have UE := Lib.hid (((MM.out.setNew (p := ⟨w.heap.size, 0, none⟩) (Nat.le_refl _) (.int .i64 s)).setNew (p := ⟨w.heap.size, 1, none⟩) (Nat.le_refl _) (.int .i64 q)).setNew (p := ⟨w.heap.size, 2, none⟩) (Nat.le_refl _) (.int .i64 (-1)))
        have RE := Lib.hid (((RR.out.setCell (p := ⟨w.heap.size, 0, none⟩) hgw (.int .i64 s)).setCell (p := ⟨w.heap.size, 1, none⟩) hgw (.int .i64 q)).setCell (p := ⟨w.heap.size, 2, none⟩) hgw (.int .i64 (-1)))
        clear E; go_wp2
        exact bodyPost_ret (v := .agg #[.int .i64 s, .int .i64 q, .int .i64 (-1)]) (by simp [results, Try.results156, go_sem, k0, k1, k2]) rfl ⟨⟨s, q, (-1)⟩, rfl, ⟨by dsimp only; omega, by dsimp only; omega, by dsimp only; omega⟩, RE.out.mono (by omega), UE.out⟩
end Go.Proofs.Ytklldniapombiaa

namespace Go.Proofs.Ytklldniapombiaa
set_option maxRecDepth 100000
open Go.RowKit
/-- What is left to walk, kept shut. -/
@[irreducible] def hWalk (P : Program) (ops : Array Oper) (Q : Exit → Act → World → Prop) (S : World → Prop) (N : Nat) (listed : Array Bool) (a : Act) (w : World) : Prop :=
  Region.noSelect ops = true → S w → wpAnyH P .any ops (NoPanic Q) S N listed a w
theorem region_hWalk {P : Program} {id : Nat} {Q : Exit → Act → World → Prop} {a : Act} {w : World} {l : List Oper} (S : World → Prop) (N : Nat) (hm : P.follows .mixedOrders = true) (hN : l.length = N)
    (hsel : Region.noSelect l.toArray = true) (hS : S w.drew) (h : hWalk P l.toArray Q S N (Array.replicate N false) a w.drew) : (Code.region id l.toArray true).wp P Q a w := by
  subst hN; unfold hWalk at h; refine wp_region_noPanic (wp_region_held (S := S) hm ?_)
  have := h hsel hS
  simpa using this
section
variable {P : Program} {ops : Array Oper} {Q : Exit → Act → World → Prop} {S : World → Prop} {N : Nat} {listed : Array Bool} {a : Act} {w : World}
theorem hWalk_take (k : Nat) {o : Oper} (hB : ((Region.ready .any ops listed).contains k && Region.free .any ops listed k) = true) (h0 : ops[k]? = some o) (hw : Region.wanted o (yielded ops a.tmps) = true)
    (h : ∃ v, (∀ w1, S w1 → (execOp a.eval o).run P w1 = .ok (.value v) w1) ∧ hWalk P ops Q S N (listed.setIfInBounds k true) (a.put o.dst v) w) : hWalk P ops Q S (N + 1) listed a w := by
  unfold hWalk at h ⊢; intro hsel hS; simp only [Bool.and_eq_true] at hB; obtain ⟨v, hv, hn⟩ := h
  exact wpAnyH_take h0 hsel hB.2 hB.1 (fun _ _ _ h => h) (.inl ⟨hw, hv⟩) hS (hn hsel hS)
/-- One of those that are ready is next. -/
def Next (P : Program) (ops : Array Oper) (Q : Exit → Act → World → Prop) (S : World → Prop) (N : Nat) (listed : Array Bool) (a : Act) (w : World) (k : Nat) : Prop :=
  ∃ o, ops[k]? = some o ∧ Region.wanted o (yielded ops a.tmps) = true ∧ ∀ K : Act → World → Prop, (∀ a w, S w → hWalk P ops Q S N (listed.setIfInBounds k true) a w → K a w) → o.wp P a w K (NoPanic Q)
theorem next_mk {k : Nat} {o : Oper} (h0 : ops[k]? = some o) (hw : Region.wanted o (yielded ops a.tmps) = true) (h : ∀ K : Act → World → Prop, (∀ a w, S w → hWalk P ops Q S N (listed.setIfInBounds k true) a w → K a w) → o.wp P a w K (NoPanic Q)) : Next P ops Q S N listed a w k := ⟨o, h0, hw, h⟩
theorem hWalk_fork (l : List Nat) (hr : Region.ready .any ops listed = l) (hl : l ≠ []) (h : ∀ k ∈ l, Next P ops Q S N listed a w k) : hWalk P ops Q S (N + 1) listed a w := by
  unfold hWalk; intro hsel hS
  refine wpAnyH_all hr hl fun k hk => ?_
  obtain ⟨o, h0, hw, hn⟩ := h k hk; unfold wpOp; simp only [h0]; rw [if_pos hw]; refine .inl (hn _ fun a' w' hs' hh => ?_); unfold hWalk at hh
  exact ⟨hs', hh hsel hs'⟩
theorem hWalk_one {i : Nat} (hr : Region.ready .any ops listed = [i]) (hi : Next P ops Q S N listed a w i) : hWalk P ops Q S (N + 1) listed a w :=
  hWalk_fork [i] hr (by simp) (fun k hk => by
    obtain rfl : k = i := by simpa using hk
    exact hi)
theorem hWalk_two {i j : Nat} (hr : Region.ready .any ops listed = [i, j]) (hi : Next P ops Q S N listed a w i) (hj : Next P ops Q S N listed a w j) : hWalk P ops Q S (N + 1) listed a w :=
  hWalk_fork [i, j] hr (by simp) (fun k hk => by
    have : k = i ∨ k = j := by simpa using hk
    rcases this with rfl | rfl
    · exact hi
    · exact hj)
theorem hWalk_nil (hr : (Region.ready .any ops listed).isEmpty = true) (h : Q .normal a w) : hWalk P ops Q S 0 listed a w := by
  unfold hWalk; intro _ _
  exact ⟨by simpa using hr, h⟩
end
end Go.Proofs.Ytklldniapombiaa

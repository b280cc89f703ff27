/-
  What l20Model gives, in one sentence: a model that lies in memory, of few rows, rules, sends and starts, and the reader some steps further; for every reader.
-/
import Derived.Deep.Cut
import Derived.Test.YtakmlfgkppekoaaDLRok11
namespace Go.Proofs.Ytakmlfgkppekoaa
set_option maxRecDepth 100000
open Go.RowKit
set_option maxHeartbeats 8000000 in
theorem model_any (g N : Nat) (n : Int) (w : World) (hn : I64 n) (hN : N ≤ 800000) (hR : Rd w g N) :
    Calls Try.prog 81 #[.pointer (some ⟨g, 0, none⟩), .int .i64 n] w (DrawnM g (N + 2000) w) := by
  have hgw : g < w.heap.size := hR.lt
  have HgS := Lib.hid (Beh.not hgw)
  have R0 := Lib.hid (hR.mono (show N ≤ N + 10 by omega))
  have HN := Lib.hid hn
  clear hR hn; obtain ⟨iS, hs0, hs1, hs2, hs3⟩ := info_parts info140
  have INFS := Lib.hid (And.intro hs0 (And.intro hs1 (And.intro hs2 hs3)))
  obtain ⟨iR, hr0, hr1, hr2, hr3⟩ := info_parts info63
  have INFR := Lib.hid (And.intro hr0 (And.intro hr1 (And.intro hr2 hr3)))
  obtain ⟨iW, ht0, ht1, ht2, ht3⟩ := info_parts info60
  have INFW := Lib.hid (And.intro ht0 (And.intro ht1 (And.intro ht2 ht3)))
  clear hs0 hs1 hs2 hs3 hr0 hr1 hr2 hr3 ht0 ht1 ht2 ht3
  go_enter Try.func81, Try.ntmps81
  go_wp2_with fail
  have T0 : TH (TM (N + 10)) (Beh w) w := fun b arr e fz hb ha => absurd ((Array.getElem?_eq_some_iff.1 ha).1) (by unfold Beh at hb; omega)
  have T1 := Lib.hid (T0.free' (arr := #[.slice none 0 0, .slice none 0 0, .int .i64 0]) (TM_mdl _))
  have B4 := Lib.hid (Blk.new w #[.slice none 0 0, .slice none 0 0, .int .i64 0] 33)
  have R1 := Lib.hid (R0.out.alloc (.cells #[.slice none 0 0, .slice none 0 0, .int .i64 0] 33))
  have M1 := Lib.hid ((Mv.refl g w).alloc (.cells #[.slice none 0 0, .slice none 0 0, .int .i64 0] 33))
  clear T0; refine (pickP_any g (N + 10) 4 _ ⟨by omega, by omega⟩ (by omega) R1.out).mono ?_; intro x w1 pk; obtain ⟨z1, rfl, a1, b1, c1, r1, p1⟩ := pk.cases (by omega)
  have R2 := Lib.hid r1
  have T2 := Lib.hid (T1.out.pk p1 (Beh.not hgw))
  have B4 := Lib.hid (B4.out.pk p1 (by omega))
  have M2 := Lib.hid (M1.out.trans p1.mv)
  have s2 : w1.heap.size = w.heap.size + 1 := by rw [p1.size]; simp
  obtain ⟨many, hmany, hm1, hm4⟩ : ∃ many : Nat, 1 + z1 = (many : Int) ∧ 1 ≤ many ∧ many ≤ 4 := ⟨(1 + z1).toNat, by omega, by omega, by omega⟩
  have i1 : IntKind.i64.wrap (1 + z1) = (many : Int) := by rw [hmany]; exact IntWalk.i64_in _ (by omega)
  have HM := Lib.hid hmany
  have S2 := Lib.hid s2
  clear hmany pk p1 r1 T1 R1 M1 s2 c1 a1 b1
  go_wp2_with fail
  refine (pickP_any g (N + 11) 16 _ ⟨by omega, by omega⟩ (by omega) R2.out).mono ?_; intro x w2 pk; obtain ⟨z2, rfl, a2, b2, c2, r2, p2⟩ := pk.cases (by omega)
  have s3 : w2.heap.size = w.heap.size + 1 := by rw [p2.size, S2.out]
  have S3 := Lib.hid s3
  have MD := Lib.hid (Md.mk (w := w) (g := g) (b4 := w.heap.size) (b6 := w2.heap.size) (til := 4 + z2) (n := 0) (c := N + 12) (v6 := .slice none 0 0) (wr := w2.alloc (.cells #[.slice none 0 0, .slice none 0 0, .int .i64 (4 + z2)] 33))
    (((T2.out.pk p2 (Beh.not hgw)).up (show N + 10 ≤ N + 12 by omega)).free' (TM_mdl _)) (r2.alloc _) (.inl ⟨rfl, rfl⟩) (Blk.new w2 _ _) ((B4.out.pk p2 (by omega)).alloc _) ((M2.out.trans p2.mv).alloc _) (by simp; omega))
  have hz2a : 0 ≤ z2 := a2
  have hz2b : z2 ≤ 15 := by omega
  have q1 : IntKind.i64.wrap (4 + z2) = 4 + z2 := IntWalk.i64_in _ (by omega)
  clear pk r2 p2 s3 T2 R2 B4 M2 c2 i1
  go_wp2_with fail
  go_loopw [7] (fun i wr => L1 w g w.heap.size w2.heap.size (4 + z2) many N i wr) (fun i _ => many + 1 - (intOf i).toNat)
  case atStart => exact ⟨0, N + 12, _, rfl, by omega, by omega, by omega, MD.out⟩
  case round =>
    obtain ⟨k, c, v6, rfl, hk, hc10, hcN, md⟩ := hrel
    have s3 := S3.out
    have S3 := Lib.hid s3
    have n4 : w.heap.size ≠ g := by omega
    have n6 : w2.heap.size ≠ g := by omega
    have hb6 : w.heap.size < w2.heap.size := by omega
    clear s3
    have MD := Lib.hid md
    clear md
    by_cases hlt : k < many
    · have lt1 : (k : Int) < many := by omega
      have GR0 := Lib.hid (Gs.new (S := Beh w) (w := wr) (arr := #[]) (e := 63) (size := 5) (n := 0) MD.out.above rfl (by omega))
      have MD := Lib.hid (MD.out.alloc (e := 63) (arr := #[]) (fun _ j v hv => by simp at hv))
      go_wp2_with fail
      go_loopw [8, 9] (fun v8 i wr => L2 w g w.heap.size w2.heap.size (4 + z2) k N v6 v8 i wr) (fun _ i _ => 4 - (intOf i).toNat)
      case atStart => exact ⟨0, 0, c, rfl, by omega, by omega, by omega, by omega, GR0.out, MD.out⟩
      case round =>
        clear GR0 MD; obtain ⟨q, r, c, rfl, hq, hc10, hcN, hr, gr, md⟩ := hrel
        have GR := Lib.hid gr
        have MD := Lib.hid md
        clear gr md
        by_cases hq3 : q < 3
        · have lt2 : (q : Int) < 3 := by omega
          go_wp2_with fail
          refine (pickP_any g c 5 _ ⟨by omega, by omega⟩ (by omega) MD.out.rd).mono ?_; intro x wA pk; obtain ⟨zA, rfl, aA, bA, cA, rA, pA⟩ := pk.cases (by omega)
          have GR := Lib.hid (GR.out.st (T := TM c) pA.st)
          have MD := Lib.hid (MD.out.pk pA rA hgw (by omega) n4 n6)
          clear pk rA pA bA cA
          by_cases hzA : zA = 0
          · subst hzA
            go_wp2_with fail
            go_roundw
            case rel => exact ⟨q + 1, r, c + 1, by go_num, by omega, by omega, by omega, by omega, GR.out, MD.out⟩
            case measure => simp [intOf]; omega
          · have hzA' : (zA == 0) = false := by simp [hzA]
            obtain ⟨c2, hc2⟩ : ∃ c2, c2 = c + 1 := ⟨_, rfl⟩; rw [← hc2] at MD
            have hcN : c2 ≤ N + 20 + 200 * k + 64 * q + 1 := by omega
            have hc10 : 10 ≤ c2 := by omega
            clear hc2 aA hzA
            go_wp2_with fail
            clear hzA'; refine region_rely 19 [(19, false)] [36, 37, 38, 39, 40, 41, 42, 43, 44, 45, 46, 47, 48, 49, 50, 51, 52, 53, 10] (GT c2 (Beh w) g (c2 + 20) wA) (St (TM c2) (Beh w) g) (mR11 (Beh w) c2 g (q : Int)) (by kernel_rfl) (by kernel_rfl) (by kernel_rfl) (GT.start MD.out.th MD.out.rd (by omega) MD.out.above) (fun d v wa wb h u => mR11_st h u) ?_ ?_
            · simp only [List.take_succ_cons, List.take_zero, StepsR]
              refine ⟨?_, ?_, ?_, ?_, ?_, ?_, ?_, ?_, ?_, ?_, ?_, ?_, ?_, ?_, ?_, ?_, ?_, ?_, ?_, trivial⟩
              · intro X w1 k1 hG hdep
                simp only [opW_def, mixT]; go_simp
                exact ⟨⟨.int .i64 (q : Int), by first | rfl | simp [Act.put], St.refl _, hG.less, (show mR11 (Beh w) c2 g (q : Int) 36 _ _ from by first | (rw [mR11_36]; exact rfl) | rw [mR11_36])⟩⟩
              · intro X w1 k1 hG hdep
                simp only [opW_def, mixT]; go_simp
                exact ⟨⟨.pointer (some ⟨g, 0, none⟩), by first | rfl | simp [Act.put], St.refl _, hG.less, (show mR11 (Beh w) c2 g (q : Int) 37 _ _ from by first | (rw [mR11_37]; exact rfl) | rw [mR11_37])⟩⟩
              · intro X w1 k1 hG hdep
                have e37 : mR11 (Beh w) c2 g (q : Int) 37 (X 37) w1 := hdep 37 (by decide +kernel)
                rw [mR11_37] at e37; unfold PEq at e37; obtain ⟨c1, hc1, rd1⟩ := hG.rd; simp only [opW_def, mixT, e37]; go_simp; refine (pickP_any g c1 97 w1 ⟨by omega, by omega⟩ (by omega) rd1).mono ?_; intro x w2 pk; obtain ⟨z, rfl, z0, z1, z2, r2, pk⟩ := pk.cases (by omega)
                exact ⟨⟨.int .i64 z, by first | rfl | simp [Act.put], pk.st, hG.pk pk HgS.out r2 hc1, (show mR11 (Beh w) c2 g (q : Int) 38 _ _ from by first | (rw [mR11_38]; exact ⟨z, rfl, by omega, by omega⟩) | rw [mR11_38])⟩⟩
              · intro X w1 k1 hG hdep
                have e38 : mR11 (Beh w) c2 g (q : Int) 38 (X 38) w1 := hdep 38 (by decide +kernel)
                rw [mR11_38] at e38; obtain ⟨z, e38, z0, z1⟩ := e38
                have hgl : g < w1.heap.size := by obtain ⟨_, _, rd1⟩ := hG.rd; exact rd1.lt
                simp only [opW_def, mixT, e38]; go_simp
                exact ⟨⟨.slice (some ⟨w1.heap.size, 0, none⟩) 2 2, by first | rfl | simp [Act.put], St.alloc _ _ _ hG.lo, hG.alloc (fun h => absurd (TM_int _) h), (show mR11 (Beh w) c2 g (q : Int) 39 _ _ from by first | (rw [mR11_39]; exact PArr.new2 hgl ⟨by omega, by omega⟩ ⟨by omega, by omega⟩) | rw [mR11_39])⟩⟩
              · intro X w1 k1 hG hdep
                simp only [opW_def, mixT]; go_simp
                exact ⟨⟨.pointer (some ⟨g, 0, none⟩), by first | rfl | simp [Act.put], St.refl _, hG.less, (show mR11 (Beh w) c2 g (q : Int) 40 _ _ from by first | (rw [mR11_40]; exact rfl) | rw [mR11_40])⟩⟩
              · intro X w1 k1 hG hdep
                have e40 : mR11 (Beh w) c2 g (q : Int) 40 (X 40) w1 := hdep 40 (by decide +kernel)
                rw [mR11_40] at e40; unfold PEq at e40; obtain ⟨c1, hc1, rd1⟩ := hG.rd; simp only [opW_def, mixT, e40]; go_simp; refine (pickP_any g c1 2 w1 ⟨by omega, by omega⟩ (by omega) rd1).mono ?_; intro x w2 pk; obtain ⟨z, rfl, z0, z1, z2, r2, pk⟩ := pk.cases (by omega)
                exact ⟨⟨.int .i64 z, by first | rfl | simp [Act.put], pk.st, hG.pk pk HgS.out r2 hc1, (show mR11 (Beh w) c2 g (q : Int) 41 _ _ from by first | (rw [mR11_41]; exact ⟨z, rfl, by omega, by omega⟩) | rw [mR11_41])⟩⟩
              · intro X w1 k1 hG hdep
                have e39 : mR11 (Beh w) c2 g (q : Int) 39 (X 39) w1 := hdep 39 (by decide +kernel)
                rw [mR11_39] at e39
                have e41 : mR11 (Beh w) c2 g (q : Int) 41 (X 41) w1 := hdep 41 (by decide +kernel)
                rw [mR11_41] at e41; obtain ⟨z, e41, z0, z1⟩ := e41; obtain ⟨b, ea, hel⟩ := e39.el
                have hz : z = 0 ∨ z = 1 := by omega
                rcases hz with rfl | rfl
                · simp only [opW_def, mixT, ea, e41]
                  go_simp
                  exact ⟨⟨.pointer (some ⟨b, 0, none⟩), by first | rfl | simp [Act.put], St.refl _, hG.less, (show mR11 (Beh w) c2 g (q : Int) 42 _ _ from by first | (rw [mR11_42]; exact hel 0 (by omega)) | rw [mR11_42])⟩⟩
                · simp only [opW_def, mixT, ea, e41]
                  go_simp
                  exact ⟨⟨.pointer (some ⟨b, 1, none⟩), by first | rfl | simp [Act.put], St.refl _, hG.less, (show mR11 (Beh w) c2 g (q : Int) 42 _ _ from by first | (rw [mR11_42]; exact hel 1 (by omega)) | rw [mR11_42])⟩⟩
              · intro X w1 k1 hG hdep
                have e42 : mR11 (Beh w) c2 g (q : Int) 42 (X 42) w1 := hdep 42 (by decide +kernel)
                rw [mR11_42] at e42; obtain ⟨b, j, z, ea, hc, z0, z1⟩ := e42.cell; simp only [opW_def, mixT, ea]; go_simp
                exact ⟨⟨.int .i64 z, by first | rfl | simp [Act.put], St.refl _, hG.less, (show mR11 (Beh w) c2 g (q : Int) 43 _ _ from by first | (rw [mR11_43]; exact ⟨z, rfl, z0, z1⟩) | rw [mR11_43])⟩⟩
              · intro X w1 k1 hG hdep
                simp only [opW_def, mixT]; go_simp
                exact ⟨⟨.pointer (some ⟨g, 0, none⟩), by first | rfl | simp [Act.put], St.refl _, hG.less, (show mR11 (Beh w) c2 g (q : Int) 44 _ _ from by first | (rw [mR11_44]; exact rfl) | rw [mR11_44])⟩⟩
              · intro X w1 k1 hG hdep
                have e44 : mR11 (Beh w) c2 g (q : Int) 44 (X 44) w1 := hdep 44 (by decide +kernel)
                rw [mR11_44] at e44; unfold PEq at e44; obtain ⟨c1, hc1, rd1⟩ := hG.rd; simp only [opW_def, mixT, e44]; go_simp; refine (pickP_any g c1 97 w1 ⟨by omega, by omega⟩ (by omega) rd1).mono ?_; intro x w2 pk; obtain ⟨z, rfl, z0, z1, z2, r2, pk⟩ := pk.cases (by omega)
                exact ⟨⟨.int .i64 z, by first | rfl | simp [Act.put], pk.st, hG.pk pk HgS.out r2 hc1, (show mR11 (Beh w) c2 g (q : Int) 45 _ _ from by first | (rw [mR11_45]; exact ⟨z, rfl, by omega, by omega⟩) | rw [mR11_45])⟩⟩
              · intro X w1 k1 hG hdep
                have e45 : mR11 (Beh w) c2 g (q : Int) 45 (X 45) w1 := hdep 45 (by decide +kernel)
                rw [mR11_45] at e45; obtain ⟨z, e45, z0, z1⟩ := e45
                have hgl : g < w1.heap.size := by obtain ⟨_, _, rd1⟩ := hG.rd; exact rd1.lt
                simp only [opW_def, mixT, e45]; go_simp
                exact ⟨⟨.slice (some ⟨w1.heap.size, 0, none⟩) 2 2, by first | rfl | simp [Act.put], St.alloc _ _ _ hG.lo, hG.alloc (fun h => absurd (TM_int _) h), (show mR11 (Beh w) c2 g (q : Int) 46 _ _ from by first | (rw [mR11_46]; exact PArr.new2 hgl ⟨by omega, by omega⟩ ⟨by omega, by omega⟩) | rw [mR11_46])⟩⟩
              · intro X w1 k1 hG hdep
                simp only [opW_def, mixT]; go_simp
                exact ⟨⟨.pointer (some ⟨g, 0, none⟩), by first | rfl | simp [Act.put], St.refl _, hG.less, (show mR11 (Beh w) c2 g (q : Int) 47 _ _ from by first | (rw [mR11_47]; exact rfl) | rw [mR11_47])⟩⟩
              · intro X w1 k1 hG hdep
                have e47 : mR11 (Beh w) c2 g (q : Int) 47 (X 47) w1 := hdep 47 (by decide +kernel)
                rw [mR11_47] at e47; unfold PEq at e47; obtain ⟨c1, hc1, rd1⟩ := hG.rd; simp only [opW_def, mixT, e47]; go_simp; refine (pickP_any g c1 2 w1 ⟨by omega, by omega⟩ (by omega) rd1).mono ?_; intro x w2 pk; obtain ⟨z, rfl, z0, z1, z2, r2, pk⟩ := pk.cases (by omega)
                exact ⟨⟨.int .i64 z, by first | rfl | simp [Act.put], pk.st, hG.pk pk HgS.out r2 hc1, (show mR11 (Beh w) c2 g (q : Int) 48 _ _ from by first | (rw [mR11_48]; exact ⟨z, rfl, by omega, by omega⟩) | rw [mR11_48])⟩⟩
              · intro X w1 k1 hG hdep
                have e46 : mR11 (Beh w) c2 g (q : Int) 46 (X 46) w1 := hdep 46 (by decide +kernel)
                rw [mR11_46] at e46
                have e48 : mR11 (Beh w) c2 g (q : Int) 48 (X 48) w1 := hdep 48 (by decide +kernel)
                rw [mR11_48] at e48; obtain ⟨z, e48, z0, z1⟩ := e48; obtain ⟨b, ea, hel⟩ := e46.el
                have hz : z = 0 ∨ z = 1 := by omega
                rcases hz with rfl | rfl
                · simp only [opW_def, mixT, ea, e48]
                  go_simp
                  exact ⟨⟨.pointer (some ⟨b, 0, none⟩), by first | rfl | simp [Act.put], St.refl _, hG.less, (show mR11 (Beh w) c2 g (q : Int) 49 _ _ from by first | (rw [mR11_49]; exact hel 0 (by omega)) | rw [mR11_49])⟩⟩
                · simp only [opW_def, mixT, ea, e48]
                  go_simp
                  exact ⟨⟨.pointer (some ⟨b, 1, none⟩), by first | rfl | simp [Act.put], St.refl _, hG.less, (show mR11 (Beh w) c2 g (q : Int) 49 _ _ from by first | (rw [mR11_49]; exact hel 1 (by omega)) | rw [mR11_49])⟩⟩
              · intro X w1 k1 hG hdep
                have e49 : mR11 (Beh w) c2 g (q : Int) 49 (X 49) w1 := hdep 49 (by decide +kernel)
                rw [mR11_49] at e49; obtain ⟨b, j, z, ea, hc, z0, z1⟩ := e49.cell; simp only [opW_def, mixT, ea]; go_simp
                exact ⟨⟨.int .i64 z, by first | rfl | simp [Act.put], St.refl _, hG.less, (show mR11 (Beh w) c2 g (q : Int) 50 _ _ from by first | (rw [mR11_50]; exact ⟨z, rfl, z0, z1⟩) | rw [mR11_50])⟩⟩
              · intro X w1 k1 hG hdep
                simp only [opW_def, mixT]; go_simp
                exact ⟨⟨.pointer (some ⟨g, 0, none⟩), by first | rfl | simp [Act.put], St.refl _, hG.less, (show mR11 (Beh w) c2 g (q : Int) 51 _ _ from by first | (rw [mR11_51]; exact rfl) | rw [mR11_51])⟩⟩
              · intro X w1 k1 hG hdep
                have e51 : mR11 (Beh w) c2 g (q : Int) 51 (X 51) w1 := hdep 51 (by decide +kernel)
                rw [mR11_51] at e51; unfold PEq at e51; obtain ⟨c1, hc1, rd1⟩ := hG.rd; simp only [opW_def, mixT, e51]; go_simp; refine (pickP_any g c1 9 w1 ⟨by omega, by omega⟩ (by omega) rd1).mono ?_; intro x w2 pk; obtain ⟨z, rfl, z0, z1, z2, r2, pk⟩ := pk.cases (by omega)
                exact ⟨⟨.int .i64 z, by first | rfl | simp [Act.put], pk.st, hG.pk pk HgS.out r2 hc1, (show mR11 (Beh w) c2 g (q : Int) 52 _ _ from by first | (rw [mR11_52]; exact ⟨z, rfl, by omega, by omega⟩) | rw [mR11_52])⟩⟩
              · intro X w1 k1 hG hdep
                have e36 : mR11 (Beh w) c2 g (q : Int) 36 (X 36) w1 := hdep 36 (by decide +kernel)
                rw [mR11_36] at e36; unfold PEq at e36
                have e43 : mR11 (Beh w) c2 g (q : Int) 43 (X 43) w1 := hdep 43 (by decide +kernel)
                rw [mR11_43] at e43; obtain ⟨y1, e43, y10, y11⟩ := e43
                have e50 : mR11 (Beh w) c2 g (q : Int) 50 (X 50) w1 := hdep 50 (by decide +kernel)
                rw [mR11_50] at e50; obtain ⟨y2, e50, y20, y21⟩ := e50
                have e52 : mR11 (Beh w) c2 g (q : Int) 52 (X 52) w1 := hdep 52 (by decide +kernel)
                rw [mR11_52] at e52; obtain ⟨y3, e52, y30, y31⟩ := e52; simp only [opW_def, mixT, e36, e43, e50, e52]; go_simp
                exact ⟨⟨_, by first | rfl | simp [Act.put], St.refl _, hG.less, (show mR11 (Beh w) c2 g (q : Int) 53 _ _ from by first | (rw [mR11_53]; exact ⟨_, _, _, _, _, rfl, 0, Nat.le_refl _, .inl ⟨rfl, rfl⟩⟩) | rw [mR11_53])⟩⟩
              · intro X w1 k1 hG hdep
                simp only [opW_def, mixT]; go_simp
                exact ⟨⟨.pointer (some ⟨w1.heap.size, 0, none⟩), by first | rfl | simp [Act.put], St.alloc _ _ _ hG.lo, hG.alloc (fun _ j v hv => rule_tc ⟨0, Nat.zero_le _, .inl ⟨rfl, rfl⟩⟩ j v hv), (show mR11 (Beh w) c2 g (q : Int) 10 _ _ from by first | (rw [mR11_10]; exact ⟨w1.heap.size, _, rfl, hG.lo _ (Nat.le_refl _), Blk.new _ _ _, rfl⟩) | rw [mR11_10])⟩⟩
            · intro X w1 hG hX
              have e53 : mR11 (Beh w) c2 g (q : Int) 53 (X 53) w1 := hX 17 (by omega)
              rw [mR11_53] at e53
              have e10 : mR11 (Beh w) c2 g (q : Int) 10 (X 10) w1 := hX 18 (by omega)
              rw [mR11_10] at e10; obtain ⟨y0, y1, y2, y3, s5, e53, ns5, hn5, hs5⟩ := e53; obtain ⟨A5, c5, rfl, _, _⟩ := hs5.parts; obtain ⟨bx, arr, e10, bxS, bxB, bx5⟩ := e10
              have LD := rule_laid (g := g) (z0 := y0) (z1 := y1) (z2 := y2) (z3 := y3) hG.th bxB bx5 bxS ⟨ns5, by omega, hs5⟩
              have LD := Lib.hid LD
              have HG := Lib.hid hG
              obtain ⟨u0, p0⟩ := bxB.some_ bx5 (show 0 < 5 by omega); obtain ⟨u1, p1⟩ := bxB.some_ bx5 (show 1 < 5 by omega); obtain ⟨u2, p2⟩ := bxB.some_ bx5 (show 2 < 5 by omega); obtain ⟨u3, p3⟩ := bxB.some_ bx5 (show 3 < 5 by omega); obtain ⟨u4, p4⟩ := bxB.some_ bx5 (show 4 < 5 by omega)
              have pf := bxB.frozen
              have BS := Lib.hid bxS
              have hbg : g < bx := by unfold Beh at bxS; omega
              clear hG hX hs5 bxB bxS; simp only [mixT, e53, e10]; refine mix_go rfl (by rfl) (fun K hK => ?_); go_simp; refine hK _ _ ?_; clear hK K; refine mix_nil ?_; obtain ⟨th, st, bxx, hh⟩ := LD.out; obtain ⟨cc, hcc, rd⟩ := HG.out.rd
              have MD := Lib.hid (MD.out.step (c' := c2 + 20) (th.up (by omega)) (HG.out.st.trans st) ((Rd.st rd (fun k hk => hh k (by omega)) st.size).mono (by omega)) n4 n6)
              have GR := Lib.hid (GR.out.st (HG.out.st.trans st))
              have BX := Lib.hid bxx
              clear th st bxx hh rd hcc LD HG p0 p1 p2 p3 p4 pf e53 e10
              generalize ((((w1.setCell ⟨bx, 0, none⟩ (.int .i64 y0)).setCell ⟨bx, 1, none⟩ (.int .i64 y1)).setCell ⟨bx, 2, none⟩ (.int .i64 y2)).setCell ⟨bx, 3, none⟩ (.int .i64 y3)).setCell ⟨bx, 4, none⟩ (.slice A5 ns5 c5) = wB at *
              go_wp2_with fail
              refine (pickP_any g (c2 + 20) 3 _ ⟨by omega, by omega⟩ (by omega) MD.out.rd).mono ?_; intro x wC pk; obtain ⟨zA, rfl, aA, bA, cA, rA, pA⟩ := pk.cases (by omega)
              have GR := Lib.hid (GR.out.st (T := TM (c2 + 20)) pA.st)
              have BX := Lib.hid (show ∃ arr, Blk wC bx 63 arr ∧ arr.size = 5 by obtain ⟨a, h1, h2⟩ := BX.out; exact ⟨a, h1.pk pA (by omega), h2⟩)
              have MD := Lib.hid (MD.out.pk pA rA hgw (show c2 + 20 ≤ c2 + 21 by omega) n4 n6)
              obtain ⟨j0, hj0, hj2⟩ : ∃ j0 : Nat, zA = (j0 : Int) ∧ j0 ≤ 2 := ⟨zA.toNat, by omega, by omega⟩; subst hj0; clear pk rA pA aA bA cA
              go_wp2_with fail
              go_loopw [11] (fun i wr => L3 w g w.heap.size w2.heap.size (4 + z2) k q r bx N v6 u8 i wr) (fun i _ => (intOf i).toNat)
              case atStart => exact ⟨j0, c2 + 21, rfl, hj2, by omega, by omega, GR.out, BX.out, MD.out⟩
              case round =>
                clear GR BX MD; obtain ⟨j, c3, rfl, hj, hc310, hc3N, gr, bxx, md⟩ := hrel
                have GR := Lib.hid gr
                have BX := Lib.hid bxx
                have MD := Lib.hid md
                clear gr md bxx
                by_cases hj0 : j = 0
                · subst hj0
                  obtain ⟨arr, bxB, bx5⟩ := BX.out; obtain ⟨y0, y1, y2, y3, s5, p0, p1, p2, p3, p4, ns5, hn5, hs5⟩ := rule_read MD.out.th bxB bx5 BS.out; obtain ⟨A5, c5, rfl, _, _⟩ := hs5.parts
                  have HS5 := Lib.hid hs5
                  have MDA := Lib.hid (MD.out.alloc (e := 63) (arr := #[.int .i64 y0, .int .i64 y1, .int .i64 y2, .int .i64 y3, .slice A5 ns5 c5]) (fun _ j v hv => rule_tc ⟨ns5, hn5, HS5.out⟩ j v hv))
                  have GRA := Lib.hid (GR.out.alloc (.cells #[.int .i64 y0, .int .i64 y1, .int .i64 y2, .int .i64 y3, .slice A5 ns5 c5] 63))
                  have GN := Lib.hid (Gs.new (S := Beh w) (w := wr) (arr := #[.int .i64 y0, .int .i64 y1, .int .i64 y2, .int .i64 y3, .slice A5 ns5 c5]) (e := 63) (size := 5) (n := 1) MD.out.above rfl (by omega))
                  clear bxB bx5 hs5
                  go_wp2_with (at_builtin; refine wpList_append_gs (g := g) (T := TM c3) _ rfl (.tmp 83) (.tmp 85) 60 rfl 63 iR _ 5 56 Try.underlying60 INFR.out.1 INFR.out.2.1 INFR.out.2.2.1 INFR.out.2.2.2 rfl (by omega) (by rw [TM_rule]; rfl) (zero_rule c3) u8 r rfl GRA.out _ 1 rfl GN.out (by omega) (by omega) (by omega) MDA.out.above MDA.out.th HgS.out ?_; intro v' w' h1 h2 h3 h4)
                  have MD := Lib.hid (MDA.out.grow h2 h3 h4 hgw n4 n6)
                  have GR := Lib.hid h1
                  clear h1 h2 h3 h4 p0 p1 p2 p3 p4
                  go_roundw
                  case rel => exact ⟨q + 1, r + 1, c3, by go_num, by omega, by omega, by omega, by omega, GR.out, MD.out⟩
                  case measure => simp [intOf]; omega
                · obtain ⟨j1, rfl⟩ : ∃ j1, j = j1 + 1 := ⟨j - 1, by omega⟩
                  have lt3 : (0 : Int) < ((j1 + 1 : Nat) : Int) := by omega
                  go_wp2_with fail
                  refine (pickP_any g c3 3 _ ⟨by omega, by omega⟩ (by omega) MD.out.rd).mono ?_; intro x wD pk; obtain ⟨zA, rfl, aA, bA, cA, rA, pA⟩ := pk.cases (by omega)
                  have GR := Lib.hid (GR.out.st (T := TM c3) pA.st)
                  have BX := Lib.hid (show ∃ arr, Blk wD bx 63 arr ∧ arr.size = 5 by obtain ⟨a, h1, h2⟩ := BX.out; exact ⟨a, h1.pk pA (by omega), h2⟩)
                  have MD := Lib.hid (MD.out.pk pA rA hgw (show c3 ≤ c3 + 1 by omega) n4 n6)
                  obtain ⟨md, hmd, hmd1, hmd3⟩ : ∃ md : Nat, 1 + zA = (md : Int) ∧ 1 ≤ md ∧ md ≤ 3 := ⟨(1 + zA).toNat, by omega, by omega, by omega⟩
                  have iw : IntKind.i64.wrap (1 + zA) = (md : Int) := by rw [hmd]; exact IntWalk.i64_in _ (by omega)
                  have HMD := Lib.hid hmd
                  obtain ⟨c4, hc4⟩ : ∃ c4, c4 = c3 + 1 := ⟨_, rfl⟩; rw [← hc4] at MD
                  have hc4N : c4 + 21 * j1 + 20 ≤ N + 20 + 200 * k + 64 * q + 64 := by omega
                  have hc410 : 10 ≤ c4 := by omega
                  have hc4b : c4 ≤ 940000 := by omega
                  clear hmd hc4 pk rA pA aA bA cA
                  go_wp2_with fail
                  clear iw; refine region_rely 19 [(19, false), (20, false)] [63, 64, 65, 66, 67, 68, 69, 70, 71, 72, 73, 74, 75, 76, 77, 78, 79, 80, 81] (GT c4 (Beh w) g (c4 + 20) wD) (St (TM c4) (Beh w) g) (mR16 (Beh w) c4 g bx many md) (by kernel_rfl) (by kernel_rfl) (by kernel_rfl) (GT.start MD.out.th MD.out.rd (by omega) MD.out.above) (fun d v wa wb h u => mR16_st h u) ?_ ?_
                  · simp only [List.take_succ_cons, List.take_zero, StepsR]
                    refine ⟨?_, ?_, ?_, ?_, ?_, ?_, ?_, ?_, ?_, ?_, ?_, ?_, ?_, ?_, ?_, ?_, ?_, ?_, ?_, trivial⟩
                    · intro X w1 k1 hG hdep
                      simp only [opW_def, mixT]; go_simp
                      exact ⟨⟨.pointer (some ⟨bx, 4, none⟩), by first | rfl | simp [Act.put], St.refl _, hG.less, (show mR16 (Beh w) c4 g bx many md 63 _ _ from by first | (rw [mR16_63]; exact rfl) | rw [mR16_63])⟩⟩
                    · intro X w1 k1 hG hdep
                      have e63 : mR16 (Beh w) c4 g bx many md 63 (X 63) w1 := hdep 63 (by decide +kernel)
                      rw [mR16_63] at e63; unfold PEq at e63; obtain ⟨arrB, hB1, hB2⟩ := BX.out; obtain ⟨arrC, hC1, hC2⟩ := hG.st.shape bx arrB _ _ hB1; obtain ⟨y0, y1, y2, y3, s4, _, _, _, _, x4, n4, hn4, gs4⟩ := rule_read hG.th hC1 (hC2.trans hB2) BS.out; simp only [opW_def, mixT, e63]; go_simp
                      exact ⟨⟨_, by first | rfl | simp [Act.put], St.refl _, hG.less, (show mR16 (Beh w) c4 g bx many md 64 _ _ from by first | (rw [mR16_64]; exact ⟨n4, hn4, gs4⟩) | rw [mR16_64])⟩⟩
                    · intro X w1 k1 hG hdep
                      simp only [opW_def, mixT]; go_simp
                      exact ⟨⟨.pointer (some ⟨g, 0, none⟩), by first | rfl | simp [Act.put], St.refl _, hG.less, (show mR16 (Beh w) c4 g bx many md 65 _ _ from by first | (rw [mR16_65]; exact rfl) | rw [mR16_65])⟩⟩
                    · intro X w1 k1 hG hdep
                      simp only [opW_def, mixT]; go_simp
                      exact ⟨⟨.int .i64 (many : Int), by first | rfl | simp [Act.put], St.refl _, hG.less, (show mR16 (Beh w) c4 g bx many md 66 _ _ from by first | (rw [mR16_66]; exact rfl) | rw [mR16_66])⟩⟩
                    · intro X w1 k1 hG hdep
                      have e65 : mR16 (Beh w) c4 g bx many md 65 (X 65) w1 := hdep 65 (by decide +kernel)
                      rw [mR16_65] at e65; unfold PEq at e65
                      have e66 : mR16 (Beh w) c4 g bx many md 66 (X 66) w1 := hdep 66 (by decide +kernel)
                      rw [mR16_66] at e66; unfold PEq at e66; obtain ⟨c1, hc1, rd1⟩ := hG.rd; simp only [opW_def, mixT, e65, e66]; go_simp; refine (pickP_any g c1 many w1 ⟨by omega, by omega⟩ (by omega) rd1).mono ?_; intro x w2 pk; obtain ⟨z, rfl, z0, z1, z2, r2, pk⟩ := pk.cases (by omega)
                      exact ⟨⟨.int .i64 z, by first | rfl | simp [Act.put], pk.st, hG.pk pk HgS.out r2 hc1, (show mR16 (Beh w) c4 g bx many md 67 _ _ from by first | (rw [mR16_67]; exact ⟨z, rfl, by omega, by omega⟩) | rw [mR16_67])⟩⟩
                    · intro X w1 k1 hG hdep
                      simp only [opW_def, mixT]; go_simp
                      exact ⟨⟨.pointer (some ⟨g, 0, none⟩), by first | rfl | simp [Act.put], St.refl _, hG.less, (show mR16 (Beh w) c4 g bx many md 68 _ _ from by first | (rw [mR16_68]; exact rfl) | rw [mR16_68])⟩⟩
                    · intro X w1 k1 hG hdep
                      have e68 : mR16 (Beh w) c4 g bx many md 68 (X 68) w1 := hdep 68 (by decide +kernel)
                      rw [mR16_68] at e68; unfold PEq at e68; obtain ⟨c1, hc1, rd1⟩ := hG.rd; simp only [opW_def, mixT, e68]; go_simp; refine (pickP_any g c1 5 w1 ⟨by omega, by omega⟩ (by omega) rd1).mono ?_; intro x w2 pk; obtain ⟨z, rfl, z0, z1, z2, r2, pk⟩ := pk.cases (by omega)
                      exact ⟨⟨.int .i64 z, by first | rfl | simp [Act.put], pk.st, hG.pk pk HgS.out r2 hc1, (show mR16 (Beh w) c4 g bx many md 69 _ _ from by first | (rw [mR16_69]; exact ⟨z, rfl, by omega, by omega⟩) | rw [mR16_69])⟩⟩
                    · intro X w1 k1 hG hdep
                      have e69 : mR16 (Beh w) c4 g bx many md 69 (X 69) w1 := hdep 69 (by decide +kernel)
                      rw [mR16_69] at e69; obtain ⟨z, e69, z0, z1⟩ := e69
                      have iw : IntKind.i64.wrap (1 + z) = 1 + z := IntWalk.i64_in _ (by omega)
                      simp only [opW_def, mixT, e69]; go_simp
                      exact ⟨⟨.int .i64 (1 + z), by first | rfl | simp [Act.put], St.refl _, hG.less, (show mR16 (Beh w) c4 g bx many md 70 _ _ from by first | (rw [mR16_70]; exact ⟨1 + z, rfl, by omega, by omega⟩) | rw [mR16_70])⟩⟩
                    · intro X w1 k1 hG hdep
                      simp only [opW_def, mixT]; go_simp
                      exact ⟨⟨.pointer (some ⟨g, 0, none⟩), by first | rfl | simp [Act.put], St.refl _, hG.less, (show mR16 (Beh w) c4 g bx many md 71 _ _ from by first | (rw [mR16_71]; exact rfl) | rw [mR16_71])⟩⟩
                    · intro X w1 k1 hG hdep
                      have e71 : mR16 (Beh w) c4 g bx many md 71 (X 71) w1 := hdep 71 (by decide +kernel)
                      rw [mR16_71] at e71; unfold PEq at e71; obtain ⟨c1, hc1, rd1⟩ := hG.rd; simp only [opW_def, mixT, e71]; go_simp; refine (pickP_any g c1 3 w1 ⟨by omega, by omega⟩ (by omega) rd1).mono ?_; intro x w2 pk; obtain ⟨z, rfl, z0, z1, z2, r2, pk⟩ := pk.cases (by omega)
                      exact ⟨⟨.int .i64 z, by first | rfl | simp [Act.put], pk.st, hG.pk pk HgS.out r2 hc1, (show mR16 (Beh w) c4 g bx many md 72 _ _ from by first | (rw [mR16_72]; exact ⟨z, rfl, by omega, by omega⟩) | rw [mR16_72])⟩⟩
                    · intro X w1 k1 hG hdep
                      simp only [opW_def, mixT]; go_simp
                      exact ⟨⟨.pointer (some ⟨g, 0, none⟩), by first | rfl | simp [Act.put], St.refl _, hG.less, (show mR16 (Beh w) c4 g bx many md 73 _ _ from by first | (rw [mR16_73]; exact rfl) | rw [mR16_73])⟩⟩
                    · intro X w1 k1 hG hdep
                      have e73 : mR16 (Beh w) c4 g bx many md 73 (X 73) w1 := hdep 73 (by decide +kernel)
                      rw [mR16_73] at e73; unfold PEq at e73; obtain ⟨c1, hc1, rd1⟩ := hG.rd; simp only [opW_def, mixT, e73]; go_simp; refine (pickP_any g c1 9 w1 ⟨by omega, by omega⟩ (by omega) rd1).mono ?_; intro x w2 pk; obtain ⟨z, rfl, z0, z1, z2, r2, pk⟩ := pk.cases (by omega)
                      exact ⟨⟨.int .i64 z, by first | rfl | simp [Act.put], pk.st, hG.pk pk HgS.out r2 hc1, (show mR16 (Beh w) c4 g bx many md 74 _ _ from by first | (rw [mR16_74]; exact ⟨z, rfl, by omega, by omega⟩) | rw [mR16_74])⟩⟩
                    · intro X w1 k1 hG hdep
                      simp only [opW_def, mixT]; go_simp
                      exact ⟨⟨.int .i64 (md : Int), by first | rfl | simp [Act.put], St.refl _, hG.less, (show mR16 (Beh w) c4 g bx many md 75 _ _ from by first | (rw [mR16_75]; exact rfl) | rw [mR16_75])⟩⟩
                    · intro X w1 k1 hG hdep
                      simp only [opW_def, mixT]; go_simp
                      exact ⟨⟨.pointer (some ⟨g, 0, none⟩), by first | rfl | simp [Act.put], St.refl _, hG.less, (show mR16 (Beh w) c4 g bx many md 76 _ _ from by first | (rw [mR16_76]; exact rfl) | rw [mR16_76])⟩⟩
                    · intro X w1 k1 hG hdep
                      simp only [opW_def, mixT]; go_simp
                      exact ⟨⟨.int .i64 (md : Int), by first | rfl | simp [Act.put], St.refl _, hG.less, (show mR16 (Beh w) c4 g bx many md 77 _ _ from by first | (rw [mR16_77]; exact rfl) | rw [mR16_77])⟩⟩
                    · intro X w1 k1 hG hdep
                      have e76 : mR16 (Beh w) c4 g bx many md 76 (X 76) w1 := hdep 76 (by decide +kernel)
                      rw [mR16_76] at e76; unfold PEq at e76
                      have e77 : mR16 (Beh w) c4 g bx many md 77 (X 77) w1 := hdep 77 (by decide +kernel)
                      rw [mR16_77] at e77; unfold PEq at e77; obtain ⟨c1, hc1, rd1⟩ := hG.rd; simp only [opW_def, mixT, e76, e77]; go_simp; refine (pickP_any g c1 md w1 ⟨by omega, by omega⟩ (by omega) rd1).mono ?_; intro x w2 pk; obtain ⟨z, rfl, z0, z1, z2, r2, pk⟩ := pk.cases (by omega)
                      exact ⟨⟨.int .i64 z, by first | rfl | simp [Act.put], pk.st, hG.pk pk HgS.out r2 hc1, (show mR16 (Beh w) c4 g bx many md 78 _ _ from by first | (rw [mR16_78]; exact ⟨z, rfl, by omega, by omega⟩) | rw [mR16_78])⟩⟩
                    · intro X w1 k1 hG hdep
                      have e67 : mR16 (Beh w) c4 g bx many md 67 (X 67) w1 := hdep 67 (by decide +kernel)
                      rw [mR16_67] at e67; obtain ⟨x1, e67, x10, x11⟩ := e67
                      have e70 : mR16 (Beh w) c4 g bx many md 70 (X 70) w1 := hdep 70 (by decide +kernel)
                      rw [mR16_70] at e70; obtain ⟨x2, e70, x20, x21⟩ := e70
                      have e72 : mR16 (Beh w) c4 g bx many md 72 (X 72) w1 := hdep 72 (by decide +kernel)
                      rw [mR16_72] at e72; obtain ⟨x3, e72, x30, x31⟩ := e72
                      have e74 : mR16 (Beh w) c4 g bx many md 74 (X 74) w1 := hdep 74 (by decide +kernel)
                      rw [mR16_74] at e74; obtain ⟨x4, e74, x40, x41⟩ := e74
                      have e75 : mR16 (Beh w) c4 g bx many md 75 (X 75) w1 := hdep 75 (by decide +kernel)
                      rw [mR16_75] at e75; unfold PEq at e75
                      have e78 : mR16 (Beh w) c4 g bx many md 78 (X 78) w1 := hdep 78 (by decide +kernel)
                      rw [mR16_78] at e78; obtain ⟨x5, e78, x50, x51⟩ := e78; simp only [opW_def, mixT, e67, e70, e72, e74, e75, e78]; go_simp
                      exact ⟨⟨_, by first | rfl | simp [Act.put], St.refl _, hG.less, (show mR16 (Beh w) c4 g bx many md 79 _ _ from by first | (rw [mR16_79]; exact ⟨_, _, _, _, _, _, rfl⟩) | rw [mR16_79])⟩⟩
                    · intro X w1 k1 hG hdep
                      have e79 : mR16 (Beh w) c4 g bx many md 79 (X 79) w1 := hdep 79 (by decide +kernel)
                      rw [mR16_79] at e79; obtain ⟨x1, x2, x3, x4, x5, x6, e79⟩ := e79; simp only [opW_def, mixT, e79]; go_simp
                      exact ⟨⟨.slice (some ⟨w1.heap.size, 0, none⟩) 1 1, by first | rfl | simp [Act.put], St.alloc _ _ _ hG.lo, hG.alloc (fun _ j v hv => snd_tc _ _ _ _ _ _ j v hv), (show mR16 (Beh w) c4 g bx many md 80 _ _ from by first | (rw [mR16_80]; exact Gs.new hG.lo rfl (by omega)) | rw [mR16_80])⟩⟩
                    · intro X w1 k1 hG hdep
                      have e64 : mR16 (Beh w) c4 g bx many md 64 (X 64) w1 := hdep 64 (by decide +kernel)
                      rw [mR16_64] at e64; obtain ⟨n4, hn4, gs4⟩ := e64
                      have e80 : mR16 (Beh w) c4 g bx many md 80 (X 80) w1 := hdep 80 (by decide +kernel)
                      rw [mR16_80] at e80; unfold PGs at e80; simp only [opW_def]; refine wp_append_gs (g := g) (T := TM c4) _ (.tmp 64) (.tmp 80) 61 rfl 140 iS _ 6 48 Try.underlying61 INFS.out.1 INFS.out.2.1 INFS.out.2.2.1 INFS.out.2.2.2 rfl (by omega) (by rw [TM_snd]; rfl) (zero_snd c4) (X 64) n4 (by simp only [mixT]; go_simp) gs4 (X 80) 1 (by simp only [mixT]; go_simp) e80 (by omega) (by omega) (by omega) hG.lo hG.th HgS.out ?_; intro v' w' h1 h2 h3 h4
                      exact ⟨⟨v', by first | rfl | simp [Act.put], h3, hG.grow h2 h3 h4 (fun j hj => Beh.not (by omega)), (show mR16 (Beh w) c4 g bx many md 81 _ _ from by first | (rw [mR16_81]; exact ⟨n4 + 1, by omega, h1⟩) | rw [mR16_81])⟩⟩
                  · intro X w1 hG hX
                    have e81 : mR16 (Beh w) c4 g bx many md 81 (X 81) w1 := hX 18 (by omega)
                    rw [mR16_81] at e81; obtain ⟨n8, hn8, gs8⟩ := e81; obtain ⟨A8, c8, e81, _, _⟩ := gs8.parts; rw [e81] at gs8; obtain ⟨arrB, hB1, hB2⟩ := BX.out; obtain ⟨arr, bxB, bx5'⟩ := hG.st.shape bx arrB _ _ hB1
                    have bx5 : arr.size = 5 := bx5'.trans hB2
                    have bxB : Blk w1 bx 63 arr := bxB
                    obtain ⟨u4, p4⟩ := bxB.some_ bx5 (show 4 < 5 by omega)
                    have pf := bxB.frozen
                    have th := Lib.hid ((hG.th.up (show c4 ≤ c4 + 1 by omega)).set (o := 4) (u := .slice A8 n8 c8) BS.out bxB (TM_rule_ne _) ⟨.sl 140 6 (c4 + 1), by rw [TM_rule]; rfl, n8, hn8, gs8⟩)
                    have st := Lib.hid (hG.st.trans (St.set (g := g) (o := 4) (u := .slice A8 n8 c8) BS.out bxB (TM_rule_ne c4)))
                    have BX := Lib.hid (show ∃ arr', Blk (w1.setCell ⟨bx, 4, none⟩ (.slice A8 n8 c8)) bx 63 arr' ∧ arr'.size = 5 from ⟨_, bxB.set 4 _, by simpa using bx5⟩)
                    obtain ⟨cc, hcc, rd⟩ := hG.rd
                    have RD := Lib.hid (Rd.st (w' := w1.setCell ⟨bx, 4, none⟩ (.slice A8 n8 c8)) rd (fun k hk => Below.heap_setCell w1 ⟨bx, 4, none⟩ _ k (by dsimp only; omega)) (by simp))
                    have MD := Lib.hid (MD.out.step (c' := c4 + 20) (th.out.up (by omega)) st.out (RD.out.mono (by omega)) n4 n6)
                    have GR := Lib.hid (GR.out.st st.out)
                    clear hG hX gs8 bxB bx5 bx5' hB1 hB2 rd hcc RD th st; simp only [mixT, e81]; refine mix_go rfl (by rfl) (fun K hK => ?_); go_simp; refine hK _ _ ?_; clear hK K; refine mix_go rfl (by rfl) (fun K hK => ?_); go_simp; refine hK _ _ ?_; clear hK K; refine mix_nil ?_; clear p4 pf e81
                    generalize w1.setCell ⟨bx, 4, none⟩ (.slice A8 n8 c8) = wE at *
                    go_wp2_with fail
                    go_roundw
                    case rel => exact ⟨j1, c4 + 20, by first | go_num | simp, by omega, by omega, by omega, GR.out, BX.out, MD.out⟩
                    case measure => (simp [intOf]; try omega)
        · have lt2 : ¬ (q : Int) < 3 := by omega
          obtain rfl : q = 3 := by omega
          have b60 := MD.out.m6.cell (j := 0) rfl
          have hw2 : w2.heap.size < wr.heap.size := MD.out.m6.lt
          have bsz : w2.heap.size < (wr.alloc (.cells #[u8] 60)).heap.size := by simp; omega
          obtain ⟨A8, c8, h8, _, _⟩ := GR.out.parts
          have hu8 : Gs wr (Beh w) 63 5 r (.slice A8 r c8) := by rw [← h8]; exact GR.out
          subst h8
          have MDA := Lib.hid (MD.out.alloc (e := 60) (arr := #[.slice A8 r c8]) (fun _ j v hv => row_tc ⟨r, by omega, GR.out⟩ j v hv))
          have GV := Lib.hid (MDA.out.rows)
          have GN := Lib.hid (Gs.new (S := Beh w) (w := wr) (arr := #[.slice A8 r c8]) (e := 60) (size := 1) (n := 1) MD.out.above rfl (by omega))
          clear hu8 bsz
          go_wp2_with (at_builtin; refine wpList_append_gs (g := g) (T := TM c) _ rfl (.tmp 88) (.tmp 90) 30 rfl 60 iW _ 1 24 Try.underlying30 INFW.out.1 INFW.out.2.1 INFW.out.2.2.1 INFW.out.2.2.2 rfl (by omega) (by rw [TM_row]; rfl) (zero_row c) v6 k rfl GV.out _ 1 rfl GN.out (by omega) (by omega) (by omega) MDA.out.above MDA.out.th HgS.out ?_; intro v' w' h1 h2 h3 h4; obtain ⟨A7, c7, h7, _, _⟩ := h1.parts; subst h7; have MDB := Lib.hid (MDA.out.grow h2 h3 h4 hgw n4 n6); have GB := Lib.hid h1; have p0 := MDB.out.m6.cell (j := 0) rfl; have pf := MDB.out.m6.frozen; clear h1 h2 h3 h4)
          go_roundw
          case rel => exact ⟨k + 1, c, _, by go_num, by omega, by omega, by omega, MDB.out.put0 GB.out (by omega) (by omega) (by omega)⟩
          case measure => simp [intOf]; omega
    · obtain rfl : k = many := by omega
      have lt1 : ¬ (k : Int) < k := by omega
      have MS := Lib.hid (Ms.of MD.out)
      have top : w2.heap.size < wr.heap.size := MD.out.m6.lt
      have hgt : g < wr.heap.size := by omega
      clear MD
      go_wp2_with fail
      refine (pickP_any g c 6 _ ⟨by omega, by omega⟩ (by omega) MS.out.rd).mono ?_; intro x wF pk; obtain ⟨zA, rfl, aA, bA, cA, rA, pA⟩ := pk.cases (by omega)
      have MS := Lib.hid (MS.out.pk pA rA hgw hgt n4 n6)
      obtain ⟨j0, hj0, hj06⟩ : ∃ j0 : Nat, 1 + zA = (j0 : Int) ∧ j0 ≤ 6 := ⟨(1 + zA).toNat, by omega, by omega⟩
      have iw : IntKind.i64.wrap (1 + zA) = (j0 : Int) := by rw [hj0]; exact IntWalk.i64_in _ (by omega)
      have HJ0 := Lib.hid hj0
      have BK := Lib.hid (show c + 1 + 10 * j0 ≤ N + 900 by omega)
      obtain ⟨tp, htp⟩ : ∃ tp, tp = wr.heap.size := ⟨_, rfl⟩; rw [← htp] at MS top hgt
      have HTP := Lib.hid htp
      clear pk rA pA aA bA cA hj0 htp
      go_wp2_with fail
      go_loopw [13] (fun i wr => L4 w tp g w.heap.size w2.heap.size (4 + z2) k c N v6 i wr) (fun i _ => (intOf i).toNat)
      case atStart => exact ⟨j0, c + 1, none, 0, [], rfl, hj06, by simpa using hj06, by simp, by omega, BK.out, MS.out⟩
      case round =>
        clear MS BK; obtain ⟨j, c3, A5, c5, es, rfl, hj, hes, hc5, hc5m, hc3, ms⟩ := hrel
        have MS := Lib.hid ms
        clear ms
        by_cases hj0' : j = 0
        · subst hj0'
          have lt3 : ¬ (0 : Int) < ((0 : Nat) : Int) := by omega
          go_wp2_with fail
          refine (oddP_any g c3 n _ HN.out (by omega) MS.out.rd).mono ?_; rintro x wO ⟨bb, rfl, rO, pO⟩
          have MS := Lib.hid (MS.out.pk pO rO hgw hgt n4 n6)
          clear rO pO
          cases bb
          · have b60 := MS.out.m6.cell (j := 0) rfl
            have b61 := MS.out.m6.cell (j := 1) rfl
            have b62 := MS.out.m6.cell (j := 2) rfl
            have b40 := MS.out.m4.cell (j := 0) rfl
            have b41 := MS.out.m4.cell (j := 1) rfl
            have b42 := MS.out.m4.cell (j := 2) rfl
            have b4f := MS.out.m4.frozen
            obtain ⟨A7, c7, h7, h71, h72⟩ := MS.out.rows.parts; subst h7
            have FIN := Lib.hid (Ms.fin (N := N) MS.out (by omega) (by omega) (by omega) (by omega) (by omega) (by omega) (by omega) (by omega) (by omega) (by omega))
            have b40' := (MS.out.m4.set 0 (.slice A7 k c7)).set 1 (.slice A5 es.length c5) |>.set 2 (.int .i64 (4 + z2))
            obtain ⟨k0, k1, k2⟩ := And.intro (b40'.cell (j := 0) rfl) (And.intro (b40'.cell (j := 1) rfl) (b40'.cell (j := 2) rfl)); clear b40'; go_wp2
            exact bodyPost_ret (v := .agg #[.slice A7 k c7, .slice A5 es.length c5, .int .i64 (4 + z2)]) (by simp [results, Try.results81, go_sem, k0, k1, k2]) rfl FIN.out
          · go_wp2_with fail
            refine (pickP_any g (c3 + 1) _ _ ⟨by omega, by omega⟩ (by omega) MS.out.rd).mono ?_; intro x wP pk; obtain ⟨zk, rfl, a1, b1, d1, rA, pA⟩ := pk.cases (by omega)
            have MS := Lib.hid (MS.out.pk pA rA hgw hgt n4 n6)
            obtain ⟨kk, hzk, hkk⟩ : ∃ kk : Nat, zk = (kk : Int) ∧ kk < k := ⟨zk.toNat, by omega, by omega⟩; subst hzk; clear pk rA pA d1 a1 b1
            go_wp2_with fail
            refine (pickP_any g (c3 + 2) _ _ ⟨by omega, by omega⟩ (by omega) MS.out.rd).mono ?_; intro x wS pk; obtain ⟨z7, rfl, a1, b1, d1, rA, pA⟩ := pk.cases (by omega)
            have MS := Lib.hid (MS.out.pk pA rA hgw hgt n4 n6)
            have MZ := Lib.hid (Mz.of MS.out)
            have hlo := MS.out.lo
            have OWN := Lib.hid MS.out.own
            obtain ⟨tq, htq⟩ : ∃ tq, tq = wS.heap.size := ⟨_, rfl⟩; rw [← htq] at MZ hlo
            have HTQ := Lib.hid htq
            have HgT := Lib.hid (Two.not (top := tp) (tq := tq) hgw (by omega))
            obtain ⟨A7, cr, h7, h71, h72⟩ := MZ.out.rows.parts; subst h7
            have rws := MZ.out.rows
            obtain ⟨br, arr, hA7, _, hbr, _, _, _⟩ := rws.at_ (by omega); subst hA7
            have BRS := Lib.hid hbr
            have lkk : (kk : Int) < k := by omega
            have hwt : w.heap.size ≤ tp := by omega
            clear pk rA pA htq rws hbr
            have d7 : z7 = 0 ∨ z7 = 1 ∨ z7 = 2 ∨ z7 = 3 ∨ z7 = 4 ∨ z7 = 5 ∨ z7 = 6 := by omega
            clear d1 a1 b1
            rcases d7 with rfl | rfl | rfl | rfl | rfl | rfl | rfl
            · obtain ⟨A7, hA7⟩ : ∃ A7 : Option Addr, A7 = some ⟨br, 0, none⟩ := ⟨_, rfl⟩
              rw [← hA7] at MZ; clear hA7
              have p0 := MZ.out.m6.cell (j := 0) rfl
              go_upto_region 31 with (at_builtin; refine wpList_append_gs (g := g) (T := TM c) _ rfl (.tmp 149) (.tmp 151) 30 rfl 60 iW _ 1 24 Try.underlying30 INFW.out.1 INFW.out.2.1 INFW.out.2.2.1 INFW.out.2.2.2 rfl (by omega) (by rw [TM_row]; rfl) (zero_row c) (.slice A7 k cr) k rfl MZ.out.rows (.slice A7 k cr) k rfl MZ.out.rows (by omega) (by omega) (by omega) (Two.above MZ.out.lo) MZ.out.th (HgT.out g (Nat.le_refl _)) ?_; intro v' w' h1 h2 h3 h4; obtain ⟨B0, c80, h7, _, _⟩ := h1.parts; subst h7; have MZB := Lib.hid (MZ.out.grow h2 h3 h4 HgT.out hgt hwt (by omega) n4 n6); have GB := Lib.hid h1; have pf := MZB.out.m6.frozen; clear p0 h1 h2 h3 h4; have p0 := MZB.out.m6.cell (j := 0) rfl)
              have MZ := Lib.hid (MZB.out.put0 GB.out (by omega) (by omega) (by omega) (by omega))
              obtain ⟨n1, hn1, hm1a, hm1b⟩ : ∃ n1 : Nat, n1 = k + k ∧ 0 < n1 ∧ n1 ≤ 8 := ⟨_, rfl, by omega, by omega⟩; rw [← hn1] at MZ ⊢; clear p0 pf MZB GB hn1
              generalize w'.setCell ⟨w2.heap.size, 0, none⟩ (.slice B0 n1 c80) = wZ0 at *
              clear w'
              have p0 := MZ.out.m6.cell (j := 0) rfl
              go_upto_region 32 with (at_builtin; refine wpList_append_gs (g := g) (T := TM c) _ rfl (.tmp 155) (.tmp 157) 30 rfl 60 iW _ 1 24 Try.underlying30 INFW.out.1 INFW.out.2.1 INFW.out.2.2.1 INFW.out.2.2.2 rfl (by omega) (by rw [TM_row]; rfl) (zero_row c) (.slice B0 n1 c80) n1 rfl MZ.out.rows (.slice B0 n1 c80) n1 rfl MZ.out.rows (by omega) (by omega) (by omega) (Two.above MZ.out.lo) MZ.out.th (HgT.out g (Nat.le_refl _)) ?_; intro v' w' h1 h2 h3 h4; obtain ⟨B1, c81, h7, _, _⟩ := h1.parts; subst h7; have MZB := Lib.hid (MZ.out.grow h2 h3 h4 HgT.out hgt hwt (by omega) n4 n6); have GB := Lib.hid h1; have pf := MZB.out.m6.frozen; clear p0 h1 h2 h3 h4; have p0 := MZB.out.m6.cell (j := 0) rfl)
              have MZ := Lib.hid (MZB.out.put0 GB.out (by omega) (by omega) (by omega) (by omega))
              obtain ⟨n2, hn2, hm2a, hm2b⟩ : ∃ n2 : Nat, n2 = n1 + n1 ∧ 0 < n2 ∧ n2 ≤ 16 := ⟨_, rfl, by omega, by omega⟩; rw [← hn2] at MZ ⊢; clear p0 pf MZB GB hn2
              generalize w'.setCell ⟨w2.heap.size, 0, none⟩ (.slice B1 n2 c81) = wZ1 at *
              clear w'
              have p0 := MZ.out.m6.cell (j := 0) rfl
              go_upto_region 43 with (at_builtin; refine wpList_append_gs (g := g) (T := TM c) _ rfl (.tmp 161) (.tmp 163) 30 rfl 60 iW _ 1 24 Try.underlying30 INFW.out.1 INFW.out.2.1 INFW.out.2.2.1 INFW.out.2.2.2 rfl (by omega) (by rw [TM_row]; rfl) (zero_row c) (.slice B1 n2 c81) n2 rfl MZ.out.rows (.slice B1 n2 c81) n2 rfl MZ.out.rows (by omega) (by omega) (by omega) (Two.above MZ.out.lo) MZ.out.th (HgT.out g (Nat.le_refl _)) ?_; intro v' w' h1 h2 h3 h4; obtain ⟨B2, c82, h7, _, _⟩ := h1.parts; subst h7; have MZB := Lib.hid (MZ.out.grow h2 h3 h4 HgT.out hgt hwt (by omega) n4 n6); have GB := Lib.hid h1; have pf := MZB.out.m6.frozen; clear p0 h1 h2 h3 h4; have p0 := MZB.out.m6.cell (j := 0) rfl)
              have MZ := Lib.hid (MZB.out.put0 GB.out (by omega) (by omega) (by omega) (by omega))
              obtain ⟨n3, hn3, hm3a, hm3b⟩ : ∃ n3 : Nat, n3 = n2 + n2 ∧ 0 < n3 ∧ n3 ≤ 32 := ⟨_, rfl, by omega, by omega⟩; rw [← hn3] at MZ ⊢; clear p0 pf MZB GB hn3
              generalize w'.setCell ⟨w2.heap.size, 0, none⟩ (.slice B2 n3 c82) = wZ2 at *
              clear w'
              have b60 := MZ.out.m6.cell (j := 0) rfl
              have b61 := MZ.out.m6.cell (j := 1) rfl
              have b62 := MZ.out.m6.cell (j := 2) rfl
              have b40 := MZ.out.m4.cell (j := 0) rfl
              have b41 := MZ.out.m4.cell (j := 1) rfl
              have b42 := MZ.out.m4.cell (j := 2) rfl
              have b4f := MZ.out.m4.frozen
              have FIN := Lib.hid (Mz.fin (N := N) MZ.out (by omega) (by omega) (by omega) (by omega) (by omega) (by omega) (by omega) (by omega) (by omega) (by omega) (by omega))
              have b40' := (MZ.out.m4.set 0 (.slice B2 n3 c82)).set 1 (.slice A5 es.length c5) |>.set 2 (.int .i64 (4 + z2))
              obtain ⟨k0, k1, k2⟩ := And.intro (b40'.cell (j := 0) rfl) (And.intro (b40'.cell (j := 1) rfl) (b40'.cell (j := 2) rfl)); clear b40'; go_wp2
              exact bodyPost_ret (v := .agg #[.slice B2 n3 c82, .slice A5 es.length c5, .int .i64 (4 + z2)]) (by simp [results, Try.results81, go_sem, k0, k1, k2]) rfl FIN.out
            · go_wp2_with fail
              have MZ := Lib.hid (MZ.out.up (e := 3) (arr := #[.int .i64 (-1), .int .i64 100, .int .i64 0]) (TM_int _))
              refine (pickP_any g (c3 + 3) _ _ ⟨by omega, by omega⟩ (by omega) MZ.out.rd).mono ?_; intro x wT pk; obtain ⟨z3, rfl, a1, b1, d1, rA, pA⟩ := pk.cases (by omega); obtain ⟨t0, t1, t2⟩ := three_at pA.mv (by have := HTQ.out; omega)
              have MZ := Lib.hid (MZ.out.pk pA rA (HgT.out g (Nat.le_refl _)) hgt n4 n6)
              have d11 : z3 = 0 ∨ z3 = 1 ∨ z3 = 2 := by omega
              obtain ⟨v12, a12, b12, hl12⟩ : ∃ v12 : Int, -1 ≤ v12 ∧ v12 ≤ 100 ∧ wT.cell? ⟨wS.heap.size, z3.toNat, none⟩ = some (.int .i64 v12) := by
                rcases d11 with rfl | rfl | rfl
                · exact ⟨_, by omega, by omega, t0⟩
                · exact ⟨_, by omega, by omega, t1⟩
                · exact ⟨_, by omega, by omega, t2⟩
              have l11 : z3 < 3 := by omega
              have b62 := MZ.out.m6.cell (j := 2) rfl
              have b6f := MZ.out.m6.frozen
              clear d11 d1 t0 t1 t2 pk rA pA
              have MY := Lib.hid (MZ.out.put2 v12 (by omega) (by omega) (by omega) (by omega))
              have b60 := MZ.out.m6.cell (j := 0) rfl
              have b61 := MZ.out.m6.cell (j := 1) rfl
              have b62 := MZ.out.m6.cell (j := 2) rfl
              have b40 := MZ.out.m4.cell (j := 0) rfl
              have b41 := MZ.out.m4.cell (j := 1) rfl
              have b42 := MZ.out.m4.cell (j := 2) rfl
              have b4f := MZ.out.m4.frozen
              have FIN := Lib.hid (Mz.fin (N := N) MY.out (by omega) (by omega) (by omega) (by omega) (by omega) (by omega) (by omega) (by omega) (by omega) (by omega) (by omega))
              have b40' := (MY.out.m4.set 0 (.slice (some ⟨br, 0, none⟩) k cr)).set 1 (.slice A5 es.length c5) |>.set 2 (.int .i64 v12)
              obtain ⟨k0, k1, k2⟩ := And.intro (b40'.cell (j := 0) rfl) (And.intro (b40'.cell (j := 1) rfl) (b40'.cell (j := 2) rfl)); clear b40'; go_wp2
              exact bodyPost_ret (v := .agg #[.slice (some ⟨br, 0, none⟩) k cr, .slice A5 es.length c5, .int .i64 v12]) (by simp [results, Try.results81, go_sem, k0, k1, k2]) rfl FIN.out
            · have b61 := MS.out.m6.cell (j := 1) rfl
              have hbl : w2.heap.size < wS.heap.size := MS.out.m6.lt
              have hgS : g < wS.heap.size := MS.out.rd.lt
              obtain ⟨iE, he0, he1, he2, he3⟩ := info_parts info45
              have INFE := Lib.hid (And.intro he0 (And.intro he1 (And.intro he2 he3)))
              clear he0 he1 he2 he3
              go_wp2_with fail
              refine region_relyX 6 [(6, false), (7, false), (8, false)] [176, 177, 178, 179, 180, 181] (fun _ => 0) (G36 g (c3 + 3 + 126) wS) (Mv g) (mR36 g w2.heap.size wS.heap.size (k : Int) (.slice A5 es.length c5)) (by kernel_rfl) (by kernel_rfl) (by kernel_rfl) ⟨⟨c3 + 3, by omega, MS.out.rd⟩, (Mv.refl _ _).drew⟩ (fun i v wa wb h m => mR36_mv h m) ?_ ?_
              · simp only [List.take_succ_cons, List.take_zero, StepsC]
                refine ⟨?_, ?_, ?_, ?_, ?_, ?_, trivial⟩
                · intro X w1 k1 hG hdep
                  simp only [opW_def, mixT]; go_simp
                  exact ⟨⟨.pointer (some ⟨w2.heap.size, 1, none⟩), by first | rfl | simp [Act.put], Mv.refl _ _, ⟨by obtain ⟨cc, h1, h2⟩ := hG.rd; exact ⟨cc, by omega, h2⟩, hG.mv⟩, (show mR36 g w2.heap.size wS.heap.size (k : Int) (.slice A5 es.length c5) 0 _ _ from by first | (rw [mR36_0]; exact rfl) | rw [mR36_0])⟩⟩
                · intro X w1 k1 hG hdep
                  have e176 : mR36 g w2.heap.size wS.heap.size (k : Int) (.slice A5 es.length c5) 0 (X 176) w1 := hdep 0 (by decide +kernel)
                  rw [mR36_0] at e176
                  have b61' := (hG.mv.cells _ 1 hbl n6).trans b61
                  simp only [opW_def, mixT, e176]; go_simp
                  exact ⟨⟨.slice A5 es.length c5, by first | rfl | simp [Act.put], Mv.refl _ _, ⟨by obtain ⟨cc, h1, h2⟩ := hG.rd; exact ⟨cc, by omega, h2⟩, hG.mv⟩, (show mR36 g w2.heap.size wS.heap.size (k : Int) (.slice A5 es.length c5) 1 _ _ from by first | (rw [mR36_1]; exact rfl) | rw [mR36_1])⟩⟩
                · intro X w1 k1 hG hdep
                  simp only [opW_def, mixT]; go_simp
                  exact ⟨⟨.pointer (some ⟨g, 0, none⟩), by first | rfl | simp [Act.put], Mv.refl _ _, ⟨by obtain ⟨cc, h1, h2⟩ := hG.rd; exact ⟨cc, by omega, h2⟩, hG.mv⟩, (show mR36 g w2.heap.size wS.heap.size (k : Int) (.slice A5 es.length c5) 2 _ _ from by first | (rw [mR36_2]; exact rfl) | rw [mR36_2])⟩⟩
                · intro X w1 k1 hG hdep
                  simp only [opW_def, mixT]; go_simp
                  exact ⟨⟨.int .i64 (k : Int), by first | rfl | simp [Act.put], Mv.refl _ _, ⟨by obtain ⟨cc, h1, h2⟩ := hG.rd; exact ⟨cc, by omega, h2⟩, hG.mv⟩, (show mR36 g w2.heap.size wS.heap.size (k : Int) (.slice A5 es.length c5) 3 _ _ from by first | (rw [mR36_3]; exact rfl) | rw [mR36_3])⟩⟩
                · intro X w1 k1 hG hdep
                  have e178 : mR36 g w2.heap.size wS.heap.size (k : Int) (.slice A5 es.length c5) 2 (X 178) w1 := hdep 2 (by decide +kernel)
                  rw [mR36_2] at e178
                  have e179 : mR36 g w2.heap.size wS.heap.size (k : Int) (.slice A5 es.length c5) 3 (X 179) w1 := hdep 3 (by decide +kernel)
                  rw [mR36_3] at e179; obtain ⟨cc, hcc, rd1⟩ := hG.rd; simp only [opW_def, mixT, e178, e179]; go_simp; refine (evt_any g cc (k : Int) 2 w1 (by omega) (by omega) ⟨by omega, by omega⟩ (by omega) rd1).mono ?_; intro x w3 dk; obtain ⟨et, eto, efr, esq, ekd, edt, rfl, _, _, r3, m3⟩ := dk.cases
                  exact ⟨⟨_, by first | rfl | simp [Act.put], m3, ⟨⟨cc + 20, by omega, r3⟩, hG.mv.trans m3⟩, (show mR36 g w2.heap.size wS.heap.size (k : Int) (.slice A5 es.length c5) 4 _ _ from by first | (rw [mR36_4]; exact ⟨⟨et, eto, efr, esq, ekd, edt⟩, rfl⟩) | rw [mR36_4])⟩⟩
                · intro X w1 k1 hG hdep
                  have e180 : mR36 g w2.heap.size wS.heap.size (k : Int) (.slice A5 es.length c5) 4 (X 180) w1 := hdep 4 (by decide +kernel)
                  rw [mR36_4] at e180; obtain ⟨⟨et, eto, efr, esq, ekd, edt⟩, e180⟩ := e180; unfold Evt.v at e180; dsimp only at e180; obtain ⟨cc, hcc, rd1⟩ := hG.rd
                  have hgl := rd1.lt
                  have hsl := hG.mv.size
                  simp only [opW_def, mixT, e180]; go_simp
                  exact ⟨⟨.slice (some ⟨w1.heap.size, 0, none⟩) 1 1, by first | rfl | simp [Act.put], (Mv.refl _ _).alloc _, ⟨⟨cc, by omega, rd1.alloc _⟩, hG.mv.alloc _⟩, (show mR36 g w2.heap.size wS.heap.size (k : Int) (.slice A5 es.length c5) 5 _ _ from by first | (rw [mR36_5]; exact PEv1.new w1 ⟨et, eto, efr, esq, ekd, edt⟩ hgl hsl) | rw [mR36_5])⟩⟩
              · intro X w1 hG hX
                have e177 : mR36 g w2.heap.size wS.heap.size (k : Int) (.slice A5 es.length c5) 1 (X 177) w1 := hX 1 (by omega)
                rw [mR36_1] at e177
                have e181 : mR36 g w2.heap.size wS.heap.size (k : Int) (.slice A5 es.length c5) 5 (X 181) w1 := hX 5 (by omega)
                rw [mR36_5] at e181; obtain ⟨bE, e9, e181, hbE1, hbE2, hbE3, hbE4⟩ := e181; obtain ⟨cc, hcc, rd1⟩ := hG.rd
                have OW := Lib.hid (own_mv OWN.out hG.mv hgt)
                have RDX := Lib.hid (show Reads w1 w1.heap.size 6 (some ⟨bE, 0, none⟩) 1 (flat [e9]) from ev1_reads hbE3 hbE4)
                have HMX := Lib.hid (show es.length + 1 ≤ maxLen by simp only [maxLen]; omega)
                have HBY := Lib.hid (show (es.length + 1) * 48 ≤ 140737488355328 by omega)
                have HBS := Lib.hid (show tp ≤ w1.heap.size by have h1 := hG.mv.size; have h2 := MS.out.lo; omega)
                have HG := Lib.hid hG
                have RD1 := Lib.hid rd1
                clear hX hG rd1 hbE4; simp only [mixT, e177, e181]; refine mix_go rfl (by rfl) (fun K hK => ?_); refine wp_append_any _ (.tmp 177) (.tmp 181) 31 rfl tp 45 iE _ 6 48 Try.underlying31 INFE.out.1 INFE.out.2.1 INFE.out.2.2.1 INFE.out.2.2.2 rfl (by omega) (.slice A5 es.length c5) es.length (flat es) (by go_simp) OW.out w1.heap.size (some ⟨bE, 0, none⟩) 1 1 (flat [e9]) (by go_simp) RDX.out (flat_one _) HMX.out HBY.out HBS.out ?_; intro v6 w6 ho6 hg6 _; refine hK _ _ ?_; clear hK K; rw [← flat_app] at ho6
                have ho6 := own_len1 ho6
                obtain ⟨hn6, A6, c6, rfl, hc6, hm6⟩ := own_slice ho6
                have KP := Lib.hid (spoil_ev MS.out HG.out.mv hg6 (fun j hj => (OW.out.lt j hj).1) hgt (by omega))
                have O6 := Lib.hid ho6
                have LE := Lib.hid (show (es ++ [e9]).length ≤ 7 by simp; omega)
                have p61 := KP.out.m6.cell (j := 1) rfl
                have pf := KP.out.m6.frozen
                clear ho6 hg6
                generalize es ++ [e9] = fs at *
                refine mix_go rfl (by rfl) (fun K hK => ?_); go_simp; refine hK _ _ ?_; clear hK K; refine mix_go rfl (by rfl) (fun K hK => ?_); go_simp; refine hK _ _ ?_; clear hK K; refine mix_nil ?_; clear p61 pf e177 e181
                have m6 := KP.out.m6.set 1 (.slice A6 fs.length c6)
                have m4 := KP.out.m4.far 1 (.slice A6 fs.length c6) (by omega : w.heap.size ≠ w2.heap.size)
                have O7 := Lib.hid (own_mv O6.out ((Mv.refl w2.heap.size w6).setCell (o := 1) (.slice A6 fs.length c6)) top)
                have b60 := m6.cell (j := 0) rfl
                have b61 := m6.cell (j := 1) rfl
                have b62 := m6.cell (j := 2) rfl
                have b40 := m4.cell (j := 0) rfl
                have b41 := m4.cell (j := 1) rfl
                have b42 := m4.cell (j := 2) rfl
                have b4f := m4.frozen
                have FIN := Lib.hid (fin_of (N' := N + 2000) (KP.out.th.setF (o := 1) (u := .slice A6 fs.length c6) KP.out.m6 (TM_mdl _)) (KP.out.rows.setCell w2.heap.size 1 (.slice A6 fs.length c6)) (c5 := c6) (A5 := A6) (es := fs) (til := 4 + z2) (KP.out.rd (cc := cc) (by omega) RD1.out) m4 (KP.out.mv.setNew (p := ⟨w2.heap.size, 1, none⟩) (by dsimp only; omega) _) (own_evs O7.out) (fun b off hA => by have := own_addr O7.out hA; omega) (by omega) (by omega) ⟨h71, h72⟩ LE.out ⟨hc6, hm6⟩ (by omega) (by omega) (by omega) (Nat.le_refl _) (fun b h5 => by unfold Mid at h5; omega) (fun b off hA => by have := own_addr O7.out hA; omega))
                have b40' := (m4.set 0 (.slice (some ⟨br, 0, none⟩) k cr)).set 1 (.slice A6 fs.length c6) |>.set 2 (.int .i64 (4 + z2))
                obtain ⟨k0, k1, k2⟩ := And.intro (b40'.cell (j := 0) rfl) (And.intro (b40'.cell (j := 1) rfl) (b40'.cell (j := 2) rfl)); clear b40' m6 m4; go_wp2
                exact bodyPost_ret (v := .agg #[.slice (some ⟨br, 0, none⟩) k cr, .slice A6 fs.length c6, .int .i64 (4 + z2)]) (by simp [results, Try.results81, go_sem, k0, k1, k2]) rfl FIN.out
            · go_wp2_with fail
              refine region_rely 19 [(19, false), (20, false)] [186, 187, 188, 189, 190, 191, 192, 193, 194, 195, 196, 197, 198, 199, 200, 201, 202, 203, 204] (GT c (Two w tp tq) g (c3 + 30) wS) (St (TM c) (Two w tp tq) g) (mR38 (Two w tp tq) c g w2.heap.size br kk k cr) (by kernel_rfl) (by kernel_rfl) (by kernel_rfl) (GT.start MZ.out.th MZ.out.rd (by omega) (Two.above MZ.out.lo)) (fun d v wa wb h u => mR38_st h u) ?_ ?_
              · simp only [List.take_succ_cons, List.take_zero, StepsR]
                refine ⟨?_, ?_, ?_, ?_, ?_, ?_, ?_, ?_, ?_, ?_, ?_, ?_, ?_, ?_, ?_, ?_, ?_, ?_, ?_, trivial⟩
                · intro X w1 k1 hG hdep
                  simp only [opW_def, mixT]; go_simp
                  exact ⟨⟨.pointer (some ⟨w2.heap.size, 0, none⟩), by first | rfl | simp [Act.put], St.refl _, hG.less, (show mR38 (Two w tp tq) c g w2.heap.size br kk k cr 186 _ _ from by first | (rw [mR38_186]; exact rfl) | rw [mR38_186])⟩⟩
                · intro X w1 k1 hG hdep
                  have e186 : mR38 (Two w tp tq) c g w2.heap.size br kk k cr 186 (X 186) w1 := hdep 186 (by decide +kernel)
                  rw [mR38_186] at e186; unfold PEq at e186
                  have b60 := (MZ.out.m6.st hG.st (TM_mdl _) n6).cell (j := 0) rfl
                  simp only [opW_def, mixT, e186]; go_simp
                  exact ⟨⟨.slice (some ⟨br, 0, none⟩) k cr, by first | rfl | simp [Act.put], St.refl _, hG.less, (show mR38 (Two w tp tq) c g w2.heap.size br kk k cr 187 _ _ from by first | (rw [mR38_187]; exact rfl) | rw [mR38_187])⟩⟩
                · intro X w1 k1 hG hdep
                  simp only [opW_def, mixT]; go_simp
                  exact ⟨⟨.int .i64 (kk : Int), by first | rfl | simp [Act.put], St.refl _, hG.less, (show mR38 (Two w tp tq) c g w2.heap.size br kk k cr 188 _ _ from by first | (rw [mR38_188]; exact rfl) | rw [mR38_188])⟩⟩
                · intro X w1 k1 hG hdep
                  simp only [opW_def, mixT]; go_simp
                  exact ⟨⟨.pointer (some ⟨w2.heap.size, 0, none⟩), by first | rfl | simp [Act.put], St.refl _, hG.less, (show mR38 (Two w tp tq) c g w2.heap.size br kk k cr 189 _ _ from by first | (rw [mR38_189]; exact rfl) | rw [mR38_189])⟩⟩
                · intro X w1 k1 hG hdep
                  have e189 : mR38 (Two w tp tq) c g w2.heap.size br kk k cr 189 (X 189) w1 := hdep 189 (by decide +kernel)
                  rw [mR38_189] at e189; unfold PEq at e189
                  have b60 := (MZ.out.m6.st hG.st (TM_mdl _) n6).cell (j := 0) rfl
                  simp only [opW_def, mixT, e189]; go_simp
                  exact ⟨⟨.slice (some ⟨br, 0, none⟩) k cr, by first | rfl | simp [Act.put], St.refl _, hG.less, (show mR38 (Two w tp tq) c g w2.heap.size br kk k cr 190 _ _ from by first | (rw [mR38_190]; exact rfl) | rw [mR38_190])⟩⟩
                · intro X w1 k1 hG hdep
                  simp only [opW_def, mixT]; go_simp
                  exact ⟨⟨.int .i64 (kk : Int), by first | rfl | simp [Act.put], St.refl _, hG.less, (show mR38 (Two w tp tq) c g w2.heap.size br kk k cr 191 _ _ from by first | (rw [mR38_191]; exact rfl) | rw [mR38_191])⟩⟩
                · intro X w1 k1 hG hdep
                  have e190 : mR38 (Two w tp tq) c g w2.heap.size br kk k cr 190 (X 190) w1 := hdep 190 (by decide +kernel)
                  rw [mR38_190] at e190; unfold PEq at e190
                  have e191 : mR38 (Two w tp tq) c g w2.heap.size br kk k cr 191 (X 191) w1 := hdep 191 (by decide +kernel)
                  rw [mR38_191] at e191; unfold PEq at e191; simp only [opW_def, mixT, e190, e191]; go_simp
                  exact ⟨⟨.pointer (some ⟨br, kk, none⟩), by first | rfl | simp [Act.put], St.refl _, hG.less, (show mR38 (Two w tp tq) c g w2.heap.size br kk k cr 192 _ _ from by first | (rw [mR38_192]; exact rfl) | rw [mR38_192])⟩⟩
                · intro X w1 k1 hG hdep
                  have e192 : mR38 (Two w tp tq) c g w2.heap.size br kk k cr 192 (X 192) w1 := hdep 192 (by decide +kernel)
                  rw [mR38_192] at e192; unfold PEq at e192; obtain ⟨A, q, cq, hcq, _, hq, gq⟩ := row_read hG.th (MZ.out.rows.st hG.st) hkk; simp only [opW_def, mixT, e192]; go_simp
                  exact ⟨⟨_, by first | rfl | simp [Act.put], St.refl _, hG.less, (show mR38 (Two w tp tq) c g w2.heap.size br kk k cr 193 _ _ from by first | (rw [mR38_193]; exact ⟨q, hq, gq⟩) | rw [mR38_193])⟩⟩
                · intro X w1 k1 hG hdep
                  simp only [opW_def, mixT]; go_simp
                  exact ⟨⟨.pointer (some ⟨g, 0, none⟩), by first | rfl | simp [Act.put], St.refl _, hG.less, (show mR38 (Two w tp tq) c g w2.heap.size br kk k cr 194 _ _ from by first | (rw [mR38_194]; exact rfl) | rw [mR38_194])⟩⟩
                · intro X w1 k1 hG hdep
                  have e194 : mR38 (Two w tp tq) c g w2.heap.size br kk k cr 194 (X 194) w1 := hdep 194 (by decide +kernel)
                  rw [mR38_194] at e194; unfold PEq at e194; obtain ⟨c1, hc1, rd1⟩ := hG.rd; simp only [opW_def, mixT, e194]; go_simp; refine (pickP_any g c1 4 w1 ⟨by omega, by omega⟩ (by omega) rd1).mono ?_; intro x w2 pk; obtain ⟨z, rfl, z0, z1, z2, r2, pk⟩ := pk.cases (by omega)
                  exact ⟨⟨.int .i64 z, by first | rfl | simp [Act.put], pk.st, hG.pk pk (HgT.out g (Nat.le_refl _)) r2 hc1, (show mR38 (Two w tp tq) c g w2.heap.size br kk k cr 195 _ _ from by first | (rw [mR38_195]; exact ⟨z, rfl, by omega, by omega⟩) | rw [mR38_195])⟩⟩
                · intro X w1 k1 hG hdep
                  simp only [opW_def, mixT]; go_simp
                  exact ⟨⟨.pointer (some ⟨g, 0, none⟩), by first | rfl | simp [Act.put], St.refl _, hG.less, (show mR38 (Two w tp tq) c g w2.heap.size br kk k cr 196 _ _ from by first | (rw [mR38_196]; exact rfl) | rw [mR38_196])⟩⟩
                · intro X w1 k1 hG hdep
                  have e196 : mR38 (Two w tp tq) c g w2.heap.size br kk k cr 196 (X 196) w1 := hdep 196 (by decide +kernel)
                  rw [mR38_196] at e196; unfold PEq at e196; obtain ⟨c1, hc1, rd1⟩ := hG.rd; simp only [opW_def, mixT, e196]; go_simp; refine (pickP_any g c1 99 w1 ⟨by omega, by omega⟩ (by omega) rd1).mono ?_; intro x w2 pk; obtain ⟨z, rfl, z0, z1, z2, r2, pk⟩ := pk.cases (by omega)
                  exact ⟨⟨.int .i64 z, by first | rfl | simp [Act.put], pk.st, hG.pk pk (HgT.out g (Nat.le_refl _)) r2 hc1, (show mR38 (Two w tp tq) c g w2.heap.size br kk k cr 197 _ _ from by first | (rw [mR38_197]; exact ⟨z, rfl, by omega, by omega⟩) | rw [mR38_197])⟩⟩
                · intro X w1 k1 hG hdep
                  simp only [opW_def, mixT]; go_simp
                  exact ⟨⟨.pointer (some ⟨g, 0, none⟩), by first | rfl | simp [Act.put], St.refl _, hG.less, (show mR38 (Two w tp tq) c g w2.heap.size br kk k cr 198 _ _ from by first | (rw [mR38_198]; exact rfl) | rw [mR38_198])⟩⟩
                · intro X w1 k1 hG hdep
                  have e198 : mR38 (Two w tp tq) c g w2.heap.size br kk k cr 198 (X 198) w1 := hdep 198 (by decide +kernel)
                  rw [mR38_198] at e198; unfold PEq at e198; obtain ⟨c1, hc1, rd1⟩ := hG.rd; simp only [opW_def, mixT, e198]; go_simp; refine (pickP_any g c1 3 w1 ⟨by omega, by omega⟩ (by omega) rd1).mono ?_; intro x w2 pk; obtain ⟨z, rfl, z0, z1, z2, r2, pk⟩ := pk.cases (by omega)
                  exact ⟨⟨.int .i64 z, by first | rfl | simp [Act.put], pk.st, hG.pk pk (HgT.out g (Nat.le_refl _)) r2 hc1, (show mR38 (Two w tp tq) c g w2.heap.size br kk k cr 199 _ _ from by first | (rw [mR38_199]; exact ⟨z, rfl, by omega, by omega⟩) | rw [mR38_199])⟩⟩
                · intro X w1 k1 hG hdep
                  simp only [opW_def, mixT]; go_simp
                  exact ⟨⟨.pointer (some ⟨g, 0, none⟩), by first | rfl | simp [Act.put], St.refl _, hG.less, (show mR38 (Two w tp tq) c g w2.heap.size br kk k cr 200 _ _ from by first | (rw [mR38_200]; exact rfl) | rw [mR38_200])⟩⟩
                · intro X w1 k1 hG hdep
                  have e200 : mR38 (Two w tp tq) c g w2.heap.size br kk k cr 200 (X 200) w1 := hdep 200 (by decide +kernel)
                  rw [mR38_200] at e200; unfold PEq at e200; obtain ⟨c1, hc1, rd1⟩ := hG.rd; simp only [opW_def, mixT, e200]; go_simp; refine (pickP_any g c1 2 w1 ⟨by omega, by omega⟩ (by omega) rd1).mono ?_; intro x w2 pk; obtain ⟨z, rfl, z0, z1, z2, r2, pk⟩ := pk.cases (by omega)
                  exact ⟨⟨.int .i64 z, by first | rfl | simp [Act.put], pk.st, hG.pk pk (HgT.out g (Nat.le_refl _)) r2 hc1, (show mR38 (Two w tp tq) c g w2.heap.size br kk k cr 201 _ _ from by first | (rw [mR38_201]; exact ⟨z, rfl, by omega, by omega⟩) | rw [mR38_201])⟩⟩
                · intro X w1 k1 hG hdep
                  have e195 : mR38 (Two w tp tq) c g w2.heap.size br kk k cr 195 (X 195) w1 := hdep 195 (by decide +kernel)
                  rw [mR38_195] at e195; obtain ⟨y1, e195, y10, y11⟩ := e195
                  have e197 : mR38 (Two w tp tq) c g w2.heap.size br kk k cr 197 (X 197) w1 := hdep 197 (by decide +kernel)
                  rw [mR38_197] at e197; obtain ⟨y2, e197, y20, y21⟩ := e197
                  have e199 : mR38 (Two w tp tq) c g w2.heap.size br kk k cr 199 (X 199) w1 := hdep 199 (by decide +kernel)
                  rw [mR38_199] at e199; obtain ⟨y3, e199, y30, y31⟩ := e199
                  have e201 : mR38 (Two w tp tq) c g w2.heap.size br kk k cr 201 (X 201) w1 := hdep 201 (by decide +kernel)
                  rw [mR38_201] at e201; obtain ⟨y4, e201, y40, y41⟩ := e201; simp only [opW_def, mixT, e195, e197, e199, e201]; go_simp
                  exact ⟨⟨_, by first | rfl | simp [Act.put], St.refl _, hG.less, (show mR38 (Two w tp tq) c g w2.heap.size br kk k cr 202 _ _ from by first | (rw [mR38_202]; exact ⟨_, _, _, _, _, rfl, 0, Nat.le_refl _, .inl ⟨rfl, rfl⟩⟩) | rw [mR38_202])⟩⟩
                · intro X w1 k1 hG hdep
                  have e202 : mR38 (Two w tp tq) c g w2.heap.size br kk k cr 202 (X 202) w1 := hdep 202 (by decide +kernel)
                  rw [mR38_202] at e202; obtain ⟨x1, x2, x3, x4, xs, e202, nx, hnx, gx⟩ := e202; obtain ⟨Ax, cx, rfl, _, _⟩ := gx.parts; simp only [opW_def, mixT, e202]; go_simp
                  exact ⟨⟨.slice (some ⟨w1.heap.size, 0, none⟩) 1 1, by first | rfl | simp [Act.put], St.alloc _ _ _ hG.lo, hG.alloc (fun _ j v hv => rule_tc ⟨nx, by omega, gx⟩ j v hv), (show mR38 (Two w tp tq) c g w2.heap.size br kk k cr 203 _ _ from by first | (rw [mR38_203]; exact Gs.new hG.lo rfl (by omega)) | rw [mR38_203])⟩⟩
                · intro X w1 k1 hG hdep
                  have e193 : mR38 (Two w tp tq) c g w2.heap.size br kk k cr 193 (X 193) w1 := hdep 193 (by decide +kernel)
                  rw [mR38_193] at e193; obtain ⟨n4, hn4, gs4⟩ := e193
                  have e203 : mR38 (Two w tp tq) c g w2.heap.size br kk k cr 203 (X 203) w1 := hdep 203 (by decide +kernel)
                  rw [mR38_203] at e203; unfold PGs at e203; simp only [opW_def]; refine wp_append_gs (g := g) (T := TM c) _ (.tmp 193) (.tmp 203) 60 rfl 63 iR _ 5 56 Try.underlying60 INFR.out.1 INFR.out.2.1 INFR.out.2.2.1 INFR.out.2.2.2 rfl (by omega) (by rw [TM_rule]; rfl) (zero_rule c) (X 193) n4 (by simp only [mixT]; go_simp) gs4 (X 203) 1 (by simp only [mixT]; go_simp) e203 (by omega) (by omega) (by omega) hG.lo hG.th (HgT.out g (Nat.le_refl _)) ?_; intro v' w' h1 h2 h3 h4
                  exact ⟨⟨v', by first | rfl | simp [Act.put], h3, hG.grow h2 h3 h4 HgT.out, (show mR38 (Two w tp tq) c g w2.heap.size br kk k cr 204 _ _ from by first | (rw [mR38_204]; exact ⟨n4 + 1, by omega, h1⟩) | rw [mR38_204])⟩⟩
              · intro X w1 hG hX
                have e187 : mR38 (Two w tp tq) c g w2.heap.size br kk k cr 187 (X 187) w1 := hX 1 (by omega)
                rw [mR38_187] at e187; unfold PEq at e187
                have e188 : mR38 (Two w tp tq) c g w2.heap.size br kk k cr 188 (X 188) w1 := hX 2 (by omega)
                rw [mR38_188] at e188; unfold PEq at e188
                have e204 : mR38 (Two w tp tq) c g w2.heap.size br kk k cr 204 (X 204) w1 := hX 18 (by omega)
                rw [mR38_204] at e204; obtain ⟨n8, hn8, gs8⟩ := e204; obtain ⟨A8, c8, e204, _, _⟩ := gs8.parts; rw [e204] at gs8
                have rw1 := MZ.out.rows.st hG.st
                obtain ⟨Aq, q, cq, hcq, hfq, _, _⟩ := row_read hG.th rw1 hkk
                have pt := row_put (g := g) (K' := c + 1) (v := .slice A8 n8 c8) hG.th rw1 hkk (by omega) ⟨n8, hn8, gs8⟩
                have hbrg : br ≠ g := fun e => HgT.out g (Nat.le_refl _) (e ▸ BRS.out)
                obtain ⟨cc, hcc, rd⟩ := hG.rd
                have hbrl : g < br ∨ br < g := by omega
                have hng : g < br := by rcases hbrl with h | h; exact h; exact absurd BRS.out (HgT.out br (by omega))
                have rd' := Rd.st (w' := w1.setCell ⟨br, kk, none⟩ (.slice A8 n8 c8)) rd (fun k hk => Below.heap_setCell w1 ⟨br, kk, none⟩ _ k (by dsimp only; omega)) (by simp)
                have MZ := Lib.hid (MZ.out.step (K' := c + 1) (c' := c3 + 30) pt.1 (hG.st.trans pt.2) (rd'.mono (by omega)) hgt (by omega) (by omega) n4 n6)
                clear hG hX gs8 rw1 pt rd rd' hcc; simp only [mixT, e187, e188, e204]; refine mix_go rfl (by rfl) (fun K hK => ?_); go_simp; refine hK _ _ ?_; clear hK K; refine mix_go rfl (by rfl) (fun K hK => ?_); go_simp; refine hK _ _ ?_; clear hK K; refine mix_nil ?_; clear hcq hfq e187 e188 e204
                generalize w1.setCell ⟨br, kk, none⟩ (.slice A8 n8 c8) = wE at *
                have b60 := MZ.out.m6.cell (j := 0) rfl
                have b61 := MZ.out.m6.cell (j := 1) rfl
                have b62 := MZ.out.m6.cell (j := 2) rfl
                have b40 := MZ.out.m4.cell (j := 0) rfl
                have b41 := MZ.out.m4.cell (j := 1) rfl
                have b42 := MZ.out.m4.cell (j := 2) rfl
                have b4f := MZ.out.m4.frozen
                have FIN := Lib.hid (Mz.fin (N := N) MZ.out (by omega) (by omega) (by omega) (by omega) (by omega) (by omega) (by omega) (by omega) (by omega) (by omega) (by omega))
                have b40' := (MZ.out.m4.set 0 (.slice (some ⟨br, 0, none⟩) k cr)).set 1 (.slice A5 es.length c5) |>.set 2 (.int .i64 (4 + z2))
                obtain ⟨k0, k1, k2⟩ := And.intro (b40'.cell (j := 0) rfl) (And.intro (b40'.cell (j := 1) rfl) (b40'.cell (j := 2) rfl)); clear b40'; go_wp2
                exact bodyPost_ret (v := .agg #[.slice (some ⟨br, 0, none⟩) k cr, .slice A5 es.length c5, .int .i64 (4 + z2)]) (by simp [results, Try.results81, go_sem, k0, k1, k2]) rfl FIN.out
            · go_wp2_with fail
              refine region_rely 14 [(14, false), (15, false)] [208, 209, 210, 211, 212, 213, 214, 215, 216, 217, 218, 219, 220, 221] (GT c (Two w tp tq) g (c3 + 30) wS) (St (TM c) (Two w tp tq) g) (mR40 (Two w tp tq) c g w2.heap.size br kk k cr) (by kernel_rfl) (by kernel_rfl) (by kernel_rfl) (GT.start MZ.out.th MZ.out.rd (by omega) (Two.above MZ.out.lo)) (fun d v wa wb h u => mR40_st h u) ?_ ?_
              · simp only [List.take_succ_cons, List.take_zero, StepsR]
                refine ⟨?_, ?_, ?_, ?_, ?_, ?_, ?_, ?_, ?_, ?_, ?_, ?_, ?_, ?_, trivial⟩
                · intro X w1 k1 hG hdep
                  simp only [opW_def, mixT]; go_simp
                  exact ⟨⟨.pointer (some ⟨w2.heap.size, 0, none⟩), by first | rfl | simp [Act.put], St.refl _, hG.less, (show mR40 (Two w tp tq) c g w2.heap.size br kk k cr 208 _ _ from by first | (rw [mR40_208]; exact rfl) | rw [mR40_208])⟩⟩
                · intro X w1 k1 hG hdep
                  have e208 : mR40 (Two w tp tq) c g w2.heap.size br kk k cr 208 (X 208) w1 := hdep 208 (by decide +kernel)
                  rw [mR40_208] at e208; unfold PEq at e208
                  have b60 := (MZ.out.m6.st hG.st (TM_mdl _) n6).cell (j := 0) rfl
                  simp only [opW_def, mixT, e208]; go_simp
                  exact ⟨⟨.slice (some ⟨br, 0, none⟩) k cr, by first | rfl | simp [Act.put], St.refl _, hG.less, (show mR40 (Two w tp tq) c g w2.heap.size br kk k cr 209 _ _ from by first | (rw [mR40_209]; exact rfl) | rw [mR40_209])⟩⟩
                · intro X w1 k1 hG hdep
                  simp only [opW_def, mixT]; go_simp
                  exact ⟨⟨.int .i64 (kk : Int), by first | rfl | simp [Act.put], St.refl _, hG.less, (show mR40 (Two w tp tq) c g w2.heap.size br kk k cr 210 _ _ from by first | (rw [mR40_210]; exact rfl) | rw [mR40_210])⟩⟩
                · intro X w1 k1 hG hdep
                  simp only [opW_def, mixT]; go_simp
                  exact ⟨⟨.pointer (some ⟨w2.heap.size, 0, none⟩), by first | rfl | simp [Act.put], St.refl _, hG.less, (show mR40 (Two w tp tq) c g w2.heap.size br kk k cr 211 _ _ from by first | (rw [mR40_211]; exact rfl) | rw [mR40_211])⟩⟩
                · intro X w1 k1 hG hdep
                  have e211 : mR40 (Two w tp tq) c g w2.heap.size br kk k cr 211 (X 211) w1 := hdep 211 (by decide +kernel)
                  rw [mR40_211] at e211; unfold PEq at e211
                  have b60 := (MZ.out.m6.st hG.st (TM_mdl _) n6).cell (j := 0) rfl
                  simp only [opW_def, mixT, e211]; go_simp
                  exact ⟨⟨.slice (some ⟨br, 0, none⟩) k cr, by first | rfl | simp [Act.put], St.refl _, hG.less, (show mR40 (Two w tp tq) c g w2.heap.size br kk k cr 212 _ _ from by first | (rw [mR40_212]; exact rfl) | rw [mR40_212])⟩⟩
                · intro X w1 k1 hG hdep
                  simp only [opW_def, mixT]; go_simp
                  exact ⟨⟨.int .i64 (kk : Int), by first | rfl | simp [Act.put], St.refl _, hG.less, (show mR40 (Two w tp tq) c g w2.heap.size br kk k cr 213 _ _ from by first | (rw [mR40_213]; exact rfl) | rw [mR40_213])⟩⟩
                · intro X w1 k1 hG hdep
                  have e212 : mR40 (Two w tp tq) c g w2.heap.size br kk k cr 212 (X 212) w1 := hdep 212 (by decide +kernel)
                  rw [mR40_212] at e212; unfold PEq at e212
                  have e213 : mR40 (Two w tp tq) c g w2.heap.size br kk k cr 213 (X 213) w1 := hdep 213 (by decide +kernel)
                  rw [mR40_213] at e213; unfold PEq at e213; simp only [opW_def, mixT, e212, e213]; go_simp
                  exact ⟨⟨.pointer (some ⟨br, kk, none⟩), by first | rfl | simp [Act.put], St.refl _, hG.less, (show mR40 (Two w tp tq) c g w2.heap.size br kk k cr 214 _ _ from by first | (rw [mR40_214]; exact rfl) | rw [mR40_214])⟩⟩
                · intro X w1 k1 hG hdep
                  have e214 : mR40 (Two w tp tq) c g w2.heap.size br kk k cr 214 (X 214) w1 := hdep 214 (by decide +kernel)
                  rw [mR40_214] at e214; unfold PEq at e214; obtain ⟨A, q, cq, hcq, _, hq, gq⟩ := row_read hG.th (MZ.out.rows.st hG.st) hkk; simp only [opW_def, mixT, e214]; go_simp
                  exact ⟨⟨_, by first | rfl | simp [Act.put], St.refl _, hG.less, (show mR40 (Two w tp tq) c g w2.heap.size br kk k cr 215 _ _ from by first | (rw [mR40_215]; exact ⟨q, hq, gq⟩) | rw [mR40_215])⟩⟩
                · intro X w1 k1 hG hdep
                  simp only [opW_def, mixT]; go_simp
                  exact ⟨⟨.int .i64 (k : Int), by first | rfl | simp [Act.put], St.refl _, hG.less, (show mR40 (Two w tp tq) c g w2.heap.size br kk k cr 216 _ _ from by first | (rw [mR40_216]; exact rfl) | rw [mR40_216])⟩⟩
                · intro X w1 k1 hG hdep
                  have e216 : mR40 (Two w tp tq) c g w2.heap.size br kk k cr 216 (X 216) w1 := hdep 216 (by decide +kernel)
                  rw [mR40_216] at e216; unfold PEq at e216; simp only [opW_def, mixT, e216]; go_simp
                  exact ⟨⟨_, by first | rfl | simp [Act.put], St.refl _, hG.less, (show mR40 (Two w tp tq) c g w2.heap.size br kk k cr 217 _ _ from by first | (rw [mR40_217]; exact ⟨_, _, _, _, _, _, rfl⟩) | rw [mR40_217])⟩⟩
                · intro X w1 k1 hG hdep
                  have e217 : mR40 (Two w tp tq) c g w2.heap.size br kk k cr 217 (X 217) w1 := hdep 217 (by decide +kernel)
                  rw [mR40_217] at e217; obtain ⟨x1, x2, x3, x4, x5, x6, e217⟩ := e217; simp only [opW_def, mixT, e217]; go_simp
                  exact ⟨⟨.slice (some ⟨w1.heap.size, 0, none⟩) 1 1, by first | rfl | simp [Act.put], St.alloc _ _ _ hG.lo, hG.alloc (fun _ j v hv => snd_tc _ _ _ _ _ _ j v hv), (show mR40 (Two w tp tq) c g w2.heap.size br kk k cr 218 _ _ from by first | (rw [mR40_218]; exact Gs.new hG.lo rfl (by omega)) | rw [mR40_218])⟩⟩
                · intro X w1 k1 hG hdep
                  have e218 : mR40 (Two w tp tq) c g w2.heap.size br kk k cr 218 (X 218) w1 := hdep 218 (by decide +kernel)
                  rw [mR40_218] at e218; unfold PGs at e218; obtain ⟨Ax, cx, ex, _, _⟩ := e218.parts
                  have gx := e218
                  rw [ex] at gx; simp only [opW_def, mixT, ex]; go_simp
                  exact ⟨⟨_, by first | rfl | simp [Act.put], St.refl _, hG.less, (show mR40 (Two w tp tq) c g w2.heap.size br kk k cr 219 _ _ from by first | (rw [mR40_219]; exact ⟨_, _, _, _, _, rfl, 1, Nat.le_refl _, gx⟩) | rw [mR40_219])⟩⟩
                · intro X w1 k1 hG hdep
                  have e219 : mR40 (Two w tp tq) c g w2.heap.size br kk k cr 219 (X 219) w1 := hdep 219 (by decide +kernel)
                  rw [mR40_219] at e219; obtain ⟨x1, x2, x3, x4, xs, e219, nx, hnx, gx⟩ := e219; obtain ⟨Ax, cx, rfl, _, _⟩ := gx.parts; simp only [opW_def, mixT, e219]; go_simp
                  exact ⟨⟨.slice (some ⟨w1.heap.size, 0, none⟩) 1 1, by first | rfl | simp [Act.put], St.alloc _ _ _ hG.lo, hG.alloc (fun _ j v hv => rule_tc ⟨nx, by omega, gx⟩ j v hv), (show mR40 (Two w tp tq) c g w2.heap.size br kk k cr 220 _ _ from by first | (rw [mR40_220]; exact Gs.new hG.lo rfl (by omega)) | rw [mR40_220])⟩⟩
                · intro X w1 k1 hG hdep
                  have e215 : mR40 (Two w tp tq) c g w2.heap.size br kk k cr 215 (X 215) w1 := hdep 215 (by decide +kernel)
                  rw [mR40_215] at e215; obtain ⟨n4, hn4, gs4⟩ := e215
                  have e220 : mR40 (Two w tp tq) c g w2.heap.size br kk k cr 220 (X 220) w1 := hdep 220 (by decide +kernel)
                  rw [mR40_220] at e220; unfold PGs at e220; simp only [opW_def]; refine wp_append_gs (g := g) (T := TM c) _ (.tmp 215) (.tmp 220) 60 rfl 63 iR _ 5 56 Try.underlying60 INFR.out.1 INFR.out.2.1 INFR.out.2.2.1 INFR.out.2.2.2 rfl (by omega) (by rw [TM_rule]; rfl) (zero_rule c) (X 215) n4 (by simp only [mixT]; go_simp) gs4 (X 220) 1 (by simp only [mixT]; go_simp) e220 (by omega) (by omega) (by omega) hG.lo hG.th (HgT.out g (Nat.le_refl _)) ?_; intro v' w' h1 h2 h3 h4
                  exact ⟨⟨v', by first | rfl | simp [Act.put], h3, hG.grow h2 h3 h4 HgT.out, (show mR40 (Two w tp tq) c g w2.heap.size br kk k cr 221 _ _ from by first | (rw [mR40_221]; exact ⟨n4 + 1, by omega, h1⟩) | rw [mR40_221])⟩⟩
              · intro X w1 hG hX
                have e209 : mR40 (Two w tp tq) c g w2.heap.size br kk k cr 209 (X 209) w1 := hX 1 (by omega)
                rw [mR40_209] at e209; unfold PEq at e209
                have e210 : mR40 (Two w tp tq) c g w2.heap.size br kk k cr 210 (X 210) w1 := hX 2 (by omega)
                rw [mR40_210] at e210; unfold PEq at e210
                have e221 : mR40 (Two w tp tq) c g w2.heap.size br kk k cr 221 (X 221) w1 := hX 13 (by omega)
                rw [mR40_221] at e221; obtain ⟨n8, hn8, gs8⟩ := e221; obtain ⟨A8, c8, e221, _, _⟩ := gs8.parts; rw [e221] at gs8
                have rw1 := MZ.out.rows.st hG.st
                obtain ⟨Aq, q, cq, hcq, hfq, _, _⟩ := row_read hG.th rw1 hkk
                have pt := row_put (g := g) (K' := c + 1) (v := .slice A8 n8 c8) hG.th rw1 hkk (by omega) ⟨n8, hn8, gs8⟩
                have hbrg : br ≠ g := fun e => HgT.out g (Nat.le_refl _) (e ▸ BRS.out)
                obtain ⟨cc, hcc, rd⟩ := hG.rd
                have hbrl : g < br ∨ br < g := by omega
                have hng : g < br := by rcases hbrl with h | h; exact h; exact absurd BRS.out (HgT.out br (by omega))
                have rd' := Rd.st (w' := w1.setCell ⟨br, kk, none⟩ (.slice A8 n8 c8)) rd (fun k hk => Below.heap_setCell w1 ⟨br, kk, none⟩ _ k (by dsimp only; omega)) (by simp)
                have MZ := Lib.hid (MZ.out.step (K' := c + 1) (c' := c3 + 30) pt.1 (hG.st.trans pt.2) (rd'.mono (by omega)) hgt (by omega) (by omega) n4 n6)
                clear hG hX gs8 rw1 pt rd rd' hcc; simp only [mixT, e209, e210, e221]; refine mix_go rfl (by rfl) (fun K hK => ?_); go_simp; refine hK _ _ ?_; clear hK K; refine mix_go rfl (by rfl) (fun K hK => ?_); go_simp; refine hK _ _ ?_; clear hK K; refine mix_nil ?_; clear hcq hfq e209 e210 e221
                generalize w1.setCell ⟨br, kk, none⟩ (.slice A8 n8 c8) = wE at *
                have b60 := MZ.out.m6.cell (j := 0) rfl
                have b61 := MZ.out.m6.cell (j := 1) rfl
                have b62 := MZ.out.m6.cell (j := 2) rfl
                have b40 := MZ.out.m4.cell (j := 0) rfl
                have b41 := MZ.out.m4.cell (j := 1) rfl
                have b42 := MZ.out.m4.cell (j := 2) rfl
                have b4f := MZ.out.m4.frozen
                have FIN := Lib.hid (Mz.fin (N := N) MZ.out (by omega) (by omega) (by omega) (by omega) (by omega) (by omega) (by omega) (by omega) (by omega) (by omega) (by omega))
                have b40' := (MZ.out.m4.set 0 (.slice (some ⟨br, 0, none⟩) k cr)).set 1 (.slice A5 es.length c5) |>.set 2 (.int .i64 (4 + z2))
                obtain ⟨k0, k1, k2⟩ := And.intro (b40'.cell (j := 0) rfl) (And.intro (b40'.cell (j := 1) rfl) (b40'.cell (j := 2) rfl)); clear b40'; go_wp2
                exact bodyPost_ret (v := .agg #[.slice (some ⟨br, 0, none⟩) k cr, .slice A5 es.length c5, .int .i64 (4 + z2)]) (by simp [results, Try.results81, go_sem, k0, k1, k2]) rfl FIN.out
            · go_wp2_with fail
              refine region_rely 12 [(12, false), (13, false)] [225, 226, 227, 228, 229, 230, 231, 232, 233, 234, 235, 236] (GT c (Two w tp tq) g (c3 + 30) wS) (St (TM c) (Two w tp tq) g) (mR42 (Two w tp tq) c g w2.heap.size br kk k cr) (by kernel_rfl) (by kernel_rfl) (by kernel_rfl) (GT.start MZ.out.th MZ.out.rd (by omega) (Two.above MZ.out.lo)) (fun d v wa wb h u => mR42_st h u) ?_ ?_
              · simp only [List.take_succ_cons, List.take_zero, StepsR]
                refine ⟨?_, ?_, ?_, ?_, ?_, ?_, ?_, ?_, ?_, ?_, ?_, ?_, trivial⟩
                · intro X w1 k1 hG hdep
                  simp only [opW_def, mixT]; go_simp
                  exact ⟨⟨.pointer (some ⟨w2.heap.size, 0, none⟩), by first | rfl | simp [Act.put], St.refl _, hG.less, (show mR42 (Two w tp tq) c g w2.heap.size br kk k cr 225 _ _ from by first | (rw [mR42_225]; exact rfl) | rw [mR42_225])⟩⟩
                · intro X w1 k1 hG hdep
                  have e225 : mR42 (Two w tp tq) c g w2.heap.size br kk k cr 225 (X 225) w1 := hdep 225 (by decide +kernel)
                  rw [mR42_225] at e225; unfold PEq at e225
                  have b60 := (MZ.out.m6.st hG.st (TM_mdl _) n6).cell (j := 0) rfl
                  simp only [opW_def, mixT, e225]; go_simp
                  exact ⟨⟨.slice (some ⟨br, 0, none⟩) k cr, by first | rfl | simp [Act.put], St.refl _, hG.less, (show mR42 (Two w tp tq) c g w2.heap.size br kk k cr 226 _ _ from by first | (rw [mR42_226]; exact rfl) | rw [mR42_226])⟩⟩
                · intro X w1 k1 hG hdep
                  simp only [opW_def, mixT]; go_simp
                  exact ⟨⟨.int .i64 (kk : Int), by first | rfl | simp [Act.put], St.refl _, hG.less, (show mR42 (Two w tp tq) c g w2.heap.size br kk k cr 227 _ _ from by first | (rw [mR42_227]; exact rfl) | rw [mR42_227])⟩⟩
                · intro X w1 k1 hG hdep
                  have hgl : g < w1.heap.size := by obtain ⟨_, _, rd1⟩ := hG.rd; exact rd1.lt
                  simp only [opW_def, mixT]; go_simp
                  exact ⟨⟨.slice (some ⟨w1.heap.size, 0, none⟩) 2 2, by first | rfl | simp [Act.put], St.alloc _ _ _ hG.lo, hG.alloc (fun h => absurd (TM_int _) h), (show mR42 (Two w tp tq) c g w2.heap.size br kk k cr 228 _ _ from by first | (rw [mR42_228]; exact PArr.new2 hgl ⟨by omega, by omega⟩ ⟨by omega, by omega⟩) | rw [mR42_228])⟩⟩
                · intro X w1 k1 hG hdep
                  simp only [opW_def, mixT]; go_simp
                  exact ⟨⟨.pointer (some ⟨g, 0, none⟩), by first | rfl | simp [Act.put], St.refl _, hG.less, (show mR42 (Two w tp tq) c g w2.heap.size br kk k cr 229 _ _ from by first | (rw [mR42_229]; exact rfl) | rw [mR42_229])⟩⟩
                · intro X w1 k1 hG hdep
                  have e229 : mR42 (Two w tp tq) c g w2.heap.size br kk k cr 229 (X 229) w1 := hdep 229 (by decide +kernel)
                  rw [mR42_229] at e229; unfold PEq at e229; obtain ⟨c1, hc1, rd1⟩ := hG.rd; simp only [opW_def, mixT, e229]; go_simp; refine (pickP_any g c1 2 w1 ⟨by omega, by omega⟩ (by omega) rd1).mono ?_; intro x w2 pk; obtain ⟨z, rfl, z0, z1, z2, r2, pk⟩ := pk.cases (by omega)
                  exact ⟨⟨.int .i64 z, by first | rfl | simp [Act.put], pk.st, hG.pk pk (HgT.out g (Nat.le_refl _)) r2 hc1, (show mR42 (Two w tp tq) c g w2.heap.size br kk k cr 230 _ _ from by first | (rw [mR42_230]; exact ⟨z, rfl, by omega, by omega⟩) | rw [mR42_230])⟩⟩
                · intro X w1 k1 hG hdep
                  have e228 : mR42 (Two w tp tq) c g w2.heap.size br kk k cr 228 (X 228) w1 := hdep 228 (by decide +kernel)
                  rw [mR42_228] at e228
                  have e230 : mR42 (Two w tp tq) c g w2.heap.size br kk k cr 230 (X 230) w1 := hdep 230 (by decide +kernel)
                  rw [mR42_230] at e230; obtain ⟨z, e230, z0, z1⟩ := e230; obtain ⟨b, ea, hel⟩ := e228.el
                  have hz : z = 0 ∨ z = 1 := by omega
                  rcases hz with rfl | rfl
                  · simp only [opW_def, mixT, ea, e230]
                    go_simp
                    exact ⟨⟨.pointer (some ⟨b, 0, none⟩), by first | rfl | simp [Act.put], St.refl _, hG.less, (show mR42 (Two w tp tq) c g w2.heap.size br kk k cr 231 _ _ from by first | (rw [mR42_231]; exact hel 0 (by omega)) | rw [mR42_231])⟩⟩
                  · simp only [opW_def, mixT, ea, e230]
                    go_simp
                    exact ⟨⟨.pointer (some ⟨b, 1, none⟩), by first | rfl | simp [Act.put], St.refl _, hG.less, (show mR42 (Two w tp tq) c g w2.heap.size br kk k cr 231 _ _ from by first | (rw [mR42_231]; exact hel 1 (by omega)) | rw [mR42_231])⟩⟩
                · intro X w1 k1 hG hdep
                  have e231 : mR42 (Two w tp tq) c g w2.heap.size br kk k cr 231 (X 231) w1 := hdep 231 (by decide +kernel)
                  rw [mR42_231] at e231; obtain ⟨b, j, z, ea, hc, z0, z1⟩ := e231.cell; simp only [opW_def, mixT, ea]; go_simp
                  exact ⟨⟨.int .i64 z, by first | rfl | simp [Act.put], St.refl _, hG.less, (show mR42 (Two w tp tq) c g w2.heap.size br kk k cr 232 _ _ from by first | (rw [mR42_232]; exact ⟨z, rfl, z0, z1⟩) | rw [mR42_232])⟩⟩
                · intro X w1 k1 hG hdep
                  have e232 : mR42 (Two w tp tq) c g w2.heap.size br kk k cr 232 (X 232) w1 := hdep 232 (by decide +kernel)
                  rw [mR42_232] at e232; obtain ⟨y1, e232, y10, y11⟩ := e232; simp only [opW_def, mixT, e232]; go_simp
                  exact ⟨⟨_, by first | rfl | simp [Act.put], St.refl _, hG.less, (show mR42 (Two w tp tq) c g w2.heap.size br kk k cr 233 _ _ from by first | (rw [mR42_233]; exact ⟨_, _, _, _, _, _, rfl⟩) | rw [mR42_233])⟩⟩
                · intro X w1 k1 hG hdep
                  have e233 : mR42 (Two w tp tq) c g w2.heap.size br kk k cr 233 (X 233) w1 := hdep 233 (by decide +kernel)
                  rw [mR42_233] at e233; obtain ⟨x1, x2, x3, x4, x5, x6, e233⟩ := e233; simp only [opW_def, mixT, e233]; go_simp
                  exact ⟨⟨.slice (some ⟨w1.heap.size, 0, none⟩) 1 1, by first | rfl | simp [Act.put], St.alloc _ _ _ hG.lo, hG.alloc (fun _ j v hv => snd_tc _ _ _ _ _ _ j v hv), (show mR42 (Two w tp tq) c g w2.heap.size br kk k cr 234 _ _ from by first | (rw [mR42_234]; exact Gs.new hG.lo rfl (by omega)) | rw [mR42_234])⟩⟩
                · intro X w1 k1 hG hdep
                  have e234 : mR42 (Two w tp tq) c g w2.heap.size br kk k cr 234 (X 234) w1 := hdep 234 (by decide +kernel)
                  rw [mR42_234] at e234; unfold PGs at e234; obtain ⟨Ax, cx, ex, _, _⟩ := e234.parts
                  have gx := e234
                  rw [ex] at gx; simp only [opW_def, mixT, ex]; go_simp
                  exact ⟨⟨_, by first | rfl | simp [Act.put], St.refl _, hG.less, (show mR42 (Two w tp tq) c g w2.heap.size br kk k cr 235 _ _ from by first | (rw [mR42_235]; exact ⟨_, _, _, _, _, rfl, 1, Nat.le_refl _, gx⟩) | rw [mR42_235])⟩⟩
                · intro X w1 k1 hG hdep
                  have e235 : mR42 (Two w tp tq) c g w2.heap.size br kk k cr 235 (X 235) w1 := hdep 235 (by decide +kernel)
                  rw [mR42_235] at e235; obtain ⟨x1, x2, x3, x4, xs, e235, nx, hnx, gx⟩ := e235; obtain ⟨Ax, cx, rfl, _, _⟩ := gx.parts; simp only [opW_def, mixT, e235]; go_simp
                  exact ⟨⟨.slice (some ⟨w1.heap.size, 0, none⟩) 1 1, by first | rfl | simp [Act.put], St.alloc _ _ _ hG.lo, hG.alloc (fun _ j v hv => rule_tc ⟨nx, by omega, gx⟩ j v hv), (show mR42 (Two w tp tq) c g w2.heap.size br kk k cr 236 _ _ from by first | (rw [mR42_236]; exact Gs.new hG.lo rfl (by omega)) | rw [mR42_236])⟩⟩
              · intro X w1 hG hX
                have e226 : mR42 (Two w tp tq) c g w2.heap.size br kk k cr 226 (X 226) w1 := hX 1 (by omega)
                rw [mR42_226] at e226; unfold PEq at e226
                have e227 : mR42 (Two w tp tq) c g w2.heap.size br kk k cr 227 (X 227) w1 := hX 2 (by omega)
                rw [mR42_227] at e227; unfold PEq at e227
                have e236 : mR42 (Two w tp tq) c g w2.heap.size br kk k cr 236 (X 236) w1 := hX 11 (by omega)
                rw [mR42_236] at e236; unfold PGs at e236; obtain ⟨n8, hn8, gs8⟩ : ∃ n8, n8 ≤ c + 1 ∧ Gs w1 (Two w tp tq) 63 5 n8 (X 236) := ⟨1, by omega, e236⟩; clear e236; obtain ⟨A8, c8, e236, _, _⟩ := gs8.parts; rw [e236] at gs8
                have rw1 := MZ.out.rows.st hG.st
                obtain ⟨Aq, q, cq, hcq, hfq, _, _⟩ := row_read hG.th rw1 hkk
                have pt := row_put (g := g) (K' := c + 1) (v := .slice A8 n8 c8) hG.th rw1 hkk (by omega) ⟨n8, hn8, gs8⟩
                have hbrg : br ≠ g := fun e => HgT.out g (Nat.le_refl _) (e ▸ BRS.out)
                obtain ⟨cc, hcc, rd⟩ := hG.rd
                have hbrl : g < br ∨ br < g := by omega
                have hng : g < br := by rcases hbrl with h | h; exact h; exact absurd BRS.out (HgT.out br (by omega))
                have rd' := Rd.st (w' := w1.setCell ⟨br, kk, none⟩ (.slice A8 n8 c8)) rd (fun k hk => Below.heap_setCell w1 ⟨br, kk, none⟩ _ k (by dsimp only; omega)) (by simp)
                have MZ := Lib.hid (MZ.out.step (K' := c + 1) (c' := c3 + 30) pt.1 (hG.st.trans pt.2) (rd'.mono (by omega)) hgt (by omega) (by omega) n4 n6)
                clear hG hX gs8 rw1 pt rd rd' hcc; simp only [mixT, e226, e227, e236]; refine mix_go rfl (by rfl) (fun K hK => ?_); go_simp; refine hK _ _ ?_; clear hK K; refine mix_go rfl (by rfl) (fun K hK => ?_); go_simp; refine hK _ _ ?_; clear hK K; refine mix_nil ?_; clear hcq hfq e226 e227 e236
                generalize w1.setCell ⟨br, kk, none⟩ (.slice A8 n8 c8) = wE at *
                have b60 := MZ.out.m6.cell (j := 0) rfl
                have b61 := MZ.out.m6.cell (j := 1) rfl
                have b62 := MZ.out.m6.cell (j := 2) rfl
                have b40 := MZ.out.m4.cell (j := 0) rfl
                have b41 := MZ.out.m4.cell (j := 1) rfl
                have b42 := MZ.out.m4.cell (j := 2) rfl
                have b4f := MZ.out.m4.frozen
                have FIN := Lib.hid (Mz.fin (N := N) MZ.out (by omega) (by omega) (by omega) (by omega) (by omega) (by omega) (by omega) (by omega) (by omega) (by omega) (by omega))
                have b40' := (MZ.out.m4.set 0 (.slice (some ⟨br, 0, none⟩) k cr)).set 1 (.slice A5 es.length c5) |>.set 2 (.int .i64 (4 + z2))
                obtain ⟨k0, k1, k2⟩ := And.intro (b40'.cell (j := 0) rfl) (And.intro (b40'.cell (j := 1) rfl) (b40'.cell (j := 2) rfl)); clear b40'; go_wp2
                exact bodyPost_ret (v := .agg #[.slice (some ⟨br, 0, none⟩) k cr, .slice A5 es.length c5, .int .i64 (4 + z2)]) (by simp [results, Try.results81, go_sem, k0, k1, k2]) rfl FIN.out
            · go_wp2_with fail
              refine region_rely 11 [(11, false), (12, false)] [134, 135, 136, 137, 138, 139, 140, 141, 142, 143, 144] (GT c (Two w tp tq) g (c3 + 30) wS) (St (TM c) (Two w tp tq) g) (mR28 (Two w tp tq) c g w2.heap.size br kk k cr) (by kernel_rfl) (by kernel_rfl) (by kernel_rfl) (GT.start MZ.out.th MZ.out.rd (by omega) (Two.above MZ.out.lo)) (fun d v wa wb h u => mR28_st h u) ?_ ?_
              · simp only [List.take_succ_cons, List.take_zero, StepsR]
                refine ⟨?_, ?_, ?_, ?_, ?_, ?_, ?_, ?_, ?_, ?_, ?_, trivial⟩
                · intro X w1 k1 hG hdep
                  simp only [opW_def, mixT]; go_simp
                  exact ⟨⟨.pointer (some ⟨w2.heap.size, 0, none⟩), by first | rfl | simp [Act.put], St.refl _, hG.less, (show mR28 (Two w tp tq) c g w2.heap.size br kk k cr 134 _ _ from by first | (rw [mR28_134]; exact rfl) | rw [mR28_134])⟩⟩
                · intro X w1 k1 hG hdep
                  have e134 : mR28 (Two w tp tq) c g w2.heap.size br kk k cr 134 (X 134) w1 := hdep 134 (by decide +kernel)
                  rw [mR28_134] at e134; unfold PEq at e134
                  have b60 := (MZ.out.m6.st hG.st (TM_mdl _) n6).cell (j := 0) rfl
                  simp only [opW_def, mixT, e134]; go_simp
                  exact ⟨⟨.slice (some ⟨br, 0, none⟩) k cr, by first | rfl | simp [Act.put], St.refl _, hG.less, (show mR28 (Two w tp tq) c g w2.heap.size br kk k cr 135 _ _ from by first | (rw [mR28_135]; exact rfl) | rw [mR28_135])⟩⟩
                · intro X w1 k1 hG hdep
                  simp only [opW_def, mixT]; go_simp
                  exact ⟨⟨.int .i64 (kk : Int), by first | rfl | simp [Act.put], St.refl _, hG.less, (show mR28 (Two w tp tq) c g w2.heap.size br kk k cr 136 _ _ from by first | (rw [mR28_136]; exact rfl) | rw [mR28_136])⟩⟩
                · intro X w1 k1 hG hdep
                  simp only [opW_def, mixT]; go_simp
                  exact ⟨⟨.pointer (some ⟨g, 0, none⟩), by first | rfl | simp [Act.put], St.refl _, hG.less, (show mR28 (Two w tp tq) c g w2.heap.size br kk k cr 137 _ _ from by first | (rw [mR28_137]; exact rfl) | rw [mR28_137])⟩⟩
                · intro X w1 k1 hG hdep
                  have e137 : mR28 (Two w tp tq) c g w2.heap.size br kk k cr 137 (X 137) w1 := hdep 137 (by decide +kernel)
                  rw [mR28_137] at e137; unfold PEq at e137; obtain ⟨c1, hc1, rd1⟩ := hG.rd; simp only [opW_def, mixT, e137]; go_simp; refine (pickP_any g c1 3 w1 ⟨by omega, by omega⟩ (by omega) rd1).mono ?_; intro x w2 pk; obtain ⟨z, rfl, z0, z1, z2, r2, pk⟩ := pk.cases (by omega)
                  exact ⟨⟨.int .i64 z, by first | rfl | simp [Act.put], pk.st, hG.pk pk (HgT.out g (Nat.le_refl _)) r2 hc1, (show mR28 (Two w tp tq) c g w2.heap.size br kk k cr 138 _ _ from by first | (rw [mR28_138]; exact ⟨z, rfl, by omega, by omega⟩) | rw [mR28_138])⟩⟩
                · intro X w1 k1 hG hdep
                  simp only [opW_def, mixT]; go_simp
                  exact ⟨⟨.pointer (some ⟨g, 0, none⟩), by first | rfl | simp [Act.put], St.refl _, hG.less, (show mR28 (Two w tp tq) c g w2.heap.size br kk k cr 139 _ _ from by first | (rw [mR28_139]; exact rfl) | rw [mR28_139])⟩⟩
                · intro X w1 k1 hG hdep
                  have e139 : mR28 (Two w tp tq) c g w2.heap.size br kk k cr 139 (X 139) w1 := hdep 139 (by decide +kernel)
                  rw [mR28_139] at e139; unfold PEq at e139; obtain ⟨c1, hc1, rd1⟩ := hG.rd; simp only [opW_def, mixT, e139]; go_simp; refine (pickP_any g c1 3 w1 ⟨by omega, by omega⟩ (by omega) rd1).mono ?_; intro x w2 pk; obtain ⟨z, rfl, z0, z1, z2, r2, pk⟩ := pk.cases (by omega)
                  exact ⟨⟨.int .i64 z, by first | rfl | simp [Act.put], pk.st, hG.pk pk (HgT.out g (Nat.le_refl _)) r2 hc1, (show mR28 (Two w tp tq) c g w2.heap.size br kk k cr 140 _ _ from by first | (rw [mR28_140]; exact ⟨z, rfl, by omega, by omega⟩) | rw [mR28_140])⟩⟩
                · intro X w1 k1 hG hdep
                  have e138 : mR28 (Two w tp tq) c g w2.heap.size br kk k cr 138 (X 138) w1 := hdep 138 (by decide +kernel)
                  rw [mR28_138] at e138; obtain ⟨y1, e138, y10, y11⟩ := e138
                  have e140 : mR28 (Two w tp tq) c g w2.heap.size br kk k cr 140 (X 140) w1 := hdep 140 (by decide +kernel)
                  rw [mR28_140] at e140; obtain ⟨y2, e140, y20, y21⟩ := e140; simp only [opW_def, mixT, e138, e140]; go_simp
                  exact ⟨⟨_, by first | rfl | simp [Act.put], St.refl _, hG.less, (show mR28 (Two w tp tq) c g w2.heap.size br kk k cr 141 _ _ from by first | (rw [mR28_141]; exact ⟨_, _, _, _, _, _, rfl⟩) | rw [mR28_141])⟩⟩
                · intro X w1 k1 hG hdep
                  have e141 : mR28 (Two w tp tq) c g w2.heap.size br kk k cr 141 (X 141) w1 := hdep 141 (by decide +kernel)
                  rw [mR28_141] at e141; obtain ⟨x1, x2, x3, x4, x5, x6, e141⟩ := e141; simp only [opW_def, mixT, e141]; go_simp
                  exact ⟨⟨.slice (some ⟨w1.heap.size, 0, none⟩) 1 1, by first | rfl | simp [Act.put], St.alloc _ _ _ hG.lo, hG.alloc (fun _ j v hv => snd_tc _ _ _ _ _ _ j v hv), (show mR28 (Two w tp tq) c g w2.heap.size br kk k cr 142 _ _ from by first | (rw [mR28_142]; exact Gs.new hG.lo rfl (by omega)) | rw [mR28_142])⟩⟩
                · intro X w1 k1 hG hdep
                  have e142 : mR28 (Two w tp tq) c g w2.heap.size br kk k cr 142 (X 142) w1 := hdep 142 (by decide +kernel)
                  rw [mR28_142] at e142; unfold PGs at e142; obtain ⟨Ax, cx, ex, _, _⟩ := e142.parts
                  have gx := e142
                  rw [ex] at gx; simp only [opW_def, mixT, ex]; go_simp
                  exact ⟨⟨_, by first | rfl | simp [Act.put], St.refl _, hG.less, (show mR28 (Two w tp tq) c g w2.heap.size br kk k cr 143 _ _ from by first | (rw [mR28_143]; exact ⟨_, _, _, _, _, rfl, 1, Nat.le_refl _, gx⟩) | rw [mR28_143])⟩⟩
                · intro X w1 k1 hG hdep
                  have e143 : mR28 (Two w tp tq) c g w2.heap.size br kk k cr 143 (X 143) w1 := hdep 143 (by decide +kernel)
                  rw [mR28_143] at e143; obtain ⟨x1, x2, x3, x4, xs, e143, nx, hnx, gx⟩ := e143; obtain ⟨Ax, cx, rfl, _, _⟩ := gx.parts; simp only [opW_def, mixT, e143]; go_simp
                  exact ⟨⟨.slice (some ⟨w1.heap.size, 0, none⟩) 1 1, by first | rfl | simp [Act.put], St.alloc _ _ _ hG.lo, hG.alloc (fun _ j v hv => rule_tc ⟨nx, by omega, gx⟩ j v hv), (show mR28 (Two w tp tq) c g w2.heap.size br kk k cr 144 _ _ from by first | (rw [mR28_144]; exact Gs.new hG.lo rfl (by omega)) | rw [mR28_144])⟩⟩
              · intro X w1 hG hX
                have e135 : mR28 (Two w tp tq) c g w2.heap.size br kk k cr 135 (X 135) w1 := hX 1 (by omega)
                rw [mR28_135] at e135; unfold PEq at e135
                have e136 : mR28 (Two w tp tq) c g w2.heap.size br kk k cr 136 (X 136) w1 := hX 2 (by omega)
                rw [mR28_136] at e136; unfold PEq at e136
                have e144 : mR28 (Two w tp tq) c g w2.heap.size br kk k cr 144 (X 144) w1 := hX 10 (by omega)
                rw [mR28_144] at e144; unfold PGs at e144; obtain ⟨n8, hn8, gs8⟩ : ∃ n8, n8 ≤ c + 1 ∧ Gs w1 (Two w tp tq) 63 5 n8 (X 144) := ⟨1, by omega, e144⟩; clear e144; obtain ⟨A8, c8, e144, _, _⟩ := gs8.parts; rw [e144] at gs8
                have rw1 := MZ.out.rows.st hG.st
                obtain ⟨Aq, q, cq, hcq, hfq, _, _⟩ := row_read hG.th rw1 hkk
                have pt := row_put (g := g) (K' := c + 1) (v := .slice A8 n8 c8) hG.th rw1 hkk (by omega) ⟨n8, hn8, gs8⟩
                have hbrg : br ≠ g := fun e => HgT.out g (Nat.le_refl _) (e ▸ BRS.out)
                obtain ⟨cc, hcc, rd⟩ := hG.rd
                have hbrl : g < br ∨ br < g := by omega
                have hng : g < br := by rcases hbrl with h | h; exact h; exact absurd BRS.out (HgT.out br (by omega))
                have rd' := Rd.st (w' := w1.setCell ⟨br, kk, none⟩ (.slice A8 n8 c8)) rd (fun k hk => Below.heap_setCell w1 ⟨br, kk, none⟩ _ k (by dsimp only; omega)) (by simp)
                have MZ := Lib.hid (MZ.out.step (K' := c + 1) (c' := c3 + 30) pt.1 (hG.st.trans pt.2) (rd'.mono (by omega)) hgt (by omega) (by omega) n4 n6)
                clear hG hX gs8 rw1 pt rd rd' hcc; simp only [mixT, e135, e136, e144]; refine mix_go rfl (by rfl) (fun K hK => ?_); go_simp; refine hK _ _ ?_; clear hK K; refine mix_go rfl (by rfl) (fun K hK => ?_); go_simp; refine hK _ _ ?_; clear hK K; refine mix_nil ?_; clear hcq hfq e135 e136 e144
                generalize w1.setCell ⟨br, kk, none⟩ (.slice A8 n8 c8) = wE at *
                have b60 := MZ.out.m6.cell (j := 0) rfl
                have b61 := MZ.out.m6.cell (j := 1) rfl
                have b62 := MZ.out.m6.cell (j := 2) rfl
                have b40 := MZ.out.m4.cell (j := 0) rfl
                have b41 := MZ.out.m4.cell (j := 1) rfl
                have b42 := MZ.out.m4.cell (j := 2) rfl
                have b4f := MZ.out.m4.frozen
                have FIN := Lib.hid (Mz.fin (N := N) MZ.out (by omega) (by omega) (by omega) (by omega) (by omega) (by omega) (by omega) (by omega) (by omega) (by omega) (by omega))
                have b40' := (MZ.out.m4.set 0 (.slice (some ⟨br, 0, none⟩) k cr)).set 1 (.slice A5 es.length c5) |>.set 2 (.int .i64 (4 + z2))
                obtain ⟨k0, k1, k2⟩ := And.intro (b40'.cell (j := 0) rfl) (And.intro (b40'.cell (j := 1) rfl) (b40'.cell (j := 2) rfl)); clear b40'; go_wp2
                exact bodyPost_ret (v := .agg #[.slice (some ⟨br, 0, none⟩) k cr, .slice A5 es.length c5, .int .i64 (4 + z2)]) (by simp [results, Try.results81, go_sem, k0, k1, k2]) rfl FIN.out
        · obtain ⟨j1, rfl⟩ : ∃ j1, j = j1 + 1 := ⟨j - 1, by omega⟩
          have lt3 : (0 : Int) < ((j1 + 1 : Nat) : Int) := by omega
          have b62 := MS.out.m6.cell (j := 2) rfl
          obtain ⟨mm, hmm, hmm1, hmm6⟩ : ∃ mm : Int, mm = 5 + z2 ∧ 5 ≤ mm ∧ mm ≤ 20 := ⟨_, rfl, by omega, by omega⟩
          have iw2 : IntKind.i64.wrap (4 + z2 + 1) = mm := by rw [hmm, show 4 + z2 + 1 = 5 + z2 by omega]; exact IntWalk.i64_in _ (by omega)
          have HMM := Lib.hid hmm
          clear hmm
          go_wp2_with fail
          all_goals
            refine (pickP_any g c3 _ _ ⟨by omega, by omega⟩ (by omega) MS.out.rd).mono ?_; intro x wA pk; obtain ⟨x1, rfl, a1, b1, d1, rA, pA⟩ := pk.cases (by omega)
            have MS := Lib.hid (MS.out.pk pA rA hgw hgt n4 n6)
            clear pk rA pA d1 a1 b1 iw2
            go_wp2_with fail
            refine (pickP_any g (c3 + 1) _ _ ⟨by omega, by omega⟩ (by omega) MS.out.rd).mono ?_; intro x wB pk; obtain ⟨x2, rfl, a1, b1, d1, rA, pA⟩ := pk.cases (by omega)
            have MS := Lib.hid (MS.out.pk pA rA hgw hgt n4 n6)
            clear pk rA pA d1 a1 b1
            go_wp2_with fail
            refine (pickP_any g (c3 + 2) _ _ ⟨by omega, by omega⟩ (by omega) MS.out.rd).mono ?_; intro x wC pk; obtain ⟨x3, rfl, a1, b1, d1, rA, pA⟩ := pk.cases (by omega)
            have MS := Lib.hid (MS.out.pk pA rA hgw hgt n4 n6)
            clear pk rA pA d1 a1 b1
            go_wp2_with fail
            refine (pickP_any g (c3 + 3) _ _ ⟨by omega, by omega⟩ (by omega) MS.out.rd).mono ?_; intro x wD pk; obtain ⟨x4, rfl, a1, b1, d1, rA, pA⟩ := pk.cases (by omega)
            have MS := Lib.hid (MS.out.pk pA rA hgw hgt n4 n6)
            clear pk rA pA d1 a1 b1
            go_wp2_with fail
            refine (pickP_any g (c3 + 4) _ _ ⟨by omega, by omega⟩ (by omega) MS.out.rd).mono ?_; intro x wE pk; obtain ⟨x5, rfl, a1, b1, d1, rA, pA⟩ := pk.cases (by omega)
            have MS := Lib.hid (MS.out.pk pA rA hgw hgt n4 n6)
            clear pk rA pA d1 a1 b1 b62
            have b61 := MS.out.m6.cell (j := 1) rfl
            have hb6l : w2.heap.size < wE.heap.size := MS.out.m6.lt
            have MSB := Lib.hid (MS.out.up ((Up.refl wE).alloc (.cells #[.int .i64 x1, .int .i64 x2, .int .i64 (-1), .int .i64 x3, .int .i64 x4, .int .i64 x5] 45)))
            have BX := Lib.hid (Box.new wE ⟨x1, x2, -1, x3, x4, x5⟩ 45)
            clear MS
            go_wp2_with fail
            refine (l1At_any A5 es.length c5 es ⟨x1, x2, -1, x3, x4, x5⟩ _ (by omega) MSB.out.evs).mono ?_; rintro x wG ⟨r0, rfl, hat, uG⟩
            have MS := Lib.hid (MSB.out.up uG)
            have BX := Lib.hid (BX.out.up uG)
            clear hat uG MSB b61 hb6l
            have b61 := MS.out.m6.cell (j := 1) rfl
            by_cases hrn : r0 < 0
            · obtain ⟨⟨e0, e1, e2, e3, e4, e5⟩, -⟩ := BX.out.mk6
              go_wp2_with fail
              refine (l1Put_any A5 es.length c5 es ⟨x1, x2, -1, x3, x4, x5⟩ _ (by omega) MS.out.evs).mono ?_; rintro x wH ⟨A4, c4, rfl, hc4, hm4, hE4, ho4, uH⟩
              have IL := Lib.hid (ins_len ⟨x1, x2, -1, x3, x4, x5⟩ es)
              have HO4 := Lib.hid (own_mono ho4 MS.out.lo)
              have MS := Lib.hid (MS.out.up uH)
              clear hE4 ho4 uH e0 e1 e2 e3 e4 e5 b61 BX
              generalize ins ⟨x1, x2, -1, x3, x4, x5⟩ es = fs at IL HO4 hc4 ⊢
              have hil : fs.length ≤ es.length + 1 := Nat.le_of_eq IL.out
              have b61 := MS.out.m6.cell (j := 1) rfl
              have b6f := MS.out.m6.frozen
              go_wp2_with fail
              go_roundw
              case rel => exact ⟨j1, c3 + 5, A4, c4, fs, by first | go_num | simp, by omega, by omega, hc4, hm4, by omega, MS.out.put1 HO4.out (by omega) (by omega) (by omega) (by omega)⟩
              case measure => (simp [intOf]; try omega)
            · go_wp2_with fail
              go_roundw
              case rel => exact ⟨j1, c3 + 5, A5, c5, es, by first | go_num | simp, by omega, by omega, hc5, hc5m, by omega, MS.out⟩
              case measure => (simp [intOf]; try omega)
end Go.Proofs.Ytakmlfgkppekoaa

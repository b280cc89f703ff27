/-
  What FnMdlOk returns, in one sentence: true, with new blocks alone; for every code.
-/
import Derived.Test.YtkfjemgelmbcfaaKDrawMdl
import Derived.Test.YtkfjemgelmbcfaaKO
import Derived.Test.YtkfjemgelmbcfaaKIMdlN
import Derived.Test.YtkfjemgelmbcfaaKMdlT
import Derived.Test.YtkfjemgelmbcfaaKRulzS
import Derived.Test.YtkfjemgelmbcfaaKRowR
namespace Go.Proofs.Ytkfjemgelmbcfaa
set_option maxRecDepth 100000
open Go.RowKit

/-- The loop's relation. -/
def RowR (n : Nat) (w0 : World) (i : Value) (wr : World) : Prop := ∃ j : Nat, i = .int .i64 (j : Int) ∧ j ≤ n ∧ Up w0 wr
set_option maxHeartbeats 8000000 in
theorem walkMdlOk {w : World} (A : Option Addr) (n cap : Nat) (hc : n ≤ cap) (hmax : cap ≤ 9223372036854775807) (hB : Bys w A n w.heap.size) :
    Calls Try.prog 3 #[.slice A n cap] w fun x w' => x = .returned (.bool true) ∧ Up w w' := by
  have HB := Lib.hid hB
  clear hB
  by_cases h : 1048576 < n
  · have h' : (1048576 : Int) < n := by omega
    go_enter Try.func3, Try.ntmps3
    go_wp2
    go_ret
    exact ⟨rfl, Up.refl _⟩
  · have h' : ¬ (1048576 : Int) < n := by omega
    go_enter Try.func3, Try.ntmps3
    go_wp2_with fail
    refine (drawMdl_any A n cap _ hc hmax HB.out).mono ?_
    rintro x w1 ⟨A, n, c, B, k, d, m, rfl, MV, ⟨hn, hnc, hcm⟩, u1⟩
    have MV1 := Lib.hid MV
    have I1 := Lib.hid (fun W (u : Up w1 W) => implMdl_any A n c B k d m W (MV.up u))
    have I2 := Lib.hid (fun W (u : Up w1 W) => implMdl_any A n c none 0 0 ⟨m.rules, [], m.til⟩ W ⟨(MV.up u).rules, Evs.none_ _, by omega⟩)
    have M1 := Lib.hid (fun W (u : Up w1 W) => specMdl_any A n c B k d m W (MV.up u))
    have B3 := Lib.hid (Blk.new w1 #[.slice A n c, .slice B k d, .int .i64 m.til] 26)
    have U3 := Lib.hid ((Up.refl w1).alloc (.cells #[.slice A n c, .slice B k d, .int .i64 m.til] 26))
    clear MV
    go_wp2_with fail
    generalize w1.alloc (.cells #[.slice A n c, .slice B k d, .int .i64 m.til] 26) = W3 at *
    generalize hb3 : w1.heap.size = b3 at *
    refine (I1.out _ U3.out).mono ?_
    rintro x w4 ⟨rfl, u4⟩
    have U := Lib.hid (U3.out.trans u4)
    have B3 := Lib.hid (B3.out.up u4)
    clear u4 U3
    obtain ⟨m0, m1, m2⟩ := And.intro (B3.out.cell (j := 0) rfl) (And.intro (B3.out.cell (j := 1) rfl) (B3.out.cell (j := 2) rfl))
    have lt3_ := B3.out.lt
    generalize hmb : mdlB m = mb at *
    have HMB := Lib.hid hmb
    clear hmb
    go_wp2_with fail
    refine (M1.out _ U.out).mono ?_
    rintro x w5 ⟨rfl, u5⟩
    have U := Lib.hid (U.out.trans u5)
    have B3 := Lib.hid (B3.out.up u5)
    clear u5 m0 m1 m2 lt3_
    obtain ⟨m0, m1, m2⟩ := And.intro (B3.out.cell (j := 0) rfl) (And.intro (B3.out.cell (j := 1) rfl) (B3.out.cell (j := 2) rfl))
    have lt3_ := B3.out.lt
    cases mb
    · go_wp2_with fail
      refine (tbOk_any _).mono ?_
      rintro x w9 ⟨rfl, u9⟩
      go_wp2
      go_ret
      exact ⟨rfl, u1.trans (U.out.trans u9)⟩
    · have RW := fun W (u : Up w1 W) => rulz_rows (MV1.out.up u).rules
      have HF := Lib.hid (mdlB_facts HMB.out)
      have nm := HF.out.1
      rw [MV1.out.rules.1] at nm
      obtain ⟨iW, ht0, ht1, ht2, ht3⟩ := info_parts info30
      have INFW := Lib.hid (And.intro ht0 (And.intro ht1 (And.intro ht2 ht3)))
      clear ht0 ht1 ht2 ht3
      obtain ⟨iR, ht0, ht1, ht2, ht3⟩ := info_parts info33
      have INFR := Lib.hid (And.intro ht0 (And.intro ht1 (And.intro ht2 ht3)))
      clear ht0 ht1 ht2 ht3
      go_upto_region 12 with fail
      have B5 := Lib.hid ((Blk.new w5 #[.slice A n c, .slice none 0 0, .int .i64 m.til] 26).alloc (.cells #[.slice A n c, .slice B k d, .int .i64 m.til] 26))
      have B6 := Lib.hid (Blk.new (w5.alloc (.cells #[.slice A n c, .slice none 0 0, .int .i64 m.til] 26)) #[.slice A n c, .slice B k d, .int .i64 m.til] 26)
      rw [World.size_alloc] at B6
      have B3 := Lib.hid ((B3.out.alloc (.cells #[.slice A n c, .slice none 0 0, .int .i64 m.til] 26)).alloc (.cells #[.slice A n c, .slice B k d, .int .i64 m.til] 26))
      have U := Lib.hid ((U.out.alloc (.cells #[.slice A n c, .slice none 0 0, .int .i64 m.til] 26)).alloc (.cells #[.slice A n c, .slice B k d, .int .i64 m.til] 26))
      have h35 := lt3_
      clear m0 m1 m2 lt3_
      have h56 : w5.heap.size + 1 + 1 = ((w5.alloc (.cells #[.slice A n c, .slice none 0 0, .int .i64 m.til] 26)).alloc (.cells #[.slice A n c, .slice B k d, .int .i64 m.til] 26)).heap.size := by simp
      generalize (w5.alloc (.cells #[.slice A n c, .slice none 0 0, .int .i64 m.til] 26)).alloc (.cells #[.slice A n c, .slice B k d, .int .i64 m.til] 26) = W6 at *
      generalize hb6 : w5.heap.size + 1 = b6 at *
      generalize w5.heap.size = b5 at *
      obtain ⟨news, RN⟩ := RW W6 U.out
      have RN := Lib.hid RN
      clear RW
      have p0 := B3.out.cell (j := 0) rfl
      have q0 := B6.out.cell (j := 0) rfl
      have lt6_ := B6.out.lt
      have lt3_ := B3.out.lt
      have fr6 := B6.out.frozen
      go_upto_region 14 with (at_builtin; first
        | (refine wpList_append_lit (P := Try.prog) _ rfl (.tmp 26) (.tmp 28) 23 rfl W6.heap.size 30 iW _ 1 24 Try.underlying23 INFW.out.1 INFW.out.2.1 INFW.out.2.2.1 INFW.out.2.2.2 rfl (by omega) W6.heap.size rfl (lit_new W6 _ _ (Nat.le_refl _)) _ A n c news rfl (RN.out.reads.alloc (Nat.le_refl _) _) RN.out.one (by simp only [maxLen]; omega) (by omega) (by simp) ?_
           intro v7 w7 o7 u7)
        | (refine wpList_append_zeros_own (P := Try.prog) _ rfl (.tmp 29) (.const (.int .i64 4)) 23 3 rfl W6.heap.size 30 iW _ .i64 .i64 1 24 4 Try.underlying23 Try.underlying3 INFW.out.1 INFW.out.2.1 INFW.out.2.2.1 INFW.out.2.2.2 rfl (by omega) (zeros_one 4) v7 n news rfl rfl o7 (by omega) (by omega) (by omega) (by omega) ?_
           intro A8 c8 w8 g8
           have UZ := Lib.hid ((((Up.refl W6).alloc (.cells #[] 30)).trans u7).own o7 g8)
           clear p0 q0 lt6_ lt3_ fr6
           have q0 := (B6.out.up UZ.out).cell (j := 0) rfl
           have lt6_ := (B6.out.up UZ.out).lt
           have fr6 := (B6.out.up UZ.out).frozen
           clear u7 o7 g8))
      have hn4 : 4 < n + 4 := by omega
      have h1b : w1.heap.size ≤ b6 := by omega
      have U := Lib.hid ((U.out.trans UZ.out).setCell (p := ⟨b6, 0, none⟩) h1b (.slice A8 (n + 4) c8))
      have B3 := Lib.hid ((B3.out.up UZ.out).far (b' := b6) 0 (.slice A8 (n + 4) c8) (by omega))
      have B5 := Lib.hid ((B5.out.up UZ.out).far (b' := b6) 0 (.slice A8 (n + 4) c8) (by omega))
      have B6 := Lib.hid ((B6.out.up UZ.out).set 0 (.slice A8 (n + 4) c8))
      clear q0 lt6_ fr6 UZ RN h56
      generalize w8.setCell ⟨b6, 0, none⟩ (.slice A8 (n + 4) c8) = W8 at *
      obtain ⟨bA, off, hA, hbA, hat⟩ := (MV1.out.up U.out).rules.2.2 (by omega)
      subst hA
      have HAT := Lib.hid hat
      clear hat
      go_loopw [7] (fun i wr => RowR n W8 i wr) (fun i _ => n + 1 - (intOf i).toNat)
      case atStart => exact ⟨0, rfl, by omega, Up.refl _⟩
      case round =>
        obtain ⟨j, rfl, hj, ur⟩ := hrel
        have UR := Lib.hid ur
        have B3 := Lib.hid (B3.out.up ur)
        have B5 := Lib.hid (B5.out.up ur)
        have B6 := Lib.hid (B6.out.up ur)
        obtain ⟨m0, m1, m2⟩ := And.intro (B3.out.cell (j := 0) rfl) (And.intro (B3.out.cell (j := 1) rfl) (B3.out.cell (j := 2) rfl))
        have lt3_ := B3.out.lt
        by_cases hlt : j < n
        · have lt1 : (j : Int) < n := by omega
          obtain ⟨A', n', c', hcl, hR⟩ := HAT.out j hlt
          have HR := Lib.hid hR
          have HCL0 := Lib.hid hcl
          have hcl := (ur.cells _ _ hbA).trans hcl
          have hbr : bA < wr.heap.size := by have := ur.size; omega
          clear hR ur
          by_cases hz : n' = 0
          · subst hz
            go_wp2_with fail
            go_roundw
            case rel => exact ⟨j + 1, by go_num, by omega, UR.out⟩
            case measure => simp [intOf]; omega
          · have hz1 : ¬ (n' : Int) = 0 := by omega
            go_upto_region 18 with fail
            have h8 : wr.heap.size < (wr.alloc (.cells #[.slice (some ⟨bA, off, none⟩) n c, .slice B k d, .int .i64 m.til] 26)).heap.size := by simp
            have hW8 : W8.heap.size ≤ wr.heap.size := UR.out.size
            have B8 := Lib.hid (Blk.new wr #[.slice (some ⟨bA, off, none⟩) n c, .slice B k d, .int .i64 m.til] 26)
            have B3 := Lib.hid (B3.out.alloc (.cells #[.slice (some ⟨bA, off, none⟩) n c, .slice B k d, .int .i64 m.til] 26))
            have UR := Lib.hid (UR.out.alloc (.cells #[.slice (some ⟨bA, off, none⟩) n c, .slice B k d, .int .i64 m.til] 26))
            have h3w := lt3_
            clear m0 m1 m2 lt3_
            generalize wr.alloc (.cells #[.slice (some ⟨bA, off, none⟩) n c, .slice B k d, .int .i64 m.til] 26) = WA at *
            generalize hb8 : wr.heap.size = b8 at *
            obtain ⟨news, RN⟩ := rulz_rows (MV1.out.up U.out).rules
            have RN := Lib.hid RN
            have p0 := B3.out.cell (j := 0) rfl
            have q0 := B8.out.cell (j := 0) rfl
            have lt8_ := B8.out.lt
            have lt3_ := B3.out.lt
            have fr8 := B8.out.frozen
            go_upto_region 19 with (at_builtin; refine wpList_append_lit (P := Try.prog) _ rfl (.tmp 47) (.tmp 49) 23 rfl WA.heap.size 30 iW _ 1 24 Try.underlying23 INFW.out.1 INFW.out.2.1 INFW.out.2.2.1 INFW.out.2.2.2 rfl (by omega) WA.heap.size rfl (lit_new WA _ _ (Nat.le_refl _)) _ (some ⟨bA, off, none⟩) n c news rfl (RN.out.reads.below (UR.out.alloc (.cells #[] 30)).below) RN.out.one (by simp only [maxLen]; omega) (by omega) (by simp) ?_
                                    intro v9 w9 o9 u9
                                    have UZ := Lib.hid (((Up.refl WA).alloc (.cells #[] 30)).trans u9)
                                    obtain ⟨g9, c9, hv9, hg9, hlt9⟩ := o9.form (by omega)
                                    subst hv9
                                    have O9 := Lib.hid o9
                                    clear p0 q0 lt8_ lt3_ fr8
                                    have q0 := (B8.out.up UZ.out).cell (j := 0) rfl
                                    have lt8_ := (B8.out.up UZ.out).lt
                                    have fr8 := (B8.out.up UZ.out).frozen
                                    clear u9 o9)
            -- arm19
            have h9w : g9 < (w9.setCell ⟨b8, 0, none⟩ (.slice (some ⟨g9, 0, none⟩) n c9)).heap.size := by simpa using hlt9
            have h9b : g9 ≠ b8 := by omega
            have hg9W : W8.heap.size ≤ g9 := by omega
            have h38 : b3 ≠ b8 := by omega
            have UB := Lib.hid ((UR.out.trans UZ.out).setCell (p := ⟨b8, 0, none⟩) hW8 (.slice (some ⟨g9, 0, none⟩) n c9))
            have O9 := Lib.hid (own_blk O9.out (Below.heap_setCell w9 ⟨b8, 0, none⟩ (.slice (some ⟨g9, 0, none⟩) n c9) g9 h9b))
            have B3 := Lib.hid ((B3.out.up UZ.out).far (b' := b8) 0 (.slice (some ⟨g9, 0, none⟩) n c9) h38)
            have B8 := Lib.hid ((B8.out.up UZ.out).set 0 (.slice (some ⟨g9, 0, none⟩) n c9))
            clear q0 lt8_ fr8
            generalize w9.setCell ⟨b8, 0, none⟩ (.slice (some ⟨g9, 0, none⟩) n c9) = WB at *
            have hn0 : 0 < n' := by omega
            have hrowB := (UB.out.cells _ _ hbA).trans HCL0.out
            have hbB : bA < WB.heap.size := by have := UB.out.size; omega
            obtain ⟨xs, hRX, hRC⟩ := rules_cells HR.out hn0
            obtain ⟨bR, oR, hA', hbR8, _⟩ := HR.out.2.2 hn0
            subst hA'
            obtain ⟨aR, haR, _, hcells⟩ := hRX.2 hn0
            cases haR
            obtain ⟨r, rs, hrs⟩ : ∃ r rs, m.rules.getD j [] = r :: rs := by
              cases hh : m.rules.getD j [] with
              | nil =>
                have := hRC.num
                rw [hh] at this
                simp at this
                omega
              | cons r rs => exact ⟨r, rs, rfl⟩
            rw [hrs] at hRC
            have hbnd := rulesB_few (HF.out.2 j (by rw [MV1.out.rules.1]; exact hlt)) (by omega)
            rw [hrs, hRC.num] at hbnd
            have hn3 : n' ≤ 3 := by omega
            obtain ⟨As, ns, cs, ⟨hx0, hx1, hx2, hx3, hx4⟩, _, _⟩ := hRC.cell 0 hn0
            simp only [Nat.zero_mul, Nat.zero_add, List.getD_cons_zero] at hx0 hx1 hx2 hx3 hx4
            have htk := Lib.hid (take5 hx0 hx1 hx2 hx3 hx4)
            have hk0 := hcells 0 _ hx0
            have hk1 := hcells 1 _ hx1
            have hk2 := hcells 2 _ hx2
            have hk3 := hcells 3 _ hx3
            have hk4 := hcells 4 _ hx4
            rw [add_none] at hk0 hk1 hk2 hk3 hk4
            rw [Nat.add_zero] at hk0
            replace hk0 := (UB.out.cells _ _ hbR8).trans hk0
            replace hk1 := (UB.out.cells _ _ hbR8).trans hk1
            replace hk2 := (UB.out.cells _ _ hbR8).trans hk2
            replace hk3 := (UB.out.cells _ _ hbR8).trans hk3
            replace hk4 := (UB.out.cells _ _ hbR8).trans hk4
            have hbR : bR < WB.heap.size := by have := UB.out.size; omega
            have HONE := Lib.hid (show ∀ u ∈ [Value.int .i64 r.kd, .int .i64 r.a, .int .i64 r.b, .int .i64 r.c, .slice As ns cs], u.oneCell' = true from by
              intro u hu
              simp only [List.mem_cons, List.not_mem_nil, or_false] at hu
              rcases hu with rfl | rfl | rfl | rfl | rfl <;> rfl)
            have RXB := Lib.hid hRX
            have RC := Lib.hid hRC
            clear hRX hRC hcells hx0 hx1 hx2 hx3 hx4 hbnd
            refine region_relyX 19 [(19, false), (20, false)] [52, 53, 54, 55, 56, 57, 58, 59, 60, 61, 62, 63, 64, 65, 66, 67, 68, 69, 70] (fun _ => 0) (fun _ w1 => Up WB w1) (MZ WB.heap.size n' [.int .i64 r.kd, .int .i64 r.a, .int .i64 r.b, .int .i64 r.c, .slice As ns cs]) (rD WB.heap.size b3 b8 j n' (.slice (some ⟨g9, 0, none⟩) n c9) (.slice (some ⟨bA, off, none⟩) n c) (.pointer (some ⟨bA, off + j, none⟩)) (.slice (some ⟨bR, oR, none⟩) n' c') (.pointer (some ⟨bR, oR, none⟩)) [.int .i64 r.kd, .int .i64 r.a, .int .i64 r.b, .int .i64 r.c, .slice As ns cs] xs) (by kernel_rfl) (by kernel_rfl) (by kernel_rfl) ((Up.refl _).drew) (rD_mz hn0 RC.out.len rfl) ?_ ?_
            · simp only [List.take_succ_cons, List.take_zero, StepsC]
              refine ⟨?_, ?_, ?_, ?_, ?_, ?_, ?_, ?_, ?_, ?_, ?_, ?_, ?_, ?_, ?_, ?_, ?_, ?_, ?_, trivial⟩
              · intro X w1 k1 hG hdep
                simp only [opW_def, mixT]
                go_simp
                exact ⟨⟨_, by first | rfl | simp [Act.put], MZ.of_up (Up.refl _), hG, (show rD WB.heap.size b3 b8 j n' (.slice (some ⟨g9, 0, none⟩) n c9) (.slice (some ⟨bA, off, none⟩) n c) (.pointer (some ⟨bA, off + j, none⟩)) (.slice (some ⟨bR, oR, none⟩) n' c') (.pointer (some ⟨bR, oR, none⟩)) [.int .i64 r.kd, .int .i64 r.a, .int .i64 r.b, .int .i64 r.c, .slice As ns cs] xs 0 _ _ from by first | (rw [rD_0]; exact rfl) | rw [rD_0])⟩⟩
              · intro X w1 k1 hG hdep
                have e52 : rD WB.heap.size b3 b8 j n' (.slice (some ⟨g9, 0, none⟩) n c9) (.slice (some ⟨bA, off, none⟩) n c) (.pointer (some ⟨bA, off + j, none⟩)) (.slice (some ⟨bR, oR, none⟩) n' c') (.pointer (some ⟨bR, oR, none⟩)) [.int .i64 r.kd, .int .i64 r.a, .int .i64 r.b, .int .i64 r.c, .slice As ns cs] xs 0 (X 52) w1 := hdep 0 (by decide +kernel)
                rw [rD_0] at e52
                have p8 := (B8.out.up hG).cell (j := 0) rfl
                simp only [opW_def, mixT, e52]
                go_simp
                exact ⟨⟨_, by first | rfl | simp [Act.put], MZ.of_up (Up.refl _), hG, (show rD WB.heap.size b3 b8 j n' (.slice (some ⟨g9, 0, none⟩) n c9) (.slice (some ⟨bA, off, none⟩) n c) (.pointer (some ⟨bA, off + j, none⟩)) (.slice (some ⟨bR, oR, none⟩) n' c') (.pointer (some ⟨bR, oR, none⟩)) [.int .i64 r.kd, .int .i64 r.a, .int .i64 r.b, .int .i64 r.c, .slice As ns cs] xs 1 _ _ from by first | (rw [rD_1]; exact rfl) | rw [rD_1])⟩⟩
              · intro X w1 k1 hG hdep
                simp only [opW_def, mixT]
                go_simp
                exact ⟨⟨_, by first | rfl | simp [Act.put], MZ.of_up (Up.refl _), hG, (show rD WB.heap.size b3 b8 j n' (.slice (some ⟨g9, 0, none⟩) n c9) (.slice (some ⟨bA, off, none⟩) n c) (.pointer (some ⟨bA, off + j, none⟩)) (.slice (some ⟨bR, oR, none⟩) n' c') (.pointer (some ⟨bR, oR, none⟩)) [.int .i64 r.kd, .int .i64 r.a, .int .i64 r.b, .int .i64 r.c, .slice As ns cs] xs 2 _ _ from by first | (rw [rD_2]; exact rfl) | rw [rD_2])⟩⟩
              · intro X w1 k1 hG hdep
                have hlo := hG.size
                simp only [opW_def, mixT]
                go_simp
                exact ⟨⟨_, by first | rfl | simp [Act.put], MZ.of_up ((Up.refl _).alloc _), hG.alloc _, (show rD WB.heap.size b3 b8 j n' (.slice (some ⟨g9, 0, none⟩) n c9) (.slice (some ⟨bA, off, none⟩) n c) (.pointer (some ⟨bA, off + j, none⟩)) (.slice (some ⟨bR, oR, none⟩) n' c') (.pointer (some ⟨bR, oR, none⟩)) [.int .i64 r.kd, .int .i64 r.a, .int .i64 r.b, .int .i64 r.c, .slice As ns cs] xs 3 _ _ from by first | (rw [rD_3]; exact ⟨_, rfl, hlo, heap_alloc_new _ _⟩) | rw [rD_3])⟩⟩
              · intro X w1 k1 hG hdep
                simp only [opW_def, mixT]
                go_simp
                exact ⟨⟨_, by first | rfl | simp [Act.put], MZ.of_up (Up.refl _), hG, (show rD WB.heap.size b3 b8 j n' (.slice (some ⟨g9, 0, none⟩) n c9) (.slice (some ⟨bA, off, none⟩) n c) (.pointer (some ⟨bA, off + j, none⟩)) (.slice (some ⟨bR, oR, none⟩) n' c') (.pointer (some ⟨bR, oR, none⟩)) [.int .i64 r.kd, .int .i64 r.a, .int .i64 r.b, .int .i64 r.c, .slice As ns cs] xs 4 _ _ from by first | (rw [rD_4]; exact rfl) | rw [rD_4])⟩⟩
              · intro X w1 k1 hG hdep
                have e56 : rD WB.heap.size b3 b8 j n' (.slice (some ⟨g9, 0, none⟩) n c9) (.slice (some ⟨bA, off, none⟩) n c) (.pointer (some ⟨bA, off + j, none⟩)) (.slice (some ⟨bR, oR, none⟩) n' c') (.pointer (some ⟨bR, oR, none⟩)) [.int .i64 r.kd, .int .i64 r.a, .int .i64 r.b, .int .i64 r.c, .slice As ns cs] xs 4 (X 56) w1 := hdep 4 (by decide +kernel)
                rw [rD_4] at e56
                have p3 := (B3.out.up hG).cell (j := 0) rfl
                simp only [opW_def, mixT, e56]
                go_simp
                exact ⟨⟨_, by first | rfl | simp [Act.put], MZ.of_up (Up.refl _), hG, (show rD WB.heap.size b3 b8 j n' (.slice (some ⟨g9, 0, none⟩) n c9) (.slice (some ⟨bA, off, none⟩) n c) (.pointer (some ⟨bA, off + j, none⟩)) (.slice (some ⟨bR, oR, none⟩) n' c') (.pointer (some ⟨bR, oR, none⟩)) [.int .i64 r.kd, .int .i64 r.a, .int .i64 r.b, .int .i64 r.c, .slice As ns cs] xs 5 _ _ from by first | (rw [rD_5]; exact rfl) | rw [rD_5])⟩⟩
              · intro X w1 k1 hG hdep
                simp only [opW_def, mixT]
                go_simp
                exact ⟨⟨_, by first | rfl | simp [Act.put], MZ.of_up (Up.refl _), hG, (show rD WB.heap.size b3 b8 j n' (.slice (some ⟨g9, 0, none⟩) n c9) (.slice (some ⟨bA, off, none⟩) n c) (.pointer (some ⟨bA, off + j, none⟩)) (.slice (some ⟨bR, oR, none⟩) n' c') (.pointer (some ⟨bR, oR, none⟩)) [.int .i64 r.kd, .int .i64 r.a, .int .i64 r.b, .int .i64 r.c, .slice As ns cs] xs 6 _ _ from by first | (rw [rD_6]; exact rfl) | rw [rD_6])⟩⟩
              · intro X w1 k1 hG hdep
                have e57 : rD WB.heap.size b3 b8 j n' (.slice (some ⟨g9, 0, none⟩) n c9) (.slice (some ⟨bA, off, none⟩) n c) (.pointer (some ⟨bA, off + j, none⟩)) (.slice (some ⟨bR, oR, none⟩) n' c') (.pointer (some ⟨bR, oR, none⟩)) [.int .i64 r.kd, .int .i64 r.a, .int .i64 r.b, .int .i64 r.c, .slice As ns cs] xs 5 (X 57) w1 := hdep 5 (by decide +kernel)
                rw [rD_5] at e57
                have e58 : rD WB.heap.size b3 b8 j n' (.slice (some ⟨g9, 0, none⟩) n c9) (.slice (some ⟨bA, off, none⟩) n c) (.pointer (some ⟨bA, off + j, none⟩)) (.slice (some ⟨bR, oR, none⟩) n' c') (.pointer (some ⟨bR, oR, none⟩)) [.int .i64 r.kd, .int .i64 r.a, .int .i64 r.b, .int .i64 r.c, .slice As ns cs] xs 6 (X 58) w1 := hdep 6 (by decide +kernel)
                rw [rD_6] at e58
                simp only [opW_def, mixT, e57, e58]
                go_simp
                exact ⟨⟨_, by first | rfl | simp [Act.put], MZ.of_up (Up.refl _), hG, (show rD WB.heap.size b3 b8 j n' (.slice (some ⟨g9, 0, none⟩) n c9) (.slice (some ⟨bA, off, none⟩) n c) (.pointer (some ⟨bA, off + j, none⟩)) (.slice (some ⟨bR, oR, none⟩) n' c') (.pointer (some ⟨bR, oR, none⟩)) [.int .i64 r.kd, .int .i64 r.a, .int .i64 r.b, .int .i64 r.c, .slice As ns cs] xs 7 _ _ from by first | (rw [rD_7]; exact rfl) | rw [rD_7])⟩⟩
              · intro X w1 k1 hG hdep
                have e59 : rD WB.heap.size b3 b8 j n' (.slice (some ⟨g9, 0, none⟩) n c9) (.slice (some ⟨bA, off, none⟩) n c) (.pointer (some ⟨bA, off + j, none⟩)) (.slice (some ⟨bR, oR, none⟩) n' c') (.pointer (some ⟨bR, oR, none⟩)) [.int .i64 r.kd, .int .i64 r.a, .int .i64 r.b, .int .i64 r.c, .slice As ns cs] xs 7 (X 59) w1 := hdep 7 (by decide +kernel)
                rw [rD_7] at e59
                have pr := (hG.cells _ _ hbB).trans hrowB
                simp only [opW_def, mixT, e59]
                go_simp
                exact ⟨⟨_, by first | rfl | simp [Act.put], MZ.of_up (Up.refl _), hG, (show rD WB.heap.size b3 b8 j n' (.slice (some ⟨g9, 0, none⟩) n c9) (.slice (some ⟨bA, off, none⟩) n c) (.pointer (some ⟨bA, off + j, none⟩)) (.slice (some ⟨bR, oR, none⟩) n' c') (.pointer (some ⟨bR, oR, none⟩)) [.int .i64 r.kd, .int .i64 r.a, .int .i64 r.b, .int .i64 r.c, .slice As ns cs] xs 8 _ _ from by first | (rw [rD_8]; exact rfl) | rw [rD_8])⟩⟩
              · intro X w1 k1 hG hdep
                have e55 : rD WB.heap.size b3 b8 j n' (.slice (some ⟨g9, 0, none⟩) n c9) (.slice (some ⟨bA, off, none⟩) n c) (.pointer (some ⟨bA, off + j, none⟩)) (.slice (some ⟨bR, oR, none⟩) n' c') (.pointer (some ⟨bR, oR, none⟩)) [.int .i64 r.kd, .int .i64 r.a, .int .i64 r.b, .int .i64 r.c, .slice As ns cs] xs 3 (X 55) w1 := hdep 3 (by decide +kernel)
                rw [rD_3] at e55
                have e60 : rD WB.heap.size b3 b8 j n' (.slice (some ⟨g9, 0, none⟩) n c9) (.slice (some ⟨bA, off, none⟩) n c) (.pointer (some ⟨bA, off + j, none⟩)) (.slice (some ⟨bR, oR, none⟩) n' c') (.pointer (some ⟨bR, oR, none⟩)) [.int .i64 r.kd, .int .i64 r.a, .int .i64 r.b, .int .i64 r.c, .slice As ns cs] xs 8 (X 60) w1 := hdep 8 (by decide +kernel)
                rw [rD_8] at e60
                obtain ⟨g3, e55, hB3, h3⟩ := e55
                have hlo := hG.size
                have o3 : w1.ownsRow WB.heap.size 33 5 (.slice (some ⟨g3, 0, none⟩) 0 0) 0 [] := ⟨by simp, .inr ⟨g3, 0, #[], rfl, hB3, h3, by omega, by simp only [maxLen]; omega, by simp, by simp⟩⟩
                simp only [opW_def, mixT, e55, e60]
                refine wp_append_lit (P := Try.prog) w1 (.tmp 55) (.tmp 60) 30 rfl WB.heap.size 33 iR _ 5 56 Try.underlying30 INFR.out.1 INFR.out.2.1 INFR.out.2.2.1 INFR.out.2.2.2 rfl (by omega) g3 (by go_simp) o3 _ (some ⟨bR, oR, none⟩) n' c' xs (by go_simp) (RXB.out.below (UB.out.trans hG).below) RC.out.one (by simp only [maxLen]; omega) (by omega) hlo ?_
                intro v' w' ho u
                exact ⟨⟨v', by first | rfl | simp [Act.put], MZ.of_up u, hG.trans u, (show rD WB.heap.size b3 b8 j n' (.slice (some ⟨g9, 0, none⟩) n c9) (.slice (some ⟨bA, off, none⟩) n c) (.pointer (some ⟨bA, off + j, none⟩)) (.slice (some ⟨bR, oR, none⟩) n' c') (.pointer (some ⟨bR, oR, none⟩)) [.int .i64 r.kd, .int .i64 r.a, .int .i64 r.b, .int .i64 r.c, .slice As ns cs] xs 9 _ _ from by first | (rw [rD_9]; exact ho) | rw [rD_9])⟩⟩
              · intro X w1 k1 hG hdep
                simp only [opW_def, mixT]
                go_simp
                exact ⟨⟨_, by first | rfl | simp [Act.put], MZ.of_up (Up.refl _), hG, (show rD WB.heap.size b3 b8 j n' (.slice (some ⟨g9, 0, none⟩) n c9) (.slice (some ⟨bA, off, none⟩) n c) (.pointer (some ⟨bA, off + j, none⟩)) (.slice (some ⟨bR, oR, none⟩) n' c') (.pointer (some ⟨bR, oR, none⟩)) [.int .i64 r.kd, .int .i64 r.a, .int .i64 r.b, .int .i64 r.c, .slice As ns cs] xs 10 _ _ from by first | (rw [rD_10]; exact rfl) | rw [rD_10])⟩⟩
              · intro X w1 k1 hG hdep
                have e62 : rD WB.heap.size b3 b8 j n' (.slice (some ⟨g9, 0, none⟩) n c9) (.slice (some ⟨bA, off, none⟩) n c) (.pointer (some ⟨bA, off + j, none⟩)) (.slice (some ⟨bR, oR, none⟩) n' c') (.pointer (some ⟨bR, oR, none⟩)) [.int .i64 r.kd, .int .i64 r.a, .int .i64 r.b, .int .i64 r.c, .slice As ns cs] xs 10 (X 62) w1 := hdep 10 (by decide +kernel)
                rw [rD_10] at e62
                have p3 := (B3.out.up hG).cell (j := 0) rfl
                simp only [opW_def, mixT, e62]
                go_simp
                exact ⟨⟨_, by first | rfl | simp [Act.put], MZ.of_up (Up.refl _), hG, (show rD WB.heap.size b3 b8 j n' (.slice (some ⟨g9, 0, none⟩) n c9) (.slice (some ⟨bA, off, none⟩) n c) (.pointer (some ⟨bA, off + j, none⟩)) (.slice (some ⟨bR, oR, none⟩) n' c') (.pointer (some ⟨bR, oR, none⟩)) [.int .i64 r.kd, .int .i64 r.a, .int .i64 r.b, .int .i64 r.c, .slice As ns cs] xs 11 _ _ from by first | (rw [rD_11]; exact rfl) | rw [rD_11])⟩⟩
              · intro X w1 k1 hG hdep
                simp only [opW_def, mixT]
                go_simp
                exact ⟨⟨_, by first | rfl | simp [Act.put], MZ.of_up (Up.refl _), hG, (show rD WB.heap.size b3 b8 j n' (.slice (some ⟨g9, 0, none⟩) n c9) (.slice (some ⟨bA, off, none⟩) n c) (.pointer (some ⟨bA, off + j, none⟩)) (.slice (some ⟨bR, oR, none⟩) n' c') (.pointer (some ⟨bR, oR, none⟩)) [.int .i64 r.kd, .int .i64 r.a, .int .i64 r.b, .int .i64 r.c, .slice As ns cs] xs 12 _ _ from by first | (rw [rD_12]; exact rfl) | rw [rD_12])⟩⟩
              · intro X w1 k1 hG hdep
                have e63 : rD WB.heap.size b3 b8 j n' (.slice (some ⟨g9, 0, none⟩) n c9) (.slice (some ⟨bA, off, none⟩) n c) (.pointer (some ⟨bA, off + j, none⟩)) (.slice (some ⟨bR, oR, none⟩) n' c') (.pointer (some ⟨bR, oR, none⟩)) [.int .i64 r.kd, .int .i64 r.a, .int .i64 r.b, .int .i64 r.c, .slice As ns cs] xs 11 (X 63) w1 := hdep 11 (by decide +kernel)
                rw [rD_11] at e63
                have e64 : rD WB.heap.size b3 b8 j n' (.slice (some ⟨g9, 0, none⟩) n c9) (.slice (some ⟨bA, off, none⟩) n c) (.pointer (some ⟨bA, off + j, none⟩)) (.slice (some ⟨bR, oR, none⟩) n' c') (.pointer (some ⟨bR, oR, none⟩)) [.int .i64 r.kd, .int .i64 r.a, .int .i64 r.b, .int .i64 r.c, .slice As ns cs] xs 12 (X 64) w1 := hdep 12 (by decide +kernel)
                rw [rD_12] at e64
                simp only [opW_def, mixT, e63, e64]
                go_simp
                exact ⟨⟨_, by first | rfl | simp [Act.put], MZ.of_up (Up.refl _), hG, (show rD WB.heap.size b3 b8 j n' (.slice (some ⟨g9, 0, none⟩) n c9) (.slice (some ⟨bA, off, none⟩) n c) (.pointer (some ⟨bA, off + j, none⟩)) (.slice (some ⟨bR, oR, none⟩) n' c') (.pointer (some ⟨bR, oR, none⟩)) [.int .i64 r.kd, .int .i64 r.a, .int .i64 r.b, .int .i64 r.c, .slice As ns cs] xs 13 _ _ from by first | (rw [rD_13]; exact rfl) | rw [rD_13])⟩⟩
              · intro X w1 k1 hG hdep
                have e65 : rD WB.heap.size b3 b8 j n' (.slice (some ⟨g9, 0, none⟩) n c9) (.slice (some ⟨bA, off, none⟩) n c) (.pointer (some ⟨bA, off + j, none⟩)) (.slice (some ⟨bR, oR, none⟩) n' c') (.pointer (some ⟨bR, oR, none⟩)) [.int .i64 r.kd, .int .i64 r.a, .int .i64 r.b, .int .i64 r.c, .slice As ns cs] xs 13 (X 65) w1 := hdep 13 (by decide +kernel)
                rw [rD_13] at e65
                have pr := (hG.cells _ _ hbB).trans hrowB
                simp only [opW_def, mixT, e65]
                go_simp
                exact ⟨⟨_, by first | rfl | simp [Act.put], MZ.of_up (Up.refl _), hG, (show rD WB.heap.size b3 b8 j n' (.slice (some ⟨g9, 0, none⟩) n c9) (.slice (some ⟨bA, off, none⟩) n c) (.pointer (some ⟨bA, off + j, none⟩)) (.slice (some ⟨bR, oR, none⟩) n' c') (.pointer (some ⟨bR, oR, none⟩)) [.int .i64 r.kd, .int .i64 r.a, .int .i64 r.b, .int .i64 r.c, .slice As ns cs] xs 14 _ _ from by first | (rw [rD_14]; exact rfl) | rw [rD_14])⟩⟩
              · intro X w1 k1 hG hdep
                have e66 : rD WB.heap.size b3 b8 j n' (.slice (some ⟨g9, 0, none⟩) n c9) (.slice (some ⟨bA, off, none⟩) n c) (.pointer (some ⟨bA, off + j, none⟩)) (.slice (some ⟨bR, oR, none⟩) n' c') (.pointer (some ⟨bR, oR, none⟩)) [.int .i64 r.kd, .int .i64 r.a, .int .i64 r.b, .int .i64 r.c, .slice As ns cs] xs 14 (X 66) w1 := hdep 14 (by decide +kernel)
                rw [rD_14] at e66
                simp only [opW_def, mixT, e66]
                go_simp
                exact ⟨⟨_, by first | rfl | simp [Act.put], MZ.of_up (Up.refl _), hG, (show rD WB.heap.size b3 b8 j n' (.slice (some ⟨g9, 0, none⟩) n c9) (.slice (some ⟨bA, off, none⟩) n c) (.pointer (some ⟨bA, off + j, none⟩)) (.slice (some ⟨bR, oR, none⟩) n' c') (.pointer (some ⟨bR, oR, none⟩)) [.int .i64 r.kd, .int .i64 r.a, .int .i64 r.b, .int .i64 r.c, .slice As ns cs] xs 15 _ _ from by first | (rw [rD_15]; exact rfl) | rw [rD_15])⟩⟩
              · intro X w1 k1 hG hdep
                have e67 : rD WB.heap.size b3 b8 j n' (.slice (some ⟨g9, 0, none⟩) n c9) (.slice (some ⟨bA, off, none⟩) n c) (.pointer (some ⟨bA, off + j, none⟩)) (.slice (some ⟨bR, oR, none⟩) n' c') (.pointer (some ⟨bR, oR, none⟩)) [.int .i64 r.kd, .int .i64 r.a, .int .i64 r.b, .int .i64 r.c, .slice As ns cs] xs 15 (X 67) w1 := hdep 15 (by decide +kernel)
                rw [rD_15] at e67
                have k0 := (hG.cells _ _ hbR).trans hk0
                have k1' := (hG.cells _ _ hbR).trans hk1
                have k2 := (hG.cells _ _ hbR).trans hk2
                have k3 := (hG.cells _ _ hbR).trans hk3
                have k4 := (hG.cells _ _ hbR).trans hk4
                simp only [opW_def, mixT, e67]
                go_simp
                exact ⟨⟨_, by first | rfl | simp [Act.put], MZ.of_up (Up.refl _), hG, (show rD WB.heap.size b3 b8 j n' (.slice (some ⟨g9, 0, none⟩) n c9) (.slice (some ⟨bA, off, none⟩) n c) (.pointer (some ⟨bA, off + j, none⟩)) (.slice (some ⟨bR, oR, none⟩) n' c') (.pointer (some ⟨bR, oR, none⟩)) [.int .i64 r.kd, .int .i64 r.a, .int .i64 r.b, .int .i64 r.c, .slice As ns cs] xs 16 _ _ from by first | (rw [rD_16]; exact rfl) | rw [rD_16])⟩⟩
              · intro X w1 k1 hG hdep
                have e68 : rD WB.heap.size b3 b8 j n' (.slice (some ⟨g9, 0, none⟩) n c9) (.slice (some ⟨bA, off, none⟩) n c) (.pointer (some ⟨bA, off + j, none⟩)) (.slice (some ⟨bR, oR, none⟩) n' c') (.pointer (some ⟨bR, oR, none⟩)) [.int .i64 r.kd, .int .i64 r.a, .int .i64 r.b, .int .i64 r.c, .slice As ns cs] xs 16 (X 68) w1 := hdep 16 (by decide +kernel)
                rw [rD_16] at e68
                have hlo := hG.size
                simp only [opW_def, mixT, e68]
                go_simp
                exact ⟨⟨_, by first | rfl | simp [Act.put], MZ.of_up ((Up.refl _).alloc _), hG.alloc _, (show rD WB.heap.size b3 b8 j n' (.slice (some ⟨g9, 0, none⟩) n c9) (.slice (some ⟨bA, off, none⟩) n c) (.pointer (some ⟨bA, off + j, none⟩)) (.slice (some ⟨bR, oR, none⟩) n' c') (.pointer (some ⟨bR, oR, none⟩)) [.int .i64 r.kd, .int .i64 r.a, .int .i64 r.b, .int .i64 r.c, .slice As ns cs] xs 17 _ _ from by first | (rw [rD_17]; exact ⟨_, rfl, hlo, heap_alloc_new _ _⟩) | rw [rD_17])⟩⟩
              · intro X w1 k1 hG hdep
                have e61 : rD WB.heap.size b3 b8 j n' (.slice (some ⟨g9, 0, none⟩) n c9) (.slice (some ⟨bA, off, none⟩) n c) (.pointer (some ⟨bA, off + j, none⟩)) (.slice (some ⟨bR, oR, none⟩) n' c') (.pointer (some ⟨bR, oR, none⟩)) [.int .i64 r.kd, .int .i64 r.a, .int .i64 r.b, .int .i64 r.c, .slice As ns cs] xs 9 (X 61) w1 := hdep 9 (by decide +kernel)
                rw [rD_9] at e61
                have e69 : rD WB.heap.size b3 b8 j n' (.slice (some ⟨g9, 0, none⟩) n c9) (.slice (some ⟨bA, off, none⟩) n c) (.pointer (some ⟨bA, off + j, none⟩)) (.slice (some ⟨bR, oR, none⟩) n' c') (.pointer (some ⟨bR, oR, none⟩)) [.int .i64 r.kd, .int .i64 r.a, .int .i64 r.b, .int .i64 r.c, .slice As ns cs] xs 17 (X 69) w1 := hdep 17 (by decide +kernel)
                rw [rD_17] at e69
                obtain ⟨g17, e69, hB17, h17⟩ := e69
                have hlo := hG.size
                have r17 := part_reads h17 rfl
                simp only [opW_def, mixT, e69]
                refine wp_append_mz (P := Try.prog) (.tmp 61) (.tmp 69) 30 rfl iR _ 56 Try.underlying30 INFR.out.1 INFR.out.2.1 INFR.out.2.2.1 INFR.out.2.2.2 rfl (X 61) xs (by omega) (by go_simp) e61 _ (some ⟨g17, 0, none⟩) 1 (by go_simp) r17 HONE.out (by simp only [maxLen]; omega) (by omega) hlo ?_
                intro v' w' ho u
                exact ⟨⟨v', by first | rfl | simp [Act.put], u, u.up hG, (show rD WB.heap.size b3 b8 j n' (.slice (some ⟨g9, 0, none⟩) n c9) (.slice (some ⟨bA, off, none⟩) n c) (.pointer (some ⟨bA, off + j, none⟩)) (.slice (some ⟨bR, oR, none⟩) n' c') (.pointer (some ⟨bR, oR, none⟩)) [.int .i64 r.kd, .int .i64 r.a, .int .i64 r.b, .int .i64 r.c, .slice As ns cs] xs 18 _ _ from by first | (rw [rD_18]; exact ho) | rw [rD_18])⟩⟩
            · intro X w1 hG hR
              have e53 : rD WB.heap.size b3 b8 j n' (.slice (some ⟨g9, 0, none⟩) n c9) (.slice (some ⟨bA, off, none⟩) n c) (.pointer (some ⟨bA, off + j, none⟩)) (.slice (some ⟨bR, oR, none⟩) n' c') (.pointer (some ⟨bR, oR, none⟩)) [.int .i64 r.kd, .int .i64 r.a, .int .i64 r.b, .int .i64 r.c, .slice As ns cs] xs 1 (X 53) w1 := hR 1 (by omega)
              rw [rD_1] at e53
              have e54 : rD WB.heap.size b3 b8 j n' (.slice (some ⟨g9, 0, none⟩) n c9) (.slice (some ⟨bA, off, none⟩) n c) (.pointer (some ⟨bA, off + j, none⟩)) (.slice (some ⟨bR, oR, none⟩) n' c') (.pointer (some ⟨bR, oR, none⟩)) [.int .i64 r.kd, .int .i64 r.a, .int .i64 r.b, .int .i64 r.c, .slice As ns cs] xs 2 (X 54) w1 := hR 2 (by omega)
              rw [rD_2] at e54
              have e70 : rD WB.heap.size b3 b8 j n' (.slice (some ⟨g9, 0, none⟩) n c9) (.slice (some ⟨bA, off, none⟩) n c) (.pointer (some ⟨bA, off + j, none⟩)) (.slice (some ⟨bR, oR, none⟩) n' c') (.pointer (some ⟨bR, oR, none⟩)) [.int .i64 r.kd, .int .i64 r.a, .int .i64 r.b, .int .i64 r.c, .slice As ns cs] xs 18 (X 70) w1 := hR 18 (by omega)
              rw [rD_18] at e70
              have h9lt := hG.size
              obtain ⟨g7, c7, e70v, hB7, hl7⟩ := e70.form (by omega)
              have o9 := own_blk O9.out (hG.below.block g9 h9w)
              obtain ⟨cur, bl9, hcs, hcur⟩ := own_cur o9
              obtain ⟨old, p9⟩ := bl9.some_ rfl (show j < cur.size by omega)
              have f9 := bl9.frozen j
              have h79 : g7 ≠ g9 := by omega
              rw [e70v] at e70
              have o7 := own_blk (w' := w1.setCell ⟨g9, j, none⟩ (.slice (some ⟨g7, 0, none⟩) (n' + 1) c7)) e70 (Below.heap_setCell w1 ⟨g9, j, none⟩ (.slice (some ⟨g7, 0, none⟩) (n' + 1) c7) g7 h79)
              have hU8 := (UB.out.trans hG).setCell (p := ⟨g9, j, none⟩) hg9W (.slice (some ⟨g7, 0, none⟩) (n' + 1) c7)
              have hRR := rules_of_own (((RC.out.up hU8).snoc (by omega))) (by rw [htk.out]; exact o7)
              have MVS := Lib.hid (MdlV.mk (m := ⟨m.rules.set j ((r :: rs) ++ [r]), m.starts, m.til⟩) (rulz_set RN.out MV1.out.rules.1 MV1.out.rules.2.1 o9 hlt hU8 hRR) ((MV1.out.up (U.out.trans hU8)).starts) MV1.out.big)
              have US := Lib.hid hU8
              have B8S := Lib.hid ((B8.out.up hG).far (b' := g9) j (.slice (some ⟨g7, 0, none⟩) (n' + 1) c7) h9b.symm)
              clear o9 hcur hU8 hRR o7 e70 hR
              simp only [mixT, e53, e54, e70v]
              refine mix_go rfl (by rfl) (fun K hK => ?_)
              go_simp
              refine hK _ _ ?_
              clear hK K
              refine mix_go rfl (by rfl) (fun K hK => ?_)
              go_simp
              refine hK _ _ ?_
              clear hK K
              refine mix_nil ?_
              clear p9 f9 e53 e54 e70v bl9
              generalize w1.setCell ⟨g9, j, none⟩ (.slice (some ⟨g7, 0, none⟩) (n' + 1) c7) = WS at *
              obtain ⟨x0, x1, x2⟩ := And.intro (B8S.out.cell (j := 0) rfl) (And.intro (B8S.out.cell (j := 1) rfl) (B8S.out.cell (j := 2) rfl))
              have lt8_ := B8S.out.lt
              go_wp2_with fail
              refine (implMdl_any _ n _ B k d ⟨m.rules.set j ((r :: rs) ++ [r]), m.starts, m.til⟩ _ MVS.out).mono ?_
              rintro x wC ⟨rfl, uC⟩
              rw [mdlB_twice (i := j) (r := r) (rs := rs) (by rw [List.length_set, MV1.out.rules.1]; exact hlt) (by simp [List.getD, MV1.out.rules.1, hlt])]
              have US := Lib.hid (US.out.trans uC)
              clear x0 x1 x2 lt8_ uC
              go_wp2_with fail
              go_roundw
              case rel => exact ⟨j + 1, by go_num, by omega, US.out⟩
              case measure => simp [intOf]; omega
            -- end19
        · have lt1 : ¬ (j : Int) < n := by omega
          clear ur
          obtain ⟨x0, x1, x2⟩ := And.intro (B5.out.cell (j := 0) rfl) (And.intro (B5.out.cell (j := 1) rfl) (B5.out.cell (j := 2) rfl))
          have lt5_ := B5.out.lt
          have U := Lib.hid (U.out.trans UR.out)
          go_wp2_with fail
          refine (I2.out _ U.out).mono ?_
          rintro x w10 ⟨rfl, u10⟩
          rw [mdlB_nostart HMB.out]
          have U := Lib.hid (U.out.trans u10)
          have B6 := Lib.hid (B6.out.up u10)
          clear m0 m1 m2 lt3_ x0 x1 x2 lt5_ u10
          obtain ⟨x0, x1, x2⟩ := And.intro (B6.out.cell (j := 0) rfl) (And.intro (B6.out.cell (j := 1) rfl) (B6.out.cell (j := 2) rfl))
          have lt6_ := B6.out.lt
          go_wp2_with fail
          refine (implMdl_many _ _ _ _ _ _ _ _ hn4).mono ?_
          rintro x w11 ⟨rfl, u11⟩
          go_wp2
          go_ret
          exact ⟨rfl, u1.trans (U.out.trans u11)⟩

end Go.Proofs.Ytkfjemgelmbcfaa

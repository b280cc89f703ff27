/-
  What spec.CmbLook gives, in one sentence: the least delay of the first component's sends to the second, but at most the end and one, and -1 for a model that is none or a component that does not exist; for every model that lies in memory.
  The least delay, in one sentence: it is at most every delay of a send to the component, it is one of them or the bound, and what a component sends comes later by a delay; no condition.
  What FnLookTight returns, in one sentence: true, with new blocks alone; for every code.
  For every code the law FnLookTight returns true and leaves its argument as it was; no condition.
-/
import Derived.Test.YtipjcjjjkkaigaaDLLookTight01
import Derived.Test.YtipjcjjjkkaigaaDLLookTight06
import Derived.Test.YtipjcjjjkkaigaaDLLookTight13
import Derived.Test.YtipjcjjjkkaigaaDLLookTight14
import Derived.Test.YtipjcjjjkkaigaaDLLookTight15
import Derived.Test.YtipjcjjjkkaigaaDLLookTight17
import Derived.Test.YtipjcjjjkkaigaaRows
namespace Go.Proofs.Ytipjcjjjkkaigaa
set_option maxRecDepth 100000
open Go.RowKit
set_option maxHeartbeats 4000000 in
theorem l9Look_any (A : Option Addr) (n c : Nat) (B : Option Addr) (k d : Nat) (m : Mdl) (fr to : Int) (w : World) (hM : MdlV w A n B k m) (hm : mdlB m = true) (h0 : 0 ≤ fr) (h1 : fr < m.rules.length) :
    Calls Try.prog 68 #[.agg #[.slice A n c, .slice B k d, .int .i64 m.til], .int .i64 fr, .int .i64 to] w fun x w' => x = .returned (.int .i64 (lkR to (m.til + 1) (m.rules.getD fr.toNat []))) ∧ Up w w' := by
  have few := mdlB_few hm
  have TL := mdlB_til hm
  have hRB := mdlB_row hm fr.toNat (by omega)
  have hLN := hM.rules.1
  obtain ⟨b, off, hA, hb, hc⟩ := hM.rules.2.2 (by omega); subst hA; obtain ⟨A', n', c', cell, hrs⟩ := hc fr.toNat (by omega)
  have HRS := Lib.hid hrs
  have hn3 : n' ≤ 3 := by
    have h := rulesB_len hRB (by omega) (by omega)
    have := hrs.1
    omega
  have TG := Lib.hid (show lkR to (m.til + 1) ((m.rules.getD fr.toNat []).drop 0) = lkR to (m.til + 1) (m.rules.getD fr.toNat []) from rfl)
  have LR := Lib.hid hrs.1
  have CELL := Lib.hid (show w.cell? ⟨b, off + fr.toNat, none⟩ = some (.slice A' n' c') from cell)
  have BLT := Lib.hid hb
  have hfr : fr < n := by omega
  clear hc cell hrs hM few
  generalize m.rules.getD fr.toNat [] = rs at TG LR HRS hRB ⊢
  generalize lkR to (m.til + 1) rs = R at TG ⊢
  clear hm hRB
  generalize m.til = til at *
  obtain ⟨q_, hq_⟩ := Int.eq_ofNat_of_zero_le h0; subst hq_; rw [Int.toNat_natCast] at CELL; clear hLN h1
  have X2 := Lib.hid (Box3.new w (.slice (some ⟨b, off, none⟩) n c) (.slice B k d) (.int .i64 til) 38)
  have U0 := Lib.hid ((Up.refl w).alloc (.cells #[.slice (some ⟨b, off, none⟩) n c, .slice B k d, .int .i64 til] 38))
  have hb' : b < w.heap.size := BLT.out
  have i1 : IntKind.i64.wrap (til + 1) = til + 1 := IntWalk.i64_in _ (by omega)
  have j0 : ¬ (q_ : Int) < 0 := by omega
  obtain ⟨q0, q1, q2⟩ := And.intro X2.out.c0 (And.intro X2.out.c1 X2.out.c2)
  have lt2_ := X2.out.lt
  go_enter Try.func68, Try.ntmps68
  go_wp2; clear q0 q1 q2 lt2_
  have W0 := U0
  go_loopw [7, 8] (fun l i wr => (∃ (q : Nat) (z : Int), q ≤ n' ∧ i = .int .i64 q ∧ l = .int .i64 z ∧ Hid (lkR to z (rs.drop q) = R)) ∧ Up (w.alloc (.cells #[.slice (some ⟨b, off, none⟩) n c, .slice B k d, .int .i64 til] 38)) wr) (fun _ i _ => n' - (intOf i).toNat)
  case atStart => exact ⟨⟨0, til + 1, by omega, rfl, rfl, TG⟩, Up.refl _⟩
  case round =>
    obtain ⟨⟨q, z, hq, rfl, rfl, HT⟩, ur⟩ := hrel; obtain ⟨wo, hwo⟩ : ∃ W, W = wr := ⟨_, rfl⟩; subst hwo
    have UR := Lib.hid (U0.out.trans ur)
    have UR0 := Lib.hid ur
    have x2 := X2.out.up ur
    obtain ⟨q0, q1, q2⟩ := And.intro x2.c0 (And.intro x2.c1 x2.c2)
    have lt2_ := x2.lt
    have X3 := Lib.hid x2
    have cell := (UR.out.cells _ _ BLT.out).trans CELL.out
    have hbr : b < wo.heap.size := by have := UR.out.size; omega
    clear ur x2
    by_cases hlt : q < n'
    · obtain ⟨b2, off2, hA2, hb2, hc2⟩ := (HRS.out.up UR.out).2.2 (by omega)
      subst hA2
      have at2 := hc2 q hlt
      have DR := Lib.hid (lkR_drop to z rs q (by rw [LR.out]; exact hlt))
      clear hc2
      generalize rs.getD q default = r at at2 DR
      obtain ⟨kd, ra, rb, rc, ss⟩ := r; obtain ⟨A3, n3, c3, ⟨r0, r1, r2, r3, r4⟩, hn3', he3⟩ := at2; dsimp only at r0 r1 r2 r3 r4 DR he3
      have HE := Lib.hid he3
      have R4 := Lib.hid r4
      have i4 : (q : Int) < n' := by omega
      have ST := Lib.hid (show lkR to (lkS to z ss) (rs.drop (q + 1)) = R by rw [← HT.out, DR.out])
      have H0 := Lib.hid (show lkS to z (ss.drop 0) = lkS to z ss from rfl)
      generalize lkS to z ss = S at ST H0
      clear he3 HT DR; go_wp2; clear q0 q1 q2 lt2_ r0 r1 r2 r3 r4
      go_loopw [7, 9] (fun l i wj => (∃ (p : Nat) (y : Int), p ≤ n3 ∧ i = .int .i64 p ∧ l = .int .i64 y ∧ Hid (lkS to y (ss.drop p) = S)) ∧ Up wo wj) (fun _ i _ => n3 - (intOf i).toNat)
      case atStart => exact ⟨⟨0, z, by omega, rfl, rfl, H0⟩, Up.refl _⟩
      case round =>
        obtain ⟨⟨p, y, hp, rfl, rfl, HY⟩, uj⟩ := hrel
        have UJ := Lib.hid uj
        have ee := HE.out.up uj
        have x4 := X3.out.up uj
        obtain ⟨q0, q1, q2⟩ := And.intro x4.c0 (And.intro x4.c1 x4.c2)
        have lt2_ := x4.lt
        have cell2 := (uj.cells _ _ hbr).trans cell
        have r4 := (uj.cells _ _ hb2).trans R4.out
        have hbj : b < wr.heap.size := by have := uj.size; omega
        have hb2j : b2 < wr.heap.size := by have := uj.size; omega
        clear uj x4
        by_cases hlp : p < n3
        · obtain ⟨b3, off3, hA3, hb3, hc3⟩ := ee.2 (by omega)
          subst hA3
          have a0 := hc3 p hlp
          have DR := Lib.hid (lkS_drop to y ss p (by rw [ee.1]; exact hlp))
          clear hc3 ee
          generalize ss.getD p default = e at a0 DR
          obtain ⟨et, eto, efr, esq, ekd, edt⟩ := e; unfold EvAt at a0; dsimp only at a0 DR; obtain ⟨p0, p1, p2, p3, p4, p5⟩ := a0
          have i5 : (p : Int) < n3 := by omega
          have i6 : IntKind.i64.wrap ((p : Int) + 1) = (p : Int) + 1 := IntWalk.i64_in _ (by omega)
          have UX := Lib.hid (UJ.out.alloc (.cells #[.int .i64 et, .int .i64 eto, .int .i64 efr, .int .i64 esq, .int .i64 ekd, .int .i64 edt] 72))
          by_cases hto : et = to
          · have HZ := Lib.hid (show lkS to (min y eto) (ss.drop (p + 1)) = S by rw [← HY.out, DR.out, if_pos hto])
            subst hto
            by_cases hmin : y ≤ eto
            · rw [show min y eto = y by omega] at HZ
              go_wp2
              go_roundw
              case rel => exact ⟨⟨p + 1, y, by omega, by go_num, rfl, HZ⟩, UX.out⟩
              case measure => simp [intOf]; omega
            · rw [show min y eto = eto by omega] at HZ
              go_wp2
              go_roundw
              case rel => exact ⟨⟨p + 1, eto, by omega, by go_num, by rw [if_pos (by omega)], HZ⟩, UX.out⟩
              case measure => simp [intOf]; omega
          · have HZ := Lib.hid (show lkS to y (ss.drop (p + 1)) = S by rw [← HY.out, DR.out, if_neg hto])
            go_wp2
            go_roundw
            case rel => exact ⟨⟨p + 1, y, by omega, by go_num, rfl, HZ⟩, UX.out⟩
            case measure => simp [intOf]; omega
        · have EN := lkS_end to y ss p (by rw [ee.1]; omega)
          rw [HY.out] at EN; subst EN
          have i5 : ¬ (p : Int) < n3 := by omega
          have i6 : IntKind.i64.wrap ((q : Int) + 1) = (q : Int) + 1 := IntWalk.i64_in _ (by omega)
          go_wp2
          go_roundw
          case rel => exact ⟨⟨q + 1, S, by omega, by go_num, rfl, ST⟩, UR0.out.trans UJ.out⟩
          case measure => simp [intOf]; omega
    · have EN := lkR_end to z rs q (by rw [LR.out]; omega)
      rw [HT.out] at EN; subst EN
      have i4 : ¬ (q : Int) < n' := by omega
      go_wp2; go_ret
      exact ⟨rfl, UR.out⟩
theorem l1In_upL (v lo hi : Int) (W : World) : Calls Try.prog 41 #[.int .i64 v, .int .i64 lo, .int .i64 hi] W fun x w' => x = .returned (.bool (inB v lo hi)) ∧ w' = W :=
  (l1In_any v lo hi W).mono (by rintro x w' ⟨rfl, rfl⟩; exact ⟨rfl, rfl⟩)
set_option maxHeartbeats 4000000 in
theorem specLook_any (A : Option Addr) (n c : Nat) (B : Option Addr) (k d : Nat) (m : Mdl) (fr to : Int) (w : World) (h : MdlV w A n B k m) :
    Calls Try.prog 24 #[.agg #[.slice A n c, .slice B k d, .int .i64 m.til], .int .i64 fr, .int .i64 to] w fun x w' => x = .returned (.int .i64 (lookV m fr to)) ∧ Up w w' := by
  have CM := Lib.hid (fun W (u : Up w W) => specMdl_any A n c B k d m W (h.up u))
  have CK := Lib.hid (fun W (u : Up w W) hm h0 h1 => l9Look_any A n c B k d m fr to W (h.up u) hm h0 h1)
  have FEW := Lib.hid (fun hm => mdlB_few (m := m) hm)
  have NL := Lib.hid h.rules.1
  have X2 := Lib.hid (Box3.new w (.slice A n c) (.slice B k d) (.int .i64 m.til) 38)
  have U0 := Lib.hid ((Up.refl w).alloc (.cells #[.slice A n c, .slice B k d, .int .i64 m.til] 38))
  have LV := Lib.hid (show lookV m fr to = if mdlB m && inB fr 0 ((n : Int) - 1) && inB to 0 ((n : Int) - 1) then lkR to (m.til + 1) (m.rules.getD fr.toNat []) else -1 by rw [← NL.out]; rfl)
  rw [NL.out] at CK FEW; clear h NL
  generalize mdlB m = bm at CM CK FEW LV
  go_enter Try.func24, Try.ntmps24
  go_wp2_with fail
  refine (CM.out _ U0.out).mono ?_; rintro x w1 ⟨rfl, u1⟩
  have U1 := Lib.hid (U0.out.trans u1)
  have x2 := X2.out.up u1
  clear u1 CM
  cases bm
  · go_wp2
    go_ret
    exact ⟨congrArg (fun z => Ending.returned (.int .i64 z)) LV.out.symm, U1.out⟩
  · have few := FEW.out rfl
    obtain ⟨q0, q1, q2⟩ := And.intro x2.c0 (And.intro x2.c1 x2.c2)
    have lt2_ := x2.lt
    have IN := Lib.hid (inB_iff (n := fr) (lo := 0) (hi := (n : Int) - 1))
    have CF := Lib.hid (fun W => l1In_upL fr 0 ((n : Int) - 1) W)
    have CT := Lib.hid (fun W => l1In_upL to 0 ((n : Int) - 1) W)
    have i1 : IntKind.i64.wrap ((n : Int) - 1) = (n : Int) - 1 := IntWalk.i64_in _ (by omega)
    generalize inB to 0 ((n : Int) - 1) = b2 at LV CT
    generalize inB fr 0 ((n : Int) - 1) = b1 at LV CF IN
    generalize hR : lkR to (m.til + 1) (m.rules.getD fr.toNat []) = R at LV CK
    cases b1
    · go_wp2_with fail
      refine (CF.out _).mono ?_; rintro x w2 ⟨rfl, rfl⟩; go_wp2; go_ret
      exact ⟨congrArg (fun z => Ending.returned (.int .i64 z)) LV.out.symm, U1.out⟩
    · have INF := Lib.hid (IN.out.1 rfl)
      cases b2
      · go_wp2_with fail
        refine (CF.out _).mono ?_; rintro x w2 ⟨rfl, rfl⟩
        go_wp2_with fail
        refine (CT.out _).mono ?_; rintro x w2 ⟨rfl, rfl⟩; go_wp2; go_ret
        exact ⟨congrArg (fun z => Ending.returned (.int .i64 z)) LV.out.symm, U1.out⟩
      · go_wp2_with fail
        refine (CF.out _).mono ?_; rintro x w2 ⟨rfl, rfl⟩
        go_wp2_with fail
        refine (CT.out _).mono ?_; rintro x w2 ⟨rfl, rfl⟩
        go_wp2_with fail
        refine (CK.out _ U1.out trivial (by have := INF.out; omega) (by have := INF.out; omega)).mono ?_; rintro x w2 ⟨rfl, u2⟩; go_wp2; go_ret
        exact ⟨congrArg (fun z => Ending.returned (.int .i64 z)) LV.out.symm, U1.out.trans u2⟩
end Go.Proofs.Ytipjcjjjkkaigaa

namespace Go.Proofs.Ytipjcjjjkkaigaa
set_option maxRecDepth 100000
open Go.RowKit
theorem lkS_att (to : Int) : ∀ (es : List Evt) (l : Int), lkS to l es = l ∨ ∃ j, j < es.length ∧ (es.getD j default).t = to ∧ (es.getD j default).to = lkS to l es
  | [], l => .inl rfl
  | s :: ss, l => by
    rw [lkS]
    by_cases h : s.t = to
    · rw [if_pos h]
      rcases lkS_att to ss (min l s.to) with e | ⟨j, h1, h2, h3⟩
      · by_cases hm : l ≤ s.to
        · exact .inl (by rw [e]; omega)
        · exact .inr ⟨0, by simp, by simpa using h, by rw [e]; simp only [List.getD_cons_zero]; omega⟩
      · exact .inr ⟨j + 1, by simpa using h1, by simpa using h2, by simpa using h3⟩
    · rw [if_neg h]
      rcases lkS_att to ss l with e | ⟨j, h1, h2, h3⟩
      · exact .inl e
      · exact .inr ⟨j + 1, by simpa using h1, by simpa using h2, by simpa using h3⟩
theorem lkR_att (to : Int) : ∀ (rs : List Rule) (l : Int), lkR to l rs = l ∨ ∃ k, k < rs.length ∧ ∃ j, j < (rs.getD k default).sends.length ∧ ((rs.getD k default).sends.getD j default).t = to ∧ ((rs.getD k default).sends.getD j default).to = lkR to l rs
  | [], l => .inl rfl
  | r :: rs, l => by
    rw [lkR]
    rcases lkR_att to rs (lkS to l r.sends) with e | ⟨k, h0, j, h1, h2, h3⟩
    · rcases lkS_att to r.sends l with e' | ⟨j, h1, h2, h3⟩
      · exact .inl (e.trans e')
      · exact .inr ⟨0, by simp, j, by simpa using h1, by simpa using h2, by rw [e]; simpa using h3⟩
    · exact .inr ⟨k + 1, by simpa using h0, j, by simpa using h1, by simpa using h2, by simpa using h3⟩
end Go.Proofs.Ytipjcjjjkkaigaa

namespace Go.Proofs.Ytipjcjjjkkaigaa
set_option maxRecDepth 100000
open Go.RowKit
/-- A lookahead that is at most the end is a delay. -/
theorem look_tight {m : Mdl} {fr to z : Int} (h : lookV m fr to = z) (h0 : 0 ≤ z) (h1 : z ≤ m.til) :
    mdlB m = true ∧ (0 ≤ fr ∧ fr < m.rules.length) ∧ ∃ k, k < (m.rules.getD fr.toNat []).length ∧ ∃ j, j < ((m.rules.getD fr.toNat []).getD k default).sends.length ∧
      (((m.rules.getD fr.toNat []).getD k default).sends.getD j default).t = to ∧ (((m.rules.getD fr.toNat []).getD k default).sends.getD j default).to = z := by
  unfold lookV at h
  split at h
  · rename_i hc
    simp only [Bool.and_eq_true, inB_iff] at hc; refine ⟨hc.1.1, by omega, ?_⟩
    rcases lkR_att to (m.rules.getD fr.toNat []) (m.til + 1) with e | e
    · omega
    · rw [h] at e
      exact e
  · omega
set_option maxHeartbeats 4000000 in
theorem walkLookTight {w : World} (A : Option Addr) (n cap : Nat) (hc : n ≤ cap) (hmax : cap ≤ 9223372036854775807) (hB : Bys w A n w.heap.size) :
    Calls Try.prog 7 #[.slice A n cap] w fun x w' => x = .returned (.bool true) ∧ Up w w' := by
  have HB := Lib.hid hB
  clear hB
  by_cases h : 1048576 < n
  · have h' : (1048576 : Int) < n := by omega
    go_enter Try.func7, Try.ntmps7
    go_wp2; go_ret
    exact ⟨rfl, Up.refl _⟩
  · have h' : ¬ (1048576 : Int) < n := by omega
    go_enter Try.func7, Try.ntmps7
    go_wp2_with fail
    refine (drawLook_any A n cap _ hc hmax HB.out).mono ?_; rintro x w1 ⟨A, n, c, B, k, d, m, fr, to, rfl, MV, ⟨hn, hnc, hcm⟩, ⟨⟨hf0, hf1⟩, ht0, ht1⟩, u1⟩
    have MV1 := Lib.hid MV
    have CI := Lib.hid (fun W (u : Up w1 W) => implLook_any A n c B k d m fr to W (MV.up u))
    have CP := Lib.hid (fun W (u : Up w1 W) => specLook_any A n c B k d m fr to W (MV.up u))
    have LT := Lib.hid (fun z (hz : lookV m fr to = z) => look_tight hz)
    have TL := Lib.hid (fun h => mdlB_til (m := m) h)
    generalize hz : lookV m fr to = z at CI CP
    have bne0 : (z != z) = false := by simp
    have B3 := Lib.hid (Blk.new w1 #[.slice A n c, .slice B k d, .int .i64 m.til] 38)
    have U3 := Lib.hid ((Up.refl w1).alloc (.cells #[.slice A n c, .slice B k d, .int .i64 m.til] 38))
    obtain ⟨m0, m1, m2⟩ := And.intro (B3.out.cell (j := 0) rfl) (And.intro (B3.out.cell (j := 1) rfl) (B3.out.cell (j := 2) rfl))
    have lt3_ := B3.out.lt
    clear MV
    go_wp2_with fail
    generalize w1.alloc (.cells #[.slice A n c, .slice B k d, .int .i64 m.til] 38) = W3 at *
    generalize hb3 : w1.heap.size = b3 at *
    clear hb3; refine (CI.out _ U3.out).mono ?_; rintro x w4 ⟨rfl, u4⟩
    have U4 := Lib.hid (U3.out.trans u4)
    have B4 := Lib.hid (B3.out.up u4)
    clear m0 m1 m2 lt3_ u4; obtain ⟨m0, m1, m2⟩ := And.intro (B4.out.cell (j := 0) rfl) (And.intro (B4.out.cell (j := 1) rfl) (B4.out.cell (j := 2) rfl))
    have lt3_ := B4.out.lt
    go_wp2_with fail
    refine (CP.out _ U4.out).mono ?_; rintro x w5 ⟨rfl, u5⟩
    have U5 := Lib.hid (U4.out.trans u5)
    have B5 := Lib.hid (B4.out.up u5)
    clear m0 m1 m2 lt3_ u5; obtain ⟨m0, m1, m2⟩ := And.intro (B5.out.cell (j := 0) rfl) (And.intro (B5.out.cell (j := 1) rfl) (B5.out.cell (j := 2) rfl))
    have lt3_ := B5.out.lt
    by_cases hz0 : z < 0
    · go_wp2
      go_ret
      exact ⟨rfl, u1.trans U5.out⟩
    · by_cases hz1 : m.til < z
      · go_wp2
        go_ret
        exact ⟨rfl, u1.trans U5.out⟩
      · obtain ⟨hmb, ⟨hfr0, hfr1⟩, k0, hk0, j0, hj0, hat⟩ := LT.out z hz (by omega) (by omega)
        have AT := Lib.hid hat
        have few := mdlB_few hmb
        have hRB := mdlB_row hmb fr.toNat (by omega)
        have hLN := MV1.out.rules.1
        obtain ⟨b, off, hA, hb, hcc⟩ := (MV1.out.up U5.out).rules.2.2 (by omega); subst hA; obtain ⟨A', n', c', cell, hrs⟩ := hcc fr.toNat (by omega)
        have hn3 : n' ≤ 3 := by
          have h := rulesB_len hRB (by omega) (by omega)
          have := hrs.1
          omega
        have HRS := Lib.hid hrs
        have LR := Lib.hid hrs.1
        have CELL := Lib.hid cell
        have BLT := Lib.hid hb
        have hfr : fr < n := by omega
        have TR := Lib.hid (TL.out hmb)
        clear hcc cell hrs few hz LT TL CI CP
        generalize m.rules.getD fr.toNat [] = rs at hk0 hj0 AT LR HRS hRB
        obtain ⟨q_, hq_⟩ := Int.eq_ofNat_of_zero_le hfr0; subst hq_; rw [Int.toNat_natCast] at CELL; clear hLN hfr1 hat
        have j0' : ¬ (q_ : Int) < 0 := by omega
        clear MV1 hmb hRB; go_wp2; clear m0 m1 m2 lt3_
        go_loopw [7] (fun i wr => (∃ q : Nat, q ≤ k0 ∧ i = .int .i64 q) ∧ Up w5 wr) (fun i _ => n' - (intOf i).toNat)
        case atStart => exact ⟨⟨0, by omega, rfl⟩, Up.refl _⟩
        case round =>
          obtain ⟨⟨q, hq, rfl⟩, ur⟩ := hrel; obtain ⟨wo, hwo⟩ : ∃ W, W = wr := ⟨_, rfl⟩; subst hwo
          have UR := Lib.hid ur
          have X3 := Lib.hid (B5.out.up ur)
          obtain ⟨m0, m1, m2⟩ := And.intro (X3.out.cell (j := 0) rfl) (And.intro (X3.out.cell (j := 1) rfl) (X3.out.cell (j := 2) rfl))
          have lt3_ := X3.out.lt
          have cell := (ur.cells _ _ BLT.out).trans CELL.out
          have hbr : b < wo.heap.size := by have := ur.size; have := BLT.out; omega
          clear ur
          have hlt : q < n' := by have := LR.out; omega
          obtain ⟨b2, off2, hA2, hb2, hc2⟩ := (HRS.out.up UR.out).2.2 (by omega); subst hA2
          have at2 := hc2 q hlt
          have TS := Lib.hid (fun (e : q = k0) => (show j0 < (rs.getD q default).sends.length ∧ ((rs.getD q default).sends.getD j0 default).t = to ∧ ((rs.getD q default).sends.getD j0 default).to = z by rw [e]; exact ⟨hj0, AT.out⟩))
          clear hc2
          generalize rs.getD q default = r at at2 TS
          obtain ⟨kd, ra, rb, rc, ss⟩ := r; obtain ⟨A3, n3, c3, ⟨r0, r1, r2, r3, r4⟩, hn3', he3⟩ := at2; dsimp only at r0 r1 r2 r3 r4 TS he3
          have HE := Lib.hid he3
          have R4 := Lib.hid r4
          have i4 : (q : Int) < n' := by omega
          clear he3; go_wp2; clear m0 m1 m2 lt3_ r0 r1 r2 r3 r4
          go_loopw [8] (fun i wj => (∃ p : Nat, p ≤ n3 ∧ i = .int .i64 p ∧ (q = k0 → p ≤ j0)) ∧ Up wo wj) (fun i _ => n3 - (intOf i).toNat)
          case atStart => exact ⟨⟨0, by omega, rfl, fun _ => by omega⟩, Up.refl _⟩
          case round =>
            obtain ⟨⟨p, hp, rfl, hpj⟩, uj⟩ := hrel
            have UJ := Lib.hid uj
            have ee := HE.out.up uj
            have x4 := X3.out.up uj
            obtain ⟨m0, m1, m2⟩ := And.intro (x4.cell (j := 0) rfl) (And.intro (x4.cell (j := 1) rfl) (x4.cell (j := 2) rfl))
            have lt3_ := x4.lt
            have cell2 := (uj.cells _ _ hbr).trans cell
            have r4 := (uj.cells _ _ hb2).trans R4.out
            have hbj : b < wr.heap.size := by have := uj.size; omega
            have hb2j : b2 < wr.heap.size := by have := uj.size; omega
            clear uj x4
            by_cases hlp : p < n3
            · obtain ⟨b3', off3, hA3, hb3, hc3⟩ := ee.2 (by omega)
              subst hA3
              have a0 := hc3 p hlp
              have TP := Lib.hid (fun (e : q = k0) (e2 : p = j0) => (show (ss.getD p default).t = to ∧ (ss.getD p default).to = z by rw [e2]; exact (TS.out e).2))
              clear hc3 ee
              generalize ss.getD p default = e at a0 TP
              obtain ⟨et, eto, efr, esq, ekd, edt⟩ := e; unfold EvAt at a0; dsimp only at a0 TP; obtain ⟨p0, p1, p2, p3, p4, p5⟩ := a0
              have i5 : (p : Int) < n3 := by omega
              have i6 : IntKind.i64.wrap ((p : Int) + 1) = (p : Int) + 1 := IntWalk.i64_in _ (by omega)
              by_cases hto : et = to
              · by_cases hze : eto = z
                · subst hto hze
                  go_wp2; go_ret
                  exact ⟨rfl, u1.trans (U5.out.trans (UR.out.trans UJ.out))⟩
                · have NX := Lib.hid (show q = k0 → p + 1 ≤ j0 from fun e => by
                    have := hpj e
                    rcases Nat.lt_or_ge p j0 with h1 | h1
                    · omega
                    · exact absurd (TP.out e (by omega)).2 hze)
                  have bz : (eto == z) = false := by simp [hze]
                  subst hto; go_wp2
                  go_roundw
                  case rel => exact ⟨⟨p + 1, by omega, by go_num, NX.out⟩, UJ.out⟩
                  case measure => simp [intOf]; omega
              · have NX := Lib.hid (show q = k0 → p + 1 ≤ j0 from fun e => by
                  have := hpj e
                  rcases Nat.lt_or_ge p j0 with h1 | h1
                  · omega
                  · exact absurd (TP.out e (by omega)).1 hto)
                go_wp2
                go_roundw
                case rel => exact ⟨⟨p + 1, by omega, by go_num, NX.out⟩, UJ.out⟩
                case measure => simp [intOf]; omega
            · have hne : q ≠ k0 := fun e => by
                have h1 := hpj e
                have h2 := (TS.out e).1
                have h3 := HE.out.1
                omega
              have i5 : ¬ (p : Int) < n3 := by omega
              have i6 : IntKind.i64.wrap ((q : Int) + 1) = (q : Int) + 1 := IntWalk.i64_in _ (by omega)
              go_wp2
              go_roundw
              case rel => exact ⟨⟨q + 1, by omega, by go_num⟩, UR.out.trans UJ.out⟩
              case measure => simp [intOf]; omega
end Go.Proofs.Ytipjcjjjkkaigaa

namespace Go.Proofs.Ytipjcjjjkkaigaa.fnLookTight
set_option maxRecDepth 100000
open Go.ChangeShapes Go.WideShapes Go.ChangeAt Go.RowKit Go.Joins Go.Deep
set_option linter.unusedVariables false
set_option maxRecDepth 100000 in
theorem lifted (os : Os) (started : os.Started) (H : Type) (enc : TypeId × Value → H) :
    ReturnsInHanded {} Try.checked os 7 .any (Rows.fnLookTightSpec.pre6 enc Try.prog Try.f7 Rows.fnLookTightRow.domain false) (Rows.fnLookTightSpec.post enc Try.prog Try.f7 false true false false) := by
  refine returnsInHanded_of_change (C := Try.checked) own started (by kernel_rfl) Try.func7
    (ChangeSpec.witness6 (enc := enc) (C := Try.checked) false ⟨#[], #[.slice none 0 0], []⟩ 8 (by kernel_rfl) (by kernel_rfl) (by kernel_rfl) (by kernel_rfl)) ?_
  intro W base args ds gs before hval0 hW hcnd _
  have hval : ∀ (j : Nat) t v, Try.f7.params[j]? = some t → args[j]? = some v → Value.okWide Try.prog W .any base t v := hval0
  have hW' := hW
  obtain ⟨p, q, hA0, hV, rfl, hfz, hnd⟩ := hW
  have hA : DataW.TrodAll enc Try.prog W 0 (fun _ => true) true Try.f7.params.toList args.toList ds p := hA0
  rw [Try.params7] at hA hval; obtain ⟨v0, vs0, d0, ds0, p0, q0, hargs, rfl, rfl, h0, r0⟩ := trodAll_cons hA; obtain ⟨rfl, rfl, rfl⟩ := trodAll_nil r0
  obtain rfl : args = #[v0] := by cases args; simp_all
  obtain ⟨rfl, rfl⟩ := trodVars_none hV
  have k0 := h0
  have lt0 : ∀ x ∈ p0, x.block < W.heap.size := by obtain ⟨m, hm⟩ := k0; exact DataW.trod_lt m _ _ _ hm
  obtain ⟨A0, len0, cap0, rfl⟩ := okWide_slice Try.underlying45 (hval 0 45 v0 rfl rfl)
  have w0 := open_bytes h0
  clear hA0 hval0
  refine (walkLookTight A0 len0 cap0 w0.2.1 w0.2.2 w0.1).mono fun e W' ⟨he, bel⟩ => ?_
  subst he
  exact ⟨_, rfl, _, _, _, [], _, [], hW', trodAll_mk1 (shut_bool Try.underlying4 _), (trodAll_cons_mk (Below.trod laidOut (by kernel_rfl) (of_decide_eq_true (by kernel_rfl)) k0 bel lt0) trodAll_mk0), rfl, bel.frame _, fun h => by cases h⟩
theorem over : Rows.fnLookTightRow.holds Try.pinned (OpenSpec.ofChange Rows.fnLookTightSpec) :=
  OpenClaim.holds_of_wide 7 Try.f7 rfl rfl rfl rfl rfl rfl rfl ⟨rfl, rfl, rfl, rfl, rfl⟩ rfl rfl rfl rfl rfl (by kernel_rfl) Try.func7 (by kernel_rfl)
    (of_decide_eq_true (by kernel_rfl)) (by unfold Func.isWrapper; first | (rw [if_pos (by decide +kernel)]; kernel_rfl) | (rw [if_neg (by decide +kernel)]; exact ⟨rfl, rfl⟩))
    (fun os started H enc _ => lifted os started H enc)
theorem proved : Rows.FnLookTightSaid := over
end Go.Proofs.Ytipjcjjjkkaigaa.fnLookTight

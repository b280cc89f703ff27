/-
  What l4Sends returns, in one sentence: whether the items are of these events, with numbers below; for every two lists that lie in memory.
  Lists of items compared, marked and held, in one sentence: what eqHstItemS, markHstItemS and heldHstItemS return, and what those of hosts do to empty lists; for every list that lies in memory.
-/
import Derived.Test.YtlkmhmiamdbhcabGreatDLElst01
import Derived.Test.YtlkmhmiamdbhcabGreatDLElst02
import Derived.Test.YtlkmhmiamdbhcabGreatDLElst03
import Derived.Test.YtlkmhmiamdbhcabGreatDLElst10
import Derived.Test.YtlkmhmiamdbhcabGreatDLElst13
namespace Go.Proofs.YtlkmhmiamdbhcabGreat
set_option maxRecDepth 100000
open Go.RowKit
theorem eqB_dec (a b : Evt) : decide (a = b) = eqB a b := by
  obtain ⟨a0, a1, a2, a3, a4, a5⟩ := a; obtain ⟨b0, b1, b2, b3, b4, b5⟩ := b; rw [Bool.eq_iff_iff, eqB_iff]; simp
set_option maxHeartbeats 8000000 in
theorem specSends_any (A : Option Addr) (l e : Nat) (B : Option Addr) (q f : Nat) (xs : List Rec) (es : List Evt) (ids : Int) (w : World) (hl : l ≤ 1000000000) (hq : q ≤ 1000000000) (hi : 0 ≤ ids ∧ ids ≤ 9999) (hE : Recs w A l xs) (hF : Evs w B q es) :
    Calls Tryz.prog 90 #[.slice A l e, .slice B q f, .int .i64 ids] w fun x w' => x = .returned (.bool (sameL ids xs es)) ∧ Up w w' := by
  have HE := Lib.hid hE
  have HF := Lib.hid hF
  have LE := Lib.hid hE.1
  have LF := Lib.hid hF.1
  have CW := Lib.hid (fun z W => l1In_any z 0 (ids - 1) W)
  have CN := Lib.hid (fun a b W => neq_evt a b W)
  have SD := Lib.hid (fun j h1 h2 => sameL_drop ids xs es j h1 h2)
  have SE := Lib.hid (fun j h1 h2 => sameL_end ids xs es j h1 h2)
  have SL := Lib.hid (fun j h => sameL_len ids (xs.drop j) (es.drop j) h)
  have H0 := Lib.hid (show sameL ids (xs.drop 0) (es.drop 0) = sameL ids xs es from rfl)
  generalize sameL ids xs es = res at H0 ⊢
  have gd := guard_evt
  have iw : IntKind.i64.wrap (ids - 1) = ids - 1 := IntWalk.i64_in _ (by omega)
  clear hE hF hi
  go_enter Tryz.func90, Tryz.ntmps90
  go_wp2
  go_loopw [7] (fun i wr => (∃ j : Nat, j ≤ l ∧ j ≤ q ∧ i = .int .i64 j ∧ Hid (sameL ids (xs.drop j) (es.drop j) = res)) ∧ Up w wr) (fun i _ => l - (intOf i).toNat)
  case atStart => exact ⟨⟨0, by omega, by omega, rfl, H0⟩, Up.refl _⟩
  case round =>
    obtain ⟨⟨j, hj, hjq, rfl, HR⟩, ur⟩ := hrel
    have UR := Lib.hid ur
    have i6 : IntKind.i64.wrap ((j : Int) + 1) = (j : Int) + 1 := IntWalk.i64_in _ (by omega)
    by_cases hlt : j < l
    · have i4 : (j : Int) < l := by omega
      obtain ⟨b, off, hA, hb, hc⟩ := (HE.out.up ur).2 (by omega); subst hA
      have HC := Lib.hid (fun W (u : Up wr W) => (hc j hlt).up u hb)
      have hlb := Lib.hid hb
      clear hc hb
      by_cases hqt : j < q
      · have i7 : ¬ ((j : Int) ≥ q) := by omega
        have i8 : (j : Int) < q := by omega
        have i9 : ¬ ((q : Int) ≤ j) := by omega
        have i10 : ¬ (q ≤ j) := by omega
        have i11 : decide (q ≤ j) = false := decide_eq_false i10
        have i12 : j < q := hqt
        have i13 : j < l := hlt
        obtain ⟨b2, off2, hA2, hb2, hc2⟩ := (HF.out.up ur).2 (by omega); subst hA2
        have HD := Lib.hid (fun W (u : Up wr W) => (hc2 j hqt).up u hb2)
        have hlb2 := Lib.hid hb2
        clear hc2 hb2 ur
        have S := SD.out j (by rw [LE.out]; exact hlt) (by rw [LF.out]; exact hqt)
        rw [HR.out] at S
        have cl := CN.out (xs.getD j default).ev (es.getD j default)
        generalize xs.getD j default = p at S HC cl
        generalize es.getD j default = g at S HD cl
        rw [eqB_dec] at S; obtain ⟨⟨p0, p1, p2, p3, p4, p5⟩, p6⟩ := p; obtain ⟨g0, g1, g2, g3, g4, g5⟩ := g; dsimp only at S HC cl HD
        generalize eqB ⟨p0, p1, p2, p3, p4, p5⟩ ⟨g0, g1, g2, g3, g4, g5⟩ = r1 at S cl
        have cw := CW.out p6
        generalize inB p6 0 (ids - 1) = r2 at S cw
        have CWW := Lib.hid cw
        unfold Evt.v at cl; dsimp only at cl
        replace S := Lib.hid S
        clear cw HR
        cases r1
        · have HF2 := Lib.hid (show res = false by rw [S.out]; simp)
          go_wp2_with fail
          refine region_mixH (fun w' => Up wr w') [(0, true), (1, true), (2, true), (3, true), (4, true), (5, true), (6, true), (7, true), (8, true), (9, true), (10, true), (11, true), (12, true), (13, true), (14, true), (15, true), (16, true), (17, true), (18, true), (19, true), (20, true), (21, true), (22, true), (23, true), (24, true), (25, true), (26, true)] (by kernel_rfl) (by kernel_rfl) (Up.refl _).drew ?_
          iterate 9
            refine mixH_take rfl (by rfl) ?_; apply Exists.intro; refine ⟨fun w1 hS1 => ?_, ?_⟩
            · clear hS1
              go_simp
              try rfl
            go_simp
          refine mixH_take rfl (by rfl) ?_; apply Exists.intro; refine ⟨fun w1 hS1 => ?_, ?_⟩
          · have a1 := HC.out _ hS1
            unfold RecAt at a1; dsimp only at a1; obtain ⟨c0, c1, c2, c3, c4, c5, c6⟩ := a1
            have lb := Nat.lt_of_lt_of_le hlb.out hS1.size
            clear hS1; go_simp
            try rfl
          go_simp
          iterate 3
            refine mixH_take rfl (by rfl) ?_; apply Exists.intro; refine ⟨fun w1 hS1 => ?_, ?_⟩
            · clear hS1
              go_simp
              try rfl
            go_simp
          refine mixH_take rfl (by rfl) ?_; apply Exists.intro; refine ⟨fun w1 hS1 => ?_, ?_⟩
          · have a1 := HD.out _ hS1
            unfold EvAt at a1; dsimp only at a1; obtain ⟨c0, c1, c2, c3, c4, c5⟩ := a1
            have lb := Nat.lt_of_lt_of_le hlb2.out hS1.size
            clear hS1; go_simp
            try rfl
          go_simp
          iterate 3
            refine mixH_take rfl (by rfl) ?_; apply Exists.intro; refine ⟨fun w1 hS1 => ?_, ?_⟩
            · clear hS1
              go_simp
              try rfl
            go_simp
          iterate 9
            refine mixH_skip rfl (by rfl) ?_; go_simp
          refine mixH_take rfl (by rfl) ?_; apply Exists.intro; refine ⟨fun w1 hS1 => ?_, ?_⟩
          · clear hS1
            go_simp
            try rfl
          go_simp; refine mixH_nil ?_; go_wp2; go_ret
          exact ⟨ret_bool HF2.out.symm, UR.out.trans (Up.refl _).drew⟩
        · cases r2
          · have HF2 := Lib.hid (show res = false by rw [S.out]; simp)
            go_wp2_with fail
            refine region_mixH (fun w' => Up wr w') [(0, true), (1, true), (2, true), (3, true), (4, true), (5, true), (6, true), (7, true), (8, true), (9, true), (10, true), (11, true), (12, true), (13, true), (14, true), (15, true), (16, true), (17, true), (18, true), (19, true), (20, true), (21, true), (22, true), (23, true), (24, false), (25, true), (26, true)] (by kernel_rfl) (by kernel_rfl) (Up.refl _).drew ?_
            iterate 9
              refine mixH_take rfl (by rfl) ?_; apply Exists.intro; refine ⟨fun w1 hS1 => ?_, ?_⟩
              · clear hS1
                go_simp
                try rfl
              go_simp
            refine mixH_take rfl (by rfl) ?_; apply Exists.intro; refine ⟨fun w1 hS1 => ?_, ?_⟩
            · have a1 := HC.out _ hS1
              unfold RecAt at a1; dsimp only at a1; obtain ⟨c0, c1, c2, c3, c4, c5, c6⟩ := a1
              have lb := Nat.lt_of_lt_of_le hlb.out hS1.size
              clear hS1; go_simp
              try rfl
            go_simp
            iterate 3
              refine mixH_take rfl (by rfl) ?_; apply Exists.intro; refine ⟨fun w1 hS1 => ?_, ?_⟩
              · clear hS1
                go_simp
                try rfl
              go_simp
            refine mixH_take rfl (by rfl) ?_; apply Exists.intro; refine ⟨fun w1 hS1 => ?_, ?_⟩
            · have a1 := HD.out _ hS1
              unfold EvAt at a1; dsimp only at a1; obtain ⟨c0, c1, c2, c3, c4, c5⟩ := a1
              have lb := Nat.lt_of_lt_of_le hlb2.out hS1.size
              clear hS1; go_simp
              try rfl
            go_simp
            iterate 7
              refine mixH_take rfl (by rfl) ?_; apply Exists.intro; refine ⟨fun w1 hS1 => ?_, ?_⟩
              · clear hS1
                go_simp
                try rfl
              go_simp
            refine mixH_take rfl (by rfl) ?_; apply Exists.intro; refine ⟨fun w1 hS1 => ?_, ?_⟩
            · have a1 := HC.out _ hS1
              unfold RecAt at a1; dsimp only at a1; obtain ⟨c0, c1, c2, c3, c4, c5, c6⟩ := a1
              have lb := Nat.lt_of_lt_of_le hlb.out hS1.size
              clear hS1; go_simp
              try rfl
            go_simp
            iterate 2
              refine mixH_take rfl (by rfl) ?_; apply Exists.intro; refine ⟨fun w1 hS1 => ?_, ?_⟩
              · clear hS1
                go_simp
                try rfl
              go_simp
            refine mixH_go rfl (by rfl) (fun K hK => ?_); go_simp; refine (CWW.out _).mono ?_; rintro z wA ⟨rfl, rfl⟩; refine hK _ _ (Up.refl _).drew ?_; clear hK K; go_simp
            iterate 2
              refine mixH_take rfl (by rfl) ?_; apply Exists.intro; refine ⟨fun w1 hS1 => ?_, ?_⟩
              · clear hS1
                go_simp
                try rfl
              go_simp
            refine mixH_nil ?_; go_wp2; go_ret
            exact ⟨ret_bool HF2.out.symm, UR.out.trans (Up.refl _).drew⟩
          · have HN := Lib.hid (show sameL ids (xs.drop (j + 1)) (es.drop (j + 1)) = res by rw [S.out]; simp)
            go_wp2_with fail
            refine region_mixH (fun w' => Up wr w') [(0, true), (1, true), (2, true), (3, true), (4, true), (5, true), (6, true), (7, true), (8, true), (9, true), (10, true), (11, true), (12, true), (13, true), (14, true), (15, true), (16, true), (17, true), (18, true), (19, true), (20, true), (21, true), (22, true), (23, true), (24, false), (25, true), (26, true)] (by kernel_rfl) (by kernel_rfl) (Up.refl _).drew ?_
            iterate 9
              refine mixH_take rfl (by rfl) ?_; apply Exists.intro; refine ⟨fun w1 hS1 => ?_, ?_⟩
              · clear hS1
                go_simp
                try rfl
              go_simp
            refine mixH_take rfl (by rfl) ?_; apply Exists.intro; refine ⟨fun w1 hS1 => ?_, ?_⟩
            · have a1 := HC.out _ hS1
              unfold RecAt at a1; dsimp only at a1; obtain ⟨c0, c1, c2, c3, c4, c5, c6⟩ := a1
              have lb := Nat.lt_of_lt_of_le hlb.out hS1.size
              clear hS1; go_simp
              try rfl
            go_simp
            iterate 3
              refine mixH_take rfl (by rfl) ?_; apply Exists.intro; refine ⟨fun w1 hS1 => ?_, ?_⟩
              · clear hS1
                go_simp
                try rfl
              go_simp
            refine mixH_take rfl (by rfl) ?_; apply Exists.intro; refine ⟨fun w1 hS1 => ?_, ?_⟩
            · have a1 := HD.out _ hS1
              unfold EvAt at a1; dsimp only at a1; obtain ⟨c0, c1, c2, c3, c4, c5⟩ := a1
              have lb := Nat.lt_of_lt_of_le hlb2.out hS1.size
              clear hS1; go_simp
              try rfl
            go_simp
            iterate 7
              refine mixH_take rfl (by rfl) ?_; apply Exists.intro; refine ⟨fun w1 hS1 => ?_, ?_⟩
              · clear hS1
                go_simp
                try rfl
              go_simp
            refine mixH_take rfl (by rfl) ?_; apply Exists.intro; refine ⟨fun w1 hS1 => ?_, ?_⟩
            · have a1 := HC.out _ hS1
              unfold RecAt at a1; dsimp only at a1; obtain ⟨c0, c1, c2, c3, c4, c5, c6⟩ := a1
              have lb := Nat.lt_of_lt_of_le hlb.out hS1.size
              clear hS1; go_simp
              try rfl
            go_simp
            iterate 2
              refine mixH_take rfl (by rfl) ?_; apply Exists.intro; refine ⟨fun w1 hS1 => ?_, ?_⟩
              · clear hS1
                go_simp
                try rfl
              go_simp
            refine mixH_go rfl (by rfl) (fun K hK => ?_); go_simp; refine (CWW.out _).mono ?_; rintro z wA ⟨rfl, rfl⟩; refine hK _ _ (Up.refl _).drew ?_; clear hK K; go_simp
            iterate 2
              refine mixH_take rfl (by rfl) ?_; apply Exists.intro; refine ⟨fun w1 hS1 => ?_, ?_⟩
              · clear hS1
                go_simp
                try rfl
              go_simp
            refine mixH_nil ?_; go_wp2
            go_roundw
            case rel => exact ⟨⟨j + 1, by omega, by omega, by go_num, HN⟩, UR.out.trans (Up.refl _).drew⟩
            case measure => simp [intOf]; omega
      · obtain rfl : j = q := by omega
        have i7 : (j : Int) ≥ j := by omega
        have i9 : ((j : Int) ≤ j) := by omega
        have HF2 := Lib.hid (show res = false by rw [← HR.out]; exact SL.out j (by rw [List.length_drop, List.length_drop, LE.out, LF.out]; omega))
        clear ur
        go_wp2_with fail
        refine region_mixH (fun w' => Up wr w') [(0, true), (1, true), (2, true), (3, true), (4, true), (5, true), (6, true), (7, true), (8, true), (9, true), (10, true), (11, true), (12, true), (13, true), (14, true), (15, true), (16, true), (17, true), (18, true), (19, true), (20, true), (21, true), (22, true), (23, true), (24, true), (25, true), (26, true)] (by kernel_rfl) (by kernel_rfl) (Up.refl _).drew ?_
        iterate 5
          refine mixH_take rfl (by rfl) ?_; apply Exists.intro; refine ⟨fun w1 hS1 => ?_, ?_⟩
          · clear hS1
            go_simp
            try rfl
          go_simp
        iterate 10
          refine mixH_skip rfl (by rfl) ?_; go_simp
        iterate 2
          refine mixH_take rfl (by rfl) ?_; apply Exists.intro; refine ⟨fun w1 hS1 => ?_, ?_⟩
          · clear hS1
            go_simp
            try rfl
          go_simp
        iterate 9
          refine mixH_skip rfl (by rfl) ?_; go_simp
        refine mixH_take rfl (by rfl) ?_; apply Exists.intro; refine ⟨fun w1 hS1 => ?_, ?_⟩
        · clear hS1
          go_simp
          try rfl
        go_simp; refine mixH_nil ?_; go_wp2; go_ret
        exact ⟨ret_bool HF2.out.symm, UR.out.trans (Up.refl _).drew⟩
    · obtain rfl : j = l := by omega
      have i4 : ¬ (j : Int) < j := by omega
      clear ur
      by_cases hql : q = j
      · subst hql
        have HT := Lib.hid (show res = true by rw [← HR.out]; exact SE.out q (by rw [LE.out]; omega) (by rw [LF.out]; omega))
        go_wp2; go_ret
        exact ⟨ret_bool (by rw [HT.out]; try simp), UR.out⟩
      · have HT := Lib.hid (show res = false by rw [← HR.out]; exact SL.out j (by rw [List.length_drop, List.length_drop, LE.out, LF.out]; omega))
        have hn : ¬ ((j : Int) = q) := by omega
        go_wp2; go_ret
        exact ⟨ret_bool (by rw [HT.out]; simp; omega), UR.out⟩
end Go.Proofs.YtlkmhmiamdbhcabGreat

namespace Go.Proofs.YtlkmhmiamdbhcabGreat
set_option maxRecDepth 100000
open Go.RowKit
set_option maxHeartbeats 4000000 in
theorem eqItm_any (a b : Rec) (w : World) : Calls Tryz.prog 75 #[a.v, b.v] w fun x w' => x = .returned (.bool (decide (a = b))) ∧ Up w w' := by
  obtain ⟨⟨a0, a1, a2, a3, a4, a5⟩, a6⟩ := a; obtain ⟨⟨b0, b1, b2, b3, b4, b5⟩, b6⟩ := b
  have hf := Lib.hid (show decide ((⟨⟨a0, a1, a2, a3, a4, a5⟩, a6⟩ : Rec) = ⟨⟨b0, b1, b2, b3, b4, b5⟩, b6⟩) = (eqB ⟨a0, a1, a2, a3, a4, a5⟩ ⟨b0, b1, b2, b3, b4, b5⟩ && decide (a6 = b6)) by unfold eqB; rw [Bool.eq_iff_iff]; simp)
  generalize decide ((⟨⟨a0, a1, a2, a3, a4, a5⟩, a6⟩ : Rec) = ⟨⟨b0, b1, b2, b3, b4, b5⟩, b6⟩) = r at hf ⊢
  have CL := fun W => eqEvt_any ⟨a0, a1, a2, a3, a4, a5⟩ ⟨b0, b1, b2, b3, b4, b5⟩ W
  generalize eqB ⟨a0, a1, a2, a3, a4, a5⟩ ⟨b0, b1, b2, b3, b4, b5⟩ = q at hf CL
  unfold Evt.v at CL; unfold Rec.v; dsimp only at CL ⊢
  have C := Lib.hid CL
  clear CL
  go_enter Tryz.func75, Tryz.ntmps75
  go_wp2_with fail
  have ua := Lib.hid (((Up.refl w).alloc (.cells #[.int .i64 a0, .int .i64 a1, .int .i64 a2, .int .i64 a3, .int .i64 a4, .int .i64 a5, .int .i64 a6] 109)).alloc (.cells #[.int .i64 b0, .int .i64 b1, .int .i64 b2, .int .i64 b3, .int .i64 b4, .int .i64 b5, .int .i64 b6] 109))
  refine (C.out _).mono ?_; rintro x w1 ⟨rfl, u1⟩
  have U1 := Lib.hid (ua.out.trans u1)
  obtain ⟨hc, hf1, hz⟩ := u1.facts; simp at hz; clear u1 ua
  cases q
  · have HR := Lib.hid (show r = false by rw [hf.out]; rfl)
    clear hf; go_wp2; go_ret
    exact ⟨ret_bool HR.out.symm, U1.out⟩
  · by_cases h : a6 = b6
    · have HR := Lib.hid (show r = true by rw [hf.out]; simp [h])
      subst h; clear hf; go_wp2; go_ret
      exact ⟨ret_bool HR.out.symm, U1.out⟩
    · have HR := Lib.hid (show r = false by rw [hf.out]; simp [h])
      have h0' : (a6 != b6) = true := by simp [h]
      clear hf; go_wp2; go_ret
      exact ⟨ret_bool HR.out.symm, U1.out⟩
set_option maxHeartbeats 4000000 in
theorem eqI_any (A B : Option Addr) (n m capa capb : Nat) (es fs : List Rec) (w : World) (hn : n ≤ 1000000000) (hE : Recs w A n es) (hF : Recs w B m fs) :
    Calls Tryz.prog 40 #[.slice A n capa, .slice B m capb] w fun x w' => x = .returned (.bool (decide (es = fs))) ∧ Up w w' := by
  by_cases hnm : n = m
  · subst hnm
    have H0 := Lib.hid (show decide (es.drop 0 = fs.drop 0) = decide (es = fs) from rfl)
    have ST := Lib.hid (eqT_drop default es fs (by rw [hE.1, hF.1]))
    have HE := Lib.hid hE
    have HF := Lib.hid hF
    have LE := Lib.hid hE.1
    have LF := Lib.hid hF.1
    have CL := Lib.hid (fun a b W => eqItm_any a b W)
    generalize hr : decide (es = fs) = res at H0 ⊢
    clear hE hF hr
    go_enter Tryz.func40, Tryz.ntmps40
    go_wp2
    go_loopw [5] (fun i wr => (∃ k : Nat, k ≤ n ∧ i = .int .i64 k ∧ Hid (decide (es.drop k = fs.drop k) = res)) ∧ Up w wr) (fun i _ => n - (intOf i).toNat)
    case atStart => exact ⟨⟨0, by omega, rfl, H0⟩, Up.refl _⟩
    case round =>
      obtain ⟨⟨k, hk, rfl, HR⟩, ur⟩ := hrel
      by_cases hlt : k < n
      · obtain ⟨b, off, hA, hb, hc⟩ := HE.out.2 (by omega)
        obtain ⟨b2, off2, hA2, hb2, hc2⟩ := HF.out.2 (by omega); subst hA hA2
        have a0 := (hc k hlt).up ur hb
        have a1 := (hc2 k hlt).up ur hb2
        have hb' : b < wr.heap.size := by have := ur.size; omega
        have hb2' : b2 < wr.heap.size := by have := ur.size; omega
        clear hc hc2
        have S := ST.out k (by rw [LE.out]; exact hlt)
        have cl := CL.out (es.getD k default) (fs.getD k default)
        generalize es.getD k default = p at a0 S cl
        generalize fs.getD k default = q at a1 S cl
        have S' := Lib.hid S
        clear S
        generalize decide (p = q) = r at S' cl
        unfold RecAt at a0 a1; unfold Rec.v at cl; obtain ⟨p0, p1, p2, p3, p4, p5, p6⟩ := a0; obtain ⟨q0, q1, q2, q3, q4, q5, q6⟩ := a1
        have C := Lib.hid cl
        clear cl
        have i4 : (k : Int) < n := by omega
        have UR := Lib.hid ur
        clear ur
        go_wp2_with fail
        refine region_qw (by kernel_rfl) (by kernel_rfl) ?_; refine qWalk_step ?_; intro K hK; go_simp; apply Exists.intro; refine And.intro ?_ ?_
        · intro w1 hw1
          try go_simp
          try rfl
        try go_simp
        refine hK _ ?_; clear hK K; refine qWalk_step ?_; intro K hK; go_simp; apply Exists.intro; refine And.intro ?_ ?_
        · intro w1 hw1
          try go_simp
          try rfl
        try go_simp
        refine hK _ ?_; clear hK K; refine qWalk_step ?_; intro K hK; go_simp; apply Exists.intro; refine And.intro ?_ ?_
        · intro w1 hw1
          try go_simp
          try rfl
        try go_simp
        refine hK _ ?_; clear hK K; refine qWalk_step ?_; intro K hK; go_simp; apply Exists.intro; refine And.intro ?_ ?_
        · intro w1 hw1
          obtain ⟨hc, hf, hz⟩ := hw1.facts
          try simp at hz
          try go_simp
          try rfl
        try go_simp
        refine hK _ ?_; clear hK K; refine qWalk_step ?_; intro K hK; go_simp; apply Exists.intro; refine And.intro ?_ ?_
        · intro w1 hw1
          try go_simp
          try rfl
        try go_simp
        refine hK _ ?_; clear hK K; refine qWalk_step ?_; intro K hK; go_simp; apply Exists.intro; refine And.intro ?_ ?_
        · intro w1 hw1
          try go_simp
          try rfl
        try go_simp
        refine hK _ ?_; clear hK K; refine qWalk_step ?_; intro K hK; go_simp; apply Exists.intro; refine And.intro ?_ ?_
        · intro w1 hw1
          try go_simp
          try rfl
        try go_simp
        refine hK _ ?_; clear hK K; refine qWalk_step ?_; intro K hK; go_simp; apply Exists.intro; refine And.intro ?_ ?_
        · intro w1 hw1
          obtain ⟨hc, hf, hz⟩ := hw1.facts
          try simp at hz
          try go_simp
          try rfl
        try go_simp
        refine hK _ ?_; clear hK K; refine qWalk_step ?_; intro K hK; go_simp; apply Exists.intro; refine And.intro ?_ ?_
        · intro w1 hw1
          try go_simp
          exact up_call hw1 (C.out _)
        try go_simp
        refine hK _ ?_; clear hK K; refine qWalk_step ?_; intro K hK; go_simp; apply Exists.intro; refine And.intro ?_ ?_
        · intro w1 hw1
          try go_simp
          try rfl
        try go_simp
        refine hK _ ?_; clear hK K; refine qWalk_nil ?_; intro wA uA
        have UA := Lib.hid (UR.out.trans uA)
        clear uA p0 p1 p2 p3 p4 p5 p6 q0 q1 q2 q3 q4 q5 q6 C
        cases r
        · go_wp2
          go_ret
          exact ⟨ret_bool (by rw [← HR.out, S'.out]; rfl), UA.out⟩
        · have RN := Lib.hid (show decide (es.drop (k + 1) = fs.drop (k + 1)) = res by rw [← HR.out, S'.out]; rfl)
          go_wp2
          go_roundw
          case rel => exact ⟨⟨k + 1, by omega, by go_num, RN⟩, UA.out⟩
          case measure => simp [intOf]; omega
      · have e : decide (es.drop k = fs.drop k) = true := by rw [List.drop_eq_nil_of_le (by rw [LE.out]; omega), List.drop_eq_nil_of_le (by rw [LF.out]; omega)]; rfl
        have E := Lib.hid e
        have i4 : ¬ (k : Int) < n := by omega
        clear e; go_wp2; go_ret
        exact ⟨ret_bool (by rw [← HR.out, E.out]), ur⟩
  · have hf := Lib.hid (show decide (es = fs) = false from decide_eq_false fun h => hnm (by rw [← hE.1, ← hF.1, h]))
    generalize decide (es = fs) = r at hf ⊢
    have hne : ((n : Int) != (m : Int)) = true := by rw [bne_iff_ne]; omega
    have HN := Lib.hid hnm
    clear hE hF hnm
    go_enter Tryz.func40, Tryz.ntmps40
    go_wp2; go_ret
    exact ⟨ret_bool hf.out.symm, Up.refl _⟩
end Go.Proofs.YtlkmhmiamdbhcabGreat

/-
  What newMachine returns, in one sentence: false for a model that is none; else a new map with the model's rules, their number and its end; for every model that lies in memory.
-/
import Derived.Test.YtipjcjjjkkaigaaDLHstNew14
import Derived.Test.YtipjcjjjkkaigaaDLHstNew19
namespace Go.Proofs.Ytipjcjjjkkaigaa
set_option maxRecDepth 100000
open Go.RowKit
def MachPost (m : Mdl) (w : World) (x : Ending) (w' : World) : Prop :=
  Up w w' ∧ ((mdlB m = false ∧ x = .returned (.tuple #[.agg #[.map none, .int .i64 0, .int .i64 0], .bool false])) ∨
    (mdlB m = true ∧ ∃ b, x = .returned (.tuple #[.agg #[.map (some b), .int .i64 m.rules.length, .int .i64 m.til], .bool true]) ∧ w.heap.size ≤ b ∧ Mach w' b m))
set_option maxHeartbeats 8000000 in
theorem newMachine_any (A : Option Addr) (n c : Nat) (B : Option Addr) (k d : Nat) (m : Mdl) (w : World) (hM : MdlV w A n B k m) :
    Calls Try.prog 66 #[.agg #[.slice A n c, .slice B k d, .int .i64 m.til]] w (MachPost m w) := by
  have HM := Lib.hid hM
  have HR := Lib.hid hM.rules
  have LR := Lib.hid hM.rules.1
  have U0 := Lib.hid (((Up.refl w).alloc (.cells #[.slice A n c, .slice B k d, .int .i64 m.til] 38)).alloc (.cells #[.map none, .int .i64 0, .int .i64 0] 118))
  have X1 := Lib.hid ((Box3.new w (.slice A n c) (.slice B k d) (.int .i64 m.til) 38).up ((Up.refl _).alloc (.cells #[.map none, .int .i64 0, .int .i64 0] 118)))
  have X2 := Lib.hid (Box3.new (w.alloc (.cells #[.slice A n c, .slice B k d, .int .i64 m.til] 38)) (.map none) (.int .i64 0) (.int .i64 0) 118)
  have F2 := Lib.hid (fun j => free_new (w.alloc (.cells #[.slice A n c, .slice B k d, .int .i64 m.til] 38)) #[.map none, .int .i64 0, .int .i64 0] 118 j)
  simp only [World.size_alloc] at X2 F2
  have CI := Lib.hid (fun W (u : Up w W) => implMdl_any A n c B k d m W (hM.up u))
  generalize hmb : mdlB m = g at CI
  have HB := Lib.hid hmb
  clear hM hmb
  go_enter Try.func66, Try.ntmps66
  go_wp2_with fail
  refine (CI.out _ U0.out).mono ?_; rintro x w1 ⟨rfl, u1⟩
  have U1 := Lib.hid (U0.out.trans u1)
  have X1 := Lib.hid (X1.out.up u1)
  have x2 := X2.out.up u1
  have f2 : ∀ j, w1.frozen? ⟨w.heap.size + 1, j, none⟩ = false := fun j => (u1.frozens _ _ (by simp)).trans (F2.out j)
  have X2 := Lib.hid x2
  have F2 := Lib.hid f2
  clear u1 x2 f2
  cases g
  · have K := set3_at (w := w1) (b := w.heap.size + 1) (x := .map none) (y := .int .i64 0) (z := .int .i64 0) (fun j hj => by
      have h3 : j = 0 ∨ j = 1 ∨ j = 2 := by omega
      rcases h3 with rfl | rfl | rfl
      · exact ⟨_, X2.out.c0⟩
      · exact ⟨_, X2.out.c1⟩
      · exact ⟨_, X2.out.c2⟩)
    have UE := Lib.hid (((U1.out.setCell (p := ⟨w.heap.size + 1, 0, none⟩) (by dsimp only; omega) (.map none)).setCell (p := ⟨w.heap.size + 1, 1, none⟩) (by dsimp only; omega) (.int .i64 0)).setCell (p := ⟨w.heap.size + 1, 2, none⟩) (by dsimp only; omega) (.int .i64 0))
    obtain ⟨k0, k1, k2⟩ := K; obtain ⟨q0, q1, q2⟩ := And.intro X2.out.c0 (And.intro X2.out.c1 X2.out.c2)
    have qf := F2.out
    go_wp2
    exact bodyPost_ret (v := .tuple #[.agg #[.map none, .int .i64 0, .int .i64 0], .bool false]) (by simp [results, Try.results66, go_sem, k0, k1, k2]) rfl ⟨UE.out, .inl ⟨HB.out, rfl⟩⟩
  · obtain ⟨q0, q1, q2⟩ := And.intro X1.out.c0 (And.intro X1.out.c1 X1.out.c2)
    have hsz1 : w.heap.size + 1 < w1.heap.size := X2.out.lt
    have FEW := Lib.hid (mdlB_few HB.out)
    have hn4 : n ≤ 4 := by have := FEW.out; have := LR.out; omega
    have H0 := RMap.made w1
    have F0 := Lib.hid (Filled.start w m.rules)
    have hmm := run_makeMap (P := Try.prog) 116 w1
    have u2 : Up w1 (w1.alloc (.map #[] 0)) := (Up.refl _).alloc _
    generalize w1.alloc (.map #[] 0) = w2 at H0 hmm u2
    generalize hmb : w1.heap.size = mb at H0 hmm
    have HMB := Lib.hid hmb
    have H0 := Lib.hid H0
    have x1 := X1.out.up u2
    obtain ⟨p0, p1, p2⟩ := And.intro x1.c0 (And.intro x1.c1 x1.c2)
    have U2 := Lib.hid u2
    clear hmb x1 u2 q0 q1 q2; go_wp2; clear hmm p0 p1 p2
    go_loopw [17] (fun i wr => (∃ (q N : Nat) (f : Int → Int → Option Value), q ≤ n ∧ i = .int .i64 q ∧ N ≤ 3 * q ∧ Hid (RMap wr mb N f) ∧ Hid (Filled w m.rules q 0 f)) ∧ Up w1 wr) (fun i _ => n - (intOf i).toNat)
    case atStart => exact ⟨⟨0, 0, _, by omega, rfl, by omega, H0, F0⟩, U2.out⟩
    case round =>
      obtain ⟨⟨q, N, f, hq, rfl, hN, HMAP, HF⟩, ur⟩ := hrel; obtain ⟨wo, hwo⟩ : ∃ W, W = wr := ⟨_, rfl⟩; subst hwo
      have UR := Lib.hid ur
      by_cases hlt : q < n
      · obtain ⟨b, off, hA, hb, hc⟩ := HR.out.2.2 (by omega)
        subst hA; obtain ⟨A', n', c', hcell, hrs⟩ := hc q hlt
        have cell := ((U1.out.trans ur).cells _ _ hb).trans hcell
        have HS := Lib.hid hrs
        have hb' : b < wo.heap.size := by have := (U1.out.trans ur).size; omega
        have RB := Lib.hid (mdlB_row HB.out q (by rw [LR.out]; exact hlt))
        have hn'3 : n' ≤ 3 := by
          have h := rulesB_len RB.out (by omega) (by omega)
          have := hrs.1
          omega
        clear hc hcell hrs ur
        have i4 : (q : Int) < n := by omega
        have i5 : IntKind.i64.wrap ((q : Int) + 1) = (q : Int) + 1 := IntWalk.i64_in _ (by omega)
        have RN : (m.rules.getD q []).length = n' := HS.out.1
        have RNH := Lib.hid RN
        clear RN
        go_wp2_with fail
        go_loopw [24] (fun j wj => (∃ (p N : Nat) (f : Int → Int → Option Value), p ≤ n' ∧ j = .int .i64 p ∧ N ≤ 3 * q + p ∧ Hid (RMap wj mb N f) ∧ Hid (Filled w m.rules q p f)) ∧ Up w1 wj) (fun j _ => n' - (intOf j).toNat)
        case atStart => exact ⟨⟨0, N, f, by omega, rfl, by omega, HMAP, HF⟩, UR.out⟩
        case round =>
          obtain ⟨⟨p, N2, f2, hp, rfl, hN2, HMAP2, HF2⟩, uj⟩ := hrel
          have UJ := Lib.hid uj
          by_cases hlp : p < n'
          · obtain ⟨b2, off2, hA2, hb2, hc2⟩ := HS.out.2.2 (by omega)
            subst hA2
            have at2 := (hc2 p hlp).up (U1.out.trans uj) hb2
            have hb2' : b2 < wr.heap.size := by have := (U1.out.trans uj).size; omega
            have at0 := hc2 p hlp
            clear hc2
            have ST := Lib.hid (fun r (hr : (m.rules.getD q []).getD p default = r) A n c hn he => HF2.out.step (r := r) (A := A) (n := n) (c := c) (by rw [RNH.out]; exact hlp) hr hn he)
            have RB2 := rulesB_mem RB.out p (by rw [RNH.out]; exact hlp)
            generalize hgr : (m.rules.getD q []).getD p default = r at at2 at0 RB2 ST
            obtain ⟨A3, n3, c3, ⟨r0, r1, r2, r3, r4⟩, hn3, he3⟩ := at0; obtain ⟨A4, n4, c4, ⟨s0, s1, s2, s3, s4⟩, hn4', he4⟩ := at2
            have e4 := ((U1.out.trans uj).cells _ _ hb2).trans r4
            rw [s4] at e4
            injection e4 with e4
            injection e4 with e41 e42 e43
            subst e41 e42 e43
            have HF3 := Lib.hid (ST.out r rfl A4 n4 c4 hn3 he3)
            have hkd : 0 ≤ r.kd ∧ r.kd ≤ 2 := by
              simp only [ruleB, Bool.and_eq_true, inB_iff] at RB2
              exact RB2.1.1.1.2
            obtain ⟨kd, ra, rb, rc, es⟩ := r; dsimp only at s0 s1 s2 s3 s4 hkd; unfold Rule.v at HF3; dsimp only at HF3
            have HM3 := Lib.hid (HMAP2.out.up ((Up.refl wr).alloc (.cells #[.int .i64 kd, .int .i64 ra, .int .i64 rb, .int .i64 rc, .slice A4 n4 c4] 70)))
            have UJ2 := Lib.hid (uj.alloc (.cells #[.int .i64 kd, .int .i64 ra, .int .i64 rb, .int .i64 rc, .slice A4 n4 c4] 70))
            clear uj r0 r1 r2 r3 r4 he3 he4 RB2 ST hgr
            have hmb1 : w1.heap.size ≤ mb := by have := HMB.out; omega
            have i6 : (p : Int) < n' := by omega
            have i7 : IntKind.i64.wrap ((p : Int) + 1) = (p : Int) + 1 := IntWalk.i64_in _ (by omega)
            go_wp2_with (at_mapUpdate; refine wpList_store_R rfl _ rfl _ _ _ rfl mb N2 f2 rfl HM3.out (by simp only [maxLen]; omega) q kd rfl (by unfold I64; omega) (by unfold I64; omega) _ rfl ?_; intro w5 h5 m5; have H5 := Lib.hid h5; have U5 := Lib.hid (m5.up UJ2.out hmb1); clear h5 m5)
            go_roundw
            case rel => exact ⟨⟨p + 1, N2 + 1, _, by omega, by first | rfl | go_num, by omega, H5, HF3⟩, U5.out⟩
            case measure => (simp [intOf]; try omega)
          · have HR2 := Lib.hid (HF2.out.row (by rw [RNH.out]; omega))
            have i6 : ¬ (p : Int) < n' := by omega
            clear uj; go_wp2
            go_roundw
            case rel => exact ⟨⟨q + 1, N2, f2, by omega, by first | rfl | go_num, by omega, HMAP2, HR2⟩, UJ.out⟩
            case measure => (simp [intOf]; try omega)
      · have hqn : q = n := by omega
        have DN := Lib.hid ((show Filled w m.rules m.rules.length 0 f by rw [LR.out, ← hqn]; exact HF.out).done HB.out)
        have i4 : ¬ (q : Int) < n := by omega
        clear ur hqn
        have x1 := X1.out.up UR.out
        obtain ⟨q0, q1, q2⟩ := And.intro x1.c0 (And.intro x1.c1 x1.c2)
        have x2 := X2.out.up UR.out
        obtain ⟨p0, p1, p2⟩ := And.intro x2.c0 (And.intro x2.c1 x2.c2)
        have qf : ∀ j, wo.frozen? ⟨w.heap.size + 1, j, none⟩ = false := fun j => (UR.out.frozens _ _ hsz1).trans (F2.out j)
        have K := set3_at (w := wo) (b := w.heap.size + 1) (x := .map (some mb)) (y := .int .i64 n) (z := .int .i64 m.til) (fun j hj => by
          have h3 : j = 0 ∨ j = 1 ∨ j = 2 := by omega
          rcases h3 with rfl | rfl | rfl
          · exact ⟨_, x2.c0⟩
          · exact ⟨_, x2.c1⟩
          · exact ⟨_, x2.c2⟩)
        obtain ⟨k0, k1, k2⟩ := K
        have UE := Lib.hid ((((U1.out.trans UR.out).setCell (p := ⟨w.heap.size + 1, 0, none⟩) (by dsimp only; omega) (.map (some mb))).setCell (p := ⟨w.heap.size + 1, 1, none⟩) (by dsimp only; omega) (.int .i64 n)).setCell (p := ⟨w.heap.size + 1, 2, none⟩) (by dsimp only; omega) (.int .i64 m.til))
        have hmbw : w.heap.size + 1 < mb := by have := HMB.out; omega
        have ME := Lib.hid (show Mach _ mb m from ⟨N, f, ((HMAP.out.setFar (p := ⟨w.heap.size + 1, 0, none⟩) (by dsimp only; omega) (.map (some mb))).setFar (p := ⟨w.heap.size + 1, 1, none⟩) (by dsimp only; omega) (.int .i64 n)).setFar (p := ⟨w.heap.size + 1, 2, none⟩) (by dsimp only; omega) (.int .i64 m.til), fun c k => (DN.out c k).up UE.out⟩)
        clear x1 x2; go_wp2
        exact bodyPost_ret (v := .tuple #[.agg #[.map (some mb), .int .i64 n, .int .i64 m.til], .bool true]) (by simp [results, Try.results66, go_sem, k0, k1, k2]) rfl ⟨UE.out, .inr ⟨HB.out, mb, by rw [LR.out], by omega, ME.out⟩⟩
end Go.Proofs.Ytipjcjjjkkaigaa

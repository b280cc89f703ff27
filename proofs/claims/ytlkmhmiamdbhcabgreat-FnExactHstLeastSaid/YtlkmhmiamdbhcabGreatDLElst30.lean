/-
  What newMachine returns, in one sentence: false for a model that is none; else a new map with the model's rules, their number and its end; for every model that lies in memory.
  Which hosts that have done nothing are valid, in one sentence: those whose items are in order and for the component; for every machine and every such host that lies in memory.
  What itemsOf and EqualFunc return, in one sentence: the items of what was done, and whether items are of these events; for every list that lies in memory.
-/
import Derived.Test.YtlkmhmiamdbhcabGreatDLElst01
import Derived.Test.YtlkmhmiamdbhcabGreatDLElst02
import Derived.Test.YtlkmhmiamdbhcabGreatDLElst08
import Derived.Test.YtlkmhmiamdbhcabGreatDLElst13
import Derived.Test.YtlkmhmiamdbhcabGreatDLElst15
import Derived.Test.YtlkmhmiamdbhcabGreatDLElst16
import Derived.Test.YtlkmhmiamdbhcabGreatDLElst22
import Derived.Test.YtlkmhmiamdbhcabGreatDLElst25
import Derived.Test.YtlkmhmiamdbhcabGreatDLElst27
namespace Go.Proofs.YtlkmhmiamdbhcabGreat
set_option maxRecDepth 100000
open Go.RowKit
def MachPost (m : Mdl) (w : World) (x : Ending) (w' : World) : Prop :=
  Up w w' ∧ ((mdlB m = false ∧ x = .returned (.tuple #[.agg #[.map none, .int .i64 0, .int .i64 0], .bool false])) ∨
    (mdlB m = true ∧ ∃ b, x = .returned (.tuple #[.agg #[.map (some b), .int .i64 m.rules.length, .int .i64 m.til], .bool true]) ∧ w.heap.size ≤ b ∧ Mach w' b m))
set_option maxHeartbeats 8000000 in
theorem newMachine_any (A : Option Addr) (n c : Nat) (B : Option Addr) (k d : Nat) (m : Mdl) (w : World) (hM : MdlV w A n B k m) :
    Calls Tryz.prog 68 #[.agg #[.slice A n c, .slice B k d, .int .i64 m.til]] w (MachPost m w) := by
  have HM := Lib.hid hM
  have HR := Lib.hid hM.rules
  have LR := Lib.hid hM.rules.1
  have U0 := Lib.hid (((Up.refl w).alloc (.cells #[.slice A n c, .slice B k d, .int .i64 m.til] 39)).alloc (.cells #[.map none, .int .i64 0, .int .i64 0] 125))
  have X1 := Lib.hid ((Box3.new w (.slice A n c) (.slice B k d) (.int .i64 m.til) 39).up ((Up.refl _).alloc (.cells #[.map none, .int .i64 0, .int .i64 0] 125)))
  have X2 := Lib.hid (Box3.new (w.alloc (.cells #[.slice A n c, .slice B k d, .int .i64 m.til] 39)) (.map none) (.int .i64 0) (.int .i64 0) 125)
  have F2 := Lib.hid (fun j => free_new (w.alloc (.cells #[.slice A n c, .slice B k d, .int .i64 m.til] 39)) #[.map none, .int .i64 0, .int .i64 0] 125 j)
  simp only [World.size_alloc] at X2 F2
  have CI := Lib.hid (fun W (u : Up w W) => implMdl_any A n c B k d m W (hM.up u))
  generalize hmb : mdlB m = g at CI
  have HB := Lib.hid hmb
  clear hM hmb
  go_enter Tryz.func68, Tryz.ntmps68
  go_wp2_with fail
  refine (CI.out _ U0.out).mono ?_; rintro x w1 ⟨rfl, u1⟩
  have U1 := Lib.hid (U0.out.trans u1)
  have X1 := Lib.hid (X1.out.up u1)
  have x2 := X2.out.up u1
  have f2 : ∀ j, w1.frozen? ⟨w.heap.size + 1, j, none⟩ = false := fun j => (u1.frozens _ _ (by simp)).trans (F2.out j)
  have X2 := Lib.hid x2
  have F2 := Lib.hid f2
  clear u1 x2 f2
  cases g
  · have K := set3_at (w := w1) (b := w.heap.size + 1) (x := .map none) (y := .int .i64 0) (z := .int .i64 0) (fun j hj => by
      have h3 : j = 0 ∨ j = 1 ∨ j = 2 := by omega
      rcases h3 with rfl | rfl | rfl
      · exact ⟨_, X2.out.c0⟩
      · exact ⟨_, X2.out.c1⟩
      · exact ⟨_, X2.out.c2⟩)
    have UE := Lib.hid (((U1.out.setCell (p := ⟨w.heap.size + 1, 0, none⟩) (by dsimp only; omega) (.map none)).setCell (p := ⟨w.heap.size + 1, 1, none⟩) (by dsimp only; omega) (.int .i64 0)).setCell (p := ⟨w.heap.size + 1, 2, none⟩) (by dsimp only; omega) (.int .i64 0))
    obtain ⟨k0, k1, k2⟩ := K; obtain ⟨q0, q1, q2⟩ := And.intro X2.out.c0 (And.intro X2.out.c1 X2.out.c2)
    have qf := F2.out
    go_wp2
    exact bodyPost_ret (v := .tuple #[.agg #[.map none, .int .i64 0, .int .i64 0], .bool false]) (by simp [results, Tryz.results68, go_sem, k0, k1, k2]) rfl ⟨UE.out, .inl ⟨HB.out, rfl⟩⟩
  · obtain ⟨q0, q1, q2⟩ := And.intro X1.out.c0 (And.intro X1.out.c1 X1.out.c2)
    have hsz1 : w.heap.size + 1 < w1.heap.size := X2.out.lt
    have FEW := Lib.hid (mdlB_few HB.out)
    have hn4 : n ≤ 4 := by have := FEW.out; have := LR.out; omega
    have H0 := RMap.made w1
    have F0 := Lib.hid (Filled.start w m.rules)
    have hmm := run_makeMap (P := Tryz.prog) 123 w1
    have u2 : Up w1 (w1.alloc (.map #[] 0)) := (Up.refl _).alloc _
    generalize w1.alloc (.map #[] 0) = w2 at H0 hmm u2
    generalize hmb : w1.heap.size = mb at H0 hmm
    have HMB := Lib.hid hmb
    have H0 := Lib.hid H0
    have x1 := X1.out.up u2
    obtain ⟨p0, p1, p2⟩ := And.intro x1.c0 (And.intro x1.c1 x1.c2)
    have U2 := Lib.hid u2
    clear hmb x1 u2 q0 q1 q2; go_wp2; clear hmm p0 p1 p2
    go_loopw [17] (fun i wr => (∃ (q N : Nat) (f : Int → Int → Option Value), q ≤ n ∧ i = .int .i64 q ∧ N ≤ 3 * q ∧ Hid (RMap wr mb N f) ∧ Hid (Filled w m.rules q 0 f)) ∧ Up w1 wr) (fun i _ => n - (intOf i).toNat)
    case atStart => exact ⟨⟨0, 0, _, by omega, rfl, by omega, H0, F0⟩, U2.out⟩
    case round =>
      obtain ⟨⟨q, N, f, hq, rfl, hN, HMAP, HF⟩, ur⟩ := hrel; obtain ⟨wo, hwo⟩ : ∃ W, W = wr := ⟨_, rfl⟩; subst hwo
      have UR := Lib.hid ur
      by_cases hlt : q < n
      · obtain ⟨b, off, hA, hb, hc⟩ := HR.out.2.2 (by omega)
        subst hA; obtain ⟨A', n', c', hcell, hrs⟩ := hc q hlt
        have cell := ((U1.out.trans ur).cells _ _ hb).trans hcell
        have HS := Lib.hid hrs
        have hb' : b < wo.heap.size := by have := (U1.out.trans ur).size; omega
        have RB := Lib.hid (mdlB_row HB.out q (by rw [LR.out]; exact hlt))
        have hn'3 : n' ≤ 3 := by
          have h := rulesB_len RB.out (by omega) (by omega)
          have := hrs.1
          omega
        clear hc hcell hrs ur
        have i4 : (q : Int) < n := by omega
        have i5 : IntKind.i64.wrap ((q : Int) + 1) = (q : Int) + 1 := IntWalk.i64_in _ (by omega)
        have RN : (m.rules.getD q []).length = n' := HS.out.1
        have RNH := Lib.hid RN
        clear RN
        go_wp2_with fail
        go_loopw [24] (fun j wj => (∃ (p N : Nat) (f : Int → Int → Option Value), p ≤ n' ∧ j = .int .i64 p ∧ N ≤ 3 * q + p ∧ Hid (RMap wj mb N f) ∧ Hid (Filled w m.rules q p f)) ∧ Up w1 wj) (fun j _ => n' - (intOf j).toNat)
        case atStart => exact ⟨⟨0, N, f, by omega, rfl, by omega, HMAP, HF⟩, UR.out⟩
        case round =>
          obtain ⟨⟨p, N2, f2, hp, rfl, hN2, HMAP2, HF2⟩, uj⟩ := hrel
          have UJ := Lib.hid uj
          by_cases hlp : p < n'
          · obtain ⟨b2, off2, hA2, hb2, hc2⟩ := HS.out.2.2 (by omega)
            subst hA2
            have at2 := (hc2 p hlp).up (U1.out.trans uj) hb2
            have hb2' : b2 < wr.heap.size := by have := (U1.out.trans uj).size; omega
            have at0 := hc2 p hlp
            clear hc2
            have ST := Lib.hid (fun r (hr : (m.rules.getD q []).getD p default = r) A n c hn he => HF2.out.step (r := r) (A := A) (n := n) (c := c) (by rw [RNH.out]; exact hlp) hr hn he)
            have RB2 := rulesB_mem RB.out p (by rw [RNH.out]; exact hlp)
            generalize hgr : (m.rules.getD q []).getD p default = r at at2 at0 RB2 ST
            obtain ⟨A3, n3, c3, ⟨r0, r1, r2, r3, r4⟩, hn3, he3⟩ := at0; obtain ⟨A4, n4, c4, ⟨s0, s1, s2, s3, s4⟩, hn4', he4⟩ := at2
            have e4 := ((U1.out.trans uj).cells _ _ hb2).trans r4
            rw [s4] at e4
            injection e4 with e4
            injection e4 with e41 e42 e43
            subst e41 e42 e43
            have HF3 := Lib.hid (ST.out r rfl A4 n4 c4 hn3 he3)
            have hkd : 0 ≤ r.kd ∧ r.kd ≤ 2 := by
              simp only [ruleB, Bool.and_eq_true, inB_iff] at RB2
              exact RB2.1.1.1.2
            obtain ⟨kd, ra, rb, rc, es⟩ := r; dsimp only at s0 s1 s2 s3 s4 hkd; unfold Rule.v at HF3; dsimp only at HF3
            have HM3 := Lib.hid (HMAP2.out.up ((Up.refl wr).alloc (.cells #[.int .i64 kd, .int .i64 ra, .int .i64 rb, .int .i64 rc, .slice A4 n4 c4] 161)))
            have UJ2 := Lib.hid (uj.alloc (.cells #[.int .i64 kd, .int .i64 ra, .int .i64 rb, .int .i64 rc, .slice A4 n4 c4] 161))
            clear uj r0 r1 r2 r3 r4 he3 he4 RB2 ST hgr
            have hmb1 : w1.heap.size ≤ mb := by have := HMB.out; omega
            have i6 : (p : Int) < n' := by omega
            have i7 : IntKind.i64.wrap ((p : Int) + 1) = (p : Int) + 1 := IntWalk.i64_in _ (by omega)
            go_wp2_with (at_mapUpdate; refine wpList_store_R rfl _ rfl _ _ _ rfl mb N2 f2 rfl HM3.out (by simp only [maxLen]; omega) q kd rfl (by unfold I64; omega) (by unfold I64; omega) _ rfl ?_; intro w5 h5 m5; have H5 := Lib.hid h5; have U5 := Lib.hid (m5.up UJ2.out hmb1); clear h5 m5)
            go_roundw
            case rel => exact ⟨⟨p + 1, N2 + 1, _, by omega, by first | rfl | go_num, by omega, H5, HF3⟩, U5.out⟩
            case measure => (simp [intOf]; try omega)
          · have HR2 := Lib.hid (HF2.out.row (by rw [RNH.out]; omega))
            have i6 : ¬ (p : Int) < n' := by omega
            clear uj; go_wp2
            go_roundw
            case rel => exact ⟨⟨q + 1, N2, f2, by omega, by first | rfl | go_num, by omega, HMAP2, HR2⟩, UJ.out⟩
            case measure => (simp [intOf]; try omega)
      · have hqn : q = n := by omega
        have DN := Lib.hid ((show Filled w m.rules m.rules.length 0 f by rw [LR.out, ← hqn]; exact HF.out).done HB.out)
        have i4 : ¬ (q : Int) < n := by omega
        clear ur hqn
        have x1 := X1.out.up UR.out
        obtain ⟨q0, q1, q2⟩ := And.intro x1.c0 (And.intro x1.c1 x1.c2)
        have x2 := X2.out.up UR.out
        obtain ⟨p0, p1, p2⟩ := And.intro x2.c0 (And.intro x2.c1 x2.c2)
        have qf : ∀ j, wo.frozen? ⟨w.heap.size + 1, j, none⟩ = false := fun j => (UR.out.frozens _ _ hsz1).trans (F2.out j)
        have K := set3_at (w := wo) (b := w.heap.size + 1) (x := .map (some mb)) (y := .int .i64 n) (z := .int .i64 m.til) (fun j hj => by
          have h3 : j = 0 ∨ j = 1 ∨ j = 2 := by omega
          rcases h3 with rfl | rfl | rfl
          · exact ⟨_, x2.c0⟩
          · exact ⟨_, x2.c1⟩
          · exact ⟨_, x2.c2⟩)
        obtain ⟨k0, k1, k2⟩ := K
        have UE := Lib.hid ((((U1.out.trans UR.out).setCell (p := ⟨w.heap.size + 1, 0, none⟩) (by dsimp only; omega) (.map (some mb))).setCell (p := ⟨w.heap.size + 1, 1, none⟩) (by dsimp only; omega) (.int .i64 n)).setCell (p := ⟨w.heap.size + 1, 2, none⟩) (by dsimp only; omega) (.int .i64 m.til))
        have hmbw : w.heap.size + 1 < mb := by have := HMB.out; omega
        have ME := Lib.hid (show Mach _ mb m from ⟨N, f, ((HMAP.out.setFar (p := ⟨w.heap.size + 1, 0, none⟩) (by dsimp only; omega) (.map (some mb))).setFar (p := ⟨w.heap.size + 1, 1, none⟩) (by dsimp only; omega) (.int .i64 n)).setFar (p := ⟨w.heap.size + 1, 2, none⟩) (by dsimp only; omega) (.int .i64 m.til), fun c k => (DN.out c k).up UE.out⟩)
        clear x1 x2; go_wp2
        exact bodyPost_ret (v := .tuple #[.agg #[.map (some mb), .int .i64 n, .int .i64 m.til], .bool true]) (by simp [results, Tryz.results68, go_sem, k0, k1, k2]) rfl ⟨UE.out, .inr ⟨HB.out, mb, by rw [LR.out], by omega, ME.out⟩⟩
end Go.Proofs.YtlkmhmiamdbhcabGreat

namespace Go.Proofs.YtlkmhmiamdbhcabGreat
set_option maxRecDepth 100000
open Go.RowKit
set_option maxHeartbeats 4000000 in
theorem itemsFor_any (mp : Option Nat) (many til comp : Int) (A : Option Addr) (n c : Nat) (xs : List Rec) (w : World) (hn : n ≤ 4194304) (hE : Recs w A n xs) :
    Calls Tryz.prog 95 #[.agg #[.map mp, .int .i64 many, .int .i64 til], .int .i64 comp, .slice A n c] w fun z w' => z = .returned (.bool (riseT xs && xs.all (itemForB many til comp))) ∧ Up w w' := by
  have HE := Lib.hid hE
  have CA := Lib.hid (fun W (u : Up w W) => ascI_any A n c xs W (by omega) (hE.up u))
  have CE := Lib.hid (fun bM bC W (u : Up w W) hM hC => everyI_any A n c xs mp many til comp bM bC W hn (hE.up u) hM hC)
  generalize riseT xs = b1 at CA ⊢
  generalize xs.all (itemForB many til comp) = b2 at CE ⊢
  have X0 := Lib.hid ((Blk.new w #[.map mp, .int .i64 many, .int .i64 til] 125).alloc (.cells #[.int .i64 comp] 3))
  have X1 := Lib.hid (Blk.new (w.alloc (.cells #[.map mp, .int .i64 many, .int .i64 til] 125)) #[.int .i64 comp] 3)
  simp only [World.size_alloc] at X1
  have U := Lib.hid (((Up.refl w).alloc (.cells #[.map mp, .int .i64 many, .int .i64 til] 125)).alloc (.cells #[.int .i64 comp] 3))
  clear hE
  go_enter Tryz.func95, Tryz.ntmps95
  go_wp2_with fail
  refine (CA.out _ U.out).mono ?_; rintro v w1 ⟨rfl, u1⟩
  have X0 := Lib.hid (X0.out.up u1)
  have X1 := Lib.hid (X1.out.up u1)
  have U := Lib.hid (U.out.trans u1)
  clear u1
  cases b1
  · go_wp2
    go_ret
    exact ⟨rfl, U.out⟩
  · go_wp2_with fail
    refine (CE.out _ _ _ U.out X0.out X1.out).mono ?_; rintro v w2 ⟨rfl, u2⟩
    have U := Lib.hid (U.out.trans u2)
    clear u2; go_wp2; go_ret
    exact ⟨ret_bool (by simp), U.out⟩
end Go.Proofs.YtlkmhmiamdbhcabGreat

namespace Go.Proofs.YtlkmhmiamdbhcabGreat
set_option maxRecDepth 100000
open Go.RowKit
theorem itsOf_getD (ds : List Don) (k : Nat) (h : k < ds.length) : (itsOf ds).getD k default = (ds.getD k default).it := by simp [itsOf, List.getD, h]
set_option maxHeartbeats 4000000 in
theorem itemsOf_any (A : Option Addr) (n cap : Nat) (ds : List Don) (w : World) (hn : n ≤ 1048576) (hE : Dons w A n ds) :
    Calls Tryz.prog 97 #[.slice A n cap] w fun x w' => ∃ g, x = .returned (.slice (some ⟨g, 0, none⟩) n n) ∧ Recs w' (some ⟨g, 0, none⟩) n (itsOf ds) ∧ Up w w' := by
  obtain ⟨i0, hi, hz0, hz1, hz2⟩ := info_parts info109
  have hmk := fun W => run_make_rowN (P := Tryz.prog) 43 109 i0 _ Tryz.underlying43 hi hz0 .i64 .i64 n n (Nat.le_refl _) (by rw [hz2]; omega) (by omega) W
  rw [hz1] at hmk
  have HE := Lib.hid hE
  have LE := Lib.hid hE.1
  clear hE hi hz0 hz1 hz2
  go_enter Tryz.func97, Tryz.ntmps97
  go_wp2
  generalize hg : w.heap.size = g
  have HG := Lib.hid (Nat.le_of_eq hg)
  go_loopw [11] (fun i wr => (∃ k : Nat, k ≤ n ∧ i = .int .i64 k ∧ RowsTo wr g n 7 k (fun i j => (ds.getD i default).it.nums.getD j 0)) ∧ Up w wr) (fun i _ => n - (intOf i).toNat)
  case atStart =>
    refine ⟨⟨0, by omega, rfl, ?_⟩, (Up.refl _).alloc _⟩; subst hg
    exact RowsTo.start w n 7 #[.int .i64 0, .int .i64 0, .int .i64 0, .int .i64 0, .int .i64 0, .int .i64 0, .int .i64 0] 109 _ (fun j hj => by
      have h : j = 0 ∨ j = 1 ∨ j = 2 ∨ j = 3 ∨ j = 4 ∨ j = 5 ∨ j = 6 := by simp at hj; omega
      rcases h with rfl | rfl | rfl | rfl | rfl | rfl | rfl <;> rfl) (by simp)
  case round =>
    obtain ⟨⟨k, hk, rfl, hp⟩, ur⟩ := hrel
    have HP := Lib.hid hp
    have UR := Lib.hid ur
    by_cases hlt : k < n
    · obtain ⟨b, off, hA, hb, hc⟩ := (HE.out.up ur).2.2 (by omega)
      subst hA
      have a0 := hc k hlt
      clear hc hp ur
      have SX := Lib.hid (fun W (h : RowsTo W g n 7 k (fun i j => (ds.getD i default).it.nums.getD j 0)) => h.step hlt ((ds.getD k default).it.nums.getD · 0) (fun j _ => rfl))
      generalize ds.getD k default = p at a0 SX
      obtain ⟨S3, l3, e3, a0, -, -⟩ := a0; obtain ⟨⟨⟨p0, p1, p2, p3, p4, p5⟩, p6⟩, ⟨p7, p8, p9⟩, p10, ps⟩ := p; dsimp only at a0 SX; obtain ⟨z0, z1, z2, z3, z4, z5, z6, z7, z8, z9, z10, z11⟩ := a0
      have i4 : (k : Int) < n := by omega
      have i6 : IntKind.i64.wrap ((k : Int) + 1) = (k : Int) + 1 := IntWalk.i64_in _ (by omega)
      obtain ⟨⟨⟨v0, c0⟩, f0⟩, ⟨⟨v1, c1⟩, f1⟩, ⟨⟨v2, c2⟩, f2⟩, ⟨⟨v3, c3⟩, f3⟩, ⟨⟨v4, c4⟩, f4⟩, ⟨⟨v5, c5⟩, f5⟩, ⟨⟨v6, c6⟩, f6⟩⟩ := And.intro (HP.out.1.2 (k * 7) (by omega)) (And.intro (HP.out.1.2 (k * 7 + 1) (by omega)) (And.intro (HP.out.1.2 (k * 7 + 2) (by omega)) (And.intro (HP.out.1.2 (k * 7 + 3) (by omega)) (And.intro (HP.out.1.2 (k * 7 + 4) (by omega)) (And.intro (HP.out.1.2 (k * 7 + 5) (by omega)) (HP.out.1.2 (k * 7 + 6) (by omega)))))))
      have NX := SX.out _ HP.out
      have UX := UR.out.putF HG.out (k * 7) ((⟨⟨p0, p1, p2, p3, p4, p5⟩, p6⟩ : Rec).nums.getD · 0) 7
      simp only [putF, Rec.nums, Nat.add_zero, List.getD_cons_zero, List.getD_cons_succ] at NX UX
      replace NX := Lib.hid (NX.up ((Up.refl _).alloc (.cells #[.int .i64 p0, .int .i64 p1, .int .i64 p2, .int .i64 p3, .int .i64 p4, .int .i64 p5, .int .i64 p6, .int .i64 p7, .int .i64 p8, .int .i64 p9, .int .i64 p10, .slice S3 l3 e3] 117)))
      replace UX := Lib.hid (UX.alloc (.cells #[.int .i64 p0, .int .i64 p1, .int .i64 p2, .int .i64 p3, .int .i64 p4, .int .i64 p5, .int .i64 p6, .int .i64 p7, .int .i64 p8, .int .i64 p9, .int .i64 p10, .slice S3 l3 e3] 117))
      have hgl := HP.out.1.1
      have hgn : wr.heap.size ≠ g := by omega
      have hgn2 : g ≠ wr.heap.size := by omega
      clear SX; go_wp2
      go_roundw
      case rel => exact ⟨⟨k + 1, by omega, by go_num, NX.out⟩, UX.out⟩
      case measure => simp [intOf]; omega
    · obtain rfl : k = n := by omega
      have i4 : ¬ (k : Int) < k := by omega
      clear hp ur; go_wp2; go_ret
      exact ⟨g, rfl, ⟨by rw [itsOf, List.length_map, LE.out], fun _ => ⟨g, 0, rfl, HP.out.1.1, fun i hi => by
        have h := HP.out.2 i hi
        rw [itsOf_getD ds i (by rw [LE.out]; exact hi)]
        exact ⟨by rw [Nat.zero_add]; exact h 0 (by omega), by rw [Nat.zero_add]; exact h 1 (by omega), by rw [Nat.zero_add]; exact h 2 (by omega), by rw [Nat.zero_add]; exact h 3 (by omega), by rw [Nat.zero_add]; exact h 4 (by omega), by rw [Nat.zero_add]; exact h 5 (by omega), by rw [Nat.zero_add]; exact h 6 (by omega)⟩⟩⟩, UR.out⟩
set_option maxHeartbeats 4000000 in
theorem leads1_any (x : Rec) (e : Evt) (ids : Int) (bI : Nat) (w : World) (hi : 0 ≤ ids ∧ ids ≤ 9999) (hI : Blk w bI 3 #[.int .i64 ids]) :
    Calls Tryz.prog 140 #[x.v, e.v, .pointer (some ⟨bI, 0, none⟩)] w fun z w' => z = .returned (.bool (decide (x.ev = e) && inB x.s 0 (ids - 1))) ∧ Up w w' := by
  have CW := Lib.hid (fun W => within_any x.s 0 (ids - 1) W)
  have ce := fun W => eql_evt x.ev e W
  rw [eqB_dec]
  generalize eqB x.ev e = b1 at ce ⊢
  generalize inB x.s 0 (ids - 1) = b2 at CW ⊢
  obtain ⟨⟨a0, a1, a2, a3, a4, a5⟩, a6⟩ := x; obtain ⟨e0, e1, e2, e3, e4, e5⟩ := e; unfold Rec.v Evt.v; unfold Evt.v at ce; dsimp only at ce CW ⊢
  have gd := guard_evt
  have iw : IntKind.i64.wrap (ids - 1) = ids - 1 := IntWalk.i64_in _ (by omega)
  have X := Lib.hid ((Blk.new w #[.int .i64 a0, .int .i64 a1, .int .i64 a2, .int .i64 a3, .int .i64 a4, .int .i64 a5, .int .i64 a6] 109).alloc (.cells #[.int .i64 e0, .int .i64 e1, .int .i64 e2, .int .i64 e3, .int .i64 e4, .int .i64 e5] 88))
  have U := Lib.hid (((Up.refl w).alloc (.cells #[.int .i64 a0, .int .i64 a1, .int .i64 a2, .int .i64 a3, .int .i64 a4, .int .i64 a5, .int .i64 a6] 109)).alloc (.cells #[.int .i64 e0, .int .i64 e1, .int .i64 e2, .int .i64 e3, .int .i64 e4, .int .i64 e5] 88))
  have c0 := (hI.up U.out).cell (j := 0) rfl
  have lc := (hI.up U.out).lt
  clear hI
  cases b1
  · go_enter Tryz.func140, Tryz.ntmps140
    go_wp2; go_ret
    exact ⟨rfl, U.out⟩
  · go_enter Tryz.func140, Tryz.ntmps140
    go_wp2_with fail
    refine (CW.out _).mono ?_; rintro v w1 ⟨rfl, rfl⟩; go_wp2; go_ret
    exact ⟨ret_bool (by simp), U.out⟩
set_option maxHeartbeats 8000000 in
theorem equalF_any (A : Option Addr) (l e : Nat) (B : Option Addr) (q f : Nat) (xs : List Rec) (es : List Evt) (ids : Int) (bI : Nat) (w : World) (hl : l ≤ 1000000000) (hq : q ≤ 1000000000) (hi : 0 ≤ ids ∧ ids ≤ 9999) (hE : Recs w A l xs) (hF : Evs w B q es) (hI : Blk w bI 3 #[.int .i64 ids]) :
    Calls Tryz.prog 141 #[.slice A l e, .slice B q f, .func (.func 140) #[] #[.pointer (some ⟨bI, 0, none⟩)]] w fun x w' => x = .returned (.bool (sameL ids xs es)) ∧ Up w w' := by
  have HE := Lib.hid hE
  have HF := Lib.hid hF
  have LE := Lib.hid hE.1
  have LF := Lib.hid hF.1
  have CL := Lib.hid (fun a b W (u : Up w W) => leads1_any a b ids bI W hi (hI.up u))
  by_cases hne : l = q
  · subst hne
    have SD := Lib.hid (fun j h1 h2 => sameL_drop ids xs es j h1 h2)
    have SE := Lib.hid (fun j h1 h2 => sameL_end ids xs es j h1 h2)
    have H0 := Lib.hid (show sameL ids (xs.drop 0) (es.drop 0) = sameL ids xs es from rfl)
    generalize sameL ids xs es = res at H0 ⊢
    clear hE hF hi hI
    go_enter Tryz.func141, Tryz.ntmps141
    go_wp2
    go_loopw [17] (fun i wr => (∃ j : Nat, j ≤ l ∧ i = .int .i64 j ∧ Hid (sameL ids (xs.drop j) (es.drop j) = res)) ∧ Up w wr) (fun i _ => l - (intOf i).toNat)
    case atStart => exact ⟨⟨0, by omega, rfl, H0⟩, Up.refl _⟩
    case round =>
      obtain ⟨⟨j, hj, rfl, HR⟩, ur⟩ := hrel
      have UR := Lib.hid ur
      by_cases hlt : j < l
      · have i4 : (j : Int) < l := by omega
        have i5 : j < l := hlt
        obtain ⟨b, off, hA, hb, hc⟩ := (HE.out.up ur).2 (by omega); obtain ⟨b2, off2, hA2, hb2, hc2⟩ := (HF.out.up ur).2 (by omega); subst hA hA2
        have a0 := hc j hlt
        have S := SD.out j (by rw [LE.out]; exact hlt) (by rw [LF.out]; exact hlt)
        rw [HR.out] at S
        have cl := CL.out (xs.getD j default) (es.getD j default)
        have a1 := hc2 j hlt
        generalize xs.getD j default = p at S a0 cl
        generalize es.getD j default = g at S a1 cl
        generalize (decide (p.ev = g) && inB p.s 0 (ids - 1)) = r at S cl
        replace S := Lib.hid S
        obtain ⟨⟨p0, p1, p2, p3, p4, p5⟩, p6⟩ := p; obtain ⟨g0, g1, g2, g3, g4, g5⟩ := g; unfold Rec.v Evt.v at cl; unfold RecAt at a0; unfold EvAt at a1; dsimp only at cl a0 a1
        have C := Lib.hid cl
        obtain ⟨z0, z1, z2, z3, z4, z5, z6⟩ := a0; obtain ⟨y0, y1, y2, y3, y4, y5⟩ := a1
        have UE := Lib.hid (((Up.refl wr).alloc (.cells #[.int .i64 p0, .int .i64 p1, .int .i64 p2, .int .i64 p3, .int .i64 p4, .int .i64 p5, .int .i64 p6] 109)).alloc (.cells #[.int .i64 g0, .int .i64 g1, .int .i64 g2, .int .i64 g3, .int .i64 g4, .int .i64 g5] 88))
        clear hc hc2 ur cl HR
        go_wp2_with fail
        refine (C.out _ (UR.out.trans UE.out)).mono ?_; rintro x wA ⟨rfl, uA⟩
        have UN := Lib.hid (UR.out.trans (UE.out.trans uA))
        clear uA
        cases r
        · have HF := Lib.hid (show res = false by rw [S.out]; rfl)
          go_wp2; go_ret
          exact ⟨ret_bool HF.out.symm, UN.out⟩
        · have HN := Lib.hid (show sameL ids (xs.drop (j + 1)) (es.drop (j + 1)) = res by rw [S.out]; rfl)
          go_wp2
          go_roundw
          case rel => exact ⟨⟨j + 1, by omega, by go_num, HN⟩, UN.out⟩
          case measure => simp [intOf]; omega
      · obtain rfl : j = l := by omega
        have i4 : ¬ (j : Int) < j := by omega
        have HT := Lib.hid (show res = true by rw [← HR.out]; exact SE.out j (by rw [LE.out]; omega) (by rw [LF.out]; omega))
        clear ur; go_wp2; go_ret
        exact ⟨ret_bool HT.out.symm, UR.out⟩
  · have HT := Lib.hid (show sameL ids xs es = false from sameL_len ids xs es (by rw [LE.out, LF.out]; exact hne))
    generalize sameL ids xs es = res at HT ⊢
    have j1 : ¬ (l : Int) = q := by omega
    clear hE hF hi hI
    go_enter Tryz.func141, Tryz.ntmps141
    go_wp2; go_ret
    exact ⟨ret_bool HT.out.symm, Up.refl _⟩
end Go.Proofs.YtlkmhmiamdbhcabGreat

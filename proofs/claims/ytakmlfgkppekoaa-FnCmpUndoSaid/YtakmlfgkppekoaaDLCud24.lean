/-
  What newMachine returns, in one sentence: false for a model that is none; else a new map with the model's rules, their number and its end; for every model that lies in memory.
  What newMachine returns, in one sentence: false for a model that is none; else a new map whose rules' sends lie where the model lay; for every model that lay in memory in an older world.
  What minus, inverse and impl.RevInverse return, in one sentence: the difference and the inverse modulo 97, and 0 where there is none; for numbers in bounds, RevInverse for every number.
  What times, plus and next return, in one sentence: the product, the sum and the next state modulo 97; for numbers in bounds.
-/
import Derived.Test.YtakmlfgkppekoaaDLCud03
import Derived.Test.YtakmlfgkppekoaaDLCud08
import Derived.Test.YtakmlfgkppekoaaDLCud19
import Derived.Test.YtakmlfgkppekoaaDLCud23
namespace Go.Proofs.Ytakmlfgkppekoaa
set_option maxRecDepth 100000
open Go.RowKit
def MachPost (m : Mdl) (w : World) (x : Ending) (w' : World) : Prop :=
  Up w w' ∧ ((mdlB m = false ∧ x = .returned (.tuple #[.agg #[.map none, .int .i64 0, .int .i64 0], .bool false])) ∨
    (mdlB m = true ∧ ∃ b, x = .returned (.tuple #[.agg #[.map (some b), .int .i64 m.rules.length, .int .i64 m.til], .bool true]) ∧ w.heap.size ≤ b ∧ Mach w' b m))
set_option maxHeartbeats 8000000 in
theorem newMachine_any (A : Option Addr) (n c : Nat) (B : Option Addr) (k d : Nat) (m : Mdl) (w : World) (hM : MdlV w A n B k m) :
    Calls Try.prog 74 #[.agg #[.slice A n c, .slice B k d, .int .i64 m.til]] w (MachPost m w) := by
  have HM := Lib.hid hM
  have HR := Lib.hid hM.rules
  have LR := Lib.hid hM.rules.1
  have U0 := Lib.hid (((Up.refl w).alloc (.cells #[.slice A n c, .slice B k d, .int .i64 m.til] 33)).alloc (.cells #[.map none, .int .i64 0, .int .i64 0] 106))
  have X1 := Lib.hid ((Box3.new w (.slice A n c) (.slice B k d) (.int .i64 m.til) 33).up ((Up.refl _).alloc (.cells #[.map none, .int .i64 0, .int .i64 0] 106)))
  have X2 := Lib.hid (Box3.new (w.alloc (.cells #[.slice A n c, .slice B k d, .int .i64 m.til] 33)) (.map none) (.int .i64 0) (.int .i64 0) 106)
  have F2 := Lib.hid (fun j => free_new (w.alloc (.cells #[.slice A n c, .slice B k d, .int .i64 m.til] 33)) #[.map none, .int .i64 0, .int .i64 0] 106 j)
  simp only [World.size_alloc] at X2 F2
  have CI := Lib.hid (fun W (u : Up w W) => implMdl_any A n c B k d m W (hM.up u))
  generalize hmb : mdlB m = g at CI
  have HB := Lib.hid hmb
  clear hM hmb
  go_enter Try.func74, Try.ntmps74
  go_wp2_with fail
  refine (CI.out _ U0.out).mono ?_; rintro x w1 ⟨rfl, u1⟩
  have U1 := Lib.hid (U0.out.trans u1)
  have X1 := Lib.hid (X1.out.up u1)
  have x2 := X2.out.up u1
  have f2 : ∀ j, w1.frozen? ⟨w.heap.size + 1, j, none⟩ = false := fun j => (u1.frozens _ _ (by simp)).trans (F2.out j)
  have X2 := Lib.hid x2
  have F2 := Lib.hid f2
  clear u1 x2 f2
  cases g
  · have K := set3_at (w := w1) (b := w.heap.size + 1) (x := .map none) (y := .int .i64 0) (z := .int .i64 0) (fun j hj => by
      have h3 : j = 0 ∨ j = 1 ∨ j = 2 := by omega
      rcases h3 with rfl | rfl | rfl
      · exact ⟨_, X2.out.c0⟩
      · exact ⟨_, X2.out.c1⟩
      · exact ⟨_, X2.out.c2⟩)
    have UE := Lib.hid (((U1.out.setCell (p := ⟨w.heap.size + 1, 0, none⟩) (by dsimp only; omega) (.map none)).setCell (p := ⟨w.heap.size + 1, 1, none⟩) (by dsimp only; omega) (.int .i64 0)).setCell (p := ⟨w.heap.size + 1, 2, none⟩) (by dsimp only; omega) (.int .i64 0))
    obtain ⟨k0, k1, k2⟩ := K; obtain ⟨q0, q1, q2⟩ := And.intro X2.out.c0 (And.intro X2.out.c1 X2.out.c2)
    have qf := F2.out
    go_wp2
    exact bodyPost_ret (v := .tuple #[.agg #[.map none, .int .i64 0, .int .i64 0], .bool false]) (by simp [results, Try.results74, go_sem, k0, k1, k2]) rfl ⟨UE.out, .inl ⟨HB.out, rfl⟩⟩
  · obtain ⟨q0, q1, q2⟩ := And.intro X1.out.c0 (And.intro X1.out.c1 X1.out.c2)
    have hsz1 : w.heap.size + 1 < w1.heap.size := X2.out.lt
    have FEW := Lib.hid (mdlB_few HB.out)
    have hn4 : n ≤ 4 := by have := FEW.out; have := LR.out; omega
    have H0 := RMap.made w1
    have F0 := Lib.hid (Filled.start w m.rules)
    have hmm := run_makeMap (P := Try.prog) 104 w1
    have u2 : Up w1 (w1.alloc (.map #[] 0)) := (Up.refl _).alloc _
    generalize w1.alloc (.map #[] 0) = w2 at H0 hmm u2
    generalize hmb : w1.heap.size = mb at H0 hmm
    have HMB := Lib.hid hmb
    have H0 := Lib.hid H0
    have x1 := X1.out.up u2
    obtain ⟨p0, p1, p2⟩ := And.intro x1.c0 (And.intro x1.c1 x1.c2)
    have U2 := Lib.hid u2
    clear hmb x1 u2 q0 q1 q2; go_wp2; clear hmm p0 p1 p2
    go_loopw [17] (fun i wr => (∃ (q N : Nat) (f : Int → Int → Option Value), q ≤ n ∧ i = .int .i64 q ∧ N ≤ 3 * q ∧ Hid (RMap wr mb N f) ∧ Hid (Filled w m.rules q 0 f)) ∧ Up w1 wr) (fun i _ => n - (intOf i).toNat)
    case atStart => exact ⟨⟨0, 0, _, by omega, rfl, by omega, H0, F0⟩, U2.out⟩
    case round =>
      obtain ⟨⟨q, N, f, hq, rfl, hN, HMAP, HF⟩, ur⟩ := hrel; obtain ⟨wo, hwo⟩ : ∃ W, W = wr := ⟨_, rfl⟩; subst hwo
      have UR := Lib.hid ur
      by_cases hlt : q < n
      · obtain ⟨b, off, hA, hb, hc⟩ := HR.out.2.2 (by omega)
        subst hA; obtain ⟨A', n', c', hcell, hrs⟩ := hc q hlt
        have cell := ((U1.out.trans ur).cells _ _ hb).trans hcell
        have HS := Lib.hid hrs
        have hb' : b < wo.heap.size := by have := (U1.out.trans ur).size; omega
        have RB := Lib.hid (mdlB_row HB.out q (by rw [LR.out]; exact hlt))
        have hn'3 : n' ≤ 3 := by
          have h := rulesB_len RB.out (by omega) (by omega)
          have := hrs.1
          omega
        clear hc hcell hrs ur
        have i4 : (q : Int) < n := by omega
        have i5 : IntKind.i64.wrap ((q : Int) + 1) = (q : Int) + 1 := IntWalk.i64_in _ (by omega)
        have RN : (m.rules.getD q []).length = n' := HS.out.1
        have RNH := Lib.hid RN
        clear RN
        go_wp2_with fail
        go_loopw [24] (fun j wj => (∃ (p N : Nat) (f : Int → Int → Option Value), p ≤ n' ∧ j = .int .i64 p ∧ N ≤ 3 * q + p ∧ Hid (RMap wj mb N f) ∧ Hid (Filled w m.rules q p f)) ∧ Up w1 wj) (fun j _ => n' - (intOf j).toNat)
        case atStart => exact ⟨⟨0, N, f, by omega, rfl, by omega, HMAP, HF⟩, UR.out⟩
        case round =>
          obtain ⟨⟨p, N2, f2, hp, rfl, hN2, HMAP2, HF2⟩, uj⟩ := hrel
          have UJ := Lib.hid uj
          by_cases hlp : p < n'
          · obtain ⟨b2, off2, hA2, hb2, hc2⟩ := HS.out.2.2 (by omega)
            subst hA2
            have at2 := (hc2 p hlp).up (U1.out.trans uj) hb2
            have hb2' : b2 < wr.heap.size := by have := (U1.out.trans uj).size; omega
            have at0 := hc2 p hlp
            clear hc2
            have ST := Lib.hid (fun r (hr : (m.rules.getD q []).getD p default = r) A n c hn he => HF2.out.step (r := r) (A := A) (n := n) (c := c) (by rw [RNH.out]; exact hlp) hr hn he)
            have RB2 := rulesB_mem RB.out p (by rw [RNH.out]; exact hlp)
            generalize hgr : (m.rules.getD q []).getD p default = r at at2 at0 RB2 ST
            obtain ⟨A3, n3, c3, ⟨r0, r1, r2, r3, r4⟩, hn3, he3⟩ := at0; obtain ⟨A4, n4, c4, ⟨s0, s1, s2, s3, s4⟩, hn4', he4⟩ := at2
            have e4 := ((U1.out.trans uj).cells _ _ hb2).trans r4
            rw [s4] at e4
            injection e4 with e4
            injection e4 with e41 e42 e43
            subst e41 e42 e43
            have HF3 := Lib.hid (ST.out r rfl A4 n4 c4 hn3 he3)
            have hkd : 0 ≤ r.kd ∧ r.kd ≤ 2 := by
              simp only [ruleB, Bool.and_eq_true, inB_iff] at RB2
              exact RB2.1.1.1.2
            obtain ⟨kd, ra, rb, rc, es⟩ := r; dsimp only at s0 s1 s2 s3 s4 hkd; unfold Rule.v at HF3; dsimp only at HF3
            have HM3 := Lib.hid (HMAP2.out.up ((Up.refl wr).alloc (.cells #[.int .i64 kd, .int .i64 ra, .int .i64 rb, .int .i64 rc, .slice A4 n4 c4] 63)))
            have UJ2 := Lib.hid (uj.alloc (.cells #[.int .i64 kd, .int .i64 ra, .int .i64 rb, .int .i64 rc, .slice A4 n4 c4] 63))
            clear uj r0 r1 r2 r3 r4 he3 he4 RB2 ST hgr
            have hmb1 : w1.heap.size ≤ mb := by have := HMB.out; omega
            have i6 : (p : Int) < n' := by omega
            have i7 : IntKind.i64.wrap ((p : Int) + 1) = (p : Int) + 1 := IntWalk.i64_in _ (by omega)
            go_wp2_with (at_mapUpdate; refine wpList_store_R rfl _ rfl _ _ _ rfl mb N2 f2 rfl HM3.out (by simp only [maxLen]; omega) q kd rfl (by unfold I64; omega) (by unfold I64; omega) _ rfl ?_; intro w5 h5 m5; have H5 := Lib.hid h5; have U5 := Lib.hid (m5.up UJ2.out hmb1); clear h5 m5)
            go_roundw
            case rel => exact ⟨⟨p + 1, N2 + 1, _, by omega, by first | rfl | go_num, by omega, H5, HF3⟩, U5.out⟩
            case measure => (simp [intOf]; try omega)
          · have HR2 := Lib.hid (HF2.out.row (by rw [RNH.out]; omega))
            have i6 : ¬ (p : Int) < n' := by omega
            clear uj; go_wp2
            go_roundw
            case rel => exact ⟨⟨q + 1, N2, f2, by omega, by first | rfl | go_num, by omega, HMAP2, HR2⟩, UJ.out⟩
            case measure => (simp [intOf]; try omega)
      · have hqn : q = n := by omega
        have DN := Lib.hid ((show Filled w m.rules m.rules.length 0 f by rw [LR.out, ← hqn]; exact HF.out).done HB.out)
        have i4 : ¬ (q : Int) < n := by omega
        clear ur hqn
        have x1 := X1.out.up UR.out
        obtain ⟨q0, q1, q2⟩ := And.intro x1.c0 (And.intro x1.c1 x1.c2)
        have x2 := X2.out.up UR.out
        obtain ⟨p0, p1, p2⟩ := And.intro x2.c0 (And.intro x2.c1 x2.c2)
        have qf : ∀ j, wo.frozen? ⟨w.heap.size + 1, j, none⟩ = false := fun j => (UR.out.frozens _ _ hsz1).trans (F2.out j)
        have K := set3_at (w := wo) (b := w.heap.size + 1) (x := .map (some mb)) (y := .int .i64 n) (z := .int .i64 m.til) (fun j hj => by
          have h3 : j = 0 ∨ j = 1 ∨ j = 2 := by omega
          rcases h3 with rfl | rfl | rfl
          · exact ⟨_, x2.c0⟩
          · exact ⟨_, x2.c1⟩
          · exact ⟨_, x2.c2⟩)
        obtain ⟨k0, k1, k2⟩ := K
        have UE := Lib.hid ((((U1.out.trans UR.out).setCell (p := ⟨w.heap.size + 1, 0, none⟩) (by dsimp only; omega) (.map (some mb))).setCell (p := ⟨w.heap.size + 1, 1, none⟩) (by dsimp only; omega) (.int .i64 n)).setCell (p := ⟨w.heap.size + 1, 2, none⟩) (by dsimp only; omega) (.int .i64 m.til))
        have hmbw : w.heap.size + 1 < mb := by have := HMB.out; omega
        have ME := Lib.hid (show Mach _ mb m from ⟨N, f, ((HMAP.out.setFar (p := ⟨w.heap.size + 1, 0, none⟩) (by dsimp only; omega) (.map (some mb))).setFar (p := ⟨w.heap.size + 1, 1, none⟩) (by dsimp only; omega) (.int .i64 n)).setFar (p := ⟨w.heap.size + 1, 2, none⟩) (by dsimp only; omega) (.int .i64 m.til), fun c k => (DN.out c k).up UE.out⟩)
        clear x1 x2; go_wp2
        exact bodyPost_ret (v := .tuple #[.agg #[.map (some mb), .int .i64 n, .int .i64 m.til], .bool true]) (by simp [results, Try.results74, go_sem, k0, k1, k2]) rfl ⟨UE.out, .inr ⟨HB.out, mb, by rw [LR.out], by omega, ME.out⟩⟩
end Go.Proofs.Ytakmlfgkppekoaa

namespace Go.Proofs.Ytakmlfgkppekoaa
set_option maxRecDepth 100000
open Go.RowKit
/-- The map in w; the sends of its rules in w0. -/
def MachAt (w0 w : World) (b : Nat) (m : Mdl) : Prop := ∃ N f, RMap w b N f ∧ ∀ c k, RowV w0 (if 0 ≤ c then ruleOf k (m.rules.getD c.toNat []) else none) (f c k)
theorem MachAt.mach {w0 w W : World} {b : Nat} {m : Mdl} (h : MachAt w0 w b m) (u : Up w0 W) (e : W.heap[b]? = w.heap[b]?) : Mach W b m := by
  obtain ⟨N, f, h1, h2⟩ := h
  exact ⟨N, f, h1.block e, fun c k => (h2 c k).up u⟩
def MachAtPost (m : Mdl) (w0 w : World) (x : Ending) (w' : World) : Prop :=
  Up w w' ∧ ((mdlB m = false ∧ x = .returned (.tuple #[.agg #[.map none, .int .i64 0, .int .i64 0], .bool false])) ∨
    (mdlB m = true ∧ ∃ b, x = .returned (.tuple #[.agg #[.map (some b), .int .i64 m.rules.length, .int .i64 m.til], .bool true]) ∧ w.heap.size ≤ b ∧ b < w'.heap.size ∧ MachAt w0 w' b m))
set_option maxHeartbeats 8000000 in
theorem newMachine_at (A : Option Addr) (n c : Nat) (B : Option Addr) (k d : Nat) (m : Mdl) (w0 w : World) (hU0 : Up w0 w) (hM : MdlV w0 A n B k m) :
    Calls Try.prog 74 #[.agg #[.slice A n c, .slice B k d, .int .i64 m.til]] w (MachAtPost m w0 w) := by
  have HM := Lib.hid hM
  have HR := Lib.hid hM.rules
  have LR := Lib.hid hM.rules.1
  have U0 := Lib.hid (((Up.refl w).alloc (.cells #[.slice A n c, .slice B k d, .int .i64 m.til] 33)).alloc (.cells #[.map none, .int .i64 0, .int .i64 0] 106))
  have X1 := Lib.hid ((Box3.new w (.slice A n c) (.slice B k d) (.int .i64 m.til) 33).up ((Up.refl _).alloc (.cells #[.map none, .int .i64 0, .int .i64 0] 106)))
  have X2 := Lib.hid (Box3.new (w.alloc (.cells #[.slice A n c, .slice B k d, .int .i64 m.til] 33)) (.map none) (.int .i64 0) (.int .i64 0) 106)
  have F2 := Lib.hid (fun j => free_new (w.alloc (.cells #[.slice A n c, .slice B k d, .int .i64 m.til] 33)) #[.map none, .int .i64 0, .int .i64 0] 106 j)
  simp only [World.size_alloc] at X2 F2
  have CI := Lib.hid (fun W (u : Up w W) => implMdl_any A n c B k d m W (hM.up (hU0.trans u)))
  generalize hmb : mdlB m = g at CI
  have HB := Lib.hid hmb
  clear hM hmb
  go_enter Try.func74, Try.ntmps74
  go_wp2_with fail
  refine (CI.out _ U0.out).mono ?_; rintro x w1 ⟨rfl, u1⟩
  have U1 := Lib.hid (U0.out.trans u1)
  have UA_ := Lib.hid (hU0.trans U1.out)
  clear hU0
  have X1 := Lib.hid (X1.out.up u1)
  have x2 := X2.out.up u1
  have f2 : ∀ j, w1.frozen? ⟨w.heap.size + 1, j, none⟩ = false := fun j => (u1.frozens _ _ (by simp)).trans (F2.out j)
  have X2 := Lib.hid x2
  have F2 := Lib.hid f2
  clear u1 x2 f2
  cases g
  · have K := set3_at (w := w1) (b := w.heap.size + 1) (x := .map none) (y := .int .i64 0) (z := .int .i64 0) (fun j hj => by
      have h3 : j = 0 ∨ j = 1 ∨ j = 2 := by omega
      rcases h3 with rfl | rfl | rfl
      · exact ⟨_, X2.out.c0⟩
      · exact ⟨_, X2.out.c1⟩
      · exact ⟨_, X2.out.c2⟩)
    have UE := Lib.hid (((U1.out.setCell (p := ⟨w.heap.size + 1, 0, none⟩) (by dsimp only; omega) (.map none)).setCell (p := ⟨w.heap.size + 1, 1, none⟩) (by dsimp only; omega) (.int .i64 0)).setCell (p := ⟨w.heap.size + 1, 2, none⟩) (by dsimp only; omega) (.int .i64 0))
    obtain ⟨k0, k1, k2⟩ := K; obtain ⟨q0, q1, q2⟩ := And.intro X2.out.c0 (And.intro X2.out.c1 X2.out.c2)
    have qf := F2.out
    go_wp2
    exact bodyPost_ret (v := .tuple #[.agg #[.map none, .int .i64 0, .int .i64 0], .bool false]) (by simp [results, Try.results74, go_sem, k0, k1, k2]) rfl ⟨UE.out, .inl ⟨HB.out, rfl⟩⟩
  · obtain ⟨q0, q1, q2⟩ := And.intro X1.out.c0 (And.intro X1.out.c1 X1.out.c2)
    have hsz1 : w.heap.size + 1 < w1.heap.size := X2.out.lt
    have FEW := Lib.hid (mdlB_few HB.out)
    have hn4 : n ≤ 4 := by have := FEW.out; have := LR.out; omega
    have H0 := RMap.made w1
    have F0 := Lib.hid (Filled.start w0 m.rules)
    have hmm := run_makeMap (P := Try.prog) 104 w1
    have u2 : Up w1 (w1.alloc (.map #[] 0)) := (Up.refl _).alloc _
    generalize w1.alloc (.map #[] 0) = w2 at H0 hmm u2
    generalize hmb : w1.heap.size = mb at H0 hmm
    have HMB := Lib.hid hmb
    have H0 := Lib.hid H0
    have x1 := X1.out.up u2
    obtain ⟨p0, p1, p2⟩ := And.intro x1.c0 (And.intro x1.c1 x1.c2)
    have U2 := Lib.hid u2
    clear hmb x1 u2 q0 q1 q2; go_wp2; clear hmm p0 p1 p2
    go_loopw [17] (fun i wr => (∃ (q N : Nat) (f : Int → Int → Option Value), q ≤ n ∧ i = .int .i64 q ∧ N ≤ 3 * q ∧ Hid (RMap wr mb N f) ∧ Hid (Filled w0 m.rules q 0 f)) ∧ Up w1 wr) (fun i _ => n - (intOf i).toNat)
    case atStart => exact ⟨⟨0, 0, _, by omega, rfl, by omega, H0, F0⟩, U2.out⟩
    case round =>
      obtain ⟨⟨q, N, f, hq, rfl, hN, HMAP, HF⟩, ur⟩ := hrel; obtain ⟨wo, hwo⟩ : ∃ W, W = wr := ⟨_, rfl⟩; subst hwo
      have UR := Lib.hid ur
      by_cases hlt : q < n
      · obtain ⟨b, off, hA, hb, hc⟩ := HR.out.2.2 (by omega)
        subst hA; obtain ⟨A', n', c', hcell, hrs⟩ := hc q hlt
        have cell := ((UA_.out.trans ur).cells _ _ hb).trans hcell
        have HS := Lib.hid hrs
        have hb' : b < wo.heap.size := by have := (UA_.out.trans ur).size; omega
        have RB := Lib.hid (mdlB_row HB.out q (by rw [LR.out]; exact hlt))
        have hn'3 : n' ≤ 3 := by
          have h := rulesB_len RB.out (by omega) (by omega)
          have := hrs.1
          omega
        clear hc hcell hrs ur
        have i4 : (q : Int) < n := by omega
        have i5 : IntKind.i64.wrap ((q : Int) + 1) = (q : Int) + 1 := IntWalk.i64_in _ (by omega)
        have RN : (m.rules.getD q []).length = n' := HS.out.1
        have RNH := Lib.hid RN
        clear RN
        go_wp2_with fail
        go_loopw [24] (fun j wj => (∃ (p N : Nat) (f : Int → Int → Option Value), p ≤ n' ∧ j = .int .i64 p ∧ N ≤ 3 * q + p ∧ Hid (RMap wj mb N f) ∧ Hid (Filled w0 m.rules q p f)) ∧ Up w1 wj) (fun j _ => n' - (intOf j).toNat)
        case atStart => exact ⟨⟨0, N, f, by omega, rfl, by omega, HMAP, HF⟩, UR.out⟩
        case round =>
          obtain ⟨⟨p, N2, f2, hp, rfl, hN2, HMAP2, HF2⟩, uj⟩ := hrel
          have UJ := Lib.hid uj
          by_cases hlp : p < n'
          · obtain ⟨b2, off2, hA2, hb2, hc2⟩ := HS.out.2.2 (by omega)
            subst hA2
            have at2 := (hc2 p hlp).up (UA_.out.trans uj) hb2
            have hb2' : b2 < wr.heap.size := by have := (UA_.out.trans uj).size; omega
            have at0 := hc2 p hlp
            clear hc2
            have ST := Lib.hid (fun r (hr : (m.rules.getD q []).getD p default = r) A n c hn he => HF2.out.step (r := r) (A := A) (n := n) (c := c) (by rw [RNH.out]; exact hlp) hr hn he)
            have RB2 := rulesB_mem RB.out p (by rw [RNH.out]; exact hlp)
            generalize hgr : (m.rules.getD q []).getD p default = r at at2 at0 RB2 ST
            obtain ⟨A3, n3, c3, ⟨r0, r1, r2, r3, r4⟩, hn3, he3⟩ := at0; obtain ⟨A4, n4, c4, ⟨s0, s1, s2, s3, s4⟩, hn4', he4⟩ := at2
            have e4 := ((UA_.out.trans uj).cells _ _ hb2).trans r4
            rw [s4] at e4
            injection e4 with e4
            injection e4 with e41 e42 e43
            subst e41 e42 e43
            have HF3 := Lib.hid (ST.out r rfl A4 n4 c4 hn3 he3)
            have hkd : 0 ≤ r.kd ∧ r.kd ≤ 2 := by
              simp only [ruleB, Bool.and_eq_true, inB_iff] at RB2
              exact RB2.1.1.1.2
            obtain ⟨kd, ra, rb, rc, es⟩ := r; dsimp only at s0 s1 s2 s3 s4 hkd; unfold Rule.v at HF3; dsimp only at HF3
            have HM3 := Lib.hid (HMAP2.out.up ((Up.refl wr).alloc (.cells #[.int .i64 kd, .int .i64 ra, .int .i64 rb, .int .i64 rc, .slice A4 n4 c4] 63)))
            have UJ2 := Lib.hid (uj.alloc (.cells #[.int .i64 kd, .int .i64 ra, .int .i64 rb, .int .i64 rc, .slice A4 n4 c4] 63))
            clear uj r0 r1 r2 r3 r4 he3 he4 RB2 ST hgr
            have hmb1 : w1.heap.size ≤ mb := by have := HMB.out; omega
            have i6 : (p : Int) < n' := by omega
            have i7 : IntKind.i64.wrap ((p : Int) + 1) = (p : Int) + 1 := IntWalk.i64_in _ (by omega)
            go_wp2_with (at_mapUpdate; refine wpList_store_R rfl _ rfl _ _ _ rfl mb N2 f2 rfl HM3.out (by simp only [maxLen]; omega) q kd rfl (by unfold I64; omega) (by unfold I64; omega) _ rfl ?_; intro w5 h5 m5; have H5 := Lib.hid h5; have U5 := Lib.hid (m5.up UJ2.out hmb1); clear h5 m5)
            go_roundw
            case rel => exact ⟨⟨p + 1, N2 + 1, _, by omega, by first | rfl | go_num, by omega, H5, HF3⟩, U5.out⟩
            case measure => (simp [intOf]; try omega)
          · have HR2 := Lib.hid (HF2.out.row (by rw [RNH.out]; omega))
            have i6 : ¬ (p : Int) < n' := by omega
            clear uj; go_wp2
            go_roundw
            case rel => exact ⟨⟨q + 1, N2, f2, by omega, by first | rfl | go_num, by omega, HMAP2, HR2⟩, UJ.out⟩
            case measure => (simp [intOf]; try omega)
      · have hqn : q = n := by omega
        have DN := Lib.hid ((show Filled w0 m.rules m.rules.length 0 f by rw [LR.out, ← hqn]; exact HF.out).done HB.out)
        have i4 : ¬ (q : Int) < n := by omega
        clear ur hqn
        have x1 := X1.out.up UR.out
        obtain ⟨q0, q1, q2⟩ := And.intro x1.c0 (And.intro x1.c1 x1.c2)
        have x2 := X2.out.up UR.out
        obtain ⟨p0, p1, p2⟩ := And.intro x2.c0 (And.intro x2.c1 x2.c2)
        have qf : ∀ j, wo.frozen? ⟨w.heap.size + 1, j, none⟩ = false := fun j => (UR.out.frozens _ _ hsz1).trans (F2.out j)
        have K := set3_at (w := wo) (b := w.heap.size + 1) (x := .map (some mb)) (y := .int .i64 n) (z := .int .i64 m.til) (fun j hj => by
          have h3 : j = 0 ∨ j = 1 ∨ j = 2 := by omega
          rcases h3 with rfl | rfl | rfl
          · exact ⟨_, x2.c0⟩
          · exact ⟨_, x2.c1⟩
          · exact ⟨_, x2.c2⟩)
        obtain ⟨k0, k1, k2⟩ := K
        have UE := Lib.hid ((((U1.out.trans UR.out).setCell (p := ⟨w.heap.size + 1, 0, none⟩) (by dsimp only; omega) (.map (some mb))).setCell (p := ⟨w.heap.size + 1, 1, none⟩) (by dsimp only; omega) (.int .i64 n)).setCell (p := ⟨w.heap.size + 1, 2, none⟩) (by dsimp only; omega) (.int .i64 m.til))
        have hmbw : w.heap.size + 1 < mb := by have := HMB.out; omega
        have ME := Lib.hid (show MachAt w0 _ mb m from ⟨N, f, ((HMAP.out.setFar (p := ⟨w.heap.size + 1, 0, none⟩) (by dsimp only; omega) (.map (some mb))).setFar (p := ⟨w.heap.size + 1, 1, none⟩) (by dsimp only; omega) (.int .i64 n)).setFar (p := ⟨w.heap.size + 1, 2, none⟩) (by dsimp only; omega) (.int .i64 m.til), fun c k => DN.out c k⟩)
        clear x1 x2; go_wp2
        exact bodyPost_ret (v := .tuple #[.agg #[.map (some mb), .int .i64 n, .int .i64 m.til], .bool true]) (by simp [results, Try.results74, go_sem, k0, k1, k2]) rfl ⟨UE.out, .inr ⟨HB.out, mb, by rw [LR.out], by omega, by obtain ⟨_, _, h, _⟩ := ME.out; exact h.lt, ME.out⟩⟩
end Go.Proofs.Ytakmlfgkppekoaa

namespace Go.Proofs.Ytakmlfgkppekoaa
set_option maxRecDepth 100000
open Go.RowKit
theorem timesw_any (x y : Int) (hx : 0 ≤ x ∧ x ≤ 1000) (hy : 0 ≤ y ∧ y ≤ 1000) (w : World) :
    Calls Try.prog 109 #[.int .i64 x, .int .i64 y] w fun z w' => z = .returned (.int .i64 (x * y % 97)) ∧ w = w' := by
  have h0 : 0 ≤ x * y := Int.mul_nonneg hx.1 hy.1
  have h1 : x * y ≤ 1000 * 1000 := Int.mul_le_mul hx.2 hy.2 hy.1 (by omega)
  have i1 : IntKind.i64.wrap (x * y) = x * y := IntWalk.i64_in _ (by omega)
  have i2 : (x * y).tmod 97 = x * y % 97 := Int.tmod_eq_emod_of_nonneg h0
  have i3 : IntKind.i64.wrap (x * y % 97) = x * y % 97 := IntWalk.i64_in _ (by omega)
  go_enter Try.func109, Try.ntmps109
  go_wp2; go_ret
  exact ⟨by first | rfl | simp [*], rfl⟩
theorem minus_any (x y : Int) (hx : 0 ≤ x ∧ x ≤ 1000) (hy : 0 ≤ y ∧ y ≤ 96) (w : World) :
    Calls Try.prog 108 #[.int .i64 x, .int .i64 y] w fun z w' => z = .returned (.int .i64 ((x - y + 97) % 97)) ∧ w = w' := by
  have i1 : IntKind.i64.wrap (x - y) = x - y := IntWalk.i64_in _ (by omega)
  have i4 : IntKind.i64.wrap (x - y + 97) = x - y + 97 := IntWalk.i64_in _ (by omega)
  have i2 : (x - y + 97).tmod 97 = (x - y + 97) % 97 := Int.tmod_eq_emod_of_nonneg (by omega)
  have i3 : IntKind.i64.wrap ((x - y + 97) % 97) = (x - y + 97) % 97 := IntWalk.i64_in _ (by omega)
  go_enter Try.func108, Try.ntmps108
  go_wp2; go_ret
  exact ⟨by first | rfl | simp [*], rfl⟩
set_option maxHeartbeats 4000000 in
theorem inverse_any (r : Int) (hr : 1 ≤ r ∧ r ≤ 96) (w : World) :
    Calls Try.prog 66 #[.int .i64 r] w fun x w' => x = .returned (.int .i64 (invV r)) ∧ Up w w' := by
  obtain ⟨r, rfl⟩ : ∃ x : Nat, r = x := ⟨r.toNat, by omega⟩
  have R0 : 0 < r := by omega
  have R9 : r < 97 := by omega
  have HV := Lib.hid (show invV (r : Int) = ((invN r : Nat) : Int) by rw [invV_in hr, Int.toNat_natCast])
  generalize invV (r : Int) = res at HV ⊢
  have HS := Lib.hid (Eu.start R0 R9)
  have HD := Lib.hid (fun a s t (h : Eu r a 0 s t) => h.done R0 R9)
  clear hr R0 R9
  go_enter Try.func66, Try.ntmps66
  go_wp2
  go_loopw [3, 4, 5, 6] (fun va vs vb vt wr => (∃ a s b t : Nat, va = .int .i64 a ∧ vs = .int .i64 s ∧ vb = .int .i64 b ∧ vt = .int .i64 t ∧ Hid (Eu r a b s t)) ∧ Up w wr) (fun _ _ vb _ _ => (intOf vb).toNat)
  case atStart => exact ⟨⟨97, 0, r, 1, rfl, rfl, rfl, rfl, HS⟩, Up.refl _⟩
  case round =>
    obtain ⟨⟨a, s, b, t, rfl, rfl, rfl, rfl, HE⟩, ur⟩ := hrel
    have E := HE.out
    have a97 := E.a97
    have b97 := E.b97
    have s97 := E.s97
    have t97 := E.t97
    by_cases hb : b = 0
    · subst hb
      have HZ := Lib.hid (HV.out.trans (by rw [HD.out a s t E]) : res = ((s : Nat) : Int))
      clear E; go_wp2; go_ret
      exact ⟨ret_int HZ.out.symm, ur⟩
    · have HN := Lib.hid (E.next (by omega))
      have hq : a / b ≤ 97 := Nat.le_trans (Nat.div_le_self _ _) a97
      have hbi : ¬ (b : Int) = 0 := by omega
      have hbb : ((b : Int) != 0) = true := by simp; omega
      have d1 : (a : Int).tdiv b = ((a / b : Nat) : Int) := by rw [Int.tdiv_eq_ediv_of_nonneg (by omega), Int.natCast_ediv]
      have d2 : (a : Int).tmod b = ((a % b : Nat) : Int) := by rw [Int.tmod_eq_emod_of_nonneg (by omega), Int.natCast_emod]
      have hml := Nat.mod_lt a (show b > 0 by omega)
      clear E
      generalize a / b = qn at *
      generalize a % b = rn at *
      have i1 : IntKind.i64.wrap (qn : Int) = qn := IntWalk.i64_in _ (by clear d1 d2; omega)
      have i2 : IntKind.i64.wrap (rn : Int) = rn := IntWalk.i64_in _ (by clear d1 d2; omega)
      have T1 := Lib.hid (fun W => (timesw_any (qn : Int) (t : Int) (by omega) (by omega) W))
      rw [castm] at T1
      have hy := Nat.mod_lt (qn * t) (show 97 > 0 by omega)
      generalize qn * t % 97 = y at *
      have M1 := Lib.hid (fun W => minus_any (s : Int) (y : Int) (by omega) (by omega) W)
      rw [show ((s : Int) - (y : Int) + 97) % 97 = (((s + 97 - y) % 97 : Nat) : Int) by omega] at M1
      generalize (s + 97 - y) % 97 = t2 at *
      have ML := Lib.hid hml
      clear hy hq a97 b97 s97 t97 hml HE HS
      go_wp2_with fail
      go_quiet (fail)
      go_wp2_with fail
      refine (T1.out _).mono ?_; rintro x w2 ⟨rfl, rfl⟩
      go_wp2_with fail
      refine (M1.out _).mono ?_; rintro x w3 ⟨rfl, rfl⟩; go_wp2
      go_roundw
      case rel => exact ⟨⟨b, t, rn, t2, rfl, rfl, rfl, rfl, HN⟩, ur.trans ((Up.refl _).drewN _)⟩
      case measure => have := ML.out; simp [intOf]; omega
end Go.Proofs.Ytakmlfgkppekoaa

namespace Go.Proofs.Ytakmlfgkppekoaa
set_option maxRecDepth 100000
open Go.RowKit
theorem times_any (x y : Int) (hx : 0 ≤ x ∧ x ≤ 96) (hy : 0 ≤ y ∧ y ≤ 96) (w : World) :
    Calls Try.prog 109 #[.int .i64 x, .int .i64 y] w fun z w' => z = .returned (.int .i64 (x * y % 97)) ∧ w = w' := by
  have h0 : 0 ≤ x * y := Int.mul_nonneg hx.1 hy.1
  have h1 : x * y ≤ 96 * 96 := Int.mul_le_mul hx.2 hy.2 hy.1 (by omega)
  have i1 : IntKind.i64.wrap (x * y) = x * y := IntWalk.i64_in _ (by omega)
  have i2 : (x * y).tmod 97 = x * y % 97 := Int.tmod_eq_emod_of_nonneg h0
  have i3 : IntKind.i64.wrap (x * y % 97) = x * y % 97 := IntWalk.i64_in _ (by omega)
  go_enter Try.func109, Try.ntmps109
  go_wp2; go_ret
  exact ⟨by first | rfl | simp [*], rfl⟩
theorem plus_any (x y : Int) (hx : 0 ≤ x ∧ x ≤ 1000) (hy : 0 ≤ y ∧ y ≤ 1000) (w : World) :
    Calls Try.prog 142 #[.int .i64 x, .int .i64 y] w fun z w' => z = .returned (.int .i64 ((x + y) % 97)) ∧ w = w' := by
  have h0 : 0 ≤ x + y := by omega
  have i1 : IntKind.i64.wrap (x + y) = x + y := IntWalk.i64_in _ (by omega)
  have i2 : (x + y).tmod 97 = (x + y) % 97 := Int.tmod_eq_emod_of_nonneg h0
  have i3 : IntKind.i64.wrap ((x + y) % 97) = (x + y) % 97 := IntWalk.i64_in _ (by omega)
  go_enter Try.func142, Try.ntmps142
  go_wp2; go_ret
  exact ⟨by first | rfl | simp [*], rfl⟩
theorem plus_up (x y : Int) (hx : 0 ≤ x ∧ x ≤ 1000) (hy : 0 ≤ y ∧ y ≤ 1000) (w : World) :
    Calls Try.prog 142 #[.int .i64 x, .int .i64 y] w fun z w' => z = .returned (.int .i64 ((x + y) % 97)) ∧ Up w w' :=
  (plus_any x y hx hy w).mono (by rintro z w' ⟨rfl, rfl⟩; exact ⟨rfl, Up.refl _⟩)
theorem next_eq (a b c s d : Int) : ((a * s % 97 + b * d % 97) % 97 + c) % 97 = (a * s + b * d + c) % 97 := by
  generalize a * s = x
  generalize b * d = y
  omega
set_option maxHeartbeats 2000000 in
theorem next_any (r : Rule) (S : Value) (s d : Int) (ha : 0 ≤ r.a ∧ r.a ≤ 96) (hb : 0 ≤ r.b ∧ r.b ≤ 96) (hc : 0 ≤ r.c ∧ r.c ≤ 96) (hs : 0 ≤ s ∧ s ≤ 96) (hd : 0 ≤ d ∧ d ≤ 96) (w : World) (n c : Nat) (A : Option Addr) (hS : S = .slice A n c) :
    Calls Try.prog 120 #[r.v S, .int .i64 s, .int .i64 d] w fun z w' => z = .returned (.int .i64 ((r.a * s + r.b * d + r.c) % 97)) ∧ Up w w' := by
  obtain ⟨kd, ra, rb, rc, es⟩ := r; subst hS; dsimp only at ha hb hc ⊢
  have NE := Lib.hid (next_eq ra rb rc s d)
  have T1 := Lib.hid (fun W => times_any ra s ha hs W)
  have T2 := Lib.hid (fun W => times_any rb d hb hd W)
  have p1 : 0 ≤ ra * s % 97 ∧ ra * s % 97 ≤ 1000 := by omega
  have p2 : 0 ≤ rb * d % 97 ∧ rb * d % 97 ≤ 1000 := by omega
  generalize ra * s % 97 = x at T1 NE p1
  generalize rb * d % 97 = y at T2 NE p2
  generalize (ra * s + rb * d + rc) % 97 = res at NE ⊢
  have P1 := Lib.hid (fun W => plus_up x y p1 p2 W)
  have p3 : 0 ≤ (x + y) % 97 ∧ (x + y) % 97 ≤ 1000 := by omega
  generalize (x + y) % 97 = z at P1 NE p3
  have P2 := Lib.hid (fun W => plus_up z rc p3 ⟨hc.1, by omega⟩ W)
  rw [NE.out] at P2
  have B5 := Lib.hid (Box5.new w (.int .i64 kd) (.int .i64 ra) (.int .i64 rb) (.int .i64 rc) (.slice A n c) 63)
  have u0 := Lib.hid ((Up.refl w).alloc (.cells #[.int .i64 kd, .int .i64 ra, .int .i64 rb, .int .i64 rc, .slice A n c] 63))
  unfold Rule.v; dsimp only
  go_enter Try.func120, Try.ntmps120
  go_wp2_with fail
  refine (T1.out _).mono ?_; rintro v w1 ⟨rfl, rfl⟩
  go_wp2_with fail
  refine (T2.out _).mono ?_; rintro v w1 ⟨rfl, rfl⟩
  go_wp2_with fail
  refine region_qw (by kernel_rfl) (by kernel_rfl) ?_; refine qWalk_step ?_; intro K hK; go_simp; apply Exists.intro; refine And.intro ?_ ?_
  · intro w1 hw1
    try go_simp
    try rfl
  try go_simp
  refine hK _ ?_; clear hK K; refine qWalk_step ?_; intro K hK; go_simp; apply Exists.intro; refine And.intro ?_ ?_
  · intro w1 hw1
    try go_simp
    try rfl
  try go_simp
  refine hK _ ?_; clear hK K; refine qWalk_step ?_; intro K hK; go_simp; apply Exists.intro; refine And.intro ?_ ?_
  · intro w1 hw1
    try go_simp
    exact up_call hw1 (P1.out _)
  try go_simp
  refine hK _ ?_; clear hK K; refine qWalk_step ?_; intro K hK; go_simp; apply Exists.intro; refine And.intro ?_ ?_
  · intro w1 hw1
    try go_simp
    try rfl
  try go_simp
  refine hK _ ?_; clear hK K; refine qWalk_step ?_; intro K hK; go_simp; apply Exists.intro; refine And.intro ?_ ?_
  · intro w1 hw1
    obtain ⟨hc, hf, hz⟩ := hw1.facts
    try simp at hz
    try go_simp
    try rfl
  try go_simp
  refine hK _ ?_; clear hK K; refine qWalk_step ?_; intro K hK; go_simp; apply Exists.intro; refine And.intro ?_ ?_
  · intro w1 hw1
    try go_simp
    exact up_call hw1 (P2.out _)
  try go_simp
  refine hK _ ?_; clear hK K; refine qWalk_step ?_; intro K hK; go_simp; apply Exists.intro; refine And.intro ?_ ?_
  · intro w1 hw1
    try go_simp
    try rfl
  try go_simp
  refine hK _ ?_; clear hK K; refine qWalk_nil ?_; intro wA uA
  have U := Lib.hid (u0.out.trans uA)
  clear uA; go_wp2; go_ret
  exact ⟨rfl, U.out⟩
/-- What takes says of an event, in a machine of so many components and that end. -/
theorem takes_any (M : Value) (many til : Int) (e : Evt) (mp : Option Nat) (hM : M = .agg #[.map mp, .int .i64 many, .int .i64 til]) (w : World) :
    Calls Try.prog 84 #[M, e.v] w fun z w' => z = .returned (.bool (okB e many && decide (e.t ≤ til))) ∧ Up w w' := by
  subst hM
  have OC := Lib.hid (fun W => implOk_any e many W)
  generalize okB e many = b at OC ⊢
  obtain ⟨et, eto, efr, esq, ekd, edt⟩ := e
  have X3 := Lib.hid ((Box3.new w (.map mp) (.int .i64 many) (.int .i64 til) 106).up ((Up.refl _).alloc (.cells #[.int .i64 et, .int .i64 eto, .int .i64 efr, .int .i64 esq, .int .i64 ekd, .int .i64 edt] 45)))
  unfold Evt.v at OC ⊢; dsimp only at OC ⊢
  go_enter Try.func84, Try.ntmps84
  go_wp2_with fail
  refine (OC.out _).mono ?_; rintro v w1 ⟨rfl, u1⟩
  have x3 := X3.out.up u1
  have x5 := (Box.new (w.alloc (.cells #[.map mp, .int .i64 many, .int .i64 til] 106)) ⟨et, eto, efr, esq, ekd, edt⟩ 45).up u1
  simp only [World.size_alloc] at x5; obtain ⟨b0, b1, b2⟩ := And.intro x3.c0 (And.intro x3.c1 x3.c2); obtain ⟨⟨y0, y1, y2, y3, y4, y5⟩, -⟩ := x5.mk6
  have U := Lib.hid ((((Up.refl w).alloc (.cells #[.map mp, .int .i64 many, .int .i64 til] 106)).alloc (.cells #[.int .i64 et, .int .i64 eto, .int .i64 efr, .int .i64 esq, .int .i64 ekd, .int .i64 edt] 45)).trans u1)
  clear x3 x5 u1
  cases b
  · go_wp2
    go_ret
    exact ⟨rfl, U.out⟩
  · go_wp2
    go_ret
    exact ⟨by simp, U.out⟩
end Go.Proofs.Ytakmlfgkppekoaa

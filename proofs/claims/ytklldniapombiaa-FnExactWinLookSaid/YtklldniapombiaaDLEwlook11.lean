/-
  What toMdlModel returns, in one sentence: the same model over new blocks; for every model that lies in memory and was counted.
  What newMachine returns, in one sentence: false for a model that is none; else a new map with the model's rules, their number and its end; for every model that lies in memory.
  What impl.CmbLook gives, in one sentence: the least delay of the first component's sends to the second, but at most the end and one, and -1 for a model that is none or a component that does not exist; for every model that lies in memory.
-/
import Derived.Test.YtklldniapombiaaDLEwlook04
import Derived.Test.YtklldniapombiaaDLEwlook10
namespace Go.Proofs.Ytklldniapombiaa
set_option maxRecDepth 100000
open Go.RowKit
theorem set3_at {w : World} {b : Nat} {x y z : Value} (h : ∀ k, k < 3 → ∃ v, w.cell? ⟨b, k, none⟩ = some v) :
    (((w.setCell ⟨b, 0, none⟩ x).setCell ⟨b, 1, none⟩ y).setCell ⟨b, 2, none⟩ z).cell? ⟨b, 0, none⟩ = some x ∧ (((w.setCell ⟨b, 0, none⟩ x).setCell ⟨b, 1, none⟩ y).setCell ⟨b, 2, none⟩ z).cell? ⟨b, 1, none⟩ = some y ∧ (((w.setCell ⟨b, 0, none⟩ x).setCell ⟨b, 1, none⟩ y).setCell ⟨b, 2, none⟩ z).cell? ⟨b, 2, none⟩ = some z := by
  have ne : ∀ k j, k ≠ j → (⟨b, k, none⟩ : Addr) ≠ ⟨b, j, none⟩ := fun k j hk => addr_ne (by omega)
  obtain ⟨v0, h0⟩ := h 0 (by omega); obtain ⟨v1, h1⟩ := h 1 (by omega); obtain ⟨v2, h2⟩ := h 2 (by omega); refine ⟨?_, ?_, ?_⟩
  · rw [World.cell?_setCell_other _ _ _ _ (ne 2 0 (by omega)), World.cell?_setCell_other _ _ _ _ (ne 1 0 (by omega))]
    exact World.cell?_setCell_same _ _ _ h0
  · rw [World.cell?_setCell_other _ _ _ _ (ne 2 1 (by omega))]
    exact World.cell?_setCell_same _ _ _ ((World.cell?_setCell_other _ _ _ _ (ne 0 1 (by omega))).trans h1)
  · exact World.cell?_setCell_same _ _ _ ((World.cell?_setCell_other _ _ _ _ (ne 1 2 (by omega))).trans ((World.cell?_setCell_other _ _ _ _ (ne 0 2 (by omega))).trans h2))
theorem free_new (w : World) (xs : Array Value) (t : TypeId) (j : Nat) : (w.alloc (.cells xs t)).frozen? ⟨w.heap.size, j, none⟩ = false := by
  have hh := heap_alloc_new w (.cells xs t)
  unfold World.frozen?; rw [hh]; simp
set_option maxHeartbeats 4000000 in
theorem toMdl_any (A : Option Addr) (n c : Nat) (B : Option Addr) (k d : Nat) (m : Mdl) (w : World) (hM : MdlV w A n B k m) (hS : ShortM m n) :
    Calls Try.prog 14 #[.agg #[.slice A n c, .slice B k d, .int .i64 m.til]] w (NewMdl m n k w) := by
  obtain ⟨rs, es, til⟩ := m
  have CR := Lib.hid (fun W (u : Up w W) => toRuleSS_any A n c rs W hS.few (hM.rules.up u) hS.shorts)
  have CE := Lib.hid (fun W (u : Up w W) => toS_any B k d es W (by have := hM.starts.1; have := hS.fit.2; dsimp only at *; omega) (hM.starts.up u))
  clear hM hS; unfold NewMdl; dsimp only
  go_enter Try.func14, Try.ntmps14
  go_wp2_with fail
  refine (CR.out _ ((((Up.refl w).alloc _).alloc _).alloc _)).mono ?_; rintro x w1 ⟨g1, rfl, hg1, o1, u1⟩
  have O1 := Lib.hid o1
  have U1 := Lib.hid ((((Up.refl w).alloc _).alloc _).alloc _ |>.trans u1)
  simp at hg1
  have Z1 := Lib.hid (fun j (hj : j < 3) => (show ∃ v, w1.cell? ⟨w.heap.size + 1, j, none⟩ = some v by
    obtain ⟨v, hv⟩ := somes_new (w.alloc (.cells #[.slice A n c, .slice B k d, .int .i64 til] 25)) #[.slice none 0 0, .slice none 0 0, .int .i64 0] 36 j hj
    have hs : (w.alloc (.cells #[.slice A n c, .slice B k d, .int .i64 til] 25)).heap.size = w.heap.size + 1 := by simp
    rw [hs] at hv
    exact ⟨v, (((Up.refl _).alloc _).trans u1).cells _ _ (by simp) |>.trans hv⟩))
  have x2 := (Box3.new ((w.alloc (.cells #[.slice A n c, .slice B k d, .int .i64 til] 25)).alloc (.cells #[.slice none 0 0, .slice none 0 0, .int .i64 0] 36)) (.slice none 0 0) (.slice none 0 0) (.int .i64 0) 36).up u1
  simp only [World.size_alloc] at x2
  have X2 := Lib.hid x2
  have X0 := Lib.hid ((Box3.new w (.slice A n c) (.slice B k d) (.int .i64 til) 25).up ((((Up.refl _).alloc _).alloc _).trans u1))
  have FA := Lib.hid (fun j => (show w1.frozen? ⟨w.heap.size + 1, j, none⟩ = false by
    have h := free_new (w.alloc (.cells #[.slice A n c, .slice B k d, .int .i64 til] 25)) #[.slice none 0 0, .slice none 0 0, .int .i64 0] 36 j
    simp only [World.size_alloc] at h
    exact ((((Up.refl _).alloc _).trans u1).frozens _ _ (by simp)).trans h))
  have FB := Lib.hid (fun j => (show w1.frozen? ⟨w.heap.size + 1 + 1, j, none⟩ = false by
    have h := free_new ((w.alloc (.cells #[.slice A n c, .slice B k d, .int .i64 til] 25)).alloc (.cells #[.slice none 0 0, .slice none 0 0, .int .i64 0] 36)) #[.slice none 0 0, .slice none 0 0, .int .i64 0] 36 j
    simp only [World.size_alloc] at h
    exact (u1.frozens _ _ (by simp)).trans h))
  obtain ⟨hc, hf, hz⟩ := u1.facts; simp at hz; clear o1 u1 x2
  have ne2 : w.heap.size + 1 + 1 ≠ w.heap.size := by omega
  go_wp2_with fail
  refine (CE.out _ (U1.out.setCell (by dsimp only; omega) _)).mono ?_; rintro x w2 ⟨g2, rfl, hg2, o2, u2⟩; simp at hg2
  have O2 := Lib.hid o2
  have U2 := Lib.hid ((U1.out.setCell (p := ⟨w.heap.size + 1 + 1, 0, none⟩) (by dsimp only; omega) (.slice (some ⟨g1, 0, none⟩) n n)).trans u2)
  have O1' := Lib.hid ((O1.out.setFar (p := ⟨w.heap.size + 1 + 1, 0, none⟩) (by dsimp only; omega) (.slice (some ⟨g1, 0, none⟩) n n)).up u2)
  have Z2 := Lib.hid (fun j (hj : j < 3) => (show ∃ v, w2.cell? ⟨w.heap.size + 1, j, none⟩ = some v by
    obtain ⟨v, hv⟩ := Z1.out j hj
    exact ⟨v, (u2.cells _ _ (by simp; omega)).trans ((World.cell?_setCell_other _ _ _ _ (addr_ne (by omega))).trans hv)⟩))
  have y0 : w2.cell? ⟨w.heap.size + 1 + 1, 0, none⟩ = some (.slice (some ⟨g1, 0, none⟩) n n) := (u2.cells _ _ (by have := X2.out.lt; simpa using this)).trans (World.cell?_setCell_same _ _ _ X2.out.c0)
  have y1 : w2.cell? ⟨w.heap.size + 1 + 1, 1, none⟩ = some (.slice none 0 0) := (u2.cells _ _ (by have := X2.out.lt; simpa using this)).trans ((World.cell?_setCell_other _ _ _ _ (addr_ne (by omega))).trans X2.out.c1)
  have y2 : w2.cell? ⟨w.heap.size + 1 + 1, 2, none⟩ = some (.int .i64 0) := (u2.cells _ _ (by have := X2.out.lt; simpa using this)).trans ((World.cell?_setCell_other _ _ _ _ (addr_ne (by omega))).trans X2.out.c2)
  have lt2 : w.heap.size + 1 + 1 < (w1.setCell ⟨w.heap.size + 1 + 1, 0, none⟩ (.slice (some ⟨g1, 0, none⟩) n n)).heap.size := by have := X2.out.lt; simpa using this
  have q2 : w2.cell? ⟨w.heap.size, 2, none⟩ = some (.int .i64 til) := (u2.cells _ _ (by omega)).trans ((World.cell?_setCell_other _ _ _ _ (addr_ne (by omega))).trans X0.out.c2)
  have fA : ∀ j, w2.frozen? ⟨w.heap.size + 1, j, none⟩ = false := fun j => (u2.frozens _ _ (by omega)).trans (by have := FA.out j; simpa [go_sem] using this)
  have fB : ∀ j, w2.frozen? ⟨w.heap.size + 1 + 1, j, none⟩ = false := fun j => (u2.frozens _ _ lt2).trans (by have := FB.out j; simpa [go_sem] using this)
  obtain ⟨z0, zz0⟩ := Z2.out 0 (by omega); obtain ⟨z1, zz1⟩ := Z2.out 1 (by omega); obtain ⟨z2, zz2⟩ := Z2.out 2 (by omega); clear hc hf
  have HG1 := Lib.hid hg1
  have HG2 := Lib.hid hg2
  clear o2 u2 Z1 hg1 hg2 O1; go_wp2
  have K := set3_at (w := (w2.setCell ⟨w.heap.size + 1 + 1, 1, none⟩ (.slice (some ⟨g2, 0, none⟩) k k)).setCell ⟨w.heap.size + 1 + 1, 2, none⟩ (.int .i64 til)) (b := w.heap.size + 1) (x := .slice (some ⟨g1, 0, none⟩) n n) (y := .slice (some ⟨g2, 0, none⟩) k k) (z := .int .i64 til) (fun j hj => by
    obtain ⟨v, hv⟩ := Z2.out j hj
    exact ⟨v, (World.cell?_setCell_other _ _ _ _ (addr_ne (by omega))).trans ((World.cell?_setCell_other _ _ _ _ (addr_ne (by omega))).trans hv)⟩)
  have far : ∀ j, (⟨w.heap.size + 1, j, none⟩ : Addr).block < g1 ∧ (⟨w.heap.size + 1, j, none⟩ : Addr).block ≠ g2 := fun j => by have := HG1.out; have := HG2.out; dsimp only; omega
  have far2 : ∀ j, (⟨w.heap.size + 1 + 1, j, none⟩ : Addr).block < g1 ∧ (⟨w.heap.size + 1 + 1, j, none⟩ : Addr).block ≠ g2 := fun j => by have := HG1.out; have := HG2.out; dsimp only; omega
  have OA := Lib.hid (((((O1'.out.setFar (far2 1).1 (.slice (some ⟨g2, 0, none⟩) k k)).setFar (far2 2).1 (.int .i64 til)).setFar (far 0).1 (.slice (some ⟨g1, 0, none⟩) n n)).setFar (far 1).1 (.slice (some ⟨g2, 0, none⟩) k k)).setFar (far 2).1 (.int .i64 til))
  have OB := Lib.hid (((((O2.out.setFar (far2 1).2 (.slice (some ⟨g2, 0, none⟩) k k)).setFar (far2 2).2 (.int .i64 til)).setFar (far 0).2 (.slice (some ⟨g1, 0, none⟩) n n)).setFar (far 1).2 (.slice (some ⟨g2, 0, none⟩) k k)).setFar (far 2).2 (.int .i64 til))
  have near : ∀ j, w.heap.size ≤ (⟨w.heap.size + 1, j, none⟩ : Addr).block := fun j => by dsimp only; omega
  have near2 : ∀ j, w.heap.size ≤ (⟨w.heap.size + 1 + 1, j, none⟩ : Addr).block := fun j => by dsimp only; omega
  have UA := Lib.hid (((((U2.out.setCell (near2 1) (.slice (some ⟨g2, 0, none⟩) k k)).setCell (near2 2) (.int .i64 til)).setCell (near 0) (.slice (some ⟨g1, 0, none⟩) n n)).setCell (near 1) (.slice (some ⟨g2, 0, none⟩) k k)).setCell (near 2) (.int .i64 til))
  obtain ⟨k0, k1, k2⟩ := K
  exact bodyPost_ret (v := .agg #[.slice (some ⟨g1, 0, none⟩) n n, .slice (some ⟨g2, 0, none⟩) k k, .int .i64 til]) (by simp [results, Try.results14, go_sem, k0, k1, k2]) rfl ⟨g1, g2, rfl, by have := HG1.out; omega, by have := HG2.out; omega, OA.out, OB.out, UA.out⟩
theorem NewMdl.v {m : Mdl} {n k g1 g2 : Nat} {w : World} (h1 : RulzF w g1 n m.rules) (h2 : Own w g2 k m.starts) (hk : k ≤ 9223372036854775807) : MdlV w (some ⟨g1, 0, none⟩) n (some ⟨g2, 0, none⟩) k m :=
  ⟨h1.rulz, h2.evs', hk⟩
end Go.Proofs.Ytklldniapombiaa

namespace Go.Proofs.Ytklldniapombiaa
set_option maxRecDepth 100000
open Go.RowKit
def MachPost (m : Mdl) (w : World) (x : Ending) (w' : World) : Prop :=
  Up w w' ∧ ((mdlB m = false ∧ x = .returned (.tuple #[.agg #[.map none, .int .i64 0, .int .i64 0], .bool false])) ∨
    (mdlB m = true ∧ ∃ b, x = .returned (.tuple #[.agg #[.map (some b), .int .i64 m.rules.length, .int .i64 m.til], .bool true]) ∧ w.heap.size ≤ b ∧ Mach w' b m))
set_option maxHeartbeats 8000000 in
theorem newMachine_any (A : Option Addr) (n c : Nat) (B : Option Addr) (k d : Nat) (m : Mdl) (w : World) (hM : MdlV w A n B k m) :
    Calls Try.prog 66 #[.agg #[.slice A n c, .slice B k d, .int .i64 m.til]] w (MachPost m w) := by
  have HM := Lib.hid hM
  have HR := Lib.hid hM.rules
  have LR := Lib.hid hM.rules.1
  have U0 := Lib.hid (((Up.refl w).alloc (.cells #[.slice A n c, .slice B k d, .int .i64 m.til] 36)).alloc (.cells #[.map none, .int .i64 0, .int .i64 0] 109))
  have X1 := Lib.hid ((Box3.new w (.slice A n c) (.slice B k d) (.int .i64 m.til) 36).up ((Up.refl _).alloc (.cells #[.map none, .int .i64 0, .int .i64 0] 109)))
  have X2 := Lib.hid (Box3.new (w.alloc (.cells #[.slice A n c, .slice B k d, .int .i64 m.til] 36)) (.map none) (.int .i64 0) (.int .i64 0) 109)
  have F2 := Lib.hid (fun j => free_new (w.alloc (.cells #[.slice A n c, .slice B k d, .int .i64 m.til] 36)) #[.map none, .int .i64 0, .int .i64 0] 109 j)
  simp only [World.size_alloc] at X2 F2
  have CI := Lib.hid (fun W (u : Up w W) => implMdl_any A n c B k d m W (hM.up u))
  generalize hmb : mdlB m = g at CI
  have HB := Lib.hid hmb
  clear hM hmb
  go_enter Try.func66, Try.ntmps66
  go_wp2_with fail
  refine (CI.out _ U0.out).mono ?_; rintro x w1 ⟨rfl, u1⟩
  have U1 := Lib.hid (U0.out.trans u1)
  have X1 := Lib.hid (X1.out.up u1)
  have x2 := X2.out.up u1
  have f2 : ∀ j, w1.frozen? ⟨w.heap.size + 1, j, none⟩ = false := fun j => (u1.frozens _ _ (by simp)).trans (F2.out j)
  have X2 := Lib.hid x2
  have F2 := Lib.hid f2
  clear u1 x2 f2
  cases g
  · have K := set3_at (w := w1) (b := w.heap.size + 1) (x := .map none) (y := .int .i64 0) (z := .int .i64 0) (fun j hj => by
      have h3 : j = 0 ∨ j = 1 ∨ j = 2 := by omega
      rcases h3 with rfl | rfl | rfl
      · exact ⟨_, X2.out.c0⟩
      · exact ⟨_, X2.out.c1⟩
      · exact ⟨_, X2.out.c2⟩)
    have UE := Lib.hid (((U1.out.setCell (p := ⟨w.heap.size + 1, 0, none⟩) (by dsimp only; omega) (.map none)).setCell (p := ⟨w.heap.size + 1, 1, none⟩) (by dsimp only; omega) (.int .i64 0)).setCell (p := ⟨w.heap.size + 1, 2, none⟩) (by dsimp only; omega) (.int .i64 0))
    obtain ⟨k0, k1, k2⟩ := K; obtain ⟨q0, q1, q2⟩ := And.intro X2.out.c0 (And.intro X2.out.c1 X2.out.c2)
    have qf := F2.out
    go_wp2
    exact bodyPost_ret (v := .tuple #[.agg #[.map none, .int .i64 0, .int .i64 0], .bool false]) (by simp [results, Try.results66, go_sem, k0, k1, k2]) rfl ⟨UE.out, .inl ⟨HB.out, rfl⟩⟩
  · obtain ⟨q0, q1, q2⟩ := And.intro X1.out.c0 (And.intro X1.out.c1 X1.out.c2)
    have hsz1 : w.heap.size + 1 < w1.heap.size := X2.out.lt
    have FEW := Lib.hid (mdlB_few HB.out)
    have hn4 : n ≤ 4 := by have := FEW.out; have := LR.out; omega
    have H0 := RMap.made w1
    have F0 := Lib.hid (Filled.start w m.rules)
    have hmm := run_makeMap (P := Try.prog) 107 w1
    have u2 : Up w1 (w1.alloc (.map #[] 0)) := (Up.refl _).alloc _
    generalize w1.alloc (.map #[] 0) = w2 at H0 hmm u2
    generalize hmb : w1.heap.size = mb at H0 hmm
    have HMB := Lib.hid hmb
    have H0 := Lib.hid H0
    have x1 := X1.out.up u2
    obtain ⟨p0, p1, p2⟩ := And.intro x1.c0 (And.intro x1.c1 x1.c2)
    have U2 := Lib.hid u2
    clear hmb x1 u2 q0 q1 q2; go_wp2; clear hmm p0 p1 p2
    go_loopw [17] (fun i wr => (∃ (q N : Nat) (f : Int → Int → Option Value), q ≤ n ∧ i = .int .i64 q ∧ N ≤ 3 * q ∧ Hid (RMap wr mb N f) ∧ Hid (Filled w m.rules q 0 f)) ∧ Up w1 wr) (fun i _ => n - (intOf i).toNat)
    case atStart => exact ⟨⟨0, 0, _, by omega, rfl, by omega, H0, F0⟩, U2.out⟩
    case round =>
      obtain ⟨⟨q, N, f, hq, rfl, hN, HMAP, HF⟩, ur⟩ := hrel; obtain ⟨wo, hwo⟩ : ∃ W, W = wr := ⟨_, rfl⟩; subst hwo
      have UR := Lib.hid ur
      by_cases hlt : q < n
      · obtain ⟨b, off, hA, hb, hc⟩ := HR.out.2.2 (by omega)
        subst hA; obtain ⟨A', n', c', hcell, hrs⟩ := hc q hlt
        have cell := ((U1.out.trans ur).cells _ _ hb).trans hcell
        have HS := Lib.hid hrs
        have hb' : b < wo.heap.size := by have := (U1.out.trans ur).size; omega
        have RB := Lib.hid (mdlB_row HB.out q (by rw [LR.out]; exact hlt))
        have hn'3 : n' ≤ 3 := by
          have h := rulesB_len RB.out (by omega) (by omega)
          have := hrs.1
          omega
        clear hc hcell hrs ur
        have i4 : (q : Int) < n := by omega
        have i5 : IntKind.i64.wrap ((q : Int) + 1) = (q : Int) + 1 := IntWalk.i64_in _ (by omega)
        have RN : (m.rules.getD q []).length = n' := HS.out.1
        have RNH := Lib.hid RN
        clear RN
        go_wp2_with fail
        go_loopw [24] (fun j wj => (∃ (p N : Nat) (f : Int → Int → Option Value), p ≤ n' ∧ j = .int .i64 p ∧ N ≤ 3 * q + p ∧ Hid (RMap wj mb N f) ∧ Hid (Filled w m.rules q p f)) ∧ Up w1 wj) (fun j _ => n' - (intOf j).toNat)
        case atStart => exact ⟨⟨0, N, f, by omega, rfl, by omega, HMAP, HF⟩, UR.out⟩
        case round =>
          obtain ⟨⟨p, N2, f2, hp, rfl, hN2, HMAP2, HF2⟩, uj⟩ := hrel
          have UJ := Lib.hid uj
          by_cases hlp : p < n'
          · obtain ⟨b2, off2, hA2, hb2, hc2⟩ := HS.out.2.2 (by omega)
            subst hA2
            have at2 := (hc2 p hlp).up (U1.out.trans uj) hb2
            have hb2' : b2 < wr.heap.size := by have := (U1.out.trans uj).size; omega
            have at0 := hc2 p hlp
            clear hc2
            have ST := Lib.hid (fun r (hr : (m.rules.getD q []).getD p default = r) A n c hn he => HF2.out.step (r := r) (A := A) (n := n) (c := c) (by rw [RNH.out]; exact hlp) hr hn he)
            have RB2 := rulesB_mem RB.out p (by rw [RNH.out]; exact hlp)
            generalize hgr : (m.rules.getD q []).getD p default = r at at2 at0 RB2 ST
            obtain ⟨A3, n3, c3, ⟨r0, r1, r2, r3, r4⟩, hn3, he3⟩ := at0; obtain ⟨A4, n4, c4, ⟨s0, s1, s2, s3, s4⟩, hn4', he4⟩ := at2
            have e4 := ((U1.out.trans uj).cells _ _ hb2).trans r4
            rw [s4] at e4
            injection e4 with e4
            injection e4 with e41 e42 e43
            subst e41 e42 e43
            have HF3 := Lib.hid (ST.out r rfl A4 n4 c4 hn3 he3)
            have hkd : 0 ≤ r.kd ∧ r.kd ≤ 2 := by
              simp only [ruleB, Bool.and_eq_true, inB_iff] at RB2
              exact RB2.1.1.1.2
            obtain ⟨kd, ra, rb, rc, es⟩ := r; dsimp only at s0 s1 s2 s3 s4 hkd; unfold Rule.v at HF3; dsimp only at HF3
            have HM3 := Lib.hid (HMAP2.out.up ((Up.refl wr).alloc (.cells #[.int .i64 kd, .int .i64 ra, .int .i64 rb, .int .i64 rc, .slice A4 n4 c4] 166)))
            have UJ2 := Lib.hid (uj.alloc (.cells #[.int .i64 kd, .int .i64 ra, .int .i64 rb, .int .i64 rc, .slice A4 n4 c4] 166))
            clear uj r0 r1 r2 r3 r4 he3 he4 RB2 ST hgr
            have hmb1 : w1.heap.size ≤ mb := by have := HMB.out; omega
            have i6 : (p : Int) < n' := by omega
            have i7 : IntKind.i64.wrap ((p : Int) + 1) = (p : Int) + 1 := IntWalk.i64_in _ (by omega)
            go_wp2_with (at_mapUpdate; refine wpList_store_R rfl _ rfl _ _ _ rfl mb N2 f2 rfl HM3.out (by simp only [maxLen]; omega) q kd rfl (by unfold I64; omega) (by unfold I64; omega) _ rfl ?_; intro w5 h5 m5; have H5 := Lib.hid h5; have U5 := Lib.hid (m5.up UJ2.out hmb1); clear h5 m5)
            go_roundw
            case rel => exact ⟨⟨p + 1, N2 + 1, _, by omega, by first | rfl | go_num, by omega, H5, HF3⟩, U5.out⟩
            case measure => (simp [intOf]; try omega)
          · have HR2 := Lib.hid (HF2.out.row (by rw [RNH.out]; omega))
            have i6 : ¬ (p : Int) < n' := by omega
            clear uj; go_wp2
            go_roundw
            case rel => exact ⟨⟨q + 1, N2, f2, by omega, by first | rfl | go_num, by omega, HMAP2, HR2⟩, UJ.out⟩
            case measure => (simp [intOf]; try omega)
      · have hqn : q = n := by omega
        have DN := Lib.hid ((show Filled w m.rules m.rules.length 0 f by rw [LR.out, ← hqn]; exact HF.out).done HB.out)
        have i4 : ¬ (q : Int) < n := by omega
        clear ur hqn
        have x1 := X1.out.up UR.out
        obtain ⟨q0, q1, q2⟩ := And.intro x1.c0 (And.intro x1.c1 x1.c2)
        have x2 := X2.out.up UR.out
        obtain ⟨p0, p1, p2⟩ := And.intro x2.c0 (And.intro x2.c1 x2.c2)
        have qf : ∀ j, wo.frozen? ⟨w.heap.size + 1, j, none⟩ = false := fun j => (UR.out.frozens _ _ hsz1).trans (F2.out j)
        have K := set3_at (w := wo) (b := w.heap.size + 1) (x := .map (some mb)) (y := .int .i64 n) (z := .int .i64 m.til) (fun j hj => by
          have h3 : j = 0 ∨ j = 1 ∨ j = 2 := by omega
          rcases h3 with rfl | rfl | rfl
          · exact ⟨_, x2.c0⟩
          · exact ⟨_, x2.c1⟩
          · exact ⟨_, x2.c2⟩)
        obtain ⟨k0, k1, k2⟩ := K
        have UE := Lib.hid ((((U1.out.trans UR.out).setCell (p := ⟨w.heap.size + 1, 0, none⟩) (by dsimp only; omega) (.map (some mb))).setCell (p := ⟨w.heap.size + 1, 1, none⟩) (by dsimp only; omega) (.int .i64 n)).setCell (p := ⟨w.heap.size + 1, 2, none⟩) (by dsimp only; omega) (.int .i64 m.til))
        have hmbw : w.heap.size + 1 < mb := by have := HMB.out; omega
        have ME := Lib.hid (show Mach _ mb m from ⟨N, f, ((HMAP.out.setFar (p := ⟨w.heap.size + 1, 0, none⟩) (by dsimp only; omega) (.map (some mb))).setFar (p := ⟨w.heap.size + 1, 1, none⟩) (by dsimp only; omega) (.int .i64 n)).setFar (p := ⟨w.heap.size + 1, 2, none⟩) (by dsimp only; omega) (.int .i64 m.til), fun c k => (DN.out c k).up UE.out⟩)
        clear x1 x2; go_wp2
        exact bodyPost_ret (v := .tuple #[.agg #[.map (some mb), .int .i64 n, .int .i64 m.til], .bool true]) (by simp [results, Try.results66, go_sem, k0, k1, k2]) rfl ⟨UE.out, .inr ⟨HB.out, mb, by rw [LR.out], by omega, ME.out⟩⟩
end Go.Proofs.Ytklldniapombiaa

namespace Go.Proofs.Ytklldniapombiaa
set_option maxRecDepth 100000
open Go.RowKit
theorem RMap.look1 {w : World} {b n : Nat} {f : Int → Int → Option Value} (h : RMap w b n f) (c k : Int) (hc : I64 c) (hk : I64 k) :
    (Instr.lookup 107 (.map (some b)) (.agg #[.int .i64 c, .int .i64 k]) false).run Try.prog w = .ok ((f c k).getD ZRv) w := by
  obtain ⟨D, ho, _, hr⟩ := h; obtain ⟨l, hl⟩ := key_ex c k hc hk; obtain ⟨h1, h2⟩ := hr c k l hl; obtain ⟨v, ps, hrun, hv⟩ := ho.lookup keyLaw Try.underlying107 (zeroRule w) (zd := .held ZRv) (zp := []) rfl hl
  have e : v = (f c k).getD ZRv := by
    rw [h1 (.held ZRv)] at hv; simp only [valR, Option.some.injEq, Prod.mk.injEq] at hv
    cases hf : f c k with
    | none => rw [hf] at hv; simpa using hv.1
    | some u => rw [hf] at hv; simpa using hv.1
  rw [← e]
  exact hrun
/-- A rule looked up without a word whether it is there: its sends, or none. -/
theorem Mach.look1 {w W : World} {b : Nat} {m : Mdl} (h : Mach w b m) (u : Up w W) (c k : Int) (hc : I64 c) (hk : I64 k) (h0 : 0 ≤ c) :
    ∃ kd ra rb rc A n cp ss, (Instr.lookup 107 (.map (some b)) (.agg #[.int .i64 c, .int .i64 k]) false).run Try.prog W = .ok (.agg #[.int .i64 kd, .int .i64 ra, .int .i64 rb, .int .i64 rc, .slice A n cp]) W ∧
      n ≤ 9223372036854775807 ∧ Evs W A n ss ∧ ∀ to l, lkO to l (ruleOf k (m.rules.getD c.toNat [])) = lkS to l ss := by
  obtain ⟨N, f, h1, h2⟩ := h
  have hr := h2 c k
  rw [if_pos h0] at hr
  have hl := (h1.up u).look1 c k hc hk
  cases ho : ruleOf k (m.rules.getD c.toNat []) with
  | none =>
    rw [ho] at hr; unfold RowV at hr; dsimp only at hr; rw [hr] at hl
    exact ⟨0, 0, 0, 0, none, 0, 0, [], hl, by omega, Evs.none_ W, fun _ _ => rfl⟩
  | some r =>
    rw [ho] at hr; obtain ⟨A, n, cp, e, hn, he⟩ := hr; rw [e] at hl
    exact ⟨r.kd, r.a, r.b, r.c, A, n, cp, r.sends, hl, hn, he.up u, fun _ _ => rfl⟩
theorem neverL_any (mb : Option Nat) (many til : Int) (w : World) (h0 : 0 ≤ til ∧ til ≤ 99) :
    Calls Try.prog 120 #[.agg #[.map mb, .int .i64 many, .int .i64 til]] w fun x w' => x = .returned (.int .i64 (til + 1)) ∧ Up w w' := by
  have i1 : IntKind.i64.wrap (til + 1) = til + 1 := IntWalk.i64_in _ (by omega)
  go_enter Try.func120, Try.ntmps120
  go_wp2; go_ret
  exact ⟨rfl, (Up.refl w).alloc _⟩
set_option maxHeartbeats 4000000 in
theorem look_any (mb : Nat) (many : Int) (m : Mdl) (fr to : Int) (w : World) (hM : Mach w mb m) (hm : mdlB m = true) (h0 : 0 ≤ fr) (h1 : fr < m.rules.length) :
    Calls Try.prog 74 #[.agg #[.map (some mb), .int .i64 many, .int .i64 m.til], .int .i64 fr, .int .i64 to] w fun x w' => x = .returned (.int .i64 (lkR to (m.til + 1) (m.rules.getD fr.toNat []))) ∧ Up w w' := by
  have few := mdlB_few hm
  have RB := Lib.hid (mdlB_row hm fr.toNat (by omega))
  have HM := Lib.hid hM
  have TL := mdlB_til hm
  have CN := Lib.hid (fun W => neverL_any (some mb) many m.til W TL)
  have LK := Lib.hid (fun W (u : Up w W) q (hq : 0 ≤ q ∧ q ≤ 2) => HM.out.look1 u fr q (by unfold I64; omega) (by unfold I64; omega) h0)
  have TG := Lib.hid (lkU_lkR (many := m.rules.length) (to := to) 3 0 (m.til + 1) (m.rules.getD fr.toNat []) RB.out (by omega))
  generalize m.rules.getD fr.toNat [] = rs at RB LK TG ⊢
  generalize lkR to (m.til + 1) rs = R at TG ⊢
  generalize m.til = til at *
  have X2 := Lib.hid (Box3.new w (.map (some mb)) (.int .i64 many) (.int .i64 til) 109)
  have U0 := Lib.hid ((Up.refl w).alloc (.cells #[.map (some mb), .int .i64 many, .int .i64 til] 109))
  clear hM hm RB
  go_enter Try.func74, Try.ntmps74
  go_wp2_with fail
  refine (CN.out _).mono ?_; rintro x w1 ⟨rfl, u1⟩
  have U1 := Lib.hid (U0.out.trans u1)
  have X2 := Lib.hid (X2.out.up u1)
  clear u1 U0 CN; go_wp2
  go_loopw [7, 13] (fun l i wr => (∃ (q : Nat) (z : Int), q ≤ 3 ∧ i = .int .i64 q ∧ l = .int .i64 z ∧ Hid (lkU to (3 - q) q z rs = R)) ∧ Up w1 wr) (fun _ i _ => 3 - (intOf i).toNat)
  case atStart => exact ⟨⟨0, til + 1, by omega, rfl, rfl, TG⟩, Up.refl _⟩
  case round =>
    obtain ⟨⟨q, z, hq, rfl, rfl, HT⟩, ur⟩ := hrel
    have UR := Lib.hid ur
    have x2 := X2.out.up ur
    obtain ⟨q0, q1, q2⟩ := And.intro x2.c0 (And.intro x2.c1 x2.c2)
    have lt2_ := x2.lt
    clear ur x2
    by_cases hlt : q < 3
    · obtain ⟨kd, ra, rb, rc, A, n, cp, ss, hrun, hn, he, hlk⟩ := LK.out wr (U1.out.trans UR.out) q (by omega)
      have HE := Lib.hid he
      have HS := Lib.hid (hlk to z)
      have i4 : (q : Int) < 3 := by omega
      have ST := Lib.hid (show lkU to (3 - (q + 1)) ((q + 1 : Nat) : Int) (lkS to z ss) rs = R by
        have := HT.out
        rw [show 3 - q = (3 - (q + 1)) + 1 by omega, lkU_step, HS.out] at this; rw [← this]
        congr 1)
      clear he hlk HT HS
      have FL := fun W : World => (show (Instr.field 166 (.agg #[.int .i64 kd, .int .i64 ra, .int .i64 rb, .int .i64 rc, .slice A n cp]) 4).run Try.prog W = .ok (.slice A n cp) W from rfl)
      go_wp2; clear q0 q1 q2 lt2_ hrun
      have H0 := Lib.hid (show lkS to z (ss.drop 0) = lkS to z ss from rfl)
      generalize lkS to z ss = S at ST H0
      go_loopw [7, 24] (fun l i wj => (∃ (p : Nat) (y : Int), p ≤ n ∧ i = .int .i64 p ∧ l = .int .i64 y ∧ Hid (lkS to y (ss.drop p) = S)) ∧ Up wr wj) (fun _ i _ => n - (intOf i).toNat)
      case atStart => exact ⟨⟨0, z, by omega, rfl, rfl, H0⟩, Up.refl _⟩
      case round =>
        obtain ⟨⟨p, y, hp, rfl, rfl, HY⟩, uj⟩ := hrel
        have UJ := Lib.hid uj
        have ee := HE.out.up uj
        clear uj
        by_cases hlp : p < n
        · obtain ⟨b, off, hA, hb, hc⟩ := ee.2 (by omega)
          subst hA
          have a0 := hc p hlp
          have DR := Lib.hid (lkS_drop to y ss p (by rw [ee.1]; exact hlp))
          clear hc ee
          generalize ss.getD p default = e at a0 DR
          obtain ⟨et, eto, efr, esq, ekd, edt⟩ := e; unfold EvAt at a0; dsimp only at a0 DR; obtain ⟨p0, p1, p2, p3, p4, p5⟩ := a0
          have i4 : (p : Int) < n := by omega
          have UX := Lib.hid (UJ.out.alloc (.cells #[.int .i64 et, .int .i64 eto, .int .i64 efr, .int .i64 esq, .int .i64 ekd, .int .i64 edt] 168))
          by_cases hto : et = to
          · have HZ := Lib.hid (show lkS to (min y eto) (ss.drop (p + 1)) = S by rw [← HY.out, DR.out, if_pos hto])
            subst hto
            by_cases hmin : y ≤ eto
            · rw [show min y eto = y by omega] at HZ
              go_wp2
              go_roundw
              case rel => exact ⟨⟨p + 1, y, by omega, by go_num, rfl, HZ⟩, UX.out⟩
              case measure => simp [intOf]; omega
            · rw [show min y eto = eto by omega] at HZ
              go_wp2
              go_roundw
              case rel => exact ⟨⟨p + 1, eto, by omega, by go_num, by rw [if_pos (by omega)], HZ⟩, UX.out⟩
              case measure => simp [intOf]; omega
          · have HZ := Lib.hid (show lkS to y (ss.drop (p + 1)) = S by rw [← HY.out, DR.out, if_neg hto])
            go_wp2
            go_roundw
            case rel => exact ⟨⟨p + 1, y, by omega, by go_num, rfl, HZ⟩, UX.out⟩
            case measure => simp [intOf]; omega
        · have EN := lkS_end to y ss p (by rw [ee.1]; omega)
          rw [HY.out] at EN; subst EN
          have i4 : ¬ (p : Int) < n := by omega
          go_wp2
          go_roundw
          case rel => exact ⟨⟨q + 1, S, by omega, by go_num, rfl, ST⟩, UR.out.trans UJ.out⟩
          case measure => simp [intOf]; omega
    · obtain rfl : q = 3 := by omega
      have hz : z = R := by have := HT.out; rw [show 3 - 3 = 0 by omega, lkU_zero] at this; exact this
      subst hz; go_wp2; go_ret
      exact ⟨rfl, U1.out.trans UR.out⟩
end Go.Proofs.Ytklldniapombiaa

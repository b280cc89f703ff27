/-
  What szMdlRule, szMdlRuleS, szMdlRuleSS and szMdlModel return, in one sentence: -1, or what is left, and then each list is short; for all that lie in memory.
  What toMdlModel returns, in one sentence: the same model over new blocks; for every model that lies in memory and was counted.
  A region that draws its order and whose effects are forced into one order, in one sentence: one walk in the order of the text serves every order, where each operation yields in every world or is the only one that may come up.
-/
import Derived.Deep.RegionHeld3
import Derived.Test.YtakmlfgkppekoaaDLEcdo01
import Derived.Test.YtakmlfgkppekoaaDLEcdo05
import Derived.Test.YtakmlfgkppekoaaDLEcdo06
namespace Go.Proofs.Ytakmlfgkppekoaa
set_option maxRecDepth 100000
open Go.RowKit
/-- What a count gives. -/
def Sized (p : Prop) (left : Int) (w : World) (x : Ending) (w' : World) : Prop :=
  ∃ z : Int, x = .returned (.int .i64 z) ∧ (z = -1 ∨ (0 ≤ z ∧ z ≤ left ∧ p)) ∧ Up w w'
structure ShortR (rs : List Rule) : Prop where
  few : rs.length ≤ 1048576
  small : Small rs
structure ShortS (rs : List (List Rule)) (n : Nat) : Prop where
  small : ∀ i, i < rs.length → (rs.getD i []).length ≤ 1048576 ∧ Small (rs.getD i [])
  few : n ≤ 1048576
structure ShortM (m : Mdl) (n : Nat) : Prop where
  fit : FitM m
  few : n ≤ 1048576
  shorts : ∀ i, i < m.rules.length → (m.rules.getD i []).length ≤ 1048576 ∧ Small (m.rules.getD i [])
theorem szRule_any (r : Rule) (A : Option Addr) (n c : Nat) (left : Int) (w : World) (h0 : 0 ≤ left) (h1 : left ≤ 1048576) (hn : n ≤ 9223372036854775807) (hE : Evs w A n r.sends) :
    Calls Try.prog 139 #[r.v (.slice A n c), .int .i64 left] w (Sized (r.sends.length ≤ 1048576) left w) := by
  have CL := Lib.hid (fun W => szSnd_any A n c left W h0 (by omega) hn)
  have LE := Lib.hid hE.1
  obtain ⟨kd, ra, rb, rc, es⟩ := r; clear hE; unfold Rule.v; dsimp only
  by_cases h : left < n
  · have j1 : (-1 : Int) < 0 := by omega
    have C2 := Lib.hid (if_pos h ▸ CL.out)
    clear CL
    go_enter Try.func139, Try.ntmps139
    go_wp2_with fail
    refine (C2.out _).mono ?_; rintro x w1 ⟨rfl, rfl⟩; go_wp2; go_ret
    exact ⟨-1, rfl, .inl rfl, (Up.refl _).alloc _⟩
  · have j1 : ¬ left - n < 0 := by omega
    have C2 := Lib.hid (if_neg h ▸ CL.out)
    have PP := Lib.hid (show es.length ≤ 1048576 by rw [LE.out]; omega)
    clear CL
    go_enter Try.func139, Try.ntmps139
    go_wp2_with fail
    refine (C2.out _).mono ?_; rintro x w1 ⟨rfl, rfl⟩; go_wp2; go_ret
    exact ⟨left - n, rfl, .inr ⟨by omega, by omega, PP.out⟩, (Up.refl _).alloc _⟩
set_option maxHeartbeats 2000000 in
theorem szRuleS_any (A : Option Addr) (n c : Nat) (rs : List Rule) (left : Int) (w : World) (h0 : 0 ≤ left) (h1 : left ≤ 1048576) (hR : Rules w A n rs) :
    Calls Try.prog 110 #[.slice A n c, .int .i64 left] w (Sized (ShortR rs) left w) := by
  have hbig := hR.2.1
  have HR := Lib.hid hR
  have LR := Lib.hid hR.1
  have CL := Lib.hid (fun r A n c l W a b hn hE => szRule_any r A n c l W a b hn hE)
  clear hR
  have i9 : IntKind.i64.wrap (left - (n : Int)) = left - n := IntWalk.i64_in _ (by omega)
  go_enter Try.func110, Try.ntmps110
  by_cases h : left < n
  · have j1 : left - n < 0 := by omega
    go_wp2; go_ret
    exact ⟨-1, rfl, .inl rfl, Up.refl _⟩
  · have j1 : ¬ left - n < 0 := by omega
    go_wp2
    go_loopw [1, 5] (fun s i wr => (∃ (l : Int) (k : Nat), k ≤ n ∧ s = .int .i64 l ∧ i = .int .i64 k ∧ 0 ≤ l ∧ l ≤ left ∧ Hid (∀ j, j < k → (rs.getD j default).sends.length ≤ 1048576)) ∧ Up w wr) (fun _ i _ => n - (intOf i).toNat)
    case atStart => exact ⟨⟨left - n, 0, by omega, rfl, rfl, by omega, by omega, Lib.hid (fun j hj => absurd hj (by omega))⟩, Up.refl _⟩
    case round =>
      obtain ⟨⟨l, k, hk, rfl, rfl, hl0, hl1, SM⟩, ur⟩ := hrel
      have UR := Lib.hid ur
      by_cases hlt : k < n
      · obtain ⟨b, off, hA, hb, hc⟩ := (HR.out.up ur).2.2 (by omega)
        subst hA
        have a0 := hc k hlt
        clear hc ur
        have cl := fun A n c W => CL.out (rs.getD k default) A n c l W hl0 (by omega)
        have SK := Lib.hid (fun (h : (rs.getD k default).sends.length ≤ 1048576) j (hj : j < k + 1) => (show (rs.getD j default).sends.length ≤ 1048576 from if e : j = k then e ▸ h else SM.out j (by omega)))
        generalize rs.getD k default = p at a0 cl SK
        obtain ⟨A3, n3, c3, ⟨p0, p1, p2, p3, p4⟩, hn3, he3⟩ := a0
        have cl2 := fun W (u : Up wr W) => cl A3 n3 c3 W hn3 (he3.up u)
        obtain ⟨pk, pa, pb, pc, ps⟩ := p; unfold Rule.v at cl2; dsimp only at p0 p1 p2 p3 p4 cl2 SK
        have C := Lib.hid cl2
        clear cl cl2 he3
        have i4 : (k : Int) < n := by omega
        have i5 : IntKind.i64.wrap ((k : Int) + 1) = (k : Int) + 1 := IntWalk.i64_in _ (by omega)
        go_wp2_with fail
        refine (C.out _ (Up.refl _)).mono ?_; rintro x w1 ⟨z, rfl, hz, u1⟩
        have U1 := Lib.hid (UR.out.trans u1)
        clear u1
        rcases hz with rfl | ⟨z0, z1, hp⟩
        · go_wp2
          go_ret
          exact ⟨-1, rfl, .inl rfl, U1.out⟩
        · have S2 := Lib.hid (SK.out hp)
          have j3 : ¬ z < 0 := by omega
          clear hp; go_wp2
          go_roundw
          case rel => exact ⟨⟨z, k + 1, by omega, rfl, by first | rfl | go_num, by omega, by omega, S2⟩, U1.out⟩
          case measure => (simp [intOf]; try omega)
      · have i4 : ¬ (k : Int) < n := by omega
        clear ur; go_wp2; go_ret
        exact ⟨l, rfl, .inr ⟨by omega, by omega, ⟨by rw [LR.out]; omega, fun j hj => SM.out j (by have := LR.out; omega)⟩⟩, UR.out⟩
set_option maxHeartbeats 2000000 in
theorem szRuleSS_any (A : Option Addr) (n c : Nat) (rs : List (List Rule)) (left : Int) (w : World) (h0 : 0 ≤ left) (h1 : left ≤ 1048576) (hR : Rulz w A n rs) :
    Calls Try.prog 67 #[.slice A n c, .int .i64 left] w (Sized (ShortS rs n) left w) := by
  have hbig := hR.2.1
  have HR := Lib.hid hR
  have LR := Lib.hid hR.1
  have CL := Lib.hid (fun r A n c l W a b hE => szRuleS_any A n c r l W a b hE)
  clear hR
  have i9 : IntKind.i64.wrap (left - (n : Int)) = left - n := IntWalk.i64_in _ (by omega)
  go_enter Try.func67, Try.ntmps67
  by_cases h : left < n
  · have j1 : left - n < 0 := by omega
    go_wp2; go_ret
    exact ⟨-1, rfl, .inl rfl, Up.refl _⟩
  · have j1 : ¬ left - n < 0 := by omega
    have hnn : n ≤ 1048576 := by omega
    go_wp2
    go_loopw [1, 5] (fun s i wr => (∃ (l : Int) (k : Nat), k ≤ n ∧ s = .int .i64 l ∧ i = .int .i64 k ∧ 0 ≤ l ∧ l ≤ left ∧ Hid (∀ j, j < k → (rs.getD j []).length ≤ 1048576 ∧ Small (rs.getD j []))) ∧ Up w wr) (fun _ i _ => n - (intOf i).toNat)
    case atStart => exact ⟨⟨left - n, 0, by omega, rfl, rfl, by omega, by omega, Lib.hid (fun j hj => absurd hj (by omega))⟩, Up.refl _⟩
    case round =>
      obtain ⟨⟨l, k, hk, rfl, rfl, hl0, hl1, SM⟩, ur⟩ := hrel
      have UR := Lib.hid ur
      by_cases hlt : k < n
      · obtain ⟨b, off, hA, hb, hc⟩ := (HR.out.up ur).2.2 (by omega)
        subst hA; obtain ⟨A3, n3, c3, p0, he3⟩ := hc k hlt; clear hc ur
        have cl := fun W (u : Up wr W) => CL.out (rs.getD k []) A3 n3 c3 l W hl0 (by omega) (he3.up u)
        have SK := Lib.hid (fun (h : ShortR (rs.getD k [])) j (hj : j < k + 1) => (show (rs.getD j []).length ≤ 1048576 ∧ Small (rs.getD j []) from if e : j = k then e ▸ ⟨h.few, h.small⟩ else SM.out j (by omega)))
        generalize rs.getD k [] = p at cl SK he3
        have C := Lib.hid cl
        clear cl he3
        have i4 : (k : Int) < n := by omega
        have i5 : IntKind.i64.wrap ((k : Int) + 1) = (k : Int) + 1 := IntWalk.i64_in _ (by omega)
        go_wp2_with fail
        refine (C.out _ (Up.refl _)).mono ?_; rintro x w1 ⟨z, rfl, hz, u1⟩
        have U1 := Lib.hid (UR.out.trans u1)
        clear u1
        rcases hz with rfl | ⟨z0, z1, hp⟩
        · go_wp2
          go_ret
          exact ⟨-1, rfl, .inl rfl, U1.out⟩
        · have S2 := Lib.hid (SK.out hp)
          have j3 : ¬ z < 0 := by omega
          clear hp; go_wp2
          go_roundw
          case rel => exact ⟨⟨z, k + 1, by omega, rfl, by first | rfl | go_num, by omega, by omega, S2⟩, U1.out⟩
          case measure => (simp [intOf]; try omega)
      · have i4 : ¬ (k : Int) < n := by omega
        clear ur; go_wp2; go_ret
        exact ⟨l, rfl, .inr ⟨by omega, by omega, ⟨fun j hj => SM.out j (by have := LR.out; omega), by omega⟩⟩, UR.out⟩
set_option maxHeartbeats 2000000 in
theorem szMdl_any (A : Option Addr) (n c : Nat) (B : Option Addr) (k d : Nat) (m : Mdl) (w : World) (hM : MdlV w A n B k m) :
    Calls Try.prog 18 #[.agg #[.slice A n c, .slice B k d, .int .i64 m.til], .int .i64 1048576] w (Sized (ShortM m n) 1048576 w) := by
  obtain ⟨rs, es, til⟩ := m
  have CR := Lib.hid (fun W (u : Up w W) => szRuleSS_any A n c rs 1048576 W (by omega) (by omega) (hM.rules.up u))
  have CE := Lib.hid (fun l W a b => sz_any B k d l W a b hM.big)
  have LE := Lib.hid hM.starts.1
  have B0 := Lib.hid (Box3.new w (.slice A n c) (.slice B k d) (.int .i64 til) 27)
  clear hM; dsimp only
  go_enter Try.func18, Try.ntmps18
  go_wp2_with fail
  refine (CR.out _ ((Up.refl _).alloc _)).mono ?_; rintro x w1 ⟨z, rfl, hz, u1⟩
  have U1 := Lib.hid (((Up.refl w).alloc _).trans u1)
  have x0 := B0.out.up u1
  obtain ⟨p0, p1, p2⟩ := And.intro x0.c0 (And.intro x0.c1 x0.c2); clear u1 x0
  rcases hz with rfl | ⟨z0, z1, ⟨hp, hn⟩⟩
  · go_wp2
    go_ret
    exact ⟨-1, rfl, .inl rfl, U1.out⟩
  · have HP := Lib.hid hp
    have j3 : ¬ z < 0 := by omega
    clear hp
    by_cases h : z < k
    · have C2 := Lib.hid (fun W => if_pos h ▸ CE.out z W z0 (by omega))
      have j1 : (-1 : Int) < 0 := by omega
      go_wp2_with fail
      refine (C2.out _).mono ?_; rintro x w2 ⟨rfl, rfl⟩; go_wp2; go_ret
      exact ⟨-1, rfl, .inl rfl, U1.out⟩
    · have C2 := Lib.hid (fun W => if_neg h ▸ CE.out z W z0 (by omega))
      have j1 : ¬ z - (k : Int) < 0 := by omega
      go_wp2_with fail
      refine (C2.out _).mono ?_; rintro x w2 ⟨rfl, rfl⟩; go_wp2; go_ret
      exact ⟨z - k, rfl, .inr ⟨by omega, by omega, ⟨⟨fun i hi => (HP.out i hi).2, by rw [LE.out]; omega⟩, hn, HP.out⟩⟩, U1.out⟩
end Go.Proofs.Ytakmlfgkppekoaa

namespace Go.Proofs.Ytakmlfgkppekoaa
set_option maxRecDepth 100000
open Go.RowKit
theorem set3_at {w : World} {b : Nat} {x y z : Value} (h : ∀ k, k < 3 → ∃ v, w.cell? ⟨b, k, none⟩ = some v) :
    (((w.setCell ⟨b, 0, none⟩ x).setCell ⟨b, 1, none⟩ y).setCell ⟨b, 2, none⟩ z).cell? ⟨b, 0, none⟩ = some x ∧ (((w.setCell ⟨b, 0, none⟩ x).setCell ⟨b, 1, none⟩ y).setCell ⟨b, 2, none⟩ z).cell? ⟨b, 1, none⟩ = some y ∧ (((w.setCell ⟨b, 0, none⟩ x).setCell ⟨b, 1, none⟩ y).setCell ⟨b, 2, none⟩ z).cell? ⟨b, 2, none⟩ = some z := by
  have ne : ∀ k j, k ≠ j → (⟨b, k, none⟩ : Addr) ≠ ⟨b, j, none⟩ := fun k j hk => addr_ne (by omega)
  obtain ⟨v0, h0⟩ := h 0 (by omega); obtain ⟨v1, h1⟩ := h 1 (by omega); obtain ⟨v2, h2⟩ := h 2 (by omega); refine ⟨?_, ?_, ?_⟩
  · rw [World.cell?_setCell_other _ _ _ _ (ne 2 0 (by omega)), World.cell?_setCell_other _ _ _ _ (ne 1 0 (by omega))]
    exact World.cell?_setCell_same _ _ _ h0
  · rw [World.cell?_setCell_other _ _ _ _ (ne 2 1 (by omega))]
    exact World.cell?_setCell_same _ _ _ ((World.cell?_setCell_other _ _ _ _ (ne 0 1 (by omega))).trans h1)
  · exact World.cell?_setCell_same _ _ _ ((World.cell?_setCell_other _ _ _ _ (ne 1 2 (by omega))).trans ((World.cell?_setCell_other _ _ _ _ (ne 0 2 (by omega))).trans h2))
theorem free_new (w : World) (xs : Array Value) (t : TypeId) (j : Nat) : (w.alloc (.cells xs t)).frozen? ⟨w.heap.size, j, none⟩ = false := by
  have hh := heap_alloc_new w (.cells xs t)
  unfold World.frozen?; rw [hh]; simp
set_option maxHeartbeats 4000000 in
theorem toMdl_any (A : Option Addr) (n c : Nat) (B : Option Addr) (k d : Nat) (m : Mdl) (w : World) (hM : MdlV w A n B k m) (hS : ShortM m n) :
    Calls Try.prog 20 #[.agg #[.slice A n c, .slice B k d, .int .i64 m.til]] w (NewMdl m n k w) := by
  obtain ⟨rs, es, til⟩ := m
  have CR := Lib.hid (fun W (u : Up w W) => toRuleSS_any A n c rs W hS.few (hM.rules.up u) hS.shorts)
  have CE := Lib.hid (fun W (u : Up w W) => toS_any B k d es W (by have := hM.starts.1; have := hS.fit.2; dsimp only at *; omega) (hM.starts.up u))
  clear hM hS; unfold NewMdl; dsimp only
  go_enter Try.func20, Try.ntmps20
  go_wp2_with fail
  refine (CR.out _ ((((Up.refl w).alloc _).alloc _).alloc _)).mono ?_; rintro x w1 ⟨g1, rfl, hg1, o1, u1⟩
  have O1 := Lib.hid o1
  have U1 := Lib.hid ((((Up.refl w).alloc _).alloc _).alloc _ |>.trans u1)
  simp at hg1
  have Z1 := Lib.hid (fun j (hj : j < 3) => (show ∃ v, w1.cell? ⟨w.heap.size + 1, j, none⟩ = some v by
    obtain ⟨v, hv⟩ := somes_new (w.alloc (.cells #[.slice A n c, .slice B k d, .int .i64 til] 27)) #[.slice none 0 0, .slice none 0 0, .int .i64 0] 33 j hj
    have hs : (w.alloc (.cells #[.slice A n c, .slice B k d, .int .i64 til] 27)).heap.size = w.heap.size + 1 := by simp
    rw [hs] at hv
    exact ⟨v, (((Up.refl _).alloc _).trans u1).cells _ _ (by simp) |>.trans hv⟩))
  have x2 := (Box3.new ((w.alloc (.cells #[.slice A n c, .slice B k d, .int .i64 til] 27)).alloc (.cells #[.slice none 0 0, .slice none 0 0, .int .i64 0] 33)) (.slice none 0 0) (.slice none 0 0) (.int .i64 0) 33).up u1
  simp only [World.size_alloc] at x2
  have X2 := Lib.hid x2
  have X0 := Lib.hid ((Box3.new w (.slice A n c) (.slice B k d) (.int .i64 til) 27).up ((((Up.refl _).alloc _).alloc _).trans u1))
  have FA := Lib.hid (fun j => (show w1.frozen? ⟨w.heap.size + 1, j, none⟩ = false by
    have h := free_new (w.alloc (.cells #[.slice A n c, .slice B k d, .int .i64 til] 27)) #[.slice none 0 0, .slice none 0 0, .int .i64 0] 33 j
    simp only [World.size_alloc] at h
    exact ((((Up.refl _).alloc _).trans u1).frozens _ _ (by simp)).trans h))
  have FB := Lib.hid (fun j => (show w1.frozen? ⟨w.heap.size + 1 + 1, j, none⟩ = false by
    have h := free_new ((w.alloc (.cells #[.slice A n c, .slice B k d, .int .i64 til] 27)).alloc (.cells #[.slice none 0 0, .slice none 0 0, .int .i64 0] 33)) #[.slice none 0 0, .slice none 0 0, .int .i64 0] 33 j
    simp only [World.size_alloc] at h
    exact (u1.frozens _ _ (by simp)).trans h))
  obtain ⟨hc, hf, hz⟩ := u1.facts; simp at hz; clear o1 u1 x2
  have ne2 : w.heap.size + 1 + 1 ≠ w.heap.size := by omega
  go_wp2_with fail
  refine (CE.out _ (U1.out.setCell (by dsimp only; omega) _)).mono ?_; rintro x w2 ⟨g2, rfl, hg2, o2, u2⟩; simp at hg2
  have O2 := Lib.hid o2
  have U2 := Lib.hid ((U1.out.setCell (p := ⟨w.heap.size + 1 + 1, 0, none⟩) (by dsimp only; omega) (.slice (some ⟨g1, 0, none⟩) n n)).trans u2)
  have O1' := Lib.hid ((O1.out.setFar (p := ⟨w.heap.size + 1 + 1, 0, none⟩) (by dsimp only; omega) (.slice (some ⟨g1, 0, none⟩) n n)).up u2)
  have Z2 := Lib.hid (fun j (hj : j < 3) => (show ∃ v, w2.cell? ⟨w.heap.size + 1, j, none⟩ = some v by
    obtain ⟨v, hv⟩ := Z1.out j hj
    exact ⟨v, (u2.cells _ _ (by simp; omega)).trans ((World.cell?_setCell_other _ _ _ _ (addr_ne (by omega))).trans hv)⟩))
  have y0 : w2.cell? ⟨w.heap.size + 1 + 1, 0, none⟩ = some (.slice (some ⟨g1, 0, none⟩) n n) := (u2.cells _ _ (by have := X2.out.lt; simpa using this)).trans (World.cell?_setCell_same _ _ _ X2.out.c0)
  have y1 : w2.cell? ⟨w.heap.size + 1 + 1, 1, none⟩ = some (.slice none 0 0) := (u2.cells _ _ (by have := X2.out.lt; simpa using this)).trans ((World.cell?_setCell_other _ _ _ _ (addr_ne (by omega))).trans X2.out.c1)
  have y2 : w2.cell? ⟨w.heap.size + 1 + 1, 2, none⟩ = some (.int .i64 0) := (u2.cells _ _ (by have := X2.out.lt; simpa using this)).trans ((World.cell?_setCell_other _ _ _ _ (addr_ne (by omega))).trans X2.out.c2)
  have lt2 : w.heap.size + 1 + 1 < (w1.setCell ⟨w.heap.size + 1 + 1, 0, none⟩ (.slice (some ⟨g1, 0, none⟩) n n)).heap.size := by have := X2.out.lt; simpa using this
  have q2 : w2.cell? ⟨w.heap.size, 2, none⟩ = some (.int .i64 til) := (u2.cells _ _ (by omega)).trans ((World.cell?_setCell_other _ _ _ _ (addr_ne (by omega))).trans X0.out.c2)
  have fA : ∀ j, w2.frozen? ⟨w.heap.size + 1, j, none⟩ = false := fun j => (u2.frozens _ _ (by omega)).trans (by have := FA.out j; simpa [go_sem] using this)
  have fB : ∀ j, w2.frozen? ⟨w.heap.size + 1 + 1, j, none⟩ = false := fun j => (u2.frozens _ _ lt2).trans (by have := FB.out j; simpa [go_sem] using this)
  obtain ⟨z0, zz0⟩ := Z2.out 0 (by omega); obtain ⟨z1, zz1⟩ := Z2.out 1 (by omega); obtain ⟨z2, zz2⟩ := Z2.out 2 (by omega); clear hc hf
  have HG1 := Lib.hid hg1
  have HG2 := Lib.hid hg2
  clear o2 u2 Z1 hg1 hg2 O1; go_wp2
  have K := set3_at (w := (w2.setCell ⟨w.heap.size + 1 + 1, 1, none⟩ (.slice (some ⟨g2, 0, none⟩) k k)).setCell ⟨w.heap.size + 1 + 1, 2, none⟩ (.int .i64 til)) (b := w.heap.size + 1) (x := .slice (some ⟨g1, 0, none⟩) n n) (y := .slice (some ⟨g2, 0, none⟩) k k) (z := .int .i64 til) (fun j hj => by
    obtain ⟨v, hv⟩ := Z2.out j hj
    exact ⟨v, (World.cell?_setCell_other _ _ _ _ (addr_ne (by omega))).trans ((World.cell?_setCell_other _ _ _ _ (addr_ne (by omega))).trans hv)⟩)
  have far : ∀ j, (⟨w.heap.size + 1, j, none⟩ : Addr).block < g1 ∧ (⟨w.heap.size + 1, j, none⟩ : Addr).block ≠ g2 := fun j => by have := HG1.out; have := HG2.out; dsimp only; omega
  have far2 : ∀ j, (⟨w.heap.size + 1 + 1, j, none⟩ : Addr).block < g1 ∧ (⟨w.heap.size + 1 + 1, j, none⟩ : Addr).block ≠ g2 := fun j => by have := HG1.out; have := HG2.out; dsimp only; omega
  have OA := Lib.hid (((((O1'.out.setFar (far2 1).1 (.slice (some ⟨g2, 0, none⟩) k k)).setFar (far2 2).1 (.int .i64 til)).setFar (far 0).1 (.slice (some ⟨g1, 0, none⟩) n n)).setFar (far 1).1 (.slice (some ⟨g2, 0, none⟩) k k)).setFar (far 2).1 (.int .i64 til))
  have OB := Lib.hid (((((O2.out.setFar (far2 1).2 (.slice (some ⟨g2, 0, none⟩) k k)).setFar (far2 2).2 (.int .i64 til)).setFar (far 0).2 (.slice (some ⟨g1, 0, none⟩) n n)).setFar (far 1).2 (.slice (some ⟨g2, 0, none⟩) k k)).setFar (far 2).2 (.int .i64 til))
  have near : ∀ j, w.heap.size ≤ (⟨w.heap.size + 1, j, none⟩ : Addr).block := fun j => by dsimp only; omega
  have near2 : ∀ j, w.heap.size ≤ (⟨w.heap.size + 1 + 1, j, none⟩ : Addr).block := fun j => by dsimp only; omega
  have UA := Lib.hid (((((U2.out.setCell (near2 1) (.slice (some ⟨g2, 0, none⟩) k k)).setCell (near2 2) (.int .i64 til)).setCell (near 0) (.slice (some ⟨g1, 0, none⟩) n n)).setCell (near 1) (.slice (some ⟨g2, 0, none⟩) k k)).setCell (near 2) (.int .i64 til))
  obtain ⟨k0, k1, k2⟩ := K
  exact bodyPost_ret (v := .agg #[.slice (some ⟨g1, 0, none⟩) n n, .slice (some ⟨g2, 0, none⟩) k k, .int .i64 til]) (by simp [results, Try.results20, go_sem, k0, k1, k2]) rfl ⟨g1, g2, rfl, by have := HG1.out; omega, by have := HG2.out; omega, OA.out, OB.out, UA.out⟩
theorem NewMdl.v {m : Mdl} {n k g1 g2 : Nat} {w : World} (h1 : RulzF w g1 n m.rules) (h2 : Own w g2 k m.starts) (hk : k ≤ 9223372036854775807) : MdlV w (some ⟨g1, 0, none⟩) n (some ⟨g2, 0, none⟩) k m :=
  ⟨h1.rulz, h2.evs', hk⟩
end Go.Proofs.Ytakmlfgkppekoaa

namespace Go.Proofs.Ytakmlfgkppekoaa
set_option maxRecDepth 100000
open Go.RowKit
def mixB (ops : Array Oper) : List (Nat × Bool) → Array Bool → Bool
  | [], listed => (Region.ready .any ops listed).isEmpty
  | (k, true) :: fs, listed => decide (k < ops.size) && (Region.ready .any ops listed).contains k && Region.free .any ops listed k && mixB ops fs (listed.setIfInBounds k true)
  | (k, false) :: fs, listed => decide (k < ops.size) && decide (Region.ready .any ops listed = [k]) && mixB ops fs (listed.setIfInBounds k true)
def wpMix (P : Program) (ops : Array Oper) (Q : Exit → Act → World → Prop) : List (Nat × Bool) → Act → World → Prop
  | (k, true) :: fs, a, w => ∃ o v, ops[k]? = some o ∧ Yields P ops o v a ∧ wpMix P ops Q fs (a.put o.dst v) w
  | (k, false) :: fs, a, w => ∃ o, ops[k]? = some o ∧ if Region.wanted o (yielded ops a.tmps) = true then o.wp P a w (wpMix P ops Q fs) Q else wpMix P ops Q fs (a.put o.dst undef) w
  | [], a, w => Q .normal a w
theorem wpAny_of_mix {P : Program} {ops : Array Oper} {Q : Exit → Act → World → Prop} (hsel : Region.noSelect ops = true) (hQ : ∀ c (a : Act) d v w, Q (.panic c) (a.put d v) w → Q (.panic c) a w) :
    ∀ (fs : List (Nat × Bool)) (listed : Array Bool) (a : Act) (w : World), mixB ops fs listed = true → wpMix P ops Q fs a w → wpAny P .any ops Q fs.length listed a w
  | [], _, _, _, hB, h => ⟨by simpa [mixB] using hB, h⟩
  | (k, true) :: fs, listed, a, w, hB, h => by
    simp only [mixB, Bool.and_eq_true] at hB; obtain ⟨o, v, h0, hy, hn⟩ := h
    exact wpAny_take h0 hsel hB.1.2 hB.1.1.2 (fun c a w => hQ c a _ _ w) hy (wpAny_of_mix hsel hQ fs _ _ _ hB.2 hn)
  | (k, false) :: fs, listed, a, w, hB, h => by
    simp only [mixB, Bool.and_eq_true, decide_eq_true_eq] at hB; obtain ⟨o, h0, h⟩ := h
    refine wpAny_all hB.1.2 (by simp) fun i hi => ?_
    obtain rfl : i = k := by simpa using hi
    refine wpOp_mono (K := wpMix P ops Q fs) (fun a' w' h' => wpAny_of_mix hsel hQ fs _ _ _ hB.2 h') ?_; unfold wpOp; simp only [h0]
    split
    · rename_i hw
      rw [if_pos hw] at h
      exact .inl h
    · rename_i hw
      rw [if_neg hw] at h
      exact h
section
variable {P : Program} {ops : Array Oper} {Q : Exit → Act → World → Prop} {fs : List (Nat × Bool)} {k : Nat} {o : Oper} {a : Act} {w : World}
theorem mix_take (h0 : ops[k]? = some o) (hw : Region.wanted o (yielded ops a.tmps) = true) (h : ∃ v, (∀ w1, (execOp a.eval o).run P w1 = .ok (.value v) w1) ∧ wpMix P ops Q fs (a.put o.dst v) w) : wpMix P ops Q ((k, true) :: fs) a w := by
  obtain ⟨v, hv, hn⟩ := h
  exact ⟨o, v, h0, .inl ⟨hw, hv⟩, hn⟩
theorem mix_go (h0 : ops[k]? = some o) (hw : Region.wanted o (yielded ops a.tmps) = true) (h : ∀ K : Act → World → Prop, (∀ a w, wpMix P ops Q fs a w → K a w) → o.wp P a w K Q) : wpMix P ops Q ((k, false) :: fs) a w := by
  refine ⟨o, h0, ?_⟩; rw [if_pos hw]
  exact h _ fun _ _ h => h
theorem mix_nil (h : Q .normal a w) : wpMix P ops (NoPanic Q) [] a w := h
end
end Go.Proofs.Ytakmlfgkppekoaa

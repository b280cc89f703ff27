/-
  Component states as values, in one sentence: three numbers, and the bounds that make one valid; no condition is made.
  The putting of an event in its place, in one sentence: where it stands in the new list, as lists; no condition is made.
  What l1Put returns, in one sentence: a new slice of the list with the event ahead of the first that is greater; for every list that lies in memory.
  What szMdlRule, szMdlRuleS, szMdlRuleSS and szMdlModel return, in one sentence: -1, or what is left, and then each list is short; for all that lie in memory.
  What toMdlModel returns, in one sentence: the same model over new blocks; for every model that lies in memory and was counted.
  Slices of structs of numbers, by their width, in one sentence: rows of cells, what marks lay there, what is kept; no condition is made.
  What marks do to component states, events and records, in one sentence: they are laid one behind the other, and held; for every slice of the call's own.
-/
import Derived.Test.YtipjcjjjkkaigaaDLEcbn01
import Derived.Test.YtipjcjjjkkaigaaDLEcbn02
import Derived.Test.YtipjcjjjkkaigaaDLEcbn03
import Derived.Test.YtipjcjjjkkaigaaDLEcbn05
import Derived.Test.YtipjcjjjkkaigaaDLEcbn06
namespace Go.Proofs.Ytipjcjjjkkaigaa
set_option maxRecDepth 100000
open Go.RowKit
/-- A component's state: its three numbers. -/
structure Cst where
  s : Int
  sq : Int
  ct : Int
deriving DecidableEq
instance : Inhabited Cst := ⟨⟨0, 0, 0⟩⟩
def Cst.v (c : Cst) : Value := .agg #[.int .i64 c.s, .int .i64 c.sq, .int .i64 c.ct]
end Go.Proofs.Ytipjcjjjkkaigaa

namespace Go.Proofs.Ytipjcjjjkkaigaa
set_option maxRecDepth 100000
open Go.RowKit
/-- e ahead of the first that is greater. -/
def ins (e : Evt) : List Evt → List Evt
  | [] => [e]
  | x :: r => if ltE e x = true then e :: x :: r else x :: ins e r
theorem own_mono {w : World} {b b' e size n : Nat} {v : Value} {xs : List Value} (h : w.ownsRow b e size v n xs) (hb : b' ≤ b) : w.ownsRow b' e size v n xs := by
  refine ⟨h.1, ?_⟩
  rcases h.2 with hn | ⟨g, cap, cur, hv, hg, hr⟩
  · exact .inl hn
  · exact .inr ⟨g, cap, cur, hv, by omega, hr⟩
end Go.Proofs.Ytipjcjjjkkaigaa

namespace Go.Proofs.Ytipjcjjjkkaigaa
set_option maxRecDepth 100000
open Go.RowKit
theorem flat_snoc (l : List Evt) (x : Evt) : flat l ++ flat [x] = flat (l ++ [x]) := (flat_app _ _).symm
theorem own_snoc {w : World} {b e n : Nat} {v : Value} {l : List Evt} {x : Evt} (h : w.ownsRow b e 6 v n (flat l ++ flat [x])) (hn : n = l.length + 1) : w.ownsRow b e 6 v (l ++ [x]).length (flat (l ++ [x])) := by
  rw [flat_snoc] at h; subst hn
  simpa using h
end Go.Proofs.Ytipjcjjjkkaigaa

namespace Go.Proofs.Ytipjcjjjkkaigaa
set_option maxRecDepth 100000
open Go.RowKit
/-- What a count gives. -/
def Sized (p : Prop) (left : Int) (w : World) (x : Ending) (w' : World) : Prop :=
  ∃ z : Int, x = .returned (.int .i64 z) ∧ (z = -1 ∨ (0 ≤ z ∧ z ≤ left ∧ p)) ∧ Up w w'
structure ShortR (rs : List Rule) : Prop where
  few : rs.length ≤ 1048576
  small : Small rs
structure ShortS (rs : List (List Rule)) (n : Nat) : Prop where
  small : ∀ i, i < rs.length → (rs.getD i []).length ≤ 1048576 ∧ Small (rs.getD i [])
  few : n ≤ 1048576
structure ShortM (m : Mdl) (n : Nat) : Prop where
  fit : FitM m
  few : n ≤ 1048576
  shorts : ∀ i, i < m.rules.length → (m.rules.getD i []).length ≤ 1048576 ∧ Small (m.rules.getD i [])
theorem szRule_any (r : Rule) (A : Option Addr) (n c : Nat) (left : Int) (w : World) (h0 : 0 ≤ left) (h1 : left ≤ 1048576) (hn : n ≤ 9223372036854775807) (hE : Evs w A n r.sends) :
    Calls Try.prog 128 #[r.v (.slice A n c), .int .i64 left] w (Sized (r.sends.length ≤ 1048576) left w) := by
  have CL := Lib.hid (fun W => szSnd_any A n c left W h0 (by omega) hn)
  have LE := Lib.hid hE.1
  obtain ⟨kd, ra, rb, rc, es⟩ := r; clear hE; unfold Rule.v; dsimp only
  by_cases h : left < n
  · have j1 : (-1 : Int) < 0 := by omega
    have C2 := Lib.hid (if_pos h ▸ CL.out)
    clear CL
    go_enter Try.func128, Try.ntmps128
    go_wp2_with fail
    refine (C2.out _).mono ?_; rintro x w1 ⟨rfl, rfl⟩; go_wp2; go_ret
    exact ⟨-1, rfl, .inl rfl, (Up.refl _).alloc _⟩
  · have j1 : ¬ left - n < 0 := by omega
    have C2 := Lib.hid (if_neg h ▸ CL.out)
    have PP := Lib.hid (show es.length ≤ 1048576 by rw [LE.out]; omega)
    clear CL
    go_enter Try.func128, Try.ntmps128
    go_wp2_with fail
    refine (C2.out _).mono ?_; rintro x w1 ⟨rfl, rfl⟩; go_wp2; go_ret
    exact ⟨left - n, rfl, .inr ⟨by omega, by omega, PP.out⟩, (Up.refl _).alloc _⟩
set_option maxHeartbeats 2000000 in
theorem szRuleS_any (A : Option Addr) (n c : Nat) (rs : List Rule) (left : Int) (w : World) (h0 : 0 ≤ left) (h1 : left ≤ 1048576) (hR : Rules w A n rs) :
    Calls Try.prog 88 #[.slice A n c, .int .i64 left] w (Sized (ShortR rs) left w) := by
  have hbig := hR.2.1
  have HR := Lib.hid hR
  have LR := Lib.hid hR.1
  have CL := Lib.hid (fun r A n c l W a b hn hE => szRule_any r A n c l W a b hn hE)
  clear hR
  have i9 : IntKind.i64.wrap (left - (n : Int)) = left - n := IntWalk.i64_in _ (by omega)
  go_enter Try.func88, Try.ntmps88
  by_cases h : left < n
  · have j1 : left - n < 0 := by omega
    go_wp2; go_ret
    exact ⟨-1, rfl, .inl rfl, Up.refl _⟩
  · have j1 : ¬ left - n < 0 := by omega
    go_wp2
    go_loopw [1, 5] (fun s i wr => (∃ (l : Int) (k : Nat), k ≤ n ∧ s = .int .i64 l ∧ i = .int .i64 k ∧ 0 ≤ l ∧ l ≤ left ∧ Hid (∀ j, j < k → (rs.getD j default).sends.length ≤ 1048576)) ∧ Up w wr) (fun _ i _ => n - (intOf i).toNat)
    case atStart => exact ⟨⟨left - n, 0, by omega, rfl, rfl, by omega, by omega, Lib.hid (fun j hj => absurd hj (by omega))⟩, Up.refl _⟩
    case round =>
      obtain ⟨⟨l, k, hk, rfl, rfl, hl0, hl1, SM⟩, ur⟩ := hrel
      have UR := Lib.hid ur
      by_cases hlt : k < n
      · obtain ⟨b, off, hA, hb, hc⟩ := (HR.out.up ur).2.2 (by omega)
        subst hA
        have a0 := hc k hlt
        clear hc ur
        have cl := fun A n c W => CL.out (rs.getD k default) A n c l W hl0 (by omega)
        have SK := Lib.hid (fun (h : (rs.getD k default).sends.length ≤ 1048576) j (hj : j < k + 1) => (show (rs.getD j default).sends.length ≤ 1048576 from if e : j = k then e ▸ h else SM.out j (by omega)))
        generalize rs.getD k default = p at a0 cl SK
        obtain ⟨A3, n3, c3, ⟨p0, p1, p2, p3, p4⟩, hn3, he3⟩ := a0
        have cl2 := fun W (u : Up wr W) => cl A3 n3 c3 W hn3 (he3.up u)
        obtain ⟨pk, pa, pb, pc, ps⟩ := p; unfold Rule.v at cl2; dsimp only at p0 p1 p2 p3 p4 cl2 SK
        have C := Lib.hid cl2
        clear cl cl2 he3
        have i4 : (k : Int) < n := by omega
        have i5 : IntKind.i64.wrap ((k : Int) + 1) = (k : Int) + 1 := IntWalk.i64_in _ (by omega)
        go_wp2_with fail
        refine (C.out _ (Up.refl _)).mono ?_; rintro x w1 ⟨z, rfl, hz, u1⟩
        have U1 := Lib.hid (UR.out.trans u1)
        clear u1
        rcases hz with rfl | ⟨z0, z1, hp⟩
        · go_wp2
          go_ret
          exact ⟨-1, rfl, .inl rfl, U1.out⟩
        · have S2 := Lib.hid (SK.out hp)
          have j3 : ¬ z < 0 := by omega
          clear hp; go_wp2
          go_roundw
          case rel => exact ⟨⟨z, k + 1, by omega, rfl, by first | rfl | go_num, by omega, by omega, S2⟩, U1.out⟩
          case measure => (simp [intOf]; try omega)
      · have i4 : ¬ (k : Int) < n := by omega
        clear ur; go_wp2; go_ret
        exact ⟨l, rfl, .inr ⟨by omega, by omega, ⟨by rw [LR.out]; omega, fun j hj => SM.out j (by have := LR.out; omega)⟩⟩, UR.out⟩
set_option maxHeartbeats 2000000 in
theorem szRuleSS_any (A : Option Addr) (n c : Nat) (rs : List (List Rule)) (left : Int) (w : World) (h0 : 0 ≤ left) (h1 : left ≤ 1048576) (hR : Rulz w A n rs) :
    Calls Try.prog 39 #[.slice A n c, .int .i64 left] w (Sized (ShortS rs n) left w) := by
  have hbig := hR.2.1
  have HR := Lib.hid hR
  have LR := Lib.hid hR.1
  have CL := Lib.hid (fun r A n c l W a b hE => szRuleS_any A n c r l W a b hE)
  clear hR
  have i9 : IntKind.i64.wrap (left - (n : Int)) = left - n := IntWalk.i64_in _ (by omega)
  go_enter Try.func39, Try.ntmps39
  by_cases h : left < n
  · have j1 : left - n < 0 := by omega
    go_wp2; go_ret
    exact ⟨-1, rfl, .inl rfl, Up.refl _⟩
  · have j1 : ¬ left - n < 0 := by omega
    have hnn : n ≤ 1048576 := by omega
    go_wp2
    go_loopw [1, 5] (fun s i wr => (∃ (l : Int) (k : Nat), k ≤ n ∧ s = .int .i64 l ∧ i = .int .i64 k ∧ 0 ≤ l ∧ l ≤ left ∧ Hid (∀ j, j < k → (rs.getD j []).length ≤ 1048576 ∧ Small (rs.getD j []))) ∧ Up w wr) (fun _ i _ => n - (intOf i).toNat)
    case atStart => exact ⟨⟨left - n, 0, by omega, rfl, rfl, by omega, by omega, Lib.hid (fun j hj => absurd hj (by omega))⟩, Up.refl _⟩
    case round =>
      obtain ⟨⟨l, k, hk, rfl, rfl, hl0, hl1, SM⟩, ur⟩ := hrel
      have UR := Lib.hid ur
      by_cases hlt : k < n
      · obtain ⟨b, off, hA, hb, hc⟩ := (HR.out.up ur).2.2 (by omega)
        subst hA; obtain ⟨A3, n3, c3, p0, he3⟩ := hc k hlt; clear hc ur
        have cl := fun W (u : Up wr W) => CL.out (rs.getD k []) A3 n3 c3 l W hl0 (by omega) (he3.up u)
        have SK := Lib.hid (fun (h : ShortR (rs.getD k [])) j (hj : j < k + 1) => (show (rs.getD j []).length ≤ 1048576 ∧ Small (rs.getD j []) from if e : j = k then e ▸ ⟨h.few, h.small⟩ else SM.out j (by omega)))
        generalize rs.getD k [] = p at cl SK he3
        have C := Lib.hid cl
        clear cl he3
        have i4 : (k : Int) < n := by omega
        have i5 : IntKind.i64.wrap ((k : Int) + 1) = (k : Int) + 1 := IntWalk.i64_in _ (by omega)
        go_wp2_with fail
        refine (C.out _ (Up.refl _)).mono ?_; rintro x w1 ⟨z, rfl, hz, u1⟩
        have U1 := Lib.hid (UR.out.trans u1)
        clear u1
        rcases hz with rfl | ⟨z0, z1, hp⟩
        · go_wp2
          go_ret
          exact ⟨-1, rfl, .inl rfl, U1.out⟩
        · have S2 := Lib.hid (SK.out hp)
          have j3 : ¬ z < 0 := by omega
          clear hp; go_wp2
          go_roundw
          case rel => exact ⟨⟨z, k + 1, by omega, rfl, by first | rfl | go_num, by omega, by omega, S2⟩, U1.out⟩
          case measure => (simp [intOf]; try omega)
      · have i4 : ¬ (k : Int) < n := by omega
        clear ur; go_wp2; go_ret
        exact ⟨l, rfl, .inr ⟨by omega, by omega, ⟨fun j hj => SM.out j (by have := LR.out; omega), by omega⟩⟩, UR.out⟩
set_option maxHeartbeats 2000000 in
theorem szMdl_any (A : Option Addr) (n c : Nat) (B : Option Addr) (k d : Nat) (m : Mdl) (w : World) (hM : MdlV w A n B k m) :
    Calls Try.prog 10 #[.agg #[.slice A n c, .slice B k d, .int .i64 m.til], .int .i64 1048576] w (Sized (ShortM m n) 1048576 w) := by
  obtain ⟨rs, es, til⟩ := m
  have CR := Lib.hid (fun W (u : Up w W) => szRuleSS_any A n c rs 1048576 W (by omega) (by omega) (hM.rules.up u))
  have CE := Lib.hid (fun l W a b => sz_any B k d l W a b hM.big)
  have LE := Lib.hid hM.starts.1
  have B0 := Lib.hid (Box3.new w (.slice A n c) (.slice B k d) (.int .i64 til) 25)
  clear hM; dsimp only
  go_enter Try.func10, Try.ntmps10
  go_wp2_with fail
  refine (CR.out _ ((Up.refl _).alloc _)).mono ?_; rintro x w1 ⟨z, rfl, hz, u1⟩
  have U1 := Lib.hid (((Up.refl w).alloc _).trans u1)
  have x0 := B0.out.up u1
  obtain ⟨p0, p1, p2⟩ := And.intro x0.c0 (And.intro x0.c1 x0.c2); clear u1 x0
  rcases hz with rfl | ⟨z0, z1, ⟨hp, hn⟩⟩
  · go_wp2
    go_ret
    exact ⟨-1, rfl, .inl rfl, U1.out⟩
  · have HP := Lib.hid hp
    have j3 : ¬ z < 0 := by omega
    clear hp
    by_cases h : z < k
    · have C2 := Lib.hid (fun W => if_pos h ▸ CE.out z W z0 (by omega))
      have j1 : (-1 : Int) < 0 := by omega
      go_wp2_with fail
      refine (C2.out _).mono ?_; rintro x w2 ⟨rfl, rfl⟩; go_wp2; go_ret
      exact ⟨-1, rfl, .inl rfl, U1.out⟩
    · have C2 := Lib.hid (fun W => if_neg h ▸ CE.out z W z0 (by omega))
      have j1 : ¬ z - (k : Int) < 0 := by omega
      go_wp2_with fail
      refine (C2.out _).mono ?_; rintro x w2 ⟨rfl, rfl⟩; go_wp2; go_ret
      exact ⟨z - k, rfl, .inr ⟨by omega, by omega, ⟨⟨fun i hi => (HP.out i hi).2, by rw [LE.out]; omega⟩, hn, HP.out⟩⟩, U1.out⟩
end Go.Proofs.Ytipjcjjjkkaigaa

namespace Go.Proofs.Ytipjcjjjkkaigaa
set_option maxRecDepth 100000
open Go.RowKit
theorem set3_at {w : World} {b : Nat} {x y z : Value} (h : ∀ k, k < 3 → ∃ v, w.cell? ⟨b, k, none⟩ = some v) :
    (((w.setCell ⟨b, 0, none⟩ x).setCell ⟨b, 1, none⟩ y).setCell ⟨b, 2, none⟩ z).cell? ⟨b, 0, none⟩ = some x ∧ (((w.setCell ⟨b, 0, none⟩ x).setCell ⟨b, 1, none⟩ y).setCell ⟨b, 2, none⟩ z).cell? ⟨b, 1, none⟩ = some y ∧ (((w.setCell ⟨b, 0, none⟩ x).setCell ⟨b, 1, none⟩ y).setCell ⟨b, 2, none⟩ z).cell? ⟨b, 2, none⟩ = some z := by
  have ne : ∀ k j, k ≠ j → (⟨b, k, none⟩ : Addr) ≠ ⟨b, j, none⟩ := fun k j hk => addr_ne (by omega)
  obtain ⟨v0, h0⟩ := h 0 (by omega); obtain ⟨v1, h1⟩ := h 1 (by omega); obtain ⟨v2, h2⟩ := h 2 (by omega); refine ⟨?_, ?_, ?_⟩
  · rw [World.cell?_setCell_other _ _ _ _ (ne 2 0 (by omega)), World.cell?_setCell_other _ _ _ _ (ne 1 0 (by omega))]
    exact World.cell?_setCell_same _ _ _ h0
  · rw [World.cell?_setCell_other _ _ _ _ (ne 2 1 (by omega))]
    exact World.cell?_setCell_same _ _ _ ((World.cell?_setCell_other _ _ _ _ (ne 0 1 (by omega))).trans h1)
  · exact World.cell?_setCell_same _ _ _ ((World.cell?_setCell_other _ _ _ _ (ne 1 2 (by omega))).trans ((World.cell?_setCell_other _ _ _ _ (ne 0 2 (by omega))).trans h2))
theorem free_new (w : World) (xs : Array Value) (t : TypeId) (j : Nat) : (w.alloc (.cells xs t)).frozen? ⟨w.heap.size, j, none⟩ = false := by
  have hh := heap_alloc_new w (.cells xs t)
  unfold World.frozen?; rw [hh]; simp
set_option maxHeartbeats 4000000 in
theorem toMdl_any (A : Option Addr) (n c : Nat) (B : Option Addr) (k d : Nat) (m : Mdl) (w : World) (hM : MdlV w A n B k m) (hS : ShortM m n) :
    Calls Try.prog 12 #[.agg #[.slice A n c, .slice B k d, .int .i64 m.til]] w (NewMdl m n k w) := by
  obtain ⟨rs, es, til⟩ := m
  have CR := Lib.hid (fun W (u : Up w W) => toRuleSS_any A n c rs W hS.few (hM.rules.up u) hS.shorts)
  have CE := Lib.hid (fun W (u : Up w W) => toS_any B k d es W (by have := hM.starts.1; have := hS.fit.2; dsimp only at *; omega) (hM.starts.up u))
  clear hM hS; unfold NewMdl; dsimp only
  go_enter Try.func12, Try.ntmps12
  go_wp2_with fail
  refine (CR.out _ ((((Up.refl w).alloc _).alloc _).alloc _)).mono ?_; rintro x w1 ⟨g1, rfl, hg1, o1, u1⟩
  have O1 := Lib.hid o1
  have U1 := Lib.hid ((((Up.refl w).alloc _).alloc _).alloc _ |>.trans u1)
  simp at hg1
  have Z1 := Lib.hid (fun j (hj : j < 3) => (show ∃ v, w1.cell? ⟨w.heap.size + 1, j, none⟩ = some v by
    obtain ⟨v, hv⟩ := somes_new (w.alloc (.cells #[.slice A n c, .slice B k d, .int .i64 til] 25)) #[.slice none 0 0, .slice none 0 0, .int .i64 0] 38 j hj
    have hs : (w.alloc (.cells #[.slice A n c, .slice B k d, .int .i64 til] 25)).heap.size = w.heap.size + 1 := by simp
    rw [hs] at hv
    exact ⟨v, (((Up.refl _).alloc _).trans u1).cells _ _ (by simp) |>.trans hv⟩))
  have x2 := (Box3.new ((w.alloc (.cells #[.slice A n c, .slice B k d, .int .i64 til] 25)).alloc (.cells #[.slice none 0 0, .slice none 0 0, .int .i64 0] 38)) (.slice none 0 0) (.slice none 0 0) (.int .i64 0) 38).up u1
  simp only [World.size_alloc] at x2
  have X2 := Lib.hid x2
  have X0 := Lib.hid ((Box3.new w (.slice A n c) (.slice B k d) (.int .i64 til) 25).up ((((Up.refl _).alloc _).alloc _).trans u1))
  have FA := Lib.hid (fun j => (show w1.frozen? ⟨w.heap.size + 1, j, none⟩ = false by
    have h := free_new (w.alloc (.cells #[.slice A n c, .slice B k d, .int .i64 til] 25)) #[.slice none 0 0, .slice none 0 0, .int .i64 0] 38 j
    simp only [World.size_alloc] at h
    exact ((((Up.refl _).alloc _).trans u1).frozens _ _ (by simp)).trans h))
  have FB := Lib.hid (fun j => (show w1.frozen? ⟨w.heap.size + 1 + 1, j, none⟩ = false by
    have h := free_new ((w.alloc (.cells #[.slice A n c, .slice B k d, .int .i64 til] 25)).alloc (.cells #[.slice none 0 0, .slice none 0 0, .int .i64 0] 38)) #[.slice none 0 0, .slice none 0 0, .int .i64 0] 38 j
    simp only [World.size_alloc] at h
    exact (u1.frozens _ _ (by simp)).trans h))
  obtain ⟨hc, hf, hz⟩ := u1.facts; simp at hz; clear o1 u1 x2
  have ne2 : w.heap.size + 1 + 1 ≠ w.heap.size := by omega
  go_wp2_with fail
  refine (CE.out _ (U1.out.setCell (by dsimp only; omega) _)).mono ?_; rintro x w2 ⟨g2, rfl, hg2, o2, u2⟩; simp at hg2
  have O2 := Lib.hid o2
  have U2 := Lib.hid ((U1.out.setCell (p := ⟨w.heap.size + 1 + 1, 0, none⟩) (by dsimp only; omega) (.slice (some ⟨g1, 0, none⟩) n n)).trans u2)
  have O1' := Lib.hid ((O1.out.setFar (p := ⟨w.heap.size + 1 + 1, 0, none⟩) (by dsimp only; omega) (.slice (some ⟨g1, 0, none⟩) n n)).up u2)
  have Z2 := Lib.hid (fun j (hj : j < 3) => (show ∃ v, w2.cell? ⟨w.heap.size + 1, j, none⟩ = some v by
    obtain ⟨v, hv⟩ := Z1.out j hj
    exact ⟨v, (u2.cells _ _ (by simp; omega)).trans ((World.cell?_setCell_other _ _ _ _ (addr_ne (by omega))).trans hv)⟩))
  have y0 : w2.cell? ⟨w.heap.size + 1 + 1, 0, none⟩ = some (.slice (some ⟨g1, 0, none⟩) n n) := (u2.cells _ _ (by have := X2.out.lt; simpa using this)).trans (World.cell?_setCell_same _ _ _ X2.out.c0)
  have y1 : w2.cell? ⟨w.heap.size + 1 + 1, 1, none⟩ = some (.slice none 0 0) := (u2.cells _ _ (by have := X2.out.lt; simpa using this)).trans ((World.cell?_setCell_other _ _ _ _ (addr_ne (by omega))).trans X2.out.c1)
  have y2 : w2.cell? ⟨w.heap.size + 1 + 1, 2, none⟩ = some (.int .i64 0) := (u2.cells _ _ (by have := X2.out.lt; simpa using this)).trans ((World.cell?_setCell_other _ _ _ _ (addr_ne (by omega))).trans X2.out.c2)
  have lt2 : w.heap.size + 1 + 1 < (w1.setCell ⟨w.heap.size + 1 + 1, 0, none⟩ (.slice (some ⟨g1, 0, none⟩) n n)).heap.size := by have := X2.out.lt; simpa using this
  have q2 : w2.cell? ⟨w.heap.size, 2, none⟩ = some (.int .i64 til) := (u2.cells _ _ (by omega)).trans ((World.cell?_setCell_other _ _ _ _ (addr_ne (by omega))).trans X0.out.c2)
  have fA : ∀ j, w2.frozen? ⟨w.heap.size + 1, j, none⟩ = false := fun j => (u2.frozens _ _ (by omega)).trans (by have := FA.out j; simpa [go_sem] using this)
  have fB : ∀ j, w2.frozen? ⟨w.heap.size + 1 + 1, j, none⟩ = false := fun j => (u2.frozens _ _ lt2).trans (by have := FB.out j; simpa [go_sem] using this)
  obtain ⟨z0, zz0⟩ := Z2.out 0 (by omega); obtain ⟨z1, zz1⟩ := Z2.out 1 (by omega); obtain ⟨z2, zz2⟩ := Z2.out 2 (by omega); clear hc hf
  have HG1 := Lib.hid hg1
  have HG2 := Lib.hid hg2
  clear o2 u2 Z1 hg1 hg2 O1; go_wp2
  have K := set3_at (w := (w2.setCell ⟨w.heap.size + 1 + 1, 1, none⟩ (.slice (some ⟨g2, 0, none⟩) k k)).setCell ⟨w.heap.size + 1 + 1, 2, none⟩ (.int .i64 til)) (b := w.heap.size + 1) (x := .slice (some ⟨g1, 0, none⟩) n n) (y := .slice (some ⟨g2, 0, none⟩) k k) (z := .int .i64 til) (fun j hj => by
    obtain ⟨v, hv⟩ := Z2.out j hj
    exact ⟨v, (World.cell?_setCell_other _ _ _ _ (addr_ne (by omega))).trans ((World.cell?_setCell_other _ _ _ _ (addr_ne (by omega))).trans hv)⟩)
  have far : ∀ j, (⟨w.heap.size + 1, j, none⟩ : Addr).block < g1 ∧ (⟨w.heap.size + 1, j, none⟩ : Addr).block ≠ g2 := fun j => by have := HG1.out; have := HG2.out; dsimp only; omega
  have far2 : ∀ j, (⟨w.heap.size + 1 + 1, j, none⟩ : Addr).block < g1 ∧ (⟨w.heap.size + 1 + 1, j, none⟩ : Addr).block ≠ g2 := fun j => by have := HG1.out; have := HG2.out; dsimp only; omega
  have OA := Lib.hid (((((O1'.out.setFar (far2 1).1 (.slice (some ⟨g2, 0, none⟩) k k)).setFar (far2 2).1 (.int .i64 til)).setFar (far 0).1 (.slice (some ⟨g1, 0, none⟩) n n)).setFar (far 1).1 (.slice (some ⟨g2, 0, none⟩) k k)).setFar (far 2).1 (.int .i64 til))
  have OB := Lib.hid (((((O2.out.setFar (far2 1).2 (.slice (some ⟨g2, 0, none⟩) k k)).setFar (far2 2).2 (.int .i64 til)).setFar (far 0).2 (.slice (some ⟨g1, 0, none⟩) n n)).setFar (far 1).2 (.slice (some ⟨g2, 0, none⟩) k k)).setFar (far 2).2 (.int .i64 til))
  have near : ∀ j, w.heap.size ≤ (⟨w.heap.size + 1, j, none⟩ : Addr).block := fun j => by dsimp only; omega
  have near2 : ∀ j, w.heap.size ≤ (⟨w.heap.size + 1 + 1, j, none⟩ : Addr).block := fun j => by dsimp only; omega
  have UA := Lib.hid (((((U2.out.setCell (near2 1) (.slice (some ⟨g2, 0, none⟩) k k)).setCell (near2 2) (.int .i64 til)).setCell (near 0) (.slice (some ⟨g1, 0, none⟩) n n)).setCell (near 1) (.slice (some ⟨g2, 0, none⟩) k k)).setCell (near 2) (.int .i64 til))
  obtain ⟨k0, k1, k2⟩ := K
  exact bodyPost_ret (v := .agg #[.slice (some ⟨g1, 0, none⟩) n n, .slice (some ⟨g2, 0, none⟩) k k, .int .i64 til]) (by simp [results, Try.results12, go_sem, k0, k1, k2]) rfl ⟨g1, g2, rfl, by have := HG1.out; omega, by have := HG2.out; omega, OA.out, OB.out, UA.out⟩
theorem NewMdl.v {m : Mdl} {n k g1 g2 : Nat} {w : World} (h1 : RulzF w g1 n m.rules) (h2 : Own w g2 k m.starts) (hk : k ≤ 9223372036854775807) : MdlV w (some ⟨g1, 0, none⟩) n (some ⟨g2, 0, none⟩) k m :=
  ⟨h1.rulz, h2.evs', hk⟩
end Go.Proofs.Ytipjcjjjkkaigaa

namespace Go.Proofs.Ytipjcjjjkkaigaa
set_option maxRecDepth 100000
open Go.RowKit
/-- One more, so many times. -/
def incr (K : Int) : Nat → Int
  | 0 => K
  | j + 1 => incr K j + 1
theorem incr_eq (K : Int) : ∀ j : Nat, incr K j = K + j
  | 0 => by simp [incr]
  | j + 1 => by rw [incr, incr_eq K j]; omega
/-- The world with numbers laid one behind the other. -/
def putN (w : World) (g o : Nat) (K : Int) : Nat → World
  | 0 => w
  | j + 1 => (putN w g o K j).setCell ⟨g, o + j, none⟩ (.int .i64 (incr K j))
theorem putN_other (w : World) (g o : Nat) (K : Int) (b p : Nat) : ∀ s : Nat, (b ≠ g ∨ p < o ∨ o + s ≤ p) → (putN w g o K s).cell? ⟨b, p, none⟩ = w.cell? ⟨b, p, none⟩
  | 0, _ => rfl
  | s + 1, h => by rw [putN, World.cell?_setCell_other _ _ _ _ (addr_ne (by omega)), putN_other w g o K b p s (by omega)]
theorem putN_frozen (w : World) (g o : Nat) (K : Int) (a : Addr) : ∀ s : Nat, (putN w g o K s).frozen? a = w.frozen? a
  | 0 => rfl
  | s + 1 => by
    have := putN_frozen w g o K a s
    simpa [putN, go_sem] using this
theorem putN_size (w : World) (g o : Nat) (K : Int) : ∀ s : Nat, (putN w g o K s).heap.size = w.heap.size
  | 0 => rfl
  | s + 1 => by
    have := putN_size w g o K s
    simpa [putN] using this
theorem putN_at (w : World) (g o : Nat) (K : Int) : ∀ s : Nat, (∀ j, j < s → ∃ v, w.cell? ⟨g, o + j, none⟩ = some v) → ∀ j, j < s → (putN w g o K s).cell? ⟨g, o + j, none⟩ = some (.int .i64 (incr K j))
  | 0, _, j, hj => absurd hj (by omega)
  | s + 1, h, j, hj => by
    rw [putN]
    by_cases e : j = s
    · subst e
      obtain ⟨v, hv⟩ := h j (by omega)
      exact World.cell?_setCell_same _ _ _ ((putN_other w g o K g (o + j) j (by omega)).trans hv)
    · rw [World.cell?_setCell_other _ _ _ _ (addr_ne (by omega))]
      exact putN_at w g o K s (fun i hi => h i (by omega)) j (by omega)
theorem Mv.putN {g : Nat} {a w : World} (h : Mv g a w) (o : Nat) (K : Int) : ∀ s : Nat, Mv g a (Go.Proofs.Ytipjcjjjkkaigaa.putN w g o K s)
  | 0 => h
  | s + 1 => (Mv.putN h o K s).setCell _
/-- A block of the call's own of so many numbers. -/
def IntsOwn (w : World) (g N : Nat) : Prop := g < w.heap.size ∧ ∀ j, j < N → IntC w g j
theorem IntsOwn.up {w w' : World} {g N : Nat} (h : IntsOwn w g N) (u : Up w w') : IntsOwn w' g N :=
  ⟨Nat.lt_of_lt_of_le h.1 u.size, fun j hj => by
    obtain ⟨⟨z, hz⟩, hf⟩ := h.2 j hj
    exact ⟨⟨z, (u.cells _ _ h.1).trans hz⟩, (u.frozens _ _ h.1).trans hf⟩⟩
theorem IntsOwn.mv {w w' : World} {g k N : Nat} (h : IntsOwn w g N) (u : Mv k w w') (hne : g ≠ k) : IntsOwn w' g N :=
  ⟨Nat.lt_of_lt_of_le h.1 u.size, fun j hj => by
    obtain ⟨⟨z, hz⟩, hf⟩ := h.2 j hj
    exact ⟨⟨z, (u.cells _ _ h.1 hne).trans hz⟩, (u.frozens _ _ h.1 hne).trans hf⟩⟩
theorem IntsOwn.put {w : World} {g N o s : Nat} {K : Int} (h : IntsOwn w g N) : IntsOwn (Go.Proofs.Ytipjcjjjkkaigaa.putN w g o K s) g N := by
  refine ⟨by rw [putN_size]; exact h.1, fun j hj => ?_⟩; obtain ⟨⟨z, hz⟩, hf⟩ := h.2 j hj; refine ⟨?_, (putN_frozen _ _ _ _ _ _).trans hf⟩
  induction s with
  | zero => exact ⟨z, hz⟩
  | succ s ih =>
    obtain ⟨z', hz'⟩ := ih; rw [putN]
    by_cases e : o + s = j
    · subst e
      exact ⟨_, World.cell?_setCell_same _ _ _ hz'⟩
    · exact ⟨z', (World.cell?_setCell_other _ _ _ _ (addr_ne (by omega))).trans hz'⟩
/-- The marks lie there: row i begins with k0 + s i. -/
def Held (w : World) (A : Option Addr) (n s : Nat) (k0 : Int) : Prop :=
  0 < n → ∃ b off, A = some ⟨b, off, none⟩ ∧ b < w.heap.size ∧ ∀ i, i < n → ∀ j, j < s → w.cell? ⟨b, off + i * s + j, none⟩ = some (.int .i64 (incr (k0 + (s : Int) * (i : Int)) j))
theorem Held.up {w w' : World} {A : Option Addr} {n s : Nat} {k0 : Int} (h : Held w A n s k0) (u : Up w w') : Held w' A n s k0 := fun hn => by
  obtain ⟨b, off, hA, hb, hc⟩ := h hn
  exact ⟨b, off, hA, Nat.lt_of_lt_of_le hb u.size, fun i hi j hj => (u.cells _ _ hb).trans (hc i hi j hj)⟩
theorem Held.mv {w w' : World} {A : Option Addr} {n s g : Nat} {k0 : Int} (h : Held w A n s k0) (m : Mv g w w') (hne : ∀ b off, A = some ⟨b, off, none⟩ → b ≠ g) : Held w' A n s k0 := fun hn => by
  obtain ⟨b, off, hA, hb, hc⟩ := h hn
  exact ⟨b, off, hA, Nat.lt_of_lt_of_le hb m.size, fun i hi j hj => (m.cells _ _ hb (hne b off hA)).trans (hc i hi j hj)⟩
theorem Held.none_ (w : World) (A : Option Addr) (s : Nat) (k0 : Int) : Held w A 0 s k0 := fun h => absurd h (by omega)
/-- On the way: k rows are laid. -/
def HeldTo (w : World) (g n s k : Nat) (k0 : Int) : Prop := IntsOwn w g (n * s) ∧ ∀ i, i < k → ∀ j, j < s → w.cell? ⟨g, i * s + j, none⟩ = some (.int .i64 (incr (k0 + (s : Int) * (i : Int)) j))
theorem HeldTo.step {w : World} {g n s k : Nat} {k0 : Int} (h : HeldTo w g n s k k0) (hk : k < n) : HeldTo (Go.Proofs.Ytipjcjjjkkaigaa.putN w g (k * s) (k0 + (s : Int) * (k : Int)) s) g n s (k + 1) k0 := by
  have le1 : (k + 1) * s ≤ n * s := Nat.mul_le_mul_right s (by omega)
  have e1 : (k + 1) * s = k * s + s := by rw [Nat.add_mul, Nat.one_mul]
  refine ⟨h.1.put, fun i hi j hj => ?_⟩
  by_cases hik : i = k
  · subst hik
    exact putN_at w g (i * s) _ s (fun j hj => by
      obtain ⟨⟨z, hz⟩, _⟩ := h.1.2 (i * s + j) (by omega)
      exact ⟨_, hz⟩) j hj
  · have le2 : (i + 1) * s ≤ k * s := Nat.mul_le_mul_right s (by omega)
    have e2 : (i + 1) * s = i * s + s := by rw [Nat.add_mul, Nat.one_mul]
    exact (putN_other w g (k * s) _ g (i * s + j) s (by omega)).trans (h.2 i (by omega) j hj)
theorem HeldTo.held {w : World} {g n s : Nat} {k0 : Int} (h : HeldTo w g n s n k0) : Held w (some ⟨g, 0, none⟩) n s k0 := fun _ => ⟨g, 0, rfl, h.1.1, fun i hi j hj => by rw [Nat.zero_add]; exact h.2 i hi j hj⟩
end Go.Proofs.Ytipjcjjjkkaigaa

namespace Go.Proofs.Ytipjcjjjkkaigaa
set_option maxRecDepth 100000
open Go.RowKit
set_option maxHeartbeats 4000000 in
theorem markE_any (g n c : Nat) (k0 : Int) (w : World) (hn : n ≤ 1048576) (h0 : 0 ≤ k0) (h1 : k0 ≤ 1000000000000) (hP : IntsOwn w g (n * 6)) :
    Calls Try.prog 52 #[.slice (some ⟨g, 0, none⟩) n c, .int .i64 k0] w fun x w' => x = .returned (.int .i64 (k0 + 6 * (n : Int))) ∧ Held w' (some ⟨g, 0, none⟩) n 6 k0 ∧ Mv g w w' := by
  have HP := Lib.hid (show HeldTo w g n 6 0 k0 from ⟨hP, fun i hi => absurd hi (by omega)⟩)
  clear hP
  go_enter Try.func52, Try.ntmps52
  go_wp2
  go_loopw [1, 5] (fun m i wr => (∃ k : Nat, k ≤ n ∧ i = .int .i64 k ∧ m = .int .i64 (k0 + 6 * (k : Int)) ∧ HeldTo wr g n 6 k k0) ∧ Mv g w wr) (fun _ i _ => n - (intOf i).toNat)
  case atStart => exact ⟨⟨0, by omega, rfl, by first | rfl | simp, HP.out⟩, Mv.refl _ _⟩
  case round =>
    obtain ⟨⟨k, hk, rfl, rfl, hp⟩, mv⟩ := hrel
    have PP := Lib.hid hp
    have MV := Lib.hid mv
    have hg := hp.1.1
    clear hp mv
    by_cases hlt : k < n
    · have le1 : k * 6 + 6 ≤ n * 6 := by omega
      obtain ⟨⟨v0, s0⟩, f0⟩ := PP.out.1.2 (k * 6) (by omega); obtain ⟨⟨v1, s1⟩, f1⟩ := PP.out.1.2 (k * 6 + 1) (by omega); obtain ⟨⟨v2, s2⟩, f2⟩ := PP.out.1.2 (k * 6 + 2) (by omega); obtain ⟨⟨v3, s3⟩, f3⟩ := PP.out.1.2 (k * 6 + 3) (by omega); obtain ⟨⟨v4, s4⟩, f4⟩ := PP.out.1.2 (k * 6 + 4) (by omega); obtain ⟨⟨v5, s5⟩, f5⟩ := PP.out.1.2 (k * 6 + 5) (by omega)
      have NX := Lib.hid (PP.out.step hlt)
      have MX := Lib.hid (MV.out.putN (k * 6) (k0 + 6 * (k : Int)) 6)
      have cs : ((6 : Nat) : Int) = 6 := rfl
      rw [cs] at NX; simp only [putN, incr, Nat.add_zero] at NX MX
      generalize hK : k0 + 6 * (k : Int) = K at NX MX ⊢
      have HK := Lib.hid hK
      have b0 : 0 ≤ K := by omega
      have b1 : K ≤ 1000007400000 := by omega
      have i4 : (k : Int) < n := by omega
      clear hK le1 cs; go_wp2
      go_roundw
      case rel => exact ⟨⟨k + 1, by omega, by go_num, by have := HK.out; first | (congr 1; omega) | go_num, NX.out⟩, MX.out⟩
      case measure => simp [intOf]; omega
    · obtain rfl : k = n := by omega
      have i4 : ¬ (k : Int) < k := by omega
      go_wp2; go_ret
      exact ⟨rfl, PP.out.held, MV.out⟩
theorem markE_no (A : Option Addr) (c : Nat) (k0 : Int) (w : World) : Calls Try.prog 52 #[.slice A 0 c, .int .i64 k0] w fun x w' => x = .returned (.int .i64 k0) ∧ Up w w' := by
  go_enter Try.func52, Try.ntmps52
  go_wp2
  go_loopw [1, 5] (fun m i wr => m = .int .i64 k0 ∧ i = .int .i64 0 ∧ Up w wr) (fun _ _ _ => 0)
  case atStart => exact ⟨rfl, rfl, Up.refl _⟩
  case round =>
    obtain ⟨rfl, rfl, u⟩ := hrel; go_wp2; go_ret
    exact ⟨rfl, u⟩
theorem markR_no (A : Option Addr) (c : Nat) (k0 : Int) (w : World) : Calls Try.prog 115 #[.slice A 0 c, .int .i64 k0] w fun x w' => x = .returned (.int .i64 k0) ∧ Up w w' := by
  go_enter Try.func115, Try.ntmps115
  go_wp2
  go_loopw [1, 5] (fun m i wr => m = .int .i64 k0 ∧ i = .int .i64 0 ∧ Up w wr) (fun _ _ _ => 0)
  case atStart => exact ⟨rfl, rfl, Up.refl _⟩
  case round =>
    obtain ⟨rfl, rfl, u⟩ := hrel; go_wp2; go_ret
    exact ⟨rfl, u⟩
set_option maxHeartbeats 4000000 in
theorem heldE_any (A : Option Addr) (n c : Nat) (k0 : Int) (w : World) (hn : n ≤ 1048576) (h0 : 0 ≤ k0) (h1 : k0 ≤ 1000000000000) (hE : Held w A n 6 k0) :
    Calls Try.prog 116 #[.slice A n c, .int .i64 k0] w fun x w' => x = .returned (.int .i64 (k0 + 6 * (n : Int))) ∧ Up w w' := by
  have HE := Lib.hid hE
  clear hE
  go_enter Try.func116, Try.ntmps116
  go_wp2
  go_loopw [1, 5] (fun m i wr => (∃ k : Nat, k ≤ n ∧ i = .int .i64 k ∧ m = .int .i64 (k0 + 6 * (k : Int))) ∧ Up w wr) (fun _ i _ => n - (intOf i).toNat)
  case atStart => exact ⟨⟨0, by omega, rfl, by first | rfl | simp⟩, Up.refl _⟩
  case round =>
    obtain ⟨⟨k, hk, rfl, rfl⟩, ur⟩ := hrel
    by_cases hlt : k < n
    · obtain ⟨b, off, hA, hb, hc⟩ := HE.out (by omega)
      subst hA
      have c0 := (ur.cells _ _ hb).trans (hc k hlt 0 (by omega))
      have c1 := (ur.cells _ _ hb).trans (hc k hlt 1 (by omega))
      have c2 := (ur.cells _ _ hb).trans (hc k hlt 2 (by omega))
      have c3 := (ur.cells _ _ hb).trans (hc k hlt 3 (by omega))
      have c4 := (ur.cells _ _ hb).trans (hc k hlt 4 (by omega))
      have c5 := (ur.cells _ _ hb).trans (hc k hlt 5 (by omega))
      have hb' : b < wr.heap.size := by have := ur.size; omega
      have cs : ((6 : Nat) : Int) = 6 := rfl
      rw [cs] at c0 c1 c2 c3 c4 c5; simp only [incr, Nat.add_zero] at c0 c1 c2 c3 c4 c5; clear hc
      generalize hK : k0 + 6 * (k : Int) = K at c0 c1 c2 c3 c4 c5 ⊢
      have HK := Lib.hid hK
      have b0 : 0 ≤ K := by omega
      have b1 : K ≤ 1000007400000 := by omega
      have i4 : (k : Int) < n := by omega
      clear hK cs; go_wp2
      go_roundw
      case rel => exact ⟨⟨k + 1, by omega, by go_num, by have := HK.out; first | (congr 1; omega) | go_num⟩, ur⟩
      case measure => simp [intOf]; omega
    · obtain rfl : k = n := by omega
      have i4 : ¬ (k : Int) < k := by omega
      go_wp2; go_ret
      exact ⟨rfl, ur⟩
set_option maxHeartbeats 4000000 in
theorem heldR_any (A : Option Addr) (n c : Nat) (k0 : Int) (w : World) (hn : n ≤ 1048576) (h0 : 0 ≤ k0) (h1 : k0 ≤ 1000000000000) (hE : Held w A n 7 k0) :
    Calls Try.prog 118 #[.slice A n c, .int .i64 k0] w fun x w' => x = .returned (.int .i64 (k0 + 7 * (n : Int))) ∧ Up w w' := by
  have HE := Lib.hid hE
  clear hE
  go_enter Try.func118, Try.ntmps118
  go_wp2
  go_loopw [1, 5] (fun m i wr => (∃ k : Nat, k ≤ n ∧ i = .int .i64 k ∧ m = .int .i64 (k0 + 7 * (k : Int))) ∧ Up w wr) (fun _ i _ => n - (intOf i).toNat)
  case atStart => exact ⟨⟨0, by omega, rfl, by first | rfl | simp⟩, Up.refl _⟩
  case round =>
    obtain ⟨⟨k, hk, rfl, rfl⟩, ur⟩ := hrel
    by_cases hlt : k < n
    · obtain ⟨b, off, hA, hb, hc⟩ := HE.out (by omega)
      subst hA
      have c0 := (ur.cells _ _ hb).trans (hc k hlt 0 (by omega))
      have c1 := (ur.cells _ _ hb).trans (hc k hlt 1 (by omega))
      have c2 := (ur.cells _ _ hb).trans (hc k hlt 2 (by omega))
      have c3 := (ur.cells _ _ hb).trans (hc k hlt 3 (by omega))
      have c4 := (ur.cells _ _ hb).trans (hc k hlt 4 (by omega))
      have c5 := (ur.cells _ _ hb).trans (hc k hlt 5 (by omega))
      have c6 := (ur.cells _ _ hb).trans (hc k hlt 6 (by omega))
      have hb' : b < wr.heap.size := by have := ur.size; omega
      have cs : ((7 : Nat) : Int) = 7 := rfl
      rw [cs] at c0 c1 c2 c3 c4 c5 c6; simp only [incr, Nat.add_zero] at c0 c1 c2 c3 c4 c5 c6; clear hc
      generalize hK : k0 + 7 * (k : Int) = K at c0 c1 c2 c3 c4 c5 c6 ⊢
      have HK := Lib.hid hK
      have b0 : 0 ≤ K := by omega
      have b1 : K ≤ 1000007400000 := by omega
      have i4 : (k : Int) < n := by omega
      clear hK cs; go_wp2
      go_roundw
      case rel => exact ⟨⟨k + 1, by omega, by go_num, by have := HK.out; first | (congr 1; omega) | go_num⟩, ur⟩
      case measure => simp [intOf]; omega
    · obtain rfl : k = n := by omega
      have i4 : ¬ (k : Int) < k := by omega
      go_wp2; go_ret
      exact ⟨rfl, ur⟩
end Go.Proofs.Ytipjcjjjkkaigaa

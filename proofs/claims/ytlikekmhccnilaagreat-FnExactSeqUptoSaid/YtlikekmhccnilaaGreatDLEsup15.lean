/-
  Slices of structs of numbers, by their width, in one sentence: rows of cells, what marks lay there, what is kept; no condition is made.
  What marks do to component states, events and records, in one sentence: they are laid one behind the other, and held; for every slice of the call's own.
-/
import Derived.Test.YtlikekmhccnilaaGreatDLEsup01
import Derived.Test.YtlikekmhccnilaaGreatDLEsup09
namespace Go.Proofs.YtlikekmhccnilaaGreat
set_option maxRecDepth 100000
open Go.RowKit
/-- One more, so many times. -/
def incr (K : Int) : Nat → Int
  | 0 => K
  | j + 1 => incr K j + 1
theorem incr_eq (K : Int) : ∀ j : Nat, incr K j = K + j
  | 0 => by simp [incr]
  | j + 1 => by rw [incr, incr_eq K j]; omega
/-- The world with numbers laid one behind the other. -/
def putN (w : World) (g o : Nat) (K : Int) : Nat → World
  | 0 => w
  | j + 1 => (putN w g o K j).setCell ⟨g, o + j, none⟩ (.int .i64 (incr K j))
theorem putN_other (w : World) (g o : Nat) (K : Int) (b p : Nat) : ∀ s : Nat, (b ≠ g ∨ p < o ∨ o + s ≤ p) → (putN w g o K s).cell? ⟨b, p, none⟩ = w.cell? ⟨b, p, none⟩
  | 0, _ => rfl
  | s + 1, h => by rw [putN, World.cell?_setCell_other _ _ _ _ (addr_ne (by omega)), putN_other w g o K b p s (by omega)]
theorem putN_frozen (w : World) (g o : Nat) (K : Int) (a : Addr) : ∀ s : Nat, (putN w g o K s).frozen? a = w.frozen? a
  | 0 => rfl
  | s + 1 => by
    have := putN_frozen w g o K a s
    simpa [putN, go_sem] using this
theorem putN_size (w : World) (g o : Nat) (K : Int) : ∀ s : Nat, (putN w g o K s).heap.size = w.heap.size
  | 0 => rfl
  | s + 1 => by
    have := putN_size w g o K s
    simpa [putN] using this
theorem putN_at (w : World) (g o : Nat) (K : Int) : ∀ s : Nat, (∀ j, j < s → ∃ v, w.cell? ⟨g, o + j, none⟩ = some v) → ∀ j, j < s → (putN w g o K s).cell? ⟨g, o + j, none⟩ = some (.int .i64 (incr K j))
  | 0, _, j, hj => absurd hj (by omega)
  | s + 1, h, j, hj => by
    rw [putN]
    by_cases e : j = s
    · subst e
      obtain ⟨v, hv⟩ := h j (by omega)
      exact World.cell?_setCell_same _ _ _ ((putN_other w g o K g (o + j) j (by omega)).trans hv)
    · rw [World.cell?_setCell_other _ _ _ _ (addr_ne (by omega))]
      exact putN_at w g o K s (fun i hi => h i (by omega)) j (by omega)
theorem Mv.putN {g : Nat} {a w : World} (h : Mv g a w) (o : Nat) (K : Int) : ∀ s : Nat, Mv g a (Go.Proofs.YtlikekmhccnilaaGreat.putN w g o K s)
  | 0 => h
  | s + 1 => (Mv.putN h o K s).setCell _
/-- A block of the call's own of so many numbers. -/
def IntsOwn (w : World) (g N : Nat) : Prop := g < w.heap.size ∧ ∀ j, j < N → IntC w g j
theorem IntsOwn.up {w w' : World} {g N : Nat} (h : IntsOwn w g N) (u : Up w w') : IntsOwn w' g N :=
  ⟨Nat.lt_of_lt_of_le h.1 u.size, fun j hj => by
    obtain ⟨⟨z, hz⟩, hf⟩ := h.2 j hj
    exact ⟨⟨z, (u.cells _ _ h.1).trans hz⟩, (u.frozens _ _ h.1).trans hf⟩⟩
theorem IntsOwn.put {w : World} {g N o s : Nat} {K : Int} (h : IntsOwn w g N) : IntsOwn (Go.Proofs.YtlikekmhccnilaaGreat.putN w g o K s) g N := by
  refine ⟨by rw [putN_size]; exact h.1, fun j hj => ?_⟩; obtain ⟨⟨z, hz⟩, hf⟩ := h.2 j hj; refine ⟨?_, (putN_frozen _ _ _ _ _ _).trans hf⟩
  induction s with
  | zero => exact ⟨z, hz⟩
  | succ s ih =>
    obtain ⟨z', hz'⟩ := ih; rw [putN]
    by_cases e : o + s = j
    · subst e
      exact ⟨_, World.cell?_setCell_same _ _ _ hz'⟩
    · exact ⟨z', (World.cell?_setCell_other _ _ _ _ (addr_ne (by omega))).trans hz'⟩
/-- The marks lie there: row i begins with k0 + s i. -/
def Held (w : World) (A : Option Addr) (n s : Nat) (k0 : Int) : Prop :=
  0 < n → ∃ b off, A = some ⟨b, off, none⟩ ∧ b < w.heap.size ∧ ∀ i, i < n → ∀ j, j < s → w.cell? ⟨b, off + i * s + j, none⟩ = some (.int .i64 (incr (k0 + (s : Int) * (i : Int)) j))
theorem Held.up {w w' : World} {A : Option Addr} {n s : Nat} {k0 : Int} (h : Held w A n s k0) (u : Up w w') : Held w' A n s k0 := fun hn => by
  obtain ⟨b, off, hA, hb, hc⟩ := h hn
  exact ⟨b, off, hA, Nat.lt_of_lt_of_le hb u.size, fun i hi j hj => (u.cells _ _ hb).trans (hc i hi j hj)⟩
theorem Held.none_ (w : World) (A : Option Addr) (s : Nat) (k0 : Int) : Held w A 0 s k0 := fun h => absurd h (by omega)
/-- On the way: k rows are laid. -/
def HeldTo (w : World) (g n s k : Nat) (k0 : Int) : Prop := IntsOwn w g (n * s) ∧ ∀ i, i < k → ∀ j, j < s → w.cell? ⟨g, i * s + j, none⟩ = some (.int .i64 (incr (k0 + (s : Int) * (i : Int)) j))
theorem HeldTo.step {w : World} {g n s k : Nat} {k0 : Int} (h : HeldTo w g n s k k0) (hk : k < n) : HeldTo (Go.Proofs.YtlikekmhccnilaaGreat.putN w g (k * s) (k0 + (s : Int) * (k : Int)) s) g n s (k + 1) k0 := by
  have le1 : (k + 1) * s ≤ n * s := Nat.mul_le_mul_right s (by omega)
  have e1 : (k + 1) * s = k * s + s := by rw [Nat.add_mul, Nat.one_mul]
  refine ⟨h.1.put, fun i hi j hj => ?_⟩
  by_cases hik : i = k
  · subst hik
    exact putN_at w g (i * s) _ s (fun j hj => by
      obtain ⟨⟨z, hz⟩, _⟩ := h.1.2 (i * s + j) (by omega)
      exact ⟨_, hz⟩) j hj
  · have le2 : (i + 1) * s ≤ k * s := Nat.mul_le_mul_right s (by omega)
    have e2 : (i + 1) * s = i * s + s := by rw [Nat.add_mul, Nat.one_mul]
    exact (putN_other w g (k * s) _ g (i * s + j) s (by omega)).trans (h.2 i (by omega) j hj)
theorem HeldTo.held {w : World} {g n s : Nat} {k0 : Int} (h : HeldTo w g n s n k0) : Held w (some ⟨g, 0, none⟩) n s k0 := fun _ => ⟨g, 0, rfl, h.1.1, fun i hi j hj => by rw [Nat.zero_add]; exact h.2 i hi j hj⟩
end Go.Proofs.YtlikekmhccnilaaGreat

namespace Go.Proofs.YtlikekmhccnilaaGreat
set_option maxRecDepth 100000
open Go.RowKit
set_option maxHeartbeats 4000000 in
theorem markC_any (g n c : Nat) (k0 : Int) (w : World) (hn : n ≤ 1048576) (h0 : 0 ≤ k0) (h1 : k0 ≤ 1000000000000) (hP : IntsOwn w g (n * 3)) :
    Calls Tryz.prog 70 #[.slice (some ⟨g, 0, none⟩) n c, .int .i64 k0] w fun x w' => x = .returned (.int .i64 (k0 + 3 * (n : Int))) ∧ Held w' (some ⟨g, 0, none⟩) n 3 k0 ∧ Mv g w w' := by
  have HP := Lib.hid (show HeldTo w g n 3 0 k0 from ⟨hP, fun i hi => absurd hi (by omega)⟩)
  clear hP
  go_enter Tryz.func70, Tryz.ntmps70
  go_wp2
  go_loopw [1, 5] (fun m i wr => (∃ k : Nat, k ≤ n ∧ i = .int .i64 k ∧ m = .int .i64 (k0 + 3 * (k : Int)) ∧ HeldTo wr g n 3 k k0) ∧ Mv g w wr) (fun _ i _ => n - (intOf i).toNat)
  case atStart => exact ⟨⟨0, by omega, rfl, by first | rfl | simp, HP.out⟩, Mv.refl _ _⟩
  case round =>
    obtain ⟨⟨k, hk, rfl, rfl, hp⟩, mv⟩ := hrel
    have PP := Lib.hid hp
    have MV := Lib.hid mv
    have hg := hp.1.1
    clear hp mv
    by_cases hlt : k < n
    · have le1 : k * 3 + 3 ≤ n * 3 := by omega
      obtain ⟨⟨v0, s0⟩, f0⟩ := PP.out.1.2 (k * 3) (by omega); obtain ⟨⟨v1, s1⟩, f1⟩ := PP.out.1.2 (k * 3 + 1) (by omega); obtain ⟨⟨v2, s2⟩, f2⟩ := PP.out.1.2 (k * 3 + 2) (by omega)
      have NX := Lib.hid (PP.out.step hlt)
      have MX := Lib.hid (MV.out.putN (k * 3) (k0 + 3 * (k : Int)) 3)
      have cs : ((3 : Nat) : Int) = 3 := rfl
      rw [cs] at NX; simp only [putN, incr, Nat.add_zero] at NX MX
      generalize hK : k0 + 3 * (k : Int) = K at NX MX ⊢
      have HK := Lib.hid hK
      have b0 : 0 ≤ K := by omega
      have b1 : K ≤ 1000007400000 := by omega
      have i4 : (k : Int) < n := by omega
      clear hK le1 cs; go_wp2
      go_roundw
      case rel => exact ⟨⟨k + 1, by omega, by go_num, by have := HK.out; first | (congr 1; omega) | go_num, NX.out⟩, MX.out⟩
      case measure => simp [intOf]; omega
    · obtain rfl : k = n := by omega
      have i4 : ¬ (k : Int) < k := by omega
      go_wp2; go_ret
      exact ⟨rfl, PP.out.held, MV.out⟩
set_option maxHeartbeats 4000000 in
theorem markE_any (g n c : Nat) (k0 : Int) (w : World) (hn : n ≤ 1048576) (h0 : 0 ≤ k0) (h1 : k0 ≤ 1000000000000) (hP : IntsOwn w g (n * 6)) :
    Calls Tryz.prog 69 #[.slice (some ⟨g, 0, none⟩) n c, .int .i64 k0] w fun x w' => x = .returned (.int .i64 (k0 + 6 * (n : Int))) ∧ Held w' (some ⟨g, 0, none⟩) n 6 k0 ∧ Mv g w w' := by
  have HP := Lib.hid (show HeldTo w g n 6 0 k0 from ⟨hP, fun i hi => absurd hi (by omega)⟩)
  clear hP
  go_enter Tryz.func69, Tryz.ntmps69
  go_wp2
  go_loopw [1, 5] (fun m i wr => (∃ k : Nat, k ≤ n ∧ i = .int .i64 k ∧ m = .int .i64 (k0 + 6 * (k : Int)) ∧ HeldTo wr g n 6 k k0) ∧ Mv g w wr) (fun _ i _ => n - (intOf i).toNat)
  case atStart => exact ⟨⟨0, by omega, rfl, by first | rfl | simp, HP.out⟩, Mv.refl _ _⟩
  case round =>
    obtain ⟨⟨k, hk, rfl, rfl, hp⟩, mv⟩ := hrel
    have PP := Lib.hid hp
    have MV := Lib.hid mv
    have hg := hp.1.1
    clear hp mv
    by_cases hlt : k < n
    · have le1 : k * 6 + 6 ≤ n * 6 := by omega
      obtain ⟨⟨v0, s0⟩, f0⟩ := PP.out.1.2 (k * 6) (by omega); obtain ⟨⟨v1, s1⟩, f1⟩ := PP.out.1.2 (k * 6 + 1) (by omega); obtain ⟨⟨v2, s2⟩, f2⟩ := PP.out.1.2 (k * 6 + 2) (by omega); obtain ⟨⟨v3, s3⟩, f3⟩ := PP.out.1.2 (k * 6 + 3) (by omega); obtain ⟨⟨v4, s4⟩, f4⟩ := PP.out.1.2 (k * 6 + 4) (by omega); obtain ⟨⟨v5, s5⟩, f5⟩ := PP.out.1.2 (k * 6 + 5) (by omega)
      have NX := Lib.hid (PP.out.step hlt)
      have MX := Lib.hid (MV.out.putN (k * 6) (k0 + 6 * (k : Int)) 6)
      have cs : ((6 : Nat) : Int) = 6 := rfl
      rw [cs] at NX; simp only [putN, incr, Nat.add_zero] at NX MX
      generalize hK : k0 + 6 * (k : Int) = K at NX MX ⊢
      have HK := Lib.hid hK
      have b0 : 0 ≤ K := by omega
      have b1 : K ≤ 1000007400000 := by omega
      have i4 : (k : Int) < n := by omega
      clear hK le1 cs; go_wp2
      go_roundw
      case rel => exact ⟨⟨k + 1, by omega, by go_num, by have := HK.out; first | (congr 1; omega) | go_num, NX.out⟩, MX.out⟩
      case measure => simp [intOf]; omega
    · obtain rfl : k = n := by omega
      have i4 : ¬ (k : Int) < k := by omega
      go_wp2; go_ret
      exact ⟨rfl, PP.out.held, MV.out⟩
set_option maxHeartbeats 4000000 in
theorem markR_any (g n c : Nat) (k0 : Int) (w : World) (hn : n ≤ 1048576) (h0 : 0 ≤ k0) (h1 : k0 ≤ 1000000000000) (hP : IntsOwn w g (n * 7)) :
    Calls Tryz.prog 27 #[.slice (some ⟨g, 0, none⟩) n c, .int .i64 k0] w fun x w' => x = .returned (.int .i64 (k0 + 7 * (n : Int))) ∧ Held w' (some ⟨g, 0, none⟩) n 7 k0 ∧ Mv g w w' := by
  have HP := Lib.hid (show HeldTo w g n 7 0 k0 from ⟨hP, fun i hi => absurd hi (by omega)⟩)
  clear hP
  go_enter Tryz.func27, Tryz.ntmps27
  go_wp2
  go_loopw [1, 5] (fun m i wr => (∃ k : Nat, k ≤ n ∧ i = .int .i64 k ∧ m = .int .i64 (k0 + 7 * (k : Int)) ∧ HeldTo wr g n 7 k k0) ∧ Mv g w wr) (fun _ i _ => n - (intOf i).toNat)
  case atStart => exact ⟨⟨0, by omega, rfl, by first | rfl | simp, HP.out⟩, Mv.refl _ _⟩
  case round =>
    obtain ⟨⟨k, hk, rfl, rfl, hp⟩, mv⟩ := hrel
    have PP := Lib.hid hp
    have MV := Lib.hid mv
    have hg := hp.1.1
    clear hp mv
    by_cases hlt : k < n
    · have le1 : k * 7 + 7 ≤ n * 7 := by omega
      obtain ⟨⟨v0, s0⟩, f0⟩ := PP.out.1.2 (k * 7) (by omega); obtain ⟨⟨v1, s1⟩, f1⟩ := PP.out.1.2 (k * 7 + 1) (by omega); obtain ⟨⟨v2, s2⟩, f2⟩ := PP.out.1.2 (k * 7 + 2) (by omega); obtain ⟨⟨v3, s3⟩, f3⟩ := PP.out.1.2 (k * 7 + 3) (by omega); obtain ⟨⟨v4, s4⟩, f4⟩ := PP.out.1.2 (k * 7 + 4) (by omega); obtain ⟨⟨v5, s5⟩, f5⟩ := PP.out.1.2 (k * 7 + 5) (by omega); obtain ⟨⟨v6, s6⟩, f6⟩ := PP.out.1.2 (k * 7 + 6) (by omega)
      have NX := Lib.hid (PP.out.step hlt)
      have MX := Lib.hid (MV.out.putN (k * 7) (k0 + 7 * (k : Int)) 7)
      have cs : ((7 : Nat) : Int) = 7 := rfl
      rw [cs] at NX; simp only [putN, incr, Nat.add_zero] at NX MX
      generalize hK : k0 + 7 * (k : Int) = K at NX MX ⊢
      have HK := Lib.hid hK
      have b0 : 0 ≤ K := by omega
      have b1 : K ≤ 1000007400000 := by omega
      have i4 : (k : Int) < n := by omega
      clear hK le1 cs; go_wp2
      go_roundw
      case rel => exact ⟨⟨k + 1, by omega, by go_num, by have := HK.out; first | (congr 1; omega) | go_num, NX.out⟩, MX.out⟩
      case measure => simp [intOf]; omega
    · obtain rfl : k = n := by omega
      have i4 : ¬ (k : Int) < k := by omega
      go_wp2; go_ret
      exact ⟨rfl, PP.out.held, MV.out⟩
theorem markR_no (A : Option Addr) (c : Nat) (k0 : Int) (w : World) : Calls Tryz.prog 27 #[.slice A 0 c, .int .i64 k0] w fun x w' => x = .returned (.int .i64 k0) ∧ Up w w' := by
  go_enter Tryz.func27, Tryz.ntmps27
  go_wp2
  go_loopw [1, 5] (fun m i wr => m = .int .i64 k0 ∧ i = .int .i64 0 ∧ Up w wr) (fun _ _ _ => 0)
  case atStart => exact ⟨rfl, rfl, Up.refl _⟩
  case round =>
    obtain ⟨rfl, rfl, u⟩ := hrel; go_wp2; go_ret
    exact ⟨rfl, u⟩
set_option maxHeartbeats 4000000 in
theorem heldC_any (A : Option Addr) (n c : Nat) (k0 : Int) (w : World) (hn : n ≤ 1048576) (h0 : 0 ≤ k0) (h1 : k0 ≤ 1000000000000) (hE : Held w A n 3 k0) :
    Calls Tryz.prog 71 #[.slice A n c, .int .i64 k0] w fun x w' => x = .returned (.int .i64 (k0 + 3 * (n : Int))) ∧ Up w w' := by
  have HE := Lib.hid hE
  clear hE
  go_enter Tryz.func71, Tryz.ntmps71
  go_wp2
  go_loopw [1, 5] (fun m i wr => (∃ k : Nat, k ≤ n ∧ i = .int .i64 k ∧ m = .int .i64 (k0 + 3 * (k : Int))) ∧ Up w wr) (fun _ i _ => n - (intOf i).toNat)
  case atStart => exact ⟨⟨0, by omega, rfl, by first | rfl | simp⟩, Up.refl _⟩
  case round =>
    obtain ⟨⟨k, hk, rfl, rfl⟩, ur⟩ := hrel
    by_cases hlt : k < n
    · obtain ⟨b, off, hA, hb, hc⟩ := HE.out (by omega)
      subst hA
      have c0 := (ur.cells _ _ hb).trans (hc k hlt 0 (by omega))
      have c1 := (ur.cells _ _ hb).trans (hc k hlt 1 (by omega))
      have c2 := (ur.cells _ _ hb).trans (hc k hlt 2 (by omega))
      have hb' : b < wr.heap.size := by have := ur.size; omega
      have cs : ((3 : Nat) : Int) = 3 := rfl
      rw [cs] at c0 c1 c2; simp only [incr, Nat.add_zero] at c0 c1 c2; clear hc
      generalize hK : k0 + 3 * (k : Int) = K at c0 c1 c2 ⊢
      have HK := Lib.hid hK
      have b0 : 0 ≤ K := by omega
      have b1 : K ≤ 1000007400000 := by omega
      have i4 : (k : Int) < n := by omega
      clear hK cs; go_wp2
      go_roundw
      case rel => exact ⟨⟨k + 1, by omega, by go_num, by have := HK.out; first | (congr 1; omega) | go_num⟩, ur⟩
      case measure => simp [intOf]; omega
    · obtain rfl : k = n := by omega
      have i4 : ¬ (k : Int) < k := by omega
      go_wp2; go_ret
      exact ⟨rfl, ur⟩
set_option maxHeartbeats 4000000 in
theorem heldE_any (A : Option Addr) (n c : Nat) (k0 : Int) (w : World) (hn : n ≤ 1048576) (h0 : 0 ≤ k0) (h1 : k0 ≤ 1000000000000) (hE : Held w A n 6 k0) :
    Calls Tryz.prog 72 #[.slice A n c, .int .i64 k0] w fun x w' => x = .returned (.int .i64 (k0 + 6 * (n : Int))) ∧ Up w w' := by
  have HE := Lib.hid hE
  clear hE
  go_enter Tryz.func72, Tryz.ntmps72
  go_wp2
  go_loopw [1, 5] (fun m i wr => (∃ k : Nat, k ≤ n ∧ i = .int .i64 k ∧ m = .int .i64 (k0 + 6 * (k : Int))) ∧ Up w wr) (fun _ i _ => n - (intOf i).toNat)
  case atStart => exact ⟨⟨0, by omega, rfl, by first | rfl | simp⟩, Up.refl _⟩
  case round =>
    obtain ⟨⟨k, hk, rfl, rfl⟩, ur⟩ := hrel
    by_cases hlt : k < n
    · obtain ⟨b, off, hA, hb, hc⟩ := HE.out (by omega)
      subst hA
      have c0 := (ur.cells _ _ hb).trans (hc k hlt 0 (by omega))
      have c1 := (ur.cells _ _ hb).trans (hc k hlt 1 (by omega))
      have c2 := (ur.cells _ _ hb).trans (hc k hlt 2 (by omega))
      have c3 := (ur.cells _ _ hb).trans (hc k hlt 3 (by omega))
      have c4 := (ur.cells _ _ hb).trans (hc k hlt 4 (by omega))
      have c5 := (ur.cells _ _ hb).trans (hc k hlt 5 (by omega))
      have hb' : b < wr.heap.size := by have := ur.size; omega
      have cs : ((6 : Nat) : Int) = 6 := rfl
      rw [cs] at c0 c1 c2 c3 c4 c5; simp only [incr, Nat.add_zero] at c0 c1 c2 c3 c4 c5; clear hc
      generalize hK : k0 + 6 * (k : Int) = K at c0 c1 c2 c3 c4 c5 ⊢
      have HK := Lib.hid hK
      have b0 : 0 ≤ K := by omega
      have b1 : K ≤ 1000007400000 := by omega
      have i4 : (k : Int) < n := by omega
      clear hK cs; go_wp2
      go_roundw
      case rel => exact ⟨⟨k + 1, by omega, by go_num, by have := HK.out; first | (congr 1; omega) | go_num⟩, ur⟩
      case measure => simp [intOf]; omega
    · obtain rfl : k = n := by omega
      have i4 : ¬ (k : Int) < k := by omega
      go_wp2; go_ret
      exact ⟨rfl, ur⟩
set_option maxHeartbeats 4000000 in
theorem heldR_any (A : Option Addr) (n c : Nat) (k0 : Int) (w : World) (hn : n ≤ 1048576) (h0 : 0 ≤ k0) (h1 : k0 ≤ 1000000000000) (hE : Held w A n 7 k0) :
    Calls Tryz.prog 28 #[.slice A n c, .int .i64 k0] w fun x w' => x = .returned (.int .i64 (k0 + 7 * (n : Int))) ∧ Up w w' := by
  have HE := Lib.hid hE
  clear hE
  go_enter Tryz.func28, Tryz.ntmps28
  go_wp2
  go_loopw [1, 5] (fun m i wr => (∃ k : Nat, k ≤ n ∧ i = .int .i64 k ∧ m = .int .i64 (k0 + 7 * (k : Int))) ∧ Up w wr) (fun _ i _ => n - (intOf i).toNat)
  case atStart => exact ⟨⟨0, by omega, rfl, by first | rfl | simp⟩, Up.refl _⟩
  case round =>
    obtain ⟨⟨k, hk, rfl, rfl⟩, ur⟩ := hrel
    by_cases hlt : k < n
    · obtain ⟨b, off, hA, hb, hc⟩ := HE.out (by omega)
      subst hA
      have c0 := (ur.cells _ _ hb).trans (hc k hlt 0 (by omega))
      have c1 := (ur.cells _ _ hb).trans (hc k hlt 1 (by omega))
      have c2 := (ur.cells _ _ hb).trans (hc k hlt 2 (by omega))
      have c3 := (ur.cells _ _ hb).trans (hc k hlt 3 (by omega))
      have c4 := (ur.cells _ _ hb).trans (hc k hlt 4 (by omega))
      have c5 := (ur.cells _ _ hb).trans (hc k hlt 5 (by omega))
      have c6 := (ur.cells _ _ hb).trans (hc k hlt 6 (by omega))
      have hb' : b < wr.heap.size := by have := ur.size; omega
      have cs : ((7 : Nat) : Int) = 7 := rfl
      rw [cs] at c0 c1 c2 c3 c4 c5 c6; simp only [incr, Nat.add_zero] at c0 c1 c2 c3 c4 c5 c6; clear hc
      generalize hK : k0 + 7 * (k : Int) = K at c0 c1 c2 c3 c4 c5 c6 ⊢
      have HK := Lib.hid hK
      have b0 : 0 ≤ K := by omega
      have b1 : K ≤ 1000007400000 := by omega
      have i4 : (k : Int) < n := by omega
      clear hK cs; go_wp2
      go_roundw
      case rel => exact ⟨⟨k + 1, by omega, by go_num, by have := HK.out; first | (congr 1; omega) | go_num⟩, ur⟩
      case measure => simp [intOf]; omega
    · obtain rfl : k = n := by omega
      have i4 : ¬ (k : Int) < k := by omega
      go_wp2; go_ret
      exact ⟨rfl, ur⟩
end Go.Proofs.YtlikekmhccnilaaGreat

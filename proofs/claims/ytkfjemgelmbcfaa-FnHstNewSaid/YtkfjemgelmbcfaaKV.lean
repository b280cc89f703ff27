/-
  What the laying of marks keeps, in one sentence: only cells that hold numbers are written, only in a stretch of blocks, and they hold numbers again; no condition is made.
  What markMdlModel returns, in one sentence: a number that is not negative, and only numbers in the model's own blocks are written; for every model of the call's own.
-/
import Derived.Test.YtkfjemgelmbcfaaKM
namespace Go.Proofs.Ytkfjemgelmbcfaa
set_option maxRecDepth 100000
open Go.RowKit

/-- w' is w with new blocks, and with numbers written over numbers in blocks lo to hi - 1. -/
structure Ints (lo hi : Nat) (w w' : World) : Prop where
  os : w'.os = w.os
  tape : w'.tape = w.tape
  output : w'.output = w.output
  size : w.heap.size ≤ w'.heap.size
  block : ∀ k, k < w.heap.size → (k < lo ∨ hi ≤ k) → w'.heap[k]? = w.heap[k]?
  cell : ∀ b j v, b < w.heap.size → w.cell? ⟨b, j, none⟩ = some v → ((∃ z, v = .int .i64 z) ∧ ∃ z, w'.cell? ⟨b, j, none⟩ = some (.int .i64 z)) ∨ w'.cell? ⟨b, j, none⟩ = some v
  frozen : ∀ b j, b < w.heap.size → w'.frozen? ⟨b, j, none⟩ = w.frozen? ⟨b, j, none⟩

section
variable {lo hi : Nat}
theorem Ints.refl (w : World) : Ints lo hi w w := ⟨rfl, rfl, rfl, Nat.le_refl _, fun _ _ _ => rfl, fun _ _ _ _ h => .inr h, fun _ _ _ => rfl⟩
theorem Ints.trans {a b c : World} (h : Ints lo hi a b) (k : Ints lo hi b c) : Ints lo hi a c :=
  ⟨k.os.trans h.os, k.tape.trans h.tape, k.output.trans h.output, Nat.le_trans h.size k.size, fun j hj hne => (k.block j (Nat.lt_of_lt_of_le hj h.size) hne).trans (h.block j hj hne),
    fun b j v hb hv => by
      have hb' := Nat.lt_of_lt_of_le hb h.size
      rcases h.cell b j v hb hv with ⟨⟨z, rfl⟩, z', hz⟩ | hv'
      · rcases k.cell b j _ hb' hz with ⟨_, h2⟩ | h2
        · exact .inl ⟨⟨z, rfl⟩, h2⟩
        · exact .inl ⟨⟨z, rfl⟩, z', h2⟩
      · exact k.cell b j v hb' hv',
    fun b j hb => (k.frozen b j (Nat.lt_of_lt_of_le hb h.size)).trans (h.frozen b j hb)⟩
theorem Up.ints {w w' : World} (u : Up w w') : Ints lo hi w w' :=
  ⟨u.below.os, u.below.tape, u.below.output, u.size, fun k hk _ => u.below.block k hk, fun b j _ hb hv => .inr ((u.cells b j hb).trans hv), fun b j hb => u.frozens b j hb⟩
theorem Ints.set {a w : World} (h : Ints lo hi a w) {b o : Nat} {z z' : Int} (hc : w.cell? ⟨b, o, none⟩ = some (.int .i64 z)) (hb : lo ≤ b) (hb' : b < hi) : Ints lo hi a (w.setCell ⟨b, o, none⟩ (.int .i64 z')) := by
  refine h.trans ⟨rfl, rfl, rfl, by simp, fun k _ hne => Below.heap_setCell w ⟨b, o, none⟩ _ k (by dsimp only; omega), fun b2 j v _ hv => ?_, fun b2 j _ => by simp [go_sem]⟩
  by_cases e : b = b2 ∧ o = j
  · obtain ⟨rfl, rfl⟩ := e
    rw [hc] at hv
    injection hv with hv
    exact .inl ⟨⟨z, hv.symm⟩, z', World.cell?_setCell_same _ _ _ hc⟩
  · exact .inr ((World.cell?_setCell_other _ _ _ _ (addr_ne (by omega))).trans hv)
/-- Blocks outside the stretch are left alone. -/
theorem Ints.cells {w w' : World} (h : Ints lo hi w w') : ∀ b o, b < w.heap.size → (b < lo ∨ hi ≤ b) → w'.cell? ⟨b, o, none⟩ = w.cell? ⟨b, o, none⟩ := fun b o hb hne => World.cell?_of_block (w := w) (a := ⟨b, o, none⟩) (h.block b hb hne)
theorem Ints.up {a w w' : World} (h : Ints lo hi w w') (k : Up a w) (hl : a.heap.size ≤ lo) : Up a w' :=
  ⟨h.os.trans k.below.os, h.tape.trans k.below.tape, h.output.trans k.below.output, Nat.le_trans k.size h.size, fun j hj => (h.block j (Nat.lt_of_lt_of_le hj k.size) (by omega)).trans (k.below.block j hj)⟩

/-- A cell that holds a number and may be written. -/
def IntC (w : World) (b o : Nat) : Prop := (∃ z, w.cell? ⟨b, o, none⟩ = some (.int .i64 z)) ∧ w.frozen? ⟨b, o, none⟩ = false
theorem IntC.ints {w w' : World} {b o : Nat} (h : IntC w b o) (k : Ints lo hi w w') (hb : b < w.heap.size) : IntC w' b o := by
  obtain ⟨⟨z, hz⟩, hf⟩ := h
  refine ⟨?_, (k.frozen b o hb).trans hf⟩
  rcases k.cell b o _ hb hz with ⟨_, h2⟩ | h2
  · exact h2
  · exact ⟨z, h2⟩
theorem Ints.slice {w w' : World} (k : Ints lo hi w w') {b o : Nat} {A : Option Addr} {n c : Nat} (hb : b < w.heap.size) (h : w.cell? ⟨b, o, none⟩ = some (.slice A n c)) : w'.cell? ⟨b, o, none⟩ = some (.slice A n c) := by
  rcases k.cell b o _ hb h with ⟨⟨z, hz⟩, _⟩ | h2
  · cases hz
  · exact h2

/-- Events, or sends, that may be marked. -/
def ShE (lo hi : Nat) (w : World) (A : Option Addr) (n : Nat) : Prop :=
  0 < n → ∃ b off, A = some ⟨b, off, none⟩ ∧ (lo ≤ b ∧ b < hi ∧ b < w.heap.size) ∧ ∀ i, i < n → ∀ j, j < 6 → IntC w b (off + i * 6 + j)
/-- Rules that may be marked. -/
def ShR (lo hi : Nat) (w : World) (A : Option Addr) (n : Nat) : Prop :=
  0 < n → ∃ b off, A = some ⟨b, off, none⟩ ∧ (lo ≤ b ∧ b < hi ∧ b < w.heap.size) ∧ ∀ i, i < n → (∀ j, j < 4 → IntC w b (off + i * 5 + j)) ∧ ∃ A' n' c', w.cell? ⟨b, off + i * 5 + 4, none⟩ = some (.slice A' n' c') ∧ n' ≤ 1048576 ∧ ShE lo hi w A' n'
def ShZ (lo hi : Nat) (w : World) (A : Option Addr) (n : Nat) : Prop :=
  0 < n → ∃ b off, A = some ⟨b, off, none⟩ ∧ b < w.heap.size ∧ ∀ i, i < n → ∃ A' n' c', w.cell? ⟨b, off + i, none⟩ = some (.slice A' n' c') ∧ n' ≤ 1048576 ∧ ShR lo hi w A' n'
theorem ShE.ints {w w' : World} {A : Option Addr} {n : Nat} (h : ShE lo hi w A n) (k : Ints lo hi w w') : ShE lo hi w' A n := fun hn => by
  obtain ⟨b, off, hA, ⟨h1, h2, h3⟩, hc⟩ := h hn
  exact ⟨b, off, hA, ⟨h1, h2, Nat.lt_of_lt_of_le h3 k.size⟩, fun i hi j hj => (hc i hi j hj).ints k h3⟩
theorem ShR.ints {w w' : World} {A : Option Addr} {n : Nat} (h : ShR lo hi w A n) (k : Ints lo hi w w') : ShR lo hi w' A n := fun hn => by
  obtain ⟨b, off, hA, ⟨h1, h2, h3⟩, hc⟩ := h hn
  refine ⟨b, off, hA, ⟨h1, h2, Nat.lt_of_lt_of_le h3 k.size⟩, fun i hi => ?_⟩
  obtain ⟨hj, A', n', c', hs, hn', he⟩ := hc i hi
  exact ⟨fun j hj' => (hj j hj').ints k h3, A', n', c', k.slice h3 hs, hn', he.ints k⟩
theorem ShZ.ints {w w' : World} {A : Option Addr} {n : Nat} (h : ShZ lo hi w A n) (k : Ints lo hi w w') : ShZ lo hi w' A n := fun hn => by
  obtain ⟨b, off, hA, h3, hc⟩ := h hn
  refine ⟨b, off, hA, Nat.lt_of_lt_of_le h3 k.size, fun i hi => ?_⟩
  obtain ⟨A', n', c', hs, hn', he⟩ := hc i hi
  exact ⟨A', n', c', k.slice h3 hs, hn', he.ints k⟩

/-- What was laid by to.. may be marked. -/
theorem Own.sh {w : World} {g n : Nat} {es : List Evt} (h : Own w g n es) (h1 : lo ≤ g) (h2 : w.heap.size ≤ hi) : ShE lo hi w (some ⟨g, 0, none⟩) n := fun _ =>
  ⟨g, 0, rfl, ⟨h1, by have := h.2.1; omega, h.2.1⟩, fun i hi' j hj => by
    obtain ⟨c0, c1, c2, c3, c4, c5⟩ := h.2.2.1 i hi'
    refine ⟨?_, h.2.2.2 _ (by omega)⟩
    rw [Nat.zero_add]
    have h6 : j = 0 ∨ j = 1 ∨ j = 2 ∨ j = 3 ∨ j = 4 ∨ j = 5 := by omega
    rcases h6 with rfl | rfl | rfl | rfl | rfl | rfl
    · exact ⟨_, c0⟩
    · exact ⟨_, c1⟩
    · exact ⟨_, c2⟩
    · exact ⟨_, c3⟩
    · exact ⟨_, c4⟩
    · exact ⟨_, c5⟩⟩
theorem RulesF.sh {w : World} {g n : Nat} {rs : List Rule} (h : RulesF w g n rs) (hs : Small rs) (h1 : lo ≤ g) (h2 : w.heap.size ≤ hi) : ShR lo hi w (some ⟨g, 0, none⟩) n := fun _ =>
  ⟨g, 0, rfl, ⟨h1, by have := h.lt; omega, h.lt⟩, fun i hi' => by
    obtain ⟨g', n', ⟨c0, c1, c2, c3, c4⟩, hg', _, ho⟩ := h.at_ i hi'
    have hsm := hs i (by rw [h.len]; exact hi')
    refine ⟨fun j hj => ⟨?_, h.free _ (by omega)⟩, some ⟨g', 0, none⟩, n', n', by rw [Nat.zero_add]; exact c4, by rw [← ho.1]; exact hsm, ho.sh (by omega) h2⟩
    rw [Nat.zero_add]
    have h4 : j = 0 ∨ j = 1 ∨ j = 2 ∨ j = 3 := by omega
    rcases h4 with rfl | rfl | rfl | rfl
    · exact ⟨_, c0⟩
    · exact ⟨_, c1⟩
    · exact ⟨_, c2⟩
    · exact ⟨_, c3⟩⟩
theorem RulzF.sh {w : World} {g n : Nat} {rss : List (List Rule)} (h : RulzF w g n rss) (hs : Shorts rss) (h1 : lo ≤ g) (h2 : w.heap.size ≤ hi) : ShZ lo hi w (some ⟨g, 0, none⟩) n := fun _ =>
  ⟨g, 0, rfl, h.lt, fun i hi' => by
    obtain ⟨g', n', c0, hg', hr⟩ := h.at_ i hi'
    obtain ⟨s1, s2⟩ := hs i (by rw [h.len]; exact hi')
    exact ⟨_, n', n', by rw [Nat.zero_add]; exact c0, by rw [← hr.len]; exact s1, hr.sh s2 (by omega) h2⟩⟩
end

end Go.Proofs.Ytkfjemgelmbcfaa

namespace Go.Proofs.Ytkfjemgelmbcfaa
set_option maxRecDepth 100000
open Go.RowKit

set_option maxHeartbeats 4000000 in
theorem markSnd_any (lo hi : Nat) (A : Option Addr) (n c : Nat) (k0 : Int) (w : World) (hn : n ≤ 1048576) (h0 : 0 ≤ k0) (h1 : k0 ≤ 9000000000000000000) (hP : ShE lo hi w A n) :
    Calls Try.prog 155 #[.slice A n c, .int .i64 k0] w fun x w' => x = .returned (.int .i64 (k0 + 6 * (n : Int))) ∧ Ints lo hi w w' := by
  have HP := Lib.hid hP
  clear hP
  go_enter Try.func155, Try.ntmps155
  go_wp2
  go_loopw [1, 5] (fun m i wr => (∃ k : Nat, k ≤ n ∧ i = .int .i64 k ∧ m = .int .i64 (k0 + 6 * (k : Int))) ∧ Ints lo hi w wr) (fun _ i _ => n - (intOf i).toNat)
  case atStart => exact ⟨⟨0, by omega, rfl, by first | rfl | simp⟩, Ints.refl _⟩
  case round =>
    obtain ⟨⟨k, hk, rfl, rfl⟩, mv⟩ := hrel
    have MV := Lib.hid mv
    clear mv
    by_cases hlt : k < n
    · obtain ⟨b, off, hA, ⟨hl1, hl2, hl3⟩, hc⟩ := (HP.out.ints MV.out) (by omega)
      subst hA
      obtain ⟨⟨v0, s0⟩, f0⟩ := hc k hlt 0 (by omega)
      obtain ⟨⟨v1, s1⟩, f1⟩ := hc k hlt 1 (by omega)
      obtain ⟨⟨v2, s2⟩, f2⟩ := hc k hlt 2 (by omega)
      obtain ⟨⟨v3, s3⟩, f3⟩ := hc k hlt 3 (by omega)
      obtain ⟨⟨v4, s4⟩, f4⟩ := hc k hlt 4 (by omega)
      obtain ⟨⟨v5, s5⟩, f5⟩ := hc k hlt 5 (by omega)
      rw [Nat.add_zero] at s0 f0
      clear hc
      generalize hK : k0 + 6 * (k : Int) = K
      generalize ho : off + k * 6 = o at s0 s1 s2 s3 s4 s5 f0 f1 f2 f3 f4 f5
      have HO := Lib.hid ho
      have HK := Lib.hid hK
      have ne : ∀ i j, i ≠ j → (⟨b, o + i, none⟩ : Addr) ≠ ⟨b, o + j, none⟩ := fun i j hij => addr_ne (by omega)
      have ne0 : ∀ j, 0 ≠ j → (⟨b, o, none⟩ : Addr) ≠ ⟨b, o + j, none⟩ := fun j hj => addr_ne (by omega)
      have MX := Lib.hid (((((((MV.out.set (z' := K) s0 hl1 hl2).set (z' := K + 1) ((World.cell?_setCell_other _ _ _ _ (ne0 1 (by omega))).trans s1) hl1 hl2).set (z' := K + 1 + 1) ((World.cell?_setCell_other _ _ _ _ (ne 1 2 (by omega))).trans ((World.cell?_setCell_other _ _ _ _ (ne0 2 (by omega))).trans s2)) hl1 hl2).set (z' := K + 1 + 1 + 1) ((World.cell?_setCell_other _ _ _ _ (ne 2 3 (by omega))).trans ((World.cell?_setCell_other _ _ _ _ (ne 1 3 (by omega))).trans ((World.cell?_setCell_other _ _ _ _ (ne0 3 (by omega))).trans s3))) hl1 hl2).set (z' := K + 1 + 1 + 1 + 1) ((World.cell?_setCell_other _ _ _ _ (ne 3 4 (by omega))).trans ((World.cell?_setCell_other _ _ _ _ (ne 2 4 (by omega))).trans ((World.cell?_setCell_other _ _ _ _ (ne 1 4 (by omega))).trans ((World.cell?_setCell_other _ _ _ _ (ne0 4 (by omega))).trans s4)))) hl1 hl2).set (z' := K + 1 + 1 + 1 + 1 + 1) ((World.cell?_setCell_other _ _ _ _ (ne 4 5 (by omega))).trans ((World.cell?_setCell_other _ _ _ _ (ne 3 5 (by omega))).trans ((World.cell?_setCell_other _ _ _ _ (ne 2 5 (by omega))).trans ((World.cell?_setCell_other _ _ _ _ (ne 1 5 (by omega))).trans ((World.cell?_setCell_other _ _ _ _ (ne0 5 (by omega))).trans s5))))) hl1 hl2))
      have b0 : 0 ≤ K := by omega
      have b1 : K ≤ 9000000000007000000 := by omega
      have i4 : (k : Int) < n := by omega
      clear hK ne ne0
      subst ho
      go_wp2
      go_roundw
      case rel => exact ⟨⟨k + 1, by omega, by go_num, by have := HK.out; first | (congr 1; omega) | go_num⟩, MX.out⟩
      case measure => simp [intOf]; omega
    · obtain rfl : k = n := by omega
      have i4 : ¬ (k : Int) < k := by omega
      go_wp2
      go_ret
      exact ⟨rfl, MV.out⟩

set_option maxHeartbeats 4000000 in
theorem markEvt_any (lo hi : Nat) (A : Option Addr) (n c : Nat) (k0 : Int) (w : World) (hn : n ≤ 1048576) (h0 : 0 ≤ k0) (h1 : k0 ≤ 9000000000000000000) (hP : ShE lo hi w A n) :
    Calls Try.prog 34 #[.slice A n c, .int .i64 k0] w fun x w' => x = .returned (.int .i64 (k0 + 6 * (n : Int))) ∧ Ints lo hi w w' := by
  have HP := Lib.hid hP
  clear hP
  go_enter Try.func34, Try.ntmps34
  go_wp2
  go_loopw [1, 5] (fun m i wr => (∃ k : Nat, k ≤ n ∧ i = .int .i64 k ∧ m = .int .i64 (k0 + 6 * (k : Int))) ∧ Ints lo hi w wr) (fun _ i _ => n - (intOf i).toNat)
  case atStart => exact ⟨⟨0, by omega, rfl, by first | rfl | simp⟩, Ints.refl _⟩
  case round =>
    obtain ⟨⟨k, hk, rfl, rfl⟩, mv⟩ := hrel
    have MV := Lib.hid mv
    clear mv
    by_cases hlt : k < n
    · obtain ⟨b, off, hA, ⟨hl1, hl2, hl3⟩, hc⟩ := (HP.out.ints MV.out) (by omega)
      subst hA
      obtain ⟨⟨v0, s0⟩, f0⟩ := hc k hlt 0 (by omega)
      obtain ⟨⟨v1, s1⟩, f1⟩ := hc k hlt 1 (by omega)
      obtain ⟨⟨v2, s2⟩, f2⟩ := hc k hlt 2 (by omega)
      obtain ⟨⟨v3, s3⟩, f3⟩ := hc k hlt 3 (by omega)
      obtain ⟨⟨v4, s4⟩, f4⟩ := hc k hlt 4 (by omega)
      obtain ⟨⟨v5, s5⟩, f5⟩ := hc k hlt 5 (by omega)
      rw [Nat.add_zero] at s0 f0
      clear hc
      generalize hK : k0 + 6 * (k : Int) = K
      generalize ho : off + k * 6 = o at s0 s1 s2 s3 s4 s5 f0 f1 f2 f3 f4 f5
      have HO := Lib.hid ho
      have HK := Lib.hid hK
      have ne : ∀ i j, i ≠ j → (⟨b, o + i, none⟩ : Addr) ≠ ⟨b, o + j, none⟩ := fun i j hij => addr_ne (by omega)
      have ne0 : ∀ j, 0 ≠ j → (⟨b, o, none⟩ : Addr) ≠ ⟨b, o + j, none⟩ := fun j hj => addr_ne (by omega)
      have MX := Lib.hid (((((((MV.out.set (z' := K) s0 hl1 hl2).set (z' := K + 1) ((World.cell?_setCell_other _ _ _ _ (ne0 1 (by omega))).trans s1) hl1 hl2).set (z' := K + 1 + 1) ((World.cell?_setCell_other _ _ _ _ (ne 1 2 (by omega))).trans ((World.cell?_setCell_other _ _ _ _ (ne0 2 (by omega))).trans s2)) hl1 hl2).set (z' := K + 1 + 1 + 1) ((World.cell?_setCell_other _ _ _ _ (ne 2 3 (by omega))).trans ((World.cell?_setCell_other _ _ _ _ (ne 1 3 (by omega))).trans ((World.cell?_setCell_other _ _ _ _ (ne0 3 (by omega))).trans s3))) hl1 hl2).set (z' := K + 1 + 1 + 1 + 1) ((World.cell?_setCell_other _ _ _ _ (ne 3 4 (by omega))).trans ((World.cell?_setCell_other _ _ _ _ (ne 2 4 (by omega))).trans ((World.cell?_setCell_other _ _ _ _ (ne 1 4 (by omega))).trans ((World.cell?_setCell_other _ _ _ _ (ne0 4 (by omega))).trans s4)))) hl1 hl2).set (z' := K + 1 + 1 + 1 + 1 + 1) ((World.cell?_setCell_other _ _ _ _ (ne 4 5 (by omega))).trans ((World.cell?_setCell_other _ _ _ _ (ne 3 5 (by omega))).trans ((World.cell?_setCell_other _ _ _ _ (ne 2 5 (by omega))).trans ((World.cell?_setCell_other _ _ _ _ (ne 1 5 (by omega))).trans ((World.cell?_setCell_other _ _ _ _ (ne0 5 (by omega))).trans s5))))) hl1 hl2))
      have b0 : 0 ≤ K := by omega
      have b1 : K ≤ 9000000000007000000 := by omega
      have i4 : (k : Int) < n := by omega
      clear hK ne ne0
      subst ho
      go_wp2
      go_roundw
      case rel => exact ⟨⟨k + 1, by omega, by go_num, by have := HK.out; first | (congr 1; omega) | go_num⟩, MX.out⟩
      case measure => simp [intOf]; omega
    · obtain rfl : k = n := by omega
      have i4 : ¬ (k : Int) < k := by omega
      go_wp2
      go_ret
      exact ⟨rfl, MV.out⟩

set_option maxHeartbeats 4000000 in
theorem markRule_any (lo hi : Nat) (A : Option Addr) (n c : Nat) (k0 : Int) (w : World) (hn : n ≤ 1048576) (h0 : 0 ≤ k0) (h1 : k0 ≤ 7000000000000000000) (hP : ShR lo hi w A n) :
    Calls Try.prog 129 #[.slice A n c, .int .i64 k0] w fun x w' => ∃ z : Int, x = .returned (.int .i64 z) ∧ k0 ≤ z ∧ z ≤ k0 + 6291460 * (n : Int) ∧ Ints lo hi w w' := by
  have HP := Lib.hid hP
  have CL := Lib.hid (fun A n c k0 W a b d h => markSnd_any lo hi A n c k0 W a b d h)
  clear hP
  go_enter Try.func129, Try.ntmps129
  go_wp2
  go_loopw [1, 5] (fun m i wr => (∃ (k : Nat) (z : Int), k ≤ n ∧ i = .int .i64 k ∧ m = .int .i64 z ∧ k0 ≤ z ∧ z ≤ k0 + 6291460 * (k : Int)) ∧ Ints lo hi w wr) (fun _ i _ => n - (intOf i).toNat)
  case atStart => exact ⟨⟨0, k0, by omega, rfl, rfl, by omega, by omega⟩, Ints.refl _⟩
  case round =>
    obtain ⟨⟨k, K, hk, rfl, rfl, hz0, hz1⟩, mv⟩ := hrel
    have MV := Lib.hid mv
    clear mv
    by_cases hlt : k < n
    · obtain ⟨b, off, hA, ⟨hl1, hl2, hl3⟩, hc⟩ := (HP.out.ints MV.out) (by omega)
      subst hA
      obtain ⟨hj, A', n', c', hs, hn', he⟩ := hc k hlt
      obtain ⟨⟨v0, s0⟩, f0⟩ := hj 0 (by omega)
      obtain ⟨⟨v1, s1⟩, f1⟩ := hj 1 (by omega)
      obtain ⟨⟨v2, s2⟩, f2⟩ := hj 2 (by omega)
      obtain ⟨⟨v3, s3⟩, f3⟩ := hj 3 (by omega)
      rw [Nat.add_zero] at s0 f0
      clear hc hj
      generalize ho : off + k * 5 = o at s0 s1 s2 s3 f0 f1 f2 f3 hs
      have ne : ∀ i j, i ≠ j → (⟨b, o + i, none⟩ : Addr) ≠ ⟨b, o + j, none⟩ := fun i j hij => addr_ne (by omega)
      have ne0 : ∀ j, 0 ≠ j → (⟨b, o, none⟩ : Addr) ≠ ⟨b, o + j, none⟩ := fun j hj => addr_ne (by omega)
      have mx := (((((Ints.refl (lo := lo) (hi := hi) wr).set (z' := K) s0 hl1 hl2).set (z' := K + 1) ((World.cell?_setCell_other _ _ _ _ (ne0 1 (by omega))).trans s1) hl1 hl2).set (z' := K + 1 + 1) ((World.cell?_setCell_other _ _ _ _ (ne 1 2 (by omega))).trans ((World.cell?_setCell_other _ _ _ _ (ne0 2 (by omega))).trans s2)) hl1 hl2).set (z' := K + 1 + 1 + 1) ((World.cell?_setCell_other _ _ _ _ (ne 2 3 (by omega))).trans ((World.cell?_setCell_other _ _ _ _ (ne 1 3 (by omega))).trans ((World.cell?_setCell_other _ _ _ _ (ne0 3 (by omega))).trans s3))) hl1 hl2)
      have HE := Lib.hid (he.ints mx)
      have MX := Lib.hid (MV.out.trans mx)
      have b0 : 0 ≤ K := by omega
      have b1 : K ≤ 7000007000000000000 := by omega
      have i4 : (k : Int) < n := by omega
      clear ne ne0 mx he
      subst ho
      go_wp2_with fail
      refine (CL.out A' n' c' (K + 1 + 1 + 1 + 1) _ hn' (by omega) (by omega) HE.out).mono ?_
      rintro x w1 ⟨rfl, m1⟩
      have MY := Lib.hid (MX.out.trans m1)
      clear m1
      generalize hK2 : K + 1 + 1 + 1 + 1 + 6 * (n' : Int) = K2
      have hK2a : k0 ≤ K2 := by omega
      have hK2b : K2 ≤ k0 + 6291460 * ((k + 1 : Nat) : Int) := by omega
      clear hK2
      go_wp2
      go_roundw
      case rel => exact ⟨⟨k + 1, K2, by omega, by go_num, rfl, hK2a, hK2b⟩, MY.out⟩
      case measure => simp [intOf]; omega
    · obtain rfl : k = n := by omega
      have i4 : ¬ (k : Int) < k := by omega
      go_wp2
      go_ret
      exact ⟨K, rfl, hz0, hz1, MV.out⟩

set_option maxHeartbeats 4000000 in
theorem markRulz_any (lo hi : Nat) (A : Option Addr) (n c : Nat) (w : World) (hn : n ≤ 1048576) (hP : ShZ lo hi w A n) :
    Calls Try.prog 89 #[.slice A n c, .int .i64 1] w fun x w' => ∃ z : Int, x = .returned (.int .i64 z) ∧ 1 ≤ z ∧ z ≤ 7000000000000000000 ∧ Ints lo hi w w' := by
  have HP := Lib.hid hP
  have CL := Lib.hid (fun A n c k0 W a b d h => markRule_any lo hi A n c k0 W a b d h)
  clear hP
  go_enter Try.func89, Try.ntmps89
  go_wp2
  go_loopw [1, 5] (fun m i wr => (∃ (k : Nat) (z : Int), k ≤ n ∧ i = .int .i64 k ∧ m = .int .i64 z ∧ 1 ≤ z ∧ z ≤ 1 + 6597073960960 * (k : Int)) ∧ Ints lo hi w wr) (fun _ i _ => n - (intOf i).toNat)
  case atStart => exact ⟨⟨0, 1, by omega, rfl, rfl, by omega, by omega⟩, Ints.refl _⟩
  case round =>
    obtain ⟨⟨k, K, hk, rfl, rfl, hz0, hz1⟩, mv⟩ := hrel
    have MV := Lib.hid mv
    clear mv
    by_cases hlt : k < n
    · obtain ⟨b, off, hA, hl3, hc⟩ := (HP.out.ints MV.out) (by omega)
      subst hA
      obtain ⟨A', n', c', hs, hn', he⟩ := hc k hlt
      have HE := Lib.hid he
      have i4 : (k : Int) < n := by omega
      clear hc he
      go_wp2_with fail
      refine (CL.out A' n' c' K _ hn' (by omega) (by omega) HE.out).mono ?_
      rintro x w1 ⟨K2, rfl, y0, y1, m1⟩
      have MY := Lib.hid (MV.out.trans m1)
      clear m1
      have hK2b : K2 ≤ 1 + 6597073960960 * ((k + 1 : Nat) : Int) := by omega
      go_wp2
      go_roundw
      case rel => exact ⟨⟨k + 1, K2, by omega, by go_num, rfl, by omega, hK2b⟩, MY.out⟩
      case measure => simp [intOf]; omega
    · obtain rfl : k = n := by omega
      have i4 : ¬ (k : Int) < k := by omega
      go_wp2
      go_ret
      exact ⟨K, rfl, hz0, by omega, MV.out⟩

set_option maxHeartbeats 4000000 in
theorem markMdl_any (lo hi g1 g2 n c k d : Nat) (til : Int) (w : World) (hn : n ≤ 1048576) (hk : k ≤ 1048576) (h1 : ShZ lo hi w (some ⟨g1, 0, none⟩) n) (h2 : ShE lo hi w (some ⟨g2, 0, none⟩) k) (hw : hi ≤ w.heap.size) :
    Calls Try.prog 40 #[.agg #[.slice (some ⟨g1, 0, none⟩) n c, .slice (some ⟨g2, 0, none⟩) k d, .int .i64 til], .int .i64 1] w fun x w' => ∃ z : Int, x = .returned (.int .i64 z) ∧ 0 ≤ z ∧ z ≤ 8000000000000000000 ∧ Ints lo hi w w' := by
  have H1 := Lib.hid h1
  have H2 := Lib.hid h2
  have C1 := Lib.hid (fun W h => markRulz_any lo hi (some ⟨g1, 0, none⟩) n c W hn h)
  have C2 := Lib.hid (fun k0 W a b h => markEvt_any lo hi (some ⟨g2, 0, none⟩) k d k0 W hk a b h)
  have B0 := Lib.hid (Box3.new w (.slice (some ⟨g1, 0, none⟩) n c) (.slice (some ⟨g2, 0, none⟩) k d) (.int .i64 til) 26)
  clear h1 h2
  go_enter Try.func40, Try.ntmps40
  go_wp2_with fail
  refine (C1.out _ (H1.out.ints (((Up.refl w).alloc _).ints))).mono ?_
  rintro x w1 ⟨K, rfl, y0, y1, m1⟩
  have MY := Lib.hid ((((Up.refl w).alloc _).ints (lo := lo) (hi := hi)).trans m1)
  have q1 := (m1.cells w.heap.size 1 (by simp) (.inr hw)).trans B0.out.c1
  have q2 := (m1.cells w.heap.size 0 (by simp) (.inr hw)).trans B0.out.c0
  clear m1
  go_wp2_with fail
  refine (C2.out K _ (by omega) (by omega) (H2.out.ints MY.out)).mono ?_
  rintro x w2 ⟨rfl, m2⟩
  have MZ := Lib.hid (MY.out.trans m2)
  clear m2
  generalize hK2 : K + 6 * (k : Int) = K2
  have z0 : 0 ≤ K2 := by omega
  have z1 : K2 ≤ 8000000000000000000 := by omega
  clear hK2
  go_wp2
  go_ret
  exact ⟨K2, rfl, z0, z1, MZ.out⟩

end Go.Proofs.Ytkfjemgelmbcfaa

/-
  What markEvtEvtS and heldEvtEvtS do, in one sentence: the one lays numbers in a row into a list of its own, the other finds them there; for every list that lies in memory.
-/
import Derived.Test.YtodbdehnindlbaaMem
import Derived.Test.YtodbdehnindlbaaRd
namespace Go.Proofs.Ytodbdehnindlbaa
open Go.RowKit

def markAt (i : Nat) : Evt := ⟨1 + 6 * i, 1 + 6 * i + 1, 1 + 6 * i + 1 + 1, 1 + 6 * i + 1 + 1 + 1, 1 + 6 * i + 1 + 1 + 1 + 1, 1 + 6 * i + 1 + 1 + 1 + 1 + 1⟩
def marks (n : Nat) : List Evt := (List.range n).map markAt
theorem marks_len (n : Nat) : (marks n).length = n := by simp [marks]
theorem marks_get (n i : Nat) (h : i < n) : (marks n).getD i default = markAt i := by simp [marks, List.getD, h]

theorem Own.part {w : World} {g n : Nat} {es : List Evt} (h : Own w g n es) (fs : List Evt) : Part w g n 0 fs :=
  ⟨h.2.1, fun i hi => absurd hi (by omega), fun j hj => ⟨by
    obtain ⟨h0, h1, h2, h3, h4, h5⟩ := h.2.2.1 (j / 6) (by omega)
    have e : j % 6 = 0 ∨ j % 6 = 1 ∨ j % 6 = 2 ∨ j % 6 = 3 ∨ j % 6 = 4 ∨ j % 6 = 5 := by omega
    rcases e with e | e | e | e | e | e
    · exact ⟨_, by rw [show j = j / 6 * 6 by omega]; exact h0⟩
    · exact ⟨_, by rw [show j = j / 6 * 6 + 1 by omega]; exact h1⟩
    · exact ⟨_, by rw [show j = j / 6 * 6 + 2 by omega]; exact h2⟩
    · exact ⟨_, by rw [show j = j / 6 * 6 + 3 by omega]; exact h3⟩
    · exact ⟨_, by rw [show j = j / 6 * 6 + 4 by omega]; exact h4⟩
    · exact ⟨_, by rw [show j = j / 6 * 6 + 5 by omega]; exact h5⟩, h.2.2.2 j hj⟩⟩
theorem Mv.putIn {g : Nat} {a w : World} (h : Mv g a w) (o : Nat) (e : Evt) : Mv g a (putEv w g o e) :=
  (((((h.setCell _).setCell _).setCell _).setCell _).setCell _).setCell _

set_option maxHeartbeats 4000000 in
theorem mark_any (g n c : Nat) (w : World) (hn : n ≤ 1100000) (hP : Part w g n 0 (marks n)) :
    Calls Try.prog 35 #[.slice (some ⟨g, 0, none⟩) n c, .int .i64 1] w fun x w' => x = .returned (.int .i64 (1 + 6 * (n : Int))) ∧ Part w' g n n (marks n) ∧ Mv g w w' := by
  have HP := Lib.hid hP
  have MG := Lib.hid (marks_get n)
  clear hP
  generalize marks n = ms at *
  go_enter Try.func35, Try.ntmps35
  go_wp2
  go_loopw [1, 5] (fun m i wr => (∃ k : Nat, k ≤ n ∧ i = .int .i64 k ∧ m = .int .i64 (1 + 6 * (k : Int)) ∧ Part wr g n k ms) ∧ Mv g w wr) (fun _ i _ => n - (intOf i).toNat)
  case atStart => exact ⟨⟨0, by omega, rfl, rfl, HP.out⟩, Mv.refl _ _⟩
  case round =>
    obtain ⟨⟨k, hk, rfl, rfl, hp⟩, mv⟩ := hrel
    have PP := Lib.hid hp
    have MV := Lib.hid mv
    have hg := hp.1
    clear hp mv
    by_cases hlt : k < n
    · obtain ⟨⟨v0, s0⟩, f0⟩ := PP.out.2.2 (k * 6) (by omega)
      obtain ⟨⟨v1, s1⟩, f1⟩ := PP.out.2.2 (k * 6 + 1) (by omega)
      obtain ⟨⟨v2, s2⟩, f2⟩ := PP.out.2.2 (k * 6 + 2) (by omega)
      obtain ⟨⟨v3, s3⟩, f3⟩ := PP.out.2.2 (k * 6 + 3) (by omega)
      obtain ⟨⟨v4, s4⟩, f4⟩ := PP.out.2.2 (k * 6 + 4) (by omega)
      obtain ⟨⟨v5, s5⟩, f5⟩ := PP.out.2.2 (k * 6 + 5) (by omega)
      have NX := Lib.hid (PP.out.put (MG.out k hlt) hlt)
      have MX := Lib.hid (MV.out.putIn (k * 6) (markAt k))
      unfold putEv markAt at NX MX
      dsimp only at NX MX
      generalize hK : 1 + 6 * (k : Int) = K at NX MX ⊢
      have HK := Lib.hid hK
      have b0 : 0 ≤ K := by omega
      have b1 : K ≤ 7000000 := by omega
      have i4 : (k : Int) < n := by omega
      clear hK
      go_wp2
      go_roundw
      case rel => exact ⟨⟨k + 1, by omega, by go_num, by have := HK.out; first | (congr 1; omega) | go_num, NX.out⟩, MX.out⟩
      case measure => simp [intOf]; omega
    · obtain rfl : k = n := by omega
      have i4 : ¬ (k : Int) < k := by omega
      go_wp2
      go_ret
      exact ⟨rfl, PP.out, MV.out⟩

theorem mark_none (A : Option Addr) (c : Nat) (w : World) : Calls Try.prog 35 #[.slice A 0 c, .int .i64 1] w fun x w' => x = .returned (.int .i64 1) ∧ Up w w' := by
  go_enter Try.func35, Try.ntmps35
  go_wp2
  go_loopw [1, 5] (fun m i wr => m = .int .i64 1 ∧ i = .int .i64 0 ∧ Up w wr) (fun _ _ _ => 0)
  case atStart => exact ⟨rfl, rfl, Up.refl _⟩
  case round =>
    obtain ⟨rfl, rfl, u⟩ := hrel
    go_wp2
    go_ret
    exact ⟨rfl, u⟩

set_option maxHeartbeats 4000000 in
theorem held_any (A : Option Addr) (n c : Nat) (w : World) (hn : n ≤ 1100000) (hE : Evs w A n (marks n)) :
    Calls Try.prog 36 #[.slice A n c, .int .i64 1] w fun x w' => x = .returned (.int .i64 (1 + 6 * (n : Int))) ∧ Up w w' := by
  have HE := Lib.hid hE
  have MG := Lib.hid (marks_get n)
  clear hE
  generalize marks n = ms at *
  go_enter Try.func36, Try.ntmps36
  go_wp2
  go_loopw [1, 5] (fun m i wr => (∃ k : Nat, k ≤ n ∧ i = .int .i64 k ∧ m = .int .i64 (1 + 6 * (k : Int))) ∧ Up w wr) (fun _ i _ => n - (intOf i).toNat)
  case atStart => exact ⟨⟨0, by omega, rfl, rfl⟩, Up.refl _⟩
  case round =>
    obtain ⟨⟨k, hk, rfl, rfl⟩, ur⟩ := hrel
    by_cases hlt : k < n
    · obtain ⟨b, off, hA, hb, hc⟩ := HE.out.2 (by omega)
      subst hA
      have a0 := (hc k hlt).up ur hb
      rw [MG.out k hlt] at a0
      have hb' : b < wr.heap.size := by have := ur.size; omega
      clear hc
      unfold EvAt markAt at a0
      dsimp only at a0
      generalize hK : 1 + 6 * (k : Int) = K at a0 ⊢
      have HK := Lib.hid hK
      have b0 : 0 ≤ K := by omega
      have b1 : K ≤ 7000000 := by omega
      have i4 : (k : Int) < n := by omega
      obtain ⟨p0, p1, p2, p3, p4, p5⟩ := a0
      clear hK
      go_wp2
      go_roundw
      case rel => exact ⟨⟨k + 1, by omega, by go_num, by have := HK.out; first | (congr 1; omega) | go_num⟩, ur⟩
      case measure => simp [intOf]; omega
    · obtain rfl : k = n := by omega
      have i4 : ¬ (k : Int) < k := by omega
      go_wp2
      go_ret
      exact ⟨rfl, ur⟩

end Go.Proofs.Ytodbdehnindlbaa

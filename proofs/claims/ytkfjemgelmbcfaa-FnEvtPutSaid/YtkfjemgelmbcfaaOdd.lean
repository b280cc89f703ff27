/-
  What odd and l20Open give, in one sentence: a bool and the reader one further; a new reader; for every reader and every code that lie in memory.
-/
import Derived.Test.YtkfjemgelmbcfaaPick
namespace Go.Proofs.Ytkfjemgelmbcfaa
set_option maxRecDepth 100000
open Go.RowKit

theorem Rd.alloc {w : World} {g N : Nat} (h : Rd w g N) (o : Obj) : Rd (w.alloc o) g N := h.up ((Up.refl w).alloc o)
theorem Rd.setCell {w : World} {g N : Nat} (h : Rd w g N) {p : Addr} (hp : g < p.block) (u : Value) : Rd (w.setCell p u) g N := by
  obtain ⟨A, n, cap, p', h0, h1, hf, hp', hg, hn, hb⟩ := h
  have ne : ∀ b o, b ≤ g → p ≠ ⟨b, o, none⟩ := fun b o hb e => by subst e; exact absurd hp (by simpa using hb)
  exact ⟨A, n, cap, p', (World.cell?_setCell_other _ _ _ _ (ne _ _ (Nat.le_refl _))).trans h0, (World.cell?_setCell_other _ _ _ _ (ne _ _ (Nat.le_refl _))).trans h1, by simpa [go_sem] using hf, hp', by simpa using hg, hn, hb.keep fun b o hb => World.cell?_setCell_other _ _ _ _ (ne _ _ (by omega))⟩

/-- What odd gives. -/
def Tossed (g N : Nat) (w : World) (x : Ending) (w' : World) : Prop :=
  ∃ b : Bool, x = .returned (.bool b) ∧ Rd w' g N ∧ Mv g w w'

set_option maxHeartbeats 400000 in
theorem odd_any (g N : Nat) (m : Int) (w : World) (hm : I64 m) (hN : N ≤ 1000000) (hR : Rd w g N) :
    Calls Try.prog 78 #[.pointer (some ⟨g, 0, none⟩), .int .i64 m] w (Tossed g (N + 1) w) := by
  have R := Lib.hid hR
  clear hR
  by_cases h : 0 < m
  · have hm2 : m ≤ 9223372036854775807 := hm.2
    have HM := Lib.hid hm
    clear hm
    go_enter Try.func78, Try.ntmps78
    go_wp2_with fail
    refine (pick_any g N m _ HM.out hN R.out).mono ?_
    rintro x w1 ⟨v, rfl, _, _, R1, M1⟩
    have RR := Lib.hid R1
    have MM := Lib.hid M1
    clear R1 M1
    go_wp2
    all_goals go_ret
    all_goals exact ⟨_, rfl, RR.out, MM.out⟩
  · have HM := Lib.hid hm
    clear hm
    go_enter Try.func78, Try.ntmps78
    go_wp2
    go_ret
    exact ⟨_, rfl, R.out.mono (by omega), Mv.refl _ _⟩

/-- A new reader. -/
def Opened (w : World) (x : Ending) (w' : World) : Prop :=
  ∃ g, x = .returned (.pointer (some ⟨g, 0, none⟩)) ∧ w.heap.size ≤ g ∧ Rd w' g 0 ∧ Up w w'

theorem Bys.less {w : World} {A : Option Addr} {n k B : Nat} (h : Bys w A n B) (hk : k ≤ n) : Bys w A k B := fun h0 => by
  obtain ⟨b, off, hA, hb, hc⟩ := h (by omega)
  exact ⟨b, off, hA, hb, fun i hi => hc i (by omega)⟩

theorem Rd.new {w : World} {A : Option Addr} {n cap : Nat} (hn : n ≤ 2000) (hB : Bys w A n w.heap.size) (t : TypeId) : Rd (w.alloc (.cells #[.slice A n cap, .int .i64 0] t)) w.heap.size 0 := by
  have hh := heap_alloc_new w (.cells #[.slice A n cap, .int .i64 0] t)
  refine ⟨A, n, cap, 0, ?_, ?_, ?_, Nat.le_refl _, by simp, hn, hB.keep fun b o hb => World.cell?_alloc_lt w _ ⟨b, o, none⟩ hb⟩
  · rw [cell_of_row _ _ 0 _ _ _ hh]; rfl
  · rw [cell_of_row _ _ 1 _ _ _ hh]; rfl
  · unfold World.frozen?
    rw [hh]
    simp

theorem open_any (A : Option Addr) (n cap : Nat) (w : World) (hc : n ≤ cap) (hmax : cap ≤ 9223372036854775807) (hB : Bys w A n w.heap.size) :
    Calls Try.prog 61 #[.slice A n cap] w (Opened w) := by
  have HB := Lib.hid hB
  clear hB
  by_cases h : 2000 < n
  · obtain ⟨b, off, rfl, _, _⟩ := HB.out (by omega)
    have h1 : ((n : Int) > 2000) := by omega
    go_enter Try.func61, Try.ntmps61
    go_wp2
    go_ret
    exact ⟨w.heap.size, rfl, Nat.le_refl _, Rd.new (Nat.le_refl _) (HB.out.less (by omega)) _, (Up.refl _).alloc _⟩
  · go_enter Try.func61, Try.ntmps61
    go_wp2
    go_ret
    exact ⟨w.heap.size, rfl, Nat.le_refl _, Rd.new (by omega) HB.out _, (Up.refl _).alloc _⟩

end Go.Proofs.Ytkfjemgelmbcfaa

/-
  What slices.Grow returns of nothing, in one sentence: an empty slice of events with room; for every number that lies in memory.
-/
import Derived.Test.YtkfjemgelmbcfaaApp
import Derived.Test.YtkfjemgelmbcfaaToS
import Derived.Lib.AppendZeros
namespace Go.Proofs.Ytkfjemgelmbcfaa
set_option maxRecDepth 100000
open Go.RowKit

def GrownSl (w : World) (x : Ending) (w' : World) : Prop := ∃ v, x = .returned v ∧ w'.ownsRow w.heap.size 50 6 v 0 (flat []) ∧ Up w w'

theorem zeros_size (z : Array Value) (n : Nat) : (Builtin.zeroCells z n).size = n * z.size := by simp [Builtin.zeroCells]

set_option maxHeartbeats 4000000 in
theorem grow_any (n : Nat) (w : World) (hn : n ≤ 2000000000) : Calls Try.prog 125 #[.slice none 0 0, .int .i64 n] w (GrownSl w) := by
  obtain ⟨i0, hi0, hz0, hz1, hz2⟩ := info_parts info50
  have INF := Lib.hid (And.intro hi0 (And.intro hz0 (And.intro hz1 hz2)))
  clear hi0 hz0 hz1 hz2
  by_cases h0 : n = 0
  · subst h0
    go_enter Try.func125, Try.ntmps125
    go_wp2
    go_ret
    exact ⟨_, rfl, ⟨rfl, .inl ⟨rfl, rfl⟩⟩, Up.refl _⟩
  · have p0 : 0 < n := by omega
    have p1 : (0 : Int) < n := by omega
    have p2 : ¬ (n : Int) < 0 := by omega
    have h48 : n * i0.bytes ≤ 281474976710656 := by rw [INF.out.2.2.2]; omega
    have RUN := Lib.hid (fun ty W => Lib.run_append_nil_zeros (P := Try.prog) W 24 3 ty 50 i0 _ .i64 .i64 Try.underlying24 Try.underlying3 INF.out.1 INF.out.2.1 n p0 (by rw [INF.out.2.2.1]; omega) (by omega) h48)
    clear h48
    go_enter Try.func125, Try.ntmps125
    go_wp2_with (at_builtin; refine Lib.wpList_append_run _ rfl (.tmp 20) (.tmp 21) 24 3 rfl _ _ rfl rfl _ _ (RUN.out _ _) ?_)
    go_ret
    refine ⟨_, rfl, ⟨rfl, .inr ⟨w.heap.size, grownCap w n 0 50, _, rfl, Nat.le_refl _, heap_alloc_new w.drew _, Nat.zero_le _, grownCap_le_maxLen _ _ _ _ (by simp only [maxLen]; omega), ?_, rfl⟩⟩, (Up.refl w).drew.alloc _⟩
    have := grownCap_ge w n 0 50
    rw [Array.size_append, zeros_size, zeros_size]
    simp
    omega

end Go.Proofs.Ytkfjemgelmbcfaa

/-
  Rows of events as functions, in one sentence: a block of the call's own whose events are f 0, f 1, ..; and what a rising stretch with one event more becomes.
-/
import Derived.Test.YtkfjemgelmbcfaaMem
import Derived.Test.YtkfjemgelmbcfaaRd
import Derived.Test.YtkfjemgelmbcfaaOrder
namespace Go.Proofs.Ytkfjemgelmbcfaa
set_option maxRecDepth 100000
open Go.RowKit

def Row (w : World) (g N : Nat) (f : Nat → Evt) : Prop :=
  g < w.heap.size ∧ (∀ i, i < N → EvAt w g (i * 6) (f i)) ∧ ∀ j, j < N * 6 → w.frozen? ⟨g, j, none⟩ = false
theorem Row.up {w w' : World} {g N : Nat} {f : Nat → Evt} (h : Row w g N f) (u : Up w w') : Row w' g N f :=
  ⟨Nat.lt_of_lt_of_le h.1 u.size, fun i hi => (h.2.1 i hi).up u h.1, fun j hj => (u.frozens _ _ h.1).trans (h.2.2 j hj)⟩
theorem Row.as_ {w : World} {g N : Nat} {f f' : Nat → Evt} (h : Row w g N f) (e : ∀ i, i < N → f i = f' i) : Row w g N f' :=
  ⟨h.1, fun i hi => e i hi ▸ h.2.1 i hi, h.2.2⟩
theorem Own.row {w : World} {g n : Nat} {es : List Evt} (h : Own w g n es) : Row w g n (fun i => es.getD i default) := ⟨h.2.1, h.2.2.1, h.2.2.2⟩
theorem Row.somes {w : World} {g N i : Nat} {f : Nat → Evt} (h : Row w g N f) (hi : i < N) : ∀ k, k < 6 → ∃ v, w.cell? ⟨g, i * 6 + k, none⟩ = some v := fun k hk => by
  obtain ⟨h0, h1, h2, h3, h4, h5⟩ := h.2.1 i hi
  have e : k = 0 ∨ k = 1 ∨ k = 2 ∨ k = 3 ∨ k = 4 ∨ k = 5 := by omega
  rcases e with rfl | rfl | rfl | rfl | rfl | rfl
  · exact ⟨_, h0⟩
  · exact ⟨_, h1⟩
  · exact ⟨_, h2⟩
  · exact ⟨_, h3⟩
  · exact ⟨_, h4⟩
  · exact ⟨_, h5⟩
theorem Row.put {w : World} {g N k : Nat} {f : Nat → Evt} {e : Evt} (h : Row w g N f) (hk : k < N) : Row (putEv w g (k * 6) e) g N (fun i => if i = k then e else f i) := by
  refine ⟨by rw [putEv_size]; exact h.1, fun i hi => ?_, fun j hj => (putEv_frozen _ _ _ _ _).trans (h.2.2 j hj)⟩
  show EvAt _ _ _ (if i = k then e else f i)
  by_cases hik : i = k
  · subst hik
    rw [if_pos rfl]
    exact putEv_at (h.somes hi)
  · rw [if_neg hik]
    exact (h.2.1 i hi).putEv_far (by omega)

/-- The event at p taken out and laid in at q. -/
def slid (f : Nat → Evt) (p q : Nat) : Nat → Evt := fun k => if k < q then f k else if k = q then f p else if k ≤ p then f (k - 1) else f k
theorem slid_self (f : Nat → Evt) (p i : Nat) : slid f p p i = f i := by
  unfold slid
  split
  · rfl
  · split
    · rename_i h; rw [h]
    · split
      · omega
      · rfl
theorem slid_at (f : Nat → Evt) (p q : Nat) : slid f p q q = f p := by simp [slid]
theorem slid_pre (f : Nat → Evt) (p q k : Nat) (h : k < q) : slid f p q k = f k := by simp [slid, h]
/-- One step down: the two neighbours change places. -/
theorem slid_step (f : Nat → Evt) (p k : Nat) (h : k + 1 ≤ p) (i : Nat) : (if i = k then f p else if i = k + 1 then f k else slid f p (k + 1) i) = slid f p k i := by
  unfold slid
  by_cases h1 : i = k
  · subst h1; simp
  · rw [if_neg h1]
    by_cases h2 : i = k + 1
    · subst h2
      rw [if_pos rfl, if_neg (by omega), if_neg (by omega), if_pos h, Nat.add_sub_cancel]
    · rw [if_neg h2]
      by_cases h3 : i < k
      · rw [if_pos (by omega), if_pos h3]
      · rw [if_neg (by omega), if_neg (by omega), if_neg h3, if_neg h1]

end Go.Proofs.Ytkfjemgelmbcfaa

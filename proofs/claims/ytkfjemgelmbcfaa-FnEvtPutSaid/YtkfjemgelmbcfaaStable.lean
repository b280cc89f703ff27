/-
  What the stable sort does with a rising stretch and one event behind it, of less than 20 in all, in one sentence: the event slides down to its place.
-/
import Derived.Test.YtkfjemgelmbcfaaInsertion
namespace Go.Proofs.Ytkfjemgelmbcfaa
set_option maxRecDepth 100000
open Go.RowKit

/-- What the sorting leaves. -/
def Sorted (g p : Nat) (f : Nat → Evt) (w : World) (x : Ending) (w' : World) : Prop :=
  x = .returned (.tuple #[]) ∧ (∃ q, Place f 0 p q ∧ Row w' g (p + 1) (slid f p q)) ∧ Mv g w w'

set_option maxHeartbeats 4000000 in
theorem stable_any (g c p : Nat) (f : Nat → Evt) (w : World) (hp : p + 1 < 20) (hR : Row w g (p + 1) f) (rise : ∀ k, k + 1 < p → ltE (f k) (f (k + 1)) = true) :
    Calls Try.prog 152 #[.slice (some ⟨g, 0, none⟩) (p + 1) c, .int .i64 ((p : Int) + 1), .func (.func 73) #[] #[]] w (Sorted g p f w) := by
  have IN := Lib.hid (insertion_any g (p + 1) c 0 p f w (by omega) (by omega) (by omega) hR (fun k _ h => rise k h))
  clear hR rise
  have n1 : ¬ (20 : Int) ≤ (p : Int) + 1 := by omega
  have n2 : ¬ (20 : Int) < (p : Int) + 1 := by omega
  go_enter Try.func152, Try.ntmps152
  go_wp2
  go_loopw [7, 8] (fun a b wr => (a = .int .i64 0 ∧ b = .int .i64 20) ∧ wr = w) (fun _ _ _ => 0)
  case atStart => exact ⟨⟨rfl, rfl⟩, rfl⟩
  case round =>
    obtain ⟨⟨rfl, rfl⟩, rfl⟩ := hrel
    go_wp2_with fail
    have I := IN.out
    rw [show (((0 : Nat) : Int)) = 0 from rfl] at I
    refine I.mono ?_
    rintro x w1 ⟨rfl, hs, mv⟩
    have HS := Lib.hid hs
    have MV := Lib.hid mv
    clear hs mv I IN
    go_wp2
    go_loopw [6, 7, 8, 9] (fun s a b m wr => (s = .int .i64 20 ∧ HS = HS) ∧ wr = w1) (fun _ _ _ _ _ => 0)
    case atStart => exact ⟨⟨rfl, rfl⟩, rfl⟩
    case round =>
      obtain ⟨⟨rfl, _⟩, rfl⟩ := hrel
      go_wp2
      exact bodyPost_end (v := .tuple #[]) (results_none Try.results152 _ _ _) rfl ⟨rfl, HS.out, MV.out⟩

theorem sortStable_any (g c p : Nat) (f : Nat → Evt) (w : World) (hp : p + 1 < 20) (hR : Row w g (p + 1) f) (rise : ∀ k, k + 1 < p → ltE (f k) (f (k + 1)) = true) :
    Calls Try.prog 124 #[.slice (some ⟨g, 0, none⟩) (p + 1) c, .func (.func 73) #[] #[]] w (Sorted g p f w) := by
  have ST := Lib.hid (stable_any g c p f w hp hR rise)
  clear hR rise
  go_enter Try.func124, Try.ntmps124
  go_wp2_with fail
  refine ST.out.mono ?_
  rintro x w1 ⟨rfl, hs, mv⟩
  have HS := Lib.hid hs
  have MV := Lib.hid mv
  clear hs mv ST
  go_wp2
  exact bodyPost_end (v := .tuple #[]) (results_none Try.results124 _ _ _) rfl ⟨rfl, HS.out, MV.out⟩

end Go.Proofs.Ytkfjemgelmbcfaa

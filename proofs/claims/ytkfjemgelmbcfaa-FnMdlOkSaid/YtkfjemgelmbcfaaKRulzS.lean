/-
  A row of a model's copied rows laid anew, in one sentence: the rows are the model's with that one put in its place.
-/
import Derived.Test.YtkfjemgelmbcfaaKRulesC
import Derived.Test.YtkfjemgelmbcfaaKTyR
namespace Go.Proofs.Ytkfjemgelmbcfaa
set_option maxRecDepth 100000
open Go.RowKit

theorem add_none (b o t : Nat) : (⟨b, o, none⟩ : Addr).add t = ⟨b, o + t, none⟩ := by
  unfold Addr.add
  split <;> simp_all
theorem take5 {xs : List Value} {a b c d e : Value} (h0 : xs[0]? = some a) (h1 : xs[1]? = some b) (h2 : xs[2]? = some c) (h3 : xs[3]? = some d) (h4 : xs[4]? = some e) : xs.take 5 = [a, b, c, d, e] := by
  match xs, h0, h1, h2, h3, h4 with
  | a' :: b' :: c' :: d' :: e' :: rest, h0, h1, h2, h3, h4 =>
    simp only [List.getElem?_cons_zero, List.getElem?_cons_succ, Option.some.injEq] at h0 h1 h2 h3 h4
    subst h0
    subst h1
    subst h2
    subst h3
    subst h4
    rfl
  | [_, _, _, _], _, _, _, _, h4 => simp at h4
  | [_, _, _], _, _, _, h3, _ => simp at h3
  | [_, _], _, _, h2, _, _ => simp at h2
  | [_], _, h1, _, _, _ => simp at h1
  | [], h0, _, _, _, _ => simp at h0
theorem part_reads {w : World} {g : Nat} {row : List Value} {tag : TypeId} (h : w.heap[g]? = some (.cells row.toArray tag (0, 0))) (hr : row.length = 5) : Reads w w.heap.size 5 (some ⟨g, 0, none⟩) 1 row := by
  refine ⟨by omega, fun _ => ⟨_, rfl, (Array.getElem?_eq_some_iff.1 h).1, fun j u hu => ?_⟩⟩
  rw [add_none, Nat.zero_add]
  have hb : Blk w g tag row.toArray := h
  exact hb.cell (by simpa using hu)
theorem own_cur {w : World} {base e n c g : Nat} {xs : List Value} (h : w.ownsRow base e 1 (.slice (some ⟨g, 0, none⟩) n c) n xs) : ∃ cur, Blk w g e cur ∧ n ≤ cur.size ∧ ∀ i, i < n → cur[i]? = xs[i]? := by
  rcases h.2 with ⟨h0, _⟩ | ⟨g', cap, cur, hv, _, hg, hnc, _, hcs, ht⟩
  · cases h0
  · have hgg : g = g' := by
      injection hv with hA
      injection hA with hA
      injection hA
    subst hgg
    refine ⟨cur, hg, by omega, fun i hi => ?_⟩
    rw [← ht, List.getElem?_take_of_lt (by omega)]
    simp
theorem rulz_set {wA w1 : World} {A A7 : Option Addr} {n base g9 c9 j n7 c7 : Nat} {rss : List (List Rule)} {R' : List Rule} {news : List Value} (RN : RowsAt wA A n rss news) (hl : rss.length = n) (hn : n ≤ 9223372036854775807)
    (O9 : w1.ownsRow base 30 1 (.slice (some ⟨g9, 0, none⟩) n c9) n news) (hj : j < n) (u : Up wA (w1.setCell ⟨g9, j, none⟩ (.slice A7 n7 c7))) (hR : Rules (w1.setCell ⟨g9, j, none⟩ (.slice A7 n7 c7)) A7 n7 R') :
    Rulz (w1.setCell ⟨g9, j, none⟩ (.slice A7 n7 c7)) (some ⟨g9, 0, none⟩) n (rss.set j R') := by
  obtain ⟨cur, hb, hs, hc⟩ := own_cur O9
  have hb' := hb.set j (.slice A7 n7 c7)
  refine ⟨by simp [hl], hn, fun _ => ⟨g9, 0, rfl, hb'.lt, fun i hi => ?_⟩⟩
  rw [Nat.zero_add]
  by_cases e : i = j
  · subst e
    refine ⟨A7, n7, c7, hb'.cell ?_, ?_⟩
    · rw [Array.getElem?_setIfInBounds]
      simp
      omega
    · have : (rss.set i R').getD i [] = R' := by simp [List.getD, hl, hi]
      rw [this]
      exact hR
  · obtain ⟨A', n', c', hx, hr⟩ := RN.row i hi
    refine ⟨A', n', c', hb'.cell ?_, ?_⟩
    · rw [Array.getElem?_setIfInBounds, if_neg (fun h => e h.symm), hc i hi]
      exact hx
    · have : (rss.set j R').getD i [] = rss.getD i [] := by
        simp only [List.getD]
        rw [List.getElem?_set_ne (fun h => e h.symm)]
      rw [this]
      exact hr.up u

end Go.Proofs.Ytkfjemgelmbcfaa

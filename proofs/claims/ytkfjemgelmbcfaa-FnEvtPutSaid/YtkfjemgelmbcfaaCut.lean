/-
  Parts of a slice of events, in one sentence: what its front and its rest hold, and which parts of a rising list rise.
-/
import Derived.Test.YtkfjemgelmbcfaaApp
import Derived.Test.YtkfjemgelmbcfaaRise
import Derived.Test.YtkfjemgelmbcfaaOrder
namespace Go.Proofs.Ytkfjemgelmbcfaa
set_option maxRecDepth 100000
open Go.RowKit

theorem Evs.front {w : World} {A : Option Addr} {n k : Nat} {es : List Evt} (h : Evs w A n es) (hk : k ≤ n) : Evs w A k (es.take k) :=
  ⟨by rw [List.length_take, h.1]; omega, fun h0 => by
    obtain ⟨b, off, hA, hb, hc⟩ := h.2 (by omega)
    refine ⟨b, off, hA, hb, fun i hi => ?_⟩
    have := hc i (by omega)
    rw [show (es.take k).getD i default = es.getD i default by simp [List.getD, hi]]
    exact this⟩
theorem Evs.rest {w : World} {A : Option Addr} {n k cap : Nat} {es : List Evt} (h : Evs w A n es) (hk : k ≤ n) (hc : n ≤ cap) :
    Evs w (if cap = k then A else A.map (·.add (k * 6))) (n - k) (es.drop k) :=
  ⟨by rw [List.length_drop, h.1], fun h0 => by
    obtain ⟨b, off, hA, hb, hcc⟩ := h.2 (by omega)
    subst hA
    rw [if_neg (by omega)]
    refine ⟨b, off + k * 6, ?_, hb, fun i hi => ?_⟩
    · simp only [Option.map_some]
      unfold Addr.add
      split
      · rename_i h0; rw [h0]; rfl
      · rfl
    · have := hcc (k + i) (by omega)
      rw [show (es.drop k).getD i default = es.getD (k + i) default by simp [List.getD]]
      rwa [show off + k * 6 + i * 6 = off + (k + i) * 6 by omega]⟩

theorem rise_drop (es : List Evt) (h : riseB es = true) : ∀ k, riseB (es.drop k) = true
  | 0 => h
  | k + 1 => by
    by_cases hk : k + 1 < es.length
    · have := rise_drop es h k
      rw [riseB_drop es k hk, Bool.and_eq_true] at this
      exact this.2
    · rw [List.drop_eq_nil_of_le (by omega)]
      rfl
theorem rise_front : ∀ (es : List Evt) (k : Nat), riseB es = true → riseB (es.take k) = true
  | [], k, _ => by simp [riseB]
  | [a], 0, _ => rfl
  | [a], k + 1, _ => by simp [riseB]
  | a :: b :: r, 0, _ => rfl
  | a :: b :: r, 1, _ => by simp [riseB]
  | a :: b :: r, k + 2, h => by
    rw [riseB, Bool.and_eq_true] at h
    have := rise_front (b :: r) (k + 1) h.2
    simp only [List.take_succ_cons] at this ⊢
    rw [riseB, h.1, this]
    rfl
theorem rise_app : ∀ (xs : List Evt) (x : Evt) (ys : List Evt), riseB (xs ++ x :: x :: ys) = false
  | [], x, ys => by
    have : ltE x x = false := by
      cases h : ltE x x
      · rfl
      · exact absurd h (by rw [ltE_asym x x h]; decide)
    show riseB (x :: x :: ys) = false
    rw [riseB, this, Bool.false_and]
  | [a], x, ys => by
    have := rise_app [] x ys
    simp only [List.nil_append] at this
    show riseB (a :: x :: x :: ys) = false
    rw [riseB, this, Bool.and_false]
  | a :: b :: r, x, ys => by
    have := rise_app (b :: r) x ys
    simp only [List.cons_append] at this
    simp only [List.cons_append, riseB, this, Bool.and_false]
theorem rise_twice (es : List Evt) (k : Nat) (h : k < es.length) : riseB (es.take (k + 1) ++ es.drop k) = false := by
  rw [List.take_succ_eq_append_getElem h, List.drop_eq_getElem_cons h, List.append_assoc]
  exact rise_app _ _ _

section
variable {P : Program}
theorem step_append_want {w : World} {ops : Array Oper} {o : Oper} {a : Act} {K : Act → World → Prop} {Q : Exit → Act → World → Prop} {E : Prop} (hw : Region.wanted o (yielded ops a.tmps) = true) (s x : Operand) (t : TypeId)
    (ho : o.op = .call { callee := .builtin .append, args := #[s, x], argTypes := #[t, t] })
    (base : Nat) (e : TypeId) (i : TypeInfo) (z : Value) (size bytes : Nat) (ht : P.underlying t = some (.slice e)) (hi : P.info? e = some i) (hz : i.zero = some z)
    (hsize : i.size = size) (hby : i.bytes = bytes) (hzs : z.cells.size = size) (hsz : 0 < size)
    (v : Value) (n : Nat) (xs : List Value) (hs : a.eval s = v) (hown : w.ownsRow base e size v n xs)
    (B : Nat) (A : Option Addr) (m c : Nat) (news : List Value) (hx : a.eval x = .slice A m c) (hr : Reads w B size A m news) (h1 : ∀ u ∈ news, u.oneCell' = true)
    (h63 : n + m ≤ maxLen) (hbytes : (n + m) * bytes ≤ 140737488355328) (hbase : base ≤ w.heap.size)
    (h : ∀ v' w', w'.ownsRow base e size v' (n + m) (xs ++ news) → w.grownBy w' v.ownBlock → (v'.ownBlock = v.ownBlock ∨ v'.ownBlock = some w.heap.size) → K (a.put o.dst v') w') :
    if Region.wanted o (yielded ops a.tmps) = true then Oper.wp P o a w K Q else E := by
  rw [if_pos hw]
  exact wp_append_any w s x t ho base e i z size bytes ht hi hz hsize hby hzs hsz v n xs hs hown B A m c news hx hr h1 h63 hbytes hbase h
end

end Go.Proofs.Ytkfjemgelmbcfaa

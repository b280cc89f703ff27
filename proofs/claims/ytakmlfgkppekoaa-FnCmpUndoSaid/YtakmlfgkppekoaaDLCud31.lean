/-
  What slices.Backward's iterator yields, in one sentence: the places and the events of a row, the last one first; for every loop over it that keeps the row and the iterator's box.
-/
import Derived.Deep.RegionHeld3
import Derived.LoopIn
import Derived.LoopNIn
import Derived.OrdersIn
import Derived.OwnWalkIn
import Derived.RangeFuncBound
import Derived.RangeFuncBox
import Derived.RangeFuncCalls
import Derived.RangeFuncLeaves
import Derived.RangeFuncNested
import Derived.Shelf.Abstract
import Derived.Shelf.RegionOpen
import Derived.TacticsInMore
import Derived.Test.YtakmlfgkppekoaaDLCud01
import Derived.Test.YtakmlfgkppekoaaDLCud05
import Derived.WalkKit
namespace Go.Proofs.Ytakmlfgkppekoaa
set_option maxRecDepth 100000
open Go.RowKit Go.Shelf
attribute [local go_sem] Oper.semAt_some
/-- What comes: place and event, from behind. -/
def bwdL (es : List Evt) (k : Nat) : List (Int × Evt) := (List.range k).map fun j => (((es.length - 1 - j : Nat) : Int), es.getD (es.length - 1 - j) default)
theorem bwdL_succ (es : List Evt) (k : Nat) : bwdL es (k + 1) = bwdL es k ++ [(((es.length - 1 - k : Nat) : Int), es.getD (es.length - 1 - k) default)] := by
  unfold bwdL; rw [List.range_succ, List.map_append]
  rfl
theorem bwdL_len (es : List Evt) (k : Nat) : (bwdL es k).length = k := by simp [bwdL]
theorem bwdL_evs (es : List Evt) : (bwdL es es.length).map Prod.snd = es.reverse := by
  unfold bwdL; rw [List.map_map]; refine List.ext_getElem (by simp) (fun i h1 h2 => ?_); simp only [List.length_map, List.length_range] at h1
  have h3 : es.length - 1 - i < es.length := by omega
  simp [h3]
theorem bwdL_take (es : List Evt) : ∀ (k n : Nat), k ≤ n → (bwdL es n).take k = bwdL es k := fun k n h => by
  unfold bwdL; rw [← List.map_take, List.take_range, Nat.min_eq_left h]
/-- What a round keeps: what lay ahead of the call, and the iterator's box. -/
def KpB (n0 Bs : Nat) (W W' : World) : Prop := Below n0 W W' ∧ W'.heap[Bs]? = W.heap[Bs]?
theorem KpB.t {n0 Bs : Nat} {A B C : World} (h : KpB n0 Bs A B) (k : KpB n0 Bs B C) : KpB n0 Bs A C := ⟨h.1.trans k.1, k.2.trans h.2⟩
theorem KpB.b {n0 Bs : Nat} {w : World} (hn : n0 ≤ w.heap.size) (hB : Bs < w.heap.size) (W : World) (l : Nat) (o o' : Obj) (hl : w.heap.size ≤ l) (h : W.heap[l]? = some o) (h1 : o.isCells = false) (h2 : o.isWalk = false) : KpB n0 Bs W (W.putObj l o') :=
  ⟨belowK_b (w := w) hn W l o o' hl h h1 h2, World.putObj_heap_other (by omega)⟩
set_option maxHeartbeats 8000000 in
theorem bwd1_in (F : Fence) (n : Nat) (h7 : F.fn 113) (hro : F.round = none) (hn : 1 ≤ n) (l n0 Bs : Nat) (A : Option Addr) (len cap : Nat) (es : List Evt) (w0 : World) (hE : Evs w0 A len es) (hlen : len ≤ 1048576)
    (hA0 : 0 < len → ∀ b off, A = some ⟨b, off, none⟩ → b < n0) (_hn0 : n0 ≤ w0.heap.size) (hbs : Bs < w0.heap.size) (hBs : w0.heap[Bs]? = some (.cells #[.slice A len cap] 31 (0, 0))) (J Jx : List (Int × Evt) → World → Prop)
    (hY : ∀ pre x W, J pre W → pre.length < len → YieldAt F (n - 1) Try.prog l #[.int .i64 x.1, x.2.v] W fun e W' =>
      (e = .returned (.bool true) ∧ J (pre ++ [x]) W' ∧ KpB n0 Bs W W') ∨ (e = .returned (.bool false) ∧ Jx (pre ++ [x]) W'))
    (W : World) (hW : KpB n0 Bs w0 W) (hWs : w0.heap.size ≤ W.heap.size) (h0 : J [] W) :
    CallsIn F n Try.prog 113 #[.func (.yield l) #[] #[], .pointer (some ⟨Bs, 0, none⟩)] W fun e W' => (∃ v, e = .returned v) ∧ ((∃ ys, ys = bwdL es len ∧ J ys W') ∨ (∃ pre, (∃ k, k ≤ len ∧ pre = bwdL es k) ∧ Jx pre W')) := by
  have HY := Lib.hid hY
  have HE := Lib.hid hE
  have BX := Lib.hid hBs
  have HA := Lib.hid hA0
  have c1 := (show Blk W Bs 31 #[.slice A len cap] from hW.2.trans hBs).cell (j := 0) rfl
  have hs1 : Bs < W.heap.size := by omega
  clear hY hE hBs hA0; refine callsIn_of_wp Try.func113 rfl h7 ?_ hro; simp only [Try.ntmps113, List.size_toArray, List.length_cons, List.length_nil, Nat.reduceAdd, Nat.reduceSub, Array.replicate_succ, Array.replicate_zero, List.push_toArray, List.append_toArray, List.nil_append, List.cons_append]
  have i1 : IntKind.i64.wrap ((len : Int) - 1) = (len : Int) - 1 := IntWalk.i64_in _ (by omega)
  gi_wp2
  clear c1 hs1
  gi_loopw [3] (fun i wr => ∃ (k : Nat) (z : Int), k ≤ len ∧ i = .int .i64 z ∧ z = (len : Int) - 1 - k ∧ J (bwdL es k) wr ∧ KpB n0 Bs w0 wr ∧ w0.heap.size ≤ wr.heap.size)
    (fun i _ => (intOf i + 1).toNat)
  case atStart => exact ⟨0, _, Nat.zero_le _, rfl, by omega, h0, hW, hWs⟩
  case round =>
    obtain ⟨k, z, hk, rfl, hz, hJs, hkp, hsz⟩ := hrel
    have HJ := Lib.hid hJs
    have KP := Lib.hid hkp
    clear hJs hkp
    by_cases hlt : k < len
    · obtain ⟨b, off, hA, hb, hc⟩ := HE.out.2 (by omega)
      have hbn := HA.out (by omega) b off hA
      subst hA
      have a0 := hc (len - 1 - k) (by omega)
      have SU := Lib.hid (bwdL_succ es k)
      rw [HE.out.1] at SU
      have LEN := Lib.hid (show (bwdL es k).length < len by rw [bwdL_len]; exact hlt)
      have kc := KP.out.1
      obtain ⟨x, hx⟩ : ∃ x, x = es.getD (len - 1 - k) default := ⟨_, rfl⟩; rw [← hx] at a0 SU; clear hx hc; obtain ⟨q, hq⟩ : ∃ q, q = len - 1 - k := ⟨_, rfl⟩; rw [← hq] at a0 SU
      obtain rfl : z = (q : Int) := by omega
      obtain ⟨et, eto, efr, esq, ekd, edt⟩ := x; obtain ⟨fn, tmps, assign, body, hy, hR⟩ := HY.out _ ((q : Int), (⟨et, eto, efr, esq, ekd, edt⟩ : Evt)) wr HJ.out LEN.out; unfold Evt.v at hy; dsimp only at hy; obtain ⟨p0, p1, p2, p3, p4, p5⟩ := a0; dsimp only at p0 p1 p2 p3 p4 p5
      replace p0 := (kc.cell (p := ⟨b, off + q * 6, none⟩) hbn).trans p0
      replace p1 := (kc.cell (p := ⟨b, off + q * 6 + 1, none⟩) hbn).trans p1
      replace p2 := (kc.cell (p := ⟨b, off + q * 6 + 2, none⟩) hbn).trans p2
      replace p3 := (kc.cell (p := ⟨b, off + q * 6 + 3, none⟩) hbn).trans p3
      replace p4 := (kc.cell (p := ⟨b, off + q * 6 + 4, none⟩) hbn).trans p4
      replace p5 := (kc.cell (p := ⟨b, off + q * 6 + 5, none⟩) hbn).trans p5
      have c1 := (show Blk wr Bs 31 #[.slice (some ⟨b, off, none⟩) len cap] from KP.out.2.trans BX.out).cell (j := 0) rfl
      have hsr : Bs < wr.heap.size := by omega
      have hbr : b < wr.heap.size := by omega
      have i5 : IntKind.i64.wrap ((q : Int) - 1) = (q : Int) - 1 := IntWalk.i64_in _ (by omega)
      have i6 : (q : Int) < len := by omega
      have HQ := Lib.hid (And.intro hz hq)
      clear kc hz hq
      gi_wp2_with fail
      refine hR.mono ?_; rintro e W3 (⟨rfl, hJ3, hk3⟩ | ⟨rfl, hJx3⟩)
      · have hs3 := hk3.1.size
        gi_wp2
        go_roundw
        case rel => exact ⟨k + 1, (q : Int) - 1, by omega, rfl, by have := HQ.out; omega, by rw [SU.out]; exact hJ3, KP.out.t hk3, by omega⟩
        case measure => simp [intOf]
      · gi_wp2
        refine bodyPost_ret (results_none rfl _ _ _) rfl ?_
        exact ⟨⟨_, rfl⟩, .inr ⟨bwdL es (k + 1), ⟨k + 1, by omega, rfl⟩, by rw [SU.out]; exact hJx3⟩⟩
    · have hk2 : k = len := by omega
      obtain rfl : z = -1 := by omega
      gi_wp2
      refine bodyPost_end (results_none rfl _ _ _) rfl ?_
      exact ⟨⟨_, rfl⟩, .inl ⟨_, rfl, by rw [← hk2]; exact HJ.out⟩⟩
end Go.Proofs.Ytakmlfgkppekoaa

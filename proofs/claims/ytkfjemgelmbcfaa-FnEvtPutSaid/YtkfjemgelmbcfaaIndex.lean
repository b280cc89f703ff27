/-
  What slices.Index returns of events, in one sentence: the first place of an event in a list, or -1; for every list that lies in memory.
-/
import Derived.Test.YtkfjemgelmbcfaaAt
namespace Go.Proofs.Ytkfjemgelmbcfaa
set_option maxRecDepth 100000
open Go.RowKit

set_option maxHeartbeats 4000000 in
theorem index_any (A : Option Addr) (n cap : Nat) (es : List Evt) (e : Evt) (w : World) (hn : n ≤ 1000000000) (hE : Evs w A n es) :
    Calls Try.prog 81 #[.slice A n cap, e.v] w (AtPost e es w) := by
  have HE := Lib.hid hE
  have LE := Lib.hid hE.1
  have CL := Lib.hid (fun x W => eqB_comm e x ▸ eql_evt e x W)
  have gd := guard_evt
  clear hE
  generalize hee : e = e' at CL ⊢
  have HEE := Lib.hid hee
  clear hee
  obtain ⟨et, eto, efr, esq, ekd, edt⟩ := e'
  unfold Evt.v at CL ⊢
  dsimp only at CL ⊢
  go_enter Try.func81, Try.ntmps81
  go_wp2
  go_loopw [8] (fun i wr => AtRel e es n i ∧ Up w wr ∧ Box wr w.heap.size ⟨et, eto, efr, esq, ekd, edt⟩) (fun i _ => n - (intOf i).toNat)
  case atStart => exact ⟨⟨0, by omega, rfl, fun j hj => absurd hj (by omega)⟩, (Up.refl w).alloc _, Box.new w ⟨et, eto, efr, esq, ekd, edt⟩ _⟩
  case round =>
    obtain ⟨⟨k, hk, rfl, hr⟩, ur, bx⟩ := hrel
    have HR := Lib.hid hr
    have BX := Lib.hid bx
    have hsx := bx.lt
    clear hr bx
    by_cases hlt : k < n
    · obtain ⟨bb, off, hA, hbb, hc⟩ := HE.out.2 (by omega)
      subst hA
      have a0 := (hc k hlt).up ur hbb
      have hbb' : bb < wr.heap.size := by have := ur.size; omega
      clear hc
      have cl := CL.out (es.getD k default)
      generalize hxx : es.getD k default = x at a0 cl
      have HX := Lib.hid hxx
      clear hxx
      generalize hq : eqB x ⟨et, eto, efr, esq, ekd, edt⟩ = q at cl
      have HQ := Lib.hid hq
      clear hq
      obtain ⟨xt, xto, xfr, xsq, xkd, xdt⟩ := x
      unfold EvAt at a0
      dsimp only at a0 cl
      have i4 : (k : Int) < n := by omega
      obtain ⟨⟨e0, e1, e2, e3, e4, e5⟩, -⟩ := BX.out.mk6
      obtain ⟨p0, p1, p2, p3, p4, p5⟩ := a0
      go_wp2
      refine region_up (by kernel_rfl) (by kernel_rfl) ?_
      refine up_step rfl ?_
      apply Exists.intro
      refine ⟨fun w1 hw1 => ?_, ?_⟩
      · obtain ⟨hc, hf, hz⟩ := hw1.facts
        try simp at hz
        go_simp
        try rfl
      go_simp
      refine up_step rfl ?_
      apply Exists.intro
      refine ⟨fun w1 hw1 => ?_, ?_⟩
      · go_simp
        try rfl
      go_simp
      refine up_step rfl ?_
      apply Exists.intro
      refine ⟨fun w1 hw1 => ?_, ?_⟩
      · go_simp
        try rfl
      go_simp
      refine up_step rfl ?_
      apply Exists.intro
      refine ⟨fun w1 hw1 => ?_, ?_⟩
      · go_simp
        try rfl
      go_simp
      refine up_step rfl ?_
      apply Exists.intro
      refine ⟨fun w1 hw1 => ?_, ?_⟩
      · obtain ⟨hc, hf, hz⟩ := hw1.facts
        try simp at hz
        go_simp
        try rfl
      go_simp
      refine up_step rfl ?_
      apply Exists.intro
      refine ⟨fun w1 hw1 => ?_, ?_⟩
      · go_simp
        try rfl
      go_simp
      refine wpQuiet_nil ?_
      intro wA uA
      clear i4 cl p0 p1 p2 p3 p4 p5 e0 e1 e2 e3 e4 e5
      cases q
      · go_wp2
        go_roundw
        case rel => exact ⟨⟨k + 1, by omega, by go_num, fun j hj => (by
            rcases Nat.lt_or_ge j k with h | h
            · exact HR.out j h
            · obtain rfl : j = k := by omega
              rw [HX.out, HEE.out]
              exact HQ.out)⟩, ur.trans uA, BX.out.up uA⟩
        case measure => simp [intOf]; omega
      · go_wp2
        go_ret
        have hat : IsAt e es (k : Int) := .inl ⟨k, rfl, by rw [LE.out]; exact hlt, by rw [HX.out, HEE.out]; exact HQ.out, HR.out⟩
        rw [HEE.out] at hat
        exact ⟨_, rfl, hat, ur.trans uA⟩
    · go_wp2
      go_ret
      have hat : IsAt e es (-1) := .inr ⟨rfl, fun j hj => HR.out j (by have := LE.out; omega)⟩
      rw [HEE.out] at hat
      exact ⟨_, rfl, hat, ur⟩

end Go.Proofs.Ytkfjemgelmbcfaa

/-
  What a drawer of a model alone gives, in one sentence: some model in memory, over new blocks.
  What DrawCmbNew returns, in one sentence: some model in memory, over new blocks; for every code.
  What markEvtEvtS and heldEvtEvtS do, in one sentence: the one lays numbers in a row into a list of its own, the other finds them there; for every list that lies in memory.
  What marks do to a list in a block of the call's own, in one sentence: they are laid there and held; for every such list.
  What the laying of marks keeps, in one sentence: only cells that hold numbers are written, only in a stretch of blocks, and they hold numbers again; no condition is made.
  The first rule of a kind and where it stands, in one sentence: defined over lists; no condition is made.
  What the two EvtRise return, in one sentence: whether each event is less than the next one; for every list that lies in memory.
  What impl.MdlOk returns, in one sentence: the bool that the bounds give; for every model that lies in memory.
  Component states as values, in one sentence: three numbers, and the bounds that make one valid; no condition is made.
  What a component does, in one sentence: its new state and what it sends, as lists and numbers; no condition is made.
  What toMdlModel returns, in one sentence: the same model over new blocks; for every model that lies in memory and was counted.
  Slices of structs of numbers, by their width, in one sentence: rows of cells, what marks lay there, what is kept; no condition is made.
  Sequential simulators in memory, in one sentence: lists of component states and of records, and when two are the same; for all that lie in memory.
-/
import Derived.Test.YtklldniapombiaaDLCbn01
import Derived.Test.YtklldniapombiaaDLCbn02
import Derived.Test.YtklldniapombiaaDLCbn03
import Derived.Test.YtklldniapombiaaDLCbn04
import Derived.Test.YtklldniapombiaaDLCbn06
import Derived.Test.YtklldniapombiaaDLCbn08
import Derived.Test.YtklldniapombiaaDLCbn12
namespace Go.Proofs.Ytklldniapombiaa
set_option maxRecDepth 100000
open Go.RowKit
/-- What it gives. -/
def DrawnMd (w : World) (x : Ending) (w' : World) : Prop :=
  ∃ (A : Option Addr) (n c : Nat) (B : Option Addr) (k d : Nat) (m : Mdl), x = .returned (.agg #[.slice A n c, .slice B k d, .int .i64 m.til]) ∧ MdlV w' A n B k m ∧ (n ≤ 32 ∧ n ≤ c ∧ c ≤ 9223372036854775807) ∧ Up w w'
end Go.Proofs.Ytklldniapombiaa

namespace Go.Proofs.Ytklldniapombiaa
set_option maxRecDepth 100000
open Go.RowKit
set_option maxHeartbeats 8000000 in
theorem drawCbn_any (A : Option Addr) (n cap : Nat) (w : World) (hc : n ≤ cap) (hmax : cap ≤ 9223372036854775807) (hB : Bys w A n w.heap.size) :
    Calls Try.prog 42 #[.slice A n cap] w (DrawnMd w) := by
  have HB := Lib.hid hB
  clear hB
  go_enter Try.func42, Try.ntmps42
  go_wp2_with fail
  have U0 := Lib.hid ((Up.refl w).alloc (.cells #[.slice none 0 0, .slice none 0 0, .int .i64 0] 36))
  have R2 := Lib.hid (Blk.new w #[.slice none 0 0, .slice none 0 0, .int .i64 0] 36)
  generalize hW0 : w.alloc (.cells #[.slice none 0 0, .slice none 0 0, .int .i64 0] 36) = W0 at *
  have hs0 : W0.heap.size = w.heap.size + 1 := by rw [← hW0]; simp
  have HB0 : Bys W0 A n W0.heap.size := fun h0 => by
    obtain ⟨b, off, hA, hb, hcc⟩ := HB.out.keep (fun b o hb => U0.out.cells b o hb) h0
    exact ⟨b, off, hA, by omega, hcc⟩
  clear hW0; refine (open_any A n cap _ hc hmax HB0).mono ?_; rintro x wO ⟨g, rfl, hg, r1, u1⟩
  have hgO := r1.lt
  have R1 := Lib.hid r1
  have U1 := Lib.hid (U0.out.trans u1)
  have R2 := Lib.hid (R2.out.up u1)
  have hOs : W0.heap.size ≤ wO.heap.size := u1.size
  clear u1 r1 HB0 U0 HB
  go_wp2_with fail
  refine (model_any g 0 9 _ ⟨by omega, by omega⟩ (by omega) R1.out).mono ?_; rintro x w2 ⟨A, n, c, B, k, d, m, rfl, MV, ⟨hn, hnc, hcm⟩, _, _, _, r2, m2⟩
  have M2 := Lib.hid MV
  have R2 := Lib.hid (R2.out.mv m2 (by omega))
  have hs2 : wO.heap.size ≤ w2.heap.size := m2.size
  have UM := Lib.hid (show Up w w2 from m2.up U1.out (by omega))
  have SM := Lib.hid (Sml.of_up (lo := wO.heap.size) (Up.refl w2))
  clear MV m2 r2 R1; obtain ⟨p20, p21, p22⟩ := And.intro (R2.out.cell (j := 0) rfl) (And.intro (R2.out.cell (j := 1) rfl) (R2.out.cell (j := 2) rfl))
  have f2 := R2.out.frozen
  go_wp2_with fail
  have Q2 := Lib.hid (((R2.out.set 0 (.slice A n c)).set 1 (.slice B k d)).set 2 (.int .i64 m.til))
  have SM := Lib.hid (((SM.out.set (b := w.heap.size) (o := 0) (u := .slice A n c) (by omega)).set (b := w.heap.size) (o := 1) (u := .slice B k d) (by omega)).set (b := w.heap.size) (o := 2) (u := .int .i64 m.til) (by omega))
  have UM := Lib.hid (((UM.out.setCell (p := ⟨w.heap.size, 0, none⟩) (Nat.le_refl _) (.slice A n c)).setCell (p := ⟨w.heap.size, 1, none⟩) (Nat.le_refl _) (.slice B k d)).setCell (p := ⟨w.heap.size, 2, none⟩) (Nat.le_refl _) (.int .i64 m.til))
  have k0 := Q2.out.cell (j := 0) rfl
  have k1 := Q2.out.cell (j := 1) rfl
  have k2 := Q2.out.cell (j := 2) rfl
  clear p20 p21 p22 f2
  exact bodyPost_ret (v := .agg #[.slice A n c, .slice B k d, .int .i64 m.til]) (by simp [results, Try.results42, go_sem, k0, k1, k2]) rfl
    ⟨A, n, c, B, k, d, m, rfl, M2.out _ SM.out, ⟨hn, hnc, hcm⟩, UM.out⟩
end Go.Proofs.Ytklldniapombiaa

namespace Go.Proofs.Ytklldniapombiaa
set_option maxRecDepth 100000
open Go.RowKit
def markAt (i : Nat) : Evt := ⟨1 + 6 * i, 1 + 6 * i + 1, 1 + 6 * i + 1 + 1, 1 + 6 * i + 1 + 1 + 1, 1 + 6 * i + 1 + 1 + 1 + 1, 1 + 6 * i + 1 + 1 + 1 + 1 + 1⟩
def marks (n : Nat) : List Evt := (List.range n).map markAt
end Go.Proofs.Ytklldniapombiaa

namespace Go.Proofs.Ytklldniapombiaa
set_option maxRecDepth 100000
open Go.RowKit
theorem own_own {w : World} {base q c : Nat} {A : Option Addr} {fs : List Evt} (h : w.ownsRow base 74 6 (.slice A q c) q (flat fs)) (hq : 0 < q) : ∃ g, A = some ⟨g, 0, none⟩ ∧ base ≤ g ∧ Own w g q fs := by
  have hl : fs.length = q := by have := h.1; rw [flat_len] at this; omega
  have hE := own_evs h
  rcases h.2 with ⟨_, h0⟩ | ⟨g, cap, cur, hv, hb, hh, _⟩
  · omega
  · injection hv with hA _ _
    subst hA; obtain ⟨b, off, hA, hlt, hc⟩ := hE.2 hq
    injection hA with hA
    injection hA with h1 h2
    subst h1 h2
    exact ⟨g, rfl, hb, hl, hlt, fun i hi => by have := hc i hi; rwa [Nat.zero_add] at this, fun j hj => by unfold World.frozen?; rw [hh]; simp⟩
end Go.Proofs.Ytklldniapombiaa

namespace Go.Proofs.Ytklldniapombiaa
set_option maxRecDepth 100000
open Go.RowKit
section
variable {lo hi : Nat}
/-- A cell that holds a number and may be written. -/
def IntC (w : World) (b o : Nat) : Prop := (∃ z, w.cell? ⟨b, o, none⟩ = some (.int .i64 z)) ∧ w.frozen? ⟨b, o, none⟩ = false
end
end Go.Proofs.Ytklldniapombiaa

namespace Go.Proofs.Ytklldniapombiaa
set_option maxRecDepth 100000
open Go.RowKit
/-- The first rule of a kind. -/
def ruleOf (kd : Int) : List Rule → Option Rule
  | [] => none
  | r :: rs => if r.kd = kd then some r else ruleOf kd rs
end Go.Proofs.Ytklldniapombiaa

namespace Go.Proofs.Ytklldniapombiaa
set_option maxRecDepth 100000
open Go.RowKit
set_option maxHeartbeats 1000000 in
theorem ascE_any (A : Option Addr) (n cap : Nat) (es : List Evt) (w : World) (hn : n ≤ 1000000000) (hE : Evs w A n es) :
    Calls Try.prog 166 #[.func (.func 146) #[] #[], .slice A n cap] w fun x w' => x = .returned (.bool (riseB es)) ∧ Up w w' := by
  have H0 := Lib.hid (show riseB (es.drop 0) = riseB es from rfl)
  have ST := Lib.hid (riseB_drop es)
  have EN := Lib.hid (riseB_end es)
  have HE := Lib.hid hE
  have LE := Lib.hid hE.1
  have CL := Lib.hid (fun a b W => cmpE_any a b W)
  clear hE
  go_enter Try.func166, Try.ntmps166
  go_wp2
  go_loopw [5] (fun i wr => (∃ j : Nat, (j = 0 ∨ j + 1 ≤ n) ∧ i = .int .i64 ((j : Int) + 1) ∧ riseB (es.drop j) = riseB es) ∧ Up w wr) (fun i _ => n + 1 - (intOf i).toNat)
  case atStart => exact ⟨⟨0, .inl rfl, rfl, H0.out⟩, Up.refl _⟩
  case round =>
    obtain ⟨⟨j, hj, rfl, hr⟩, ur⟩ := hrel
    have HR := Lib.hid hr
    clear hr
    by_cases hlt : j + 1 < n
    · obtain ⟨b, off, hA, hb, hc⟩ := HE.out.2 (by omega)
      subst hA
      have a0 := (hc j (by omega)).up ur hb
      have a1 := (hc (j + 1) hlt).up ur hb
      have hb' : b < wr.heap.size := by have := ur.size; omega
      clear hc
      have S := ST.out j (by rw [LE.out]; exact hlt)
      have cl := CL.out (es.getD j default) (es.getD (j + 1) default)
      generalize es.getD j default = p at a0 S cl
      generalize es.getD (j + 1) default = q at a1 S cl
      have S' := Lib.hid S
      clear S
      generalize hz : cmpE p q = z at cl
      have HZ := Lib.hid (show ltE p q = decide (z < 0) by unfold ltE; rw [hz])
      clear hz
      generalize ltE p q = r at S' HZ
      obtain ⟨pt, pto, pfr, psq, pkd, pdt⟩ := p; obtain ⟨qt, qto, qfr, qsq, qkd, qdt⟩ := q; unfold EvAt at a0 a1; unfold Evt.v at cl; dsimp only at a0 a1 cl; obtain ⟨p0, p1, p2, p3, p4, p5⟩ := a0; obtain ⟨q0, q1, q2, q3, q4, q5⟩ := a1
      have C := Lib.hid cl
      clear cl
      have i0 : IntKind.i64.wrap (j : Int) = j := IntWalk.i64_in _ (by omega)
      have i1 : (0 : Int) ≤ (j : Int) + 1 := by omega
      have i2 : ((j : Int) + 1).toNat = j + 1 := by omega
      have i3 : (j : Int) + 1 < n := by omega
      have i4 : (j : Int) < n := by omega
      go_wp2
      by_cases hz : z < 0
      · have hr : r = true := by rw [HZ.out]; exact decide_eq_true hz
        have HR2 := Lib.hid hr
        clear hr; refine region_up (by kernel_rfl) (by kernel_rfl) ?_; refine up_step rfl ?_; apply Exists.intro; refine ⟨fun w1 hw1 => ?_, ?_⟩
        · go_simp
          try rfl
        go_simp; refine up_step rfl ?_; apply Exists.intro; refine ⟨fun w1 hw1 => ?_, ?_⟩
        · go_simp
          try rfl
        go_simp; refine up_step rfl ?_; apply Exists.intro; refine ⟨fun w1 hw1 => ?_, ?_⟩
        · go_simp
          try rfl
        go_simp; refine up_step rfl ?_; apply Exists.intro; refine ⟨fun w1 hw1 => ?_, ?_⟩
        · go_simp
          try rfl
        go_simp; refine up_step rfl ?_; apply Exists.intro; refine ⟨fun w1 hw1 => ?_, ?_⟩
        · go_simp
          try rfl
        go_simp; refine up_step rfl ?_; apply Exists.intro; refine ⟨fun w1 hw1 => ?_, ?_⟩
        · obtain ⟨hc, hf, hz⟩ := hw1.facts
          try simp at hz
          go_simp
          try rfl
        go_simp; refine up_step rfl ?_; apply Exists.intro; refine ⟨fun w1 hw1 => ?_, ?_⟩
        · go_simp
          try rfl
        go_simp; refine up_step rfl ?_; apply Exists.intro; refine ⟨fun w1 hw1 => ?_, ?_⟩
        · go_simp
          try rfl
        go_simp; refine up_step rfl ?_; apply Exists.intro; refine ⟨fun w1 hw1 => ?_, ?_⟩
        · go_simp
          try rfl
        go_simp; refine up_step rfl ?_; apply Exists.intro; refine ⟨fun w1 hw1 => ?_, ?_⟩
        · obtain ⟨hc, hf, hz⟩ := hw1.facts
          try simp at hz
          go_simp
          try rfl
        go_simp; refine up_step rfl ?_; apply Exists.intro; refine ⟨fun w1 hw1 => ?_, ?_⟩
        · go_simp
          exact up_call hw1 (C.out _)
        go_simp; refine up_step rfl ?_; apply Exists.intro; refine ⟨fun w1 hw1 => ?_, ?_⟩
        · go_simp
          try rfl
        go_simp; refine wpQuiet_nil ?_; intro wA uA; clear i0 i1 i2 i3 i4 p0 p1 p2 p3 p4 p5 q0 q1 q2 q3 q4 q5 C; go_wp2
        go_roundw
        case rel => exact ⟨⟨j + 1, .inr (by omega), by go_num, by rw [← HR.out, S'.out, HR2.out]; rfl⟩, ur.trans uA⟩
        case measure => simp [intOf]; omega
      · have hz0 : 0 ≤ z := by omega
        have hr : r = false := by rw [HZ.out]; exact decide_eq_false hz
        have HR2 := Lib.hid hr
        clear hr; refine region_up (by kernel_rfl) (by kernel_rfl) ?_; refine up_step rfl ?_; apply Exists.intro; refine ⟨fun w1 hw1 => ?_, ?_⟩
        · go_simp
          try rfl
        go_simp; refine up_step rfl ?_; apply Exists.intro; refine ⟨fun w1 hw1 => ?_, ?_⟩
        · go_simp
          try rfl
        go_simp; refine up_step rfl ?_; apply Exists.intro; refine ⟨fun w1 hw1 => ?_, ?_⟩
        · go_simp
          try rfl
        go_simp; refine up_step rfl ?_; apply Exists.intro; refine ⟨fun w1 hw1 => ?_, ?_⟩
        · go_simp
          try rfl
        go_simp; refine up_step rfl ?_; apply Exists.intro; refine ⟨fun w1 hw1 => ?_, ?_⟩
        · go_simp
          try rfl
        go_simp; refine up_step rfl ?_; apply Exists.intro; refine ⟨fun w1 hw1 => ?_, ?_⟩
        · obtain ⟨hc, hf, hz⟩ := hw1.facts
          try simp at hz
          go_simp
          try rfl
        go_simp; refine up_step rfl ?_; apply Exists.intro; refine ⟨fun w1 hw1 => ?_, ?_⟩
        · go_simp
          try rfl
        go_simp; refine up_step rfl ?_; apply Exists.intro; refine ⟨fun w1 hw1 => ?_, ?_⟩
        · go_simp
          try rfl
        go_simp; refine up_step rfl ?_; apply Exists.intro; refine ⟨fun w1 hw1 => ?_, ?_⟩
        · go_simp
          try rfl
        go_simp; refine up_step rfl ?_; apply Exists.intro; refine ⟨fun w1 hw1 => ?_, ?_⟩
        · obtain ⟨hc, hf, hz⟩ := hw1.facts
          try simp at hz
          go_simp
          try rfl
        go_simp; refine up_step rfl ?_; apply Exists.intro; refine ⟨fun w1 hw1 => ?_, ?_⟩
        · go_simp
          exact up_call hw1 (C.out _)
        go_simp; refine up_step rfl ?_; apply Exists.intro; refine ⟨fun w1 hw1 => ?_, ?_⟩
        · go_simp
          try rfl
        go_simp; refine wpQuiet_nil ?_; intro wA uA; clear i0 i1 i2 i3 i4 p0 p1 p2 p3 p4 p5 q0 q1 q2 q3 q4 q5 C; go_wp2; go_ret
        exact ⟨ret_bool (by rw [← HR.out, S'.out, HR2.out]; rfl), ur.trans uA⟩
    · have e := EN.out j (by rw [LE.out]; omega)
      have E := Lib.hid e
      clear e; go_wp2; go_ret
      exact ⟨ret_bool (by rw [← HR.out, E.out]), ur⟩
theorem implRise_any (A : Option Addr) (n cap : Nat) (es : List Evt) (w : World) (hn : n ≤ 1000000000) (hE : Evs w A n es) :
    Calls Try.prog 129 #[.slice A n cap] w fun x w' => x = .returned (.bool (riseB es)) ∧ Up w w' := by
  have C := Lib.hid (ascE_any A n cap es w hn hE)
  generalize riseB es = r at C ⊢
  clear hE
  go_enter Try.func129, Try.ntmps129
  go_wp2_with fail
  refine C.out.mono ?_; rintro x w1 ⟨rfl, u⟩; go_wp2; go_ret
  exact ⟨rfl, u⟩
set_option maxHeartbeats 1000000 in
theorem specRise_any (A : Option Addr) (n cap : Nat) (es : List Evt) (w : World) (hn : n ≤ 1000000000) (hE : Evs w A n es) :
    Calls Try.prog 70 #[.slice A n cap] w fun x w' => x = .returned (.bool (riseB es)) ∧ Up w w' := by
  have H0 := Lib.hid (show riseB (es.drop 0) = riseB es from rfl)
  have ST := Lib.hid (riseB_drop es)
  have EN := Lib.hid (riseB_end es)
  have HE := Lib.hid hE
  have LE := Lib.hid hE.1
  have CL := Lib.hid (fun a b W => specLess_any a b W)
  clear hE
  go_enter Try.func70, Try.ntmps70
  go_wp2
  go_loopw [3] (fun i wr => (∃ j : Nat, (j = 0 ∨ j + 1 ≤ n) ∧ i = .int .i64 ((j : Int) + 1) ∧ riseB (es.drop j) = riseB es) ∧ Up w wr) (fun i _ => n + 1 - (intOf i).toNat)
  case atStart => exact ⟨⟨0, .inl rfl, rfl, H0.out⟩, Up.refl _⟩
  case round =>
    obtain ⟨⟨j, hj, rfl, hr⟩, ur⟩ := hrel
    have HR := Lib.hid hr
    clear hr
    by_cases hlt : j + 1 < n
    · obtain ⟨b, off, hA, hb, hc⟩ := HE.out.2 (by omega)
      subst hA
      have a0 := (hc j (by omega)).up ur hb
      have a1 := (hc (j + 1) hlt).up ur hb
      have hb' : b < wr.heap.size := by have := ur.size; omega
      clear hc
      have S := ST.out j (by rw [LE.out]; exact hlt)
      have cl := CL.out (es.getD j default) (es.getD (j + 1) default)
      generalize es.getD j default = p at a0 S cl
      generalize es.getD (j + 1) default = q at a1 S cl
      have S' := Lib.hid S
      clear S
      generalize ltE p q = r at S' cl
      obtain ⟨pt, pto, pfr, psq, pkd, pdt⟩ := p; obtain ⟨qt, qto, qfr, qsq, qkd, qdt⟩ := q; unfold EvAt at a0 a1; unfold Evt.v at cl; dsimp only at a0 a1 cl; obtain ⟨p0, p1, p2, p3, p4, p5⟩ := a0; obtain ⟨q0, q1, q2, q3, q4, q5⟩ := a1
      have C := Lib.hid cl
      clear cl
      have i0 : IntKind.i64.wrap (j : Int) = j := IntWalk.i64_in _ (by omega)
      have i1 : (0 : Int) ≤ (j : Int) + 1 := by omega
      have i2 : ((j : Int) + 1).toNat = j + 1 := by omega
      have i3 : (j : Int) + 1 < n := by omega
      have i4 : (j : Int) < n := by omega
      go_wp2; refine region_up (by kernel_rfl) (by kernel_rfl) ?_; refine up_step rfl ?_; apply Exists.intro; refine ⟨fun w1 hw1 => ?_, ?_⟩
      · go_simp
        try rfl
      go_simp; refine up_step rfl ?_; apply Exists.intro; refine ⟨fun w1 hw1 => ?_, ?_⟩
      · go_simp
        try rfl
      go_simp; refine up_step rfl ?_; apply Exists.intro; refine ⟨fun w1 hw1 => ?_, ?_⟩
      · go_simp
        try rfl
      go_simp; refine up_step rfl ?_; apply Exists.intro; refine ⟨fun w1 hw1 => ?_, ?_⟩
      · go_simp
        try rfl
      go_simp; refine up_step rfl ?_; apply Exists.intro; refine ⟨fun w1 hw1 => ?_, ?_⟩
      · obtain ⟨hc, hf, hz⟩ := hw1.facts
        try simp at hz
        go_simp
        try rfl
      go_simp; refine up_step rfl ?_; apply Exists.intro; refine ⟨fun w1 hw1 => ?_, ?_⟩
      · go_simp
        try rfl
      go_simp; refine up_step rfl ?_; apply Exists.intro; refine ⟨fun w1 hw1 => ?_, ?_⟩
      · go_simp
        try rfl
      go_simp; refine up_step rfl ?_; apply Exists.intro; refine ⟨fun w1 hw1 => ?_, ?_⟩
      · go_simp
        try rfl
      go_simp; refine up_step rfl ?_; apply Exists.intro; refine ⟨fun w1 hw1 => ?_, ?_⟩
      · obtain ⟨hc, hf, hz⟩ := hw1.facts
        try simp at hz
        go_simp
        try rfl
      go_simp; refine up_step rfl ?_; apply Exists.intro; refine ⟨fun w1 hw1 => ?_, ?_⟩
      · go_simp
        exact up_call hw1 (C.out _)
      go_simp; refine up_step rfl ?_; apply Exists.intro; refine ⟨fun w1 hw1 => ?_, ?_⟩
      · go_simp
        try rfl
      go_simp; refine wpQuiet_nil ?_; intro wA uA; clear i0 i1 i2 i3 i4 p0 p1 p2 p3 p4 p5 q0 q1 q2 q3 q4 q5 C
      cases r
      · go_wp2
        go_ret
        exact ⟨ret_bool (by rw [← HR.out, S'.out]; rfl), ur.trans uA⟩
      · go_wp2
        go_roundw
        case rel => exact ⟨⟨j + 1, .inr (by omega), by go_num, by rw [← HR.out, S'.out]; rfl⟩, ur.trans uA⟩
        case measure => simp [intOf]; omega
    · have e := EN.out j (by rw [LE.out]; omega)
      have E := Lib.hid e
      clear e; go_wp2; go_ret
      exact ⟨ret_bool (by rw [← HR.out, E.out]), ur⟩
end Go.Proofs.Ytklldniapombiaa

namespace Go.Proofs.Ytklldniapombiaa
set_option maxRecDepth 100000
open Go.RowKit
def startsB (es : List Evt) (til many : Int) : Bool := decide ((es.length : Int) ≤ 6) && riseB es && es.all (startB til many)
def mdlB (m : Mdl) : Bool := inB m.rules.length 1 4 && inB m.til 0 99 && startsB m.starts m.til m.rules.length && m.rules.all (rulesB m.rules.length (-1))
set_option maxHeartbeats 8000000 in
theorem implStarts_any (A : Option Addr) (n c : Nat) (B : Option Addr) (k d : Nat) (til : Int) (es : List Evt) (w : World) (hE : Evs w B k es) :
    Calls Try.prog 151 #[.agg #[.slice A n c, .slice B k d, .int .i64 til]] w fun x w' => x = .returned (.bool (startsB es til n)) ∧ Up w w' := by
  have RB := Lib.hid (show startsB es til n = (decide ((k : Int) ≤ 6) && riseB es && es.all (startB til n)) by rw [← hE.1]; rfl)
  generalize startsB es til n = res at RB ⊢
  have B0 := Lib.hid (Box3.new w (.slice A n c) (.slice B k d) (.int .i64 til) 36)
  by_cases h6 : (k : Int) ≤ 6
  · have R1 := Lib.hid (show res = (riseB es && es.all (startB til n)) by rw [RB.out, decide_eq_true h6, Bool.true_and])
    have j6 : ¬ (6 : Int) < k := by omega
    have RI := Lib.hid (fun W h => implRise_any B k d es W (by omega) h)
    have AD := Lib.hid (fun i h => all_drop (f := startB til n) (d := default) es i h)
    have AE := Lib.hid (fun i h => all_end (f := startB til n) es i h)
    have CL := Lib.hid (fun e W => implOk_any e n W)
    have H0 := Lib.hid (show (es.drop 0).all (startB til n) = es.all (startB til n) from rfl)
    have HE := Lib.hid hE
    have LE := Lib.hid hE.1
    generalize es.all (startB til n) = al at H0 R1
    generalize riseB es = r at RI R1
    clear RB hE
    go_enter Try.func151, Try.ntmps151
    go_wp2_with fail
    refine (RI.out _ (HE.out.up ((Up.refl _).alloc _))).mono ?_; rintro x w1 ⟨rfl, u1⟩
    have U1 := Lib.hid (((Up.refl w).alloc _).trans u1)
    have B1 := Lib.hid (B0.out.up u1)
    clear u1 RI B0
    cases r
    · go_wp2
      go_ret
      exact ⟨ret_bool (by rw [R1.out]; rfl), U1.out⟩
    · have q := B1.out
      obtain ⟨q0, q1, q2⟩ := And.intro q.c0 (And.intro q.c1 q.c2)
      have qlt := q.lt
      clear q; go_wp2; clear q0 q1 q2
      go_loopw [18] (fun i wr => (∃ p : Nat, p ≤ k ∧ i = .int .i64 p ∧ Hid ((es.drop p).all (startB til n) = al)) ∧ Up w1 wr) (fun i _ => k - (intOf i).toNat)
      case atStart => exact ⟨⟨0, by omega, rfl, H0⟩, Up.refl _⟩
      case round =>
        obtain ⟨⟨p, hp, rfl, HA⟩, ur⟩ := hrel
        by_cases hlt : p < k
        · obtain ⟨b, off, hA, hb, hc⟩ := HE.out.2 (by omega)
          subst hA
          have a0 := (hc p hlt).up (U1.out.trans ur) hb
          have hb' : b < wr.heap.size := by have := (U1.out.trans ur).size; omega
          clear hc
          have S := AD.out p (by rw [LE.out]; exact hlt)
          rw [HA.out] at S
          have cl := CL.out (es.getD p default)
          generalize es.getD p default = e at a0 S cl
          obtain ⟨et, eto, efr, esq, ekd, edt⟩ := e; rw [show startB til n ⟨et, eto, efr, esq, ekd, edt⟩ = (decide (efr = -1) && decide (et ≤ til) && okB ⟨et, eto, efr, esq, ekd, edt⟩ n) from rfl] at S
          generalize okB ⟨et, eto, efr, esq, ekd, edt⟩ n = s at S cl
          unfold EvAt at a0; unfold Evt.v at cl; dsimp only at a0 cl S; obtain ⟨p0, p1, p2, p3, p4, p5⟩ := a0
          have C := Lib.hid cl
          have S' := Lib.hid S
          have bx := B1.out.up ur
          obtain ⟨q0, q1, q2⟩ := And.intro bx.c0 (And.intro bx.c1 bx.c2)
          have qlt2 := bx.lt
          have qne : wr.heap.size ≠ w.heap.size := by omega
          have UR := Lib.hid (U1.out.trans ur)
          have UR1 := Lib.hid ur
          clear cl S ur bx
          have i4 : (p : Int) < k := by omega
          have i5 : IntKind.i64.wrap ((p : Int) + 1) = (p : Int) + 1 := IntWalk.i64_in _ (by omega)
          by_cases hf : efr = -1
          · subst hf
            by_cases ht : et ≤ til
            · have ht' : ¬ til < et := by omega
              go_wp2_with fail
              refine (C.out _).mono ?_; rintro x w2 ⟨rfl, u2⟩
              have U2 := Lib.hid ((UR1.out.alloc _).trans u2)
              clear u2
              cases s
              · go_wp2
                go_ret
                exact ⟨ret_bool (by rw [R1.out, show al = false by rw [S'.out]; simp]; rfl), U1.out.trans U2.out⟩
              · have AL := Lib.hid (show (es.drop (p + 1)).all (startB til n) = al by rw [S'.out, decide_eq_true ht]; simp)
                go_wp2
                go_roundw
                case rel => exact ⟨⟨p + 1, by omega, by first | rfl | go_num, AL⟩, U2.out⟩
                case measure => (simp [intOf]; try omega)
            · have ht' : til < et := by omega
              go_wp2; go_ret
              exact ⟨ret_bool (by rw [R1.out, show al = false by rw [S'.out, decide_eq_false (show ¬ et ≤ til by omega)]; simp]; rfl), UR.out.alloc _⟩
          · go_wp2
            go_ret
            exact ⟨ret_bool (by rw [R1.out, show al = false by rw [S'.out, decide_eq_false (show ¬ efr = -1 by omega)]; simp]; rfl), UR.out.alloc _⟩
        · have hal : al = true := HA.out.symm.trans (AE.out p (by rw [LE.out]; omega))
          have HW := Lib.hid (U1.out.trans ur)
          have i4 : ¬ (p : Int) < k := by omega
          clear ur; go_wp2; go_ret
          exact ⟨ret_bool (by rw [R1.out, hal]; rfl), HW.out⟩
  · have j6 : (6 : Int) < k := by omega
    have RB2 := Lib.hid (show res = false by rw [RB.out, decide_eq_false h6]; rfl)
    go_enter Try.func151, Try.ntmps151
    go_wp2; go_ret
    exact ⟨ret_bool RB2.out.symm, (Up.refl w).alloc _⟩
set_option maxHeartbeats 4000000 in
theorem implMdl_any (A : Option Addr) (n c : Nat) (B : Option Addr) (k d : Nat) (m : Mdl) (w : World) (hM : MdlV w A n B k m) :
    Calls Try.prog 101 #[.agg #[.slice A n c, .slice B k d, .int .i64 m.til]] w fun x w' => x = .returned (.bool (mdlB m)) ∧ Up w w' := by
  have HM := Lib.hid hM
  have RB := Lib.hid (show mdlB m = (inB n 1 4 && inB m.til 0 99 && startsB m.starts m.til n && m.rules.all (rulesB n (-1))) by rw [← hM.rules.1]; rfl)
  have B0 := Lib.hid (Box3.new w (.slice A n c) (.slice B k d) (.int .i64 m.til) 36)
  have SC := Lib.hid (fun W h => implStarts_any A n c B k d m.til m.starts W h)
  have RC := Lib.hid (fun h1 h2 W h => implRules_any A n c B k d m.til m.rules h1 h2 W h)
  generalize mdlB m = res at RB ⊢
  generalize startsB m.starts m.til n = st at RB SC
  generalize m.rules.all (rulesB n (-1)) = ru at RB RC
  generalize m.til = til at *
  clear hM
  by_cases hm : (1 : Int) ≤ n ∧ (n : Int) ≤ 4
  · have hin : inB n 1 4 = true := inB_iff.2 hm
    obtain ⟨hm1, hm2⟩ := hm
    by_cases ht : 0 ≤ til ∧ til ≤ 99
    · have hit : inB til 0 99 = true := inB_iff.2 ht
      have R1 := Lib.hid (show res = (st && ru) by rw [RB.out, hin, hit]; simp)
      clear RB ht
      go_enter Try.func101, Try.ntmps101
      go_wp2_with (go_at_call 73; refine (within_any _ _ _ _).mono ?_; rintro e w' ⟨rfl, rfl⟩)
      refine (SC.out _ (HM.out.starts.up ((Up.refl _).alloc _))).mono ?_; rintro x w1 ⟨rfl, u1⟩
      have U1 := Lib.hid (((Up.refl w).alloc _).trans u1)
      have q := B0.out.up u1
      obtain ⟨q0, q1, q2⟩ := And.intro q.c0 (And.intro q.c1 q.c2); clear u1 q
      cases st
      · go_wp2
        go_ret
        exact ⟨ret_bool (by rw [R1.out]; rfl), U1.out⟩
      · go_wp2_with fail
        refine (RC.out hm1 hm2 _ (HM.out.rules.up U1.out)).mono ?_; rintro x w2 ⟨rfl, u2⟩
        have U2 := Lib.hid (U1.out.trans u2)
        clear u2; go_wp2; go_ret
        exact ⟨ret_bool (by rw [R1.out]; simp), U2.out⟩
    · have hit : inB til 0 99 = false := inB_no.2 ht
      have R1 := Lib.hid (show res = false by rw [RB.out, hin, hit]; simp)
      clear RB ht
      go_enter Try.func101, Try.ntmps101
      go_wp2_with (go_at_call 73; refine (within_any _ _ _ _).mono ?_; rintro e w' ⟨rfl, rfl⟩)
      go_ret
      exact ⟨ret_bool R1.out.symm, (Up.refl _).alloc _⟩
  · have hin : inB n 1 4 = false := inB_no.2 hm
    have R1 := Lib.hid (show res = false by rw [RB.out, hin]; simp)
    clear RB hm
    go_enter Try.func101, Try.ntmps101
    go_wp2_with (go_at_call 73; refine (within_any _ _ _ _).mono ?_; rintro e w' ⟨rfl, rfl⟩)
    go_ret
    exact ⟨ret_bool R1.out.symm, (Up.refl _).alloc _⟩
end Go.Proofs.Ytklldniapombiaa

namespace Go.Proofs.Ytklldniapombiaa
set_option maxRecDepth 100000
open Go.RowKit
/-- A component's state: its three numbers. -/
structure Cst where
  s : Int
  sq : Int
  ct : Int
deriving DecidableEq
instance : Inhabited Cst := ⟨⟨0, 0, 0⟩⟩
def Cst.v (c : Cst) : Value := .agg #[.int .i64 c.s, .int .i64 c.sq, .int .i64 c.ct]
/-- What both CmpOk compute. -/
def cstB (c : Cst) : Bool := inB c.s 0 96 && inB c.sq 0 12 && decide (0 ≤ c.ct)
end Go.Proofs.Ytklldniapombiaa

namespace Go.Proofs.Ytklldniapombiaa
set_option maxRecDepth 100000
open Go.RowKit
theorem mdlB_til {m : Mdl} (hm : mdlB m = true) : 0 ≤ m.til ∧ m.til ≤ 99 := by
  simp only [mdlB, Bool.and_eq_true] at hm
  exact inB_iff.1 hm.1.1.2
section
variable {w w' : World} {b3 b4 b5 b6 b9 : Nat} {x y z : Value} {S q ct : Int} {e : Evt} {u0 u1 u2 u3 u4 : Value}
end
end Go.Proofs.Ytklldniapombiaa

namespace Go.Proofs.Ytklldniapombiaa
set_option maxRecDepth 100000
open Go.RowKit
theorem set3_at {w : World} {b : Nat} {x y z : Value} (h : ∀ k, k < 3 → ∃ v, w.cell? ⟨b, k, none⟩ = some v) :
    (((w.setCell ⟨b, 0, none⟩ x).setCell ⟨b, 1, none⟩ y).setCell ⟨b, 2, none⟩ z).cell? ⟨b, 0, none⟩ = some x ∧ (((w.setCell ⟨b, 0, none⟩ x).setCell ⟨b, 1, none⟩ y).setCell ⟨b, 2, none⟩ z).cell? ⟨b, 1, none⟩ = some y ∧ (((w.setCell ⟨b, 0, none⟩ x).setCell ⟨b, 1, none⟩ y).setCell ⟨b, 2, none⟩ z).cell? ⟨b, 2, none⟩ = some z := by
  have ne : ∀ k j, k ≠ j → (⟨b, k, none⟩ : Addr) ≠ ⟨b, j, none⟩ := fun k j hk => addr_ne (by omega)
  obtain ⟨v0, h0⟩ := h 0 (by omega); obtain ⟨v1, h1⟩ := h 1 (by omega); obtain ⟨v2, h2⟩ := h 2 (by omega); refine ⟨?_, ?_, ?_⟩
  · rw [World.cell?_setCell_other _ _ _ _ (ne 2 0 (by omega)), World.cell?_setCell_other _ _ _ _ (ne 1 0 (by omega))]
    exact World.cell?_setCell_same _ _ _ h0
  · rw [World.cell?_setCell_other _ _ _ _ (ne 2 1 (by omega))]
    exact World.cell?_setCell_same _ _ _ ((World.cell?_setCell_other _ _ _ _ (ne 0 1 (by omega))).trans h1)
  · exact World.cell?_setCell_same _ _ _ ((World.cell?_setCell_other _ _ _ _ (ne 1 2 (by omega))).trans ((World.cell?_setCell_other _ _ _ _ (ne 0 2 (by omega))).trans h2))
theorem free_new (w : World) (xs : Array Value) (t : TypeId) (j : Nat) : (w.alloc (.cells xs t)).frozen? ⟨w.heap.size, j, none⟩ = false := by
  have hh := heap_alloc_new w (.cells xs t)
  unfold World.frozen?; rw [hh]; simp
end Go.Proofs.Ytklldniapombiaa

namespace Go.Proofs.Ytklldniapombiaa
set_option maxRecDepth 100000
open Go.RowKit
/-- One more, so many times. -/
def incr (K : Int) : Nat → Int
  | 0 => K
  | j + 1 => incr K j + 1
/-- A block of the call's own of so many numbers. -/
def IntsOwn (w : World) (g N : Nat) : Prop := g < w.heap.size ∧ ∀ j, j < N → IntC w g j
theorem IntsOwn.up {w w' : World} {g N : Nat} (h : IntsOwn w g N) (u : Up w w') : IntsOwn w' g N :=
  ⟨Nat.lt_of_lt_of_le h.1 u.size, fun j hj => by
    obtain ⟨⟨z, hz⟩, hf⟩ := h.2 j hj
    exact ⟨⟨z, (u.cells _ _ h.1).trans hz⟩, (u.frozens _ _ h.1).trans hf⟩⟩
/-- The marks lie there: row i begins with k0 + s i. -/
def Held (w : World) (A : Option Addr) (n s : Nat) (k0 : Int) : Prop :=
  0 < n → ∃ b off, A = some ⟨b, off, none⟩ ∧ b < w.heap.size ∧ ∀ i, i < n → ∀ j, j < s → w.cell? ⟨b, off + i * s + j, none⟩ = some (.int .i64 (incr (k0 + (s : Int) * (i : Int)) j))
end Go.Proofs.Ytklldniapombiaa

namespace Go.Proofs.Ytklldniapombiaa
set_option maxRecDepth 100000
open Go.RowKit
/-- A record: the event, and the state behind it. -/
structure Rec where
  ev : Evt
  s : Int
deriving DecidableEq
instance : Inhabited Rec := ⟨⟨default, 0⟩⟩
instance : Inhabited Cst := ⟨⟨0, 0, 0⟩⟩
def Rec.v (r : Rec) : Value := .agg #[.int .i64 r.ev.t, .int .i64 r.ev.to, .int .i64 r.ev.fr, .int .i64 r.ev.sq, .int .i64 r.ev.kd, .int .i64 r.ev.dt, .int .i64 r.s]
/-- The cells of one, from o on. -/
def RecAt (w : World) (b o : Nat) (x : Rec) : Prop :=
  w.cell? ⟨b, o, none⟩ = some (.int .i64 x.ev.t) ∧ w.cell? ⟨b, o + 1, none⟩ = some (.int .i64 x.ev.to) ∧ w.cell? ⟨b, o + 2, none⟩ = some (.int .i64 x.ev.fr) ∧ w.cell? ⟨b, o + 3, none⟩ = some (.int .i64 x.ev.sq) ∧ w.cell? ⟨b, o + 4, none⟩ = some (.int .i64 x.ev.kd) ∧ w.cell? ⟨b, o + 5, none⟩ = some (.int .i64 x.ev.dt) ∧ w.cell? ⟨b, o + 6, none⟩ = some (.int .i64 x.s)
/-- The slice at A of n elements holds the list. -/
def Recs (w : World) (A : Option Addr) (n : Nat) (xs : List Rec) : Prop :=
  xs.length = n ∧ (0 < n → ∃ b off, A = some ⟨b, off, none⟩ ∧ b < w.heap.size ∧ ∀ i, i < n → RecAt w b (off + i * 7) (xs.getD i default))
theorem RecAt.keep {w w' : World} {b o : Nat} {x : Rec} (h : RecAt w b o x) (k : ∀ j, w'.cell? ⟨b, j, none⟩ = w.cell? ⟨b, j, none⟩) : RecAt w' b o x := by
  obtain ⟨h0, h1, h2, h3, h4, h5, h6⟩ := h
  exact ⟨(k _).trans h0, (k _).trans h1, (k _).trans h2, (k _).trans h3, (k _).trans h4, (k _).trans h5, (k _).trans h6⟩
theorem RecAt.up {w w' : World} {b o : Nat} {x : Rec} (h : RecAt w b o x) (u : Up w w') (hb : b < w.heap.size) : RecAt w' b o x := h.keep fun j => u.cells b j hb
theorem Recs.up {w w' : World} {A : Option Addr} {n : Nat} {xs : List Rec} (h : Recs w A n xs) (u : Up w w') : Recs w' A n xs :=
  ⟨h.1, fun hn => by
    obtain ⟨b, off, hA, hb, hc⟩ := h.2 hn
    exact ⟨b, off, hA, Nat.lt_of_lt_of_le hb u.size, fun i hi => (hc i hi).up u hb⟩⟩
end Go.Proofs.Ytklldniapombiaa

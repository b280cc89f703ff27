/-
  Sequential simulators in memory, in one sentence: lists of component states and of records, and when two are the same; for all that lie in memory.
  A record is not different from itself, in one sentence: the language's own sign says so; for every record.
  What pick gives, in one sentence: a number below its bound, and the reader is one further; for every reader that lies in memory.
  What odd and l20Open give, in one sentence: a bool and the reader one further; a new reader; for every reader and every code that lie in memory.
-/
import Derived.Deep.AppendLies
import Derived.Deep.Draws
import Derived.Deep.RegionHeld3
import Derived.Laws.OwnMore
import Derived.Laws.StructEq
import Derived.Maps.AppendAt
import Derived.OwnWalk
import Derived.RegionTactic
import Derived.StillTailTactics
import Derived.Test.YtlkmhmiamdbhcaaDoorDLRec01
import Derived.Test.YtlkmhmiamdbhcaaDoorDLRec02
namespace Go.Proofs.YtlkmhmiamdbhcaaDoor
set_option maxRecDepth 100000
open Go.RowKit
/-- A record: the event, and the state behind it. -/
structure Rec where
  ev : Evt
  s : Int
deriving DecidableEq
instance : Inhabited Rec := ⟨⟨default, 0⟩⟩
instance : Inhabited Cst := ⟨⟨0, 0, 0⟩⟩
def Rec.v (r : Rec) : Value := .agg #[.int .i64 r.ev.t, .int .i64 r.ev.to, .int .i64 r.ev.fr, .int .i64 r.ev.sq, .int .i64 r.ev.kd, .int .i64 r.ev.dt, .int .i64 r.s]
end Go.Proofs.YtlkmhmiamdbhcaaDoor

namespace Go.Proofs.YtlkmhmiamdbhcaaDoor
set_option maxRecDepth 100000
open Go.RowKit
theorem equalIn_evt_f (a b : Evt) (f : Nat) (w : World) : (Op.equalIn (f + 2) 37 a.v b.v).run Tryd.prog w = .ok (eqB a b) w := by
  obtain ⟨z0, z1, z2, z3, z4, z5⟩ := a; obtain ⟨y0, y1, y2, y3, y4, y5⟩ := b
  have u3 := Tryd.underlying3
  have a3 := Tryd.isAgg3
  have s3 := Tryd.sizeOf3
  have hS : Tryd.prog.underlying 37 = some (.struct (Tryd.prog.fieldsOf 37)) := by kernel_rfl
  have hp : Tryd.prog.stoodInHeld 37 = false := by kernel_rfl
  rw [eqB_mk]; unfold Evt.v; dsimp only; rw [show f + 2 = (f + 1) + 1 from rfl, run_equalIn_agg w (f + 1) 37 _ _ hS hp]; simp only [Program.fieldsOf, Tryd.underlying37]; go_simp
  by_cases h0 : z0 = y0 <;> by_cases h1 : z1 = y1 <;> by_cases h2 : z2 = y2 <;> by_cases h3 : z3 = y3 <;> by_cases h4 : z4 = y4 <;> by_cases h5 : z5 = y5 <;> simp [h0, h1, h2, h3, h4, h5]
end Go.Proofs.YtlkmhmiamdbhcaaDoor

namespace Go.Proofs.YtlkmhmiamdbhcaaDoor
set_option maxRecDepth 100000
open Go.RowKit
theorem wr (x : Int) (c : Nat) (h : x = c) (hc : c < 4611686018427387904) : IntKind.i64.wrap x = c := by
  rw [h]
  exact IntWalk.i64_in _ (by omega)
set_option maxHeartbeats 2000000 in
theorem pick_any (g N : Nat) (m : Int) (w : World) (hm : I64 m) (hN : N ≤ 1000000) (hR : Rd w g N) :
    Calls Tryd.prog 33 #[.pointer (some ⟨g, 0, none⟩), .int .i64 m] w (Picked g N m w) := by
  obtain ⟨A, n, cap, p, h0, h1, hf, hp, hg, hn, hb⟩ := hR
  have R := Lib.hid (Rd.step h0 h1 hf hp hg hn hb)
  have HM := Lib.hid hm
  clear hm
  by_cases hm1 : m < 1
  · go_enter Tryd.func33, Tryd.ntmps33
    go_wp2; go_ret
    exact ⟨0, rfl, by omega, .inr rfl, R.out, (Mv.refl _ _).setCell _⟩
  · by_cases hn0 : n = 0
    · subst hn0
      go_enter Tryd.func33, Tryd.ntmps33
      go_wp2; go_ret
      exact ⟨0, rfl, by omega, .inr rfl, R.out, (Mv.refl _ _).setCell _⟩
    · obtain ⟨b, off, rfl, hbg, hc⟩ := hb (by omega)
      have hn0' : ((n : Int) == 0) = false := by simp; omega
      have HC := Lib.hid hc
      clear hc
      have hne : b ≠ g := by omega
      by_cases hpn : p < n
      · obtain ⟨z, hz, hcz⟩ := HC.out p hpn
        go_enter Tryd.func33, Tryd.ntmps33
        go_wp2; go_ret
        exact ⟨_, rfl, Int.emod_nonneg _ (by omega), .inl (Int.emod_lt_of_pos _ (by omega)), R.out, (Mv.refl _ _).setCell _⟩
      · obtain ⟨q1, hq1, e1⟩ : ∃ q : Nat, q < n ∧ (p : Int).tmod (n : Int) = (q : Int) := ⟨p % n, Nat.mod_lt _ (by omega), by rw [Int.tmod_eq_emod_of_nonneg (by omega)]; rfl⟩
        obtain ⟨q2, hq2, e2⟩ : ∃ q : Nat, q < n ∧ ((p * 7 + 3 : Nat) : Int).tmod (n : Int) = (q : Int) := ⟨(p * 7 + 3) % n, Nat.mod_lt _ (by omega), by rw [Int.tmod_eq_emod_of_nonneg (by omega)]; rfl⟩; obtain ⟨q3, hq3, e3⟩ : ∃ q : Nat, q ≤ p ∧ (p : Int).tdiv (n : Int) = (q : Int) := ⟨p / n, Nat.div_le_self _ _, by rw [Int.tdiv_eq_ediv_of_nonneg (by omega)]; rfl⟩; obtain ⟨z1, hz1, hcz1⟩ := HC.out q1 hq1; obtain ⟨z2, hz2, hcz2⟩ := HC.out q2 hq2
        have w1 : IntKind.i64.wrap (z1 : Int) = z1 := wr _ _ rfl (by omega)
        have w2 : IntKind.i64.wrap (z2 : Int) = z2 := wr _ _ rfl (by omega)
        obtain ⟨y1, hy1, w3⟩ : ∃ y : Nat, y ≤ 1000000 ∧ IntKind.i64.wrap ((z1 : Int) * 131) = (y : Int) := ⟨z1 * 131, by omega, wr _ _ (by omega) (by omega)⟩; obtain ⟨y2, hy2, w4⟩ : ∃ y : Nat, y ≤ 1000000 ∧ IntKind.i64.wrap ((z2 : Int) * 1117) = (y : Int) := ⟨z2 * 1117, by omega, wr _ _ (by omega) (by omega)⟩; obtain ⟨s1, hs1, w5⟩ : ∃ s : Nat, s = p * 7 ∧ IntKind.i64.wrap ((p : Int) * 7) = (s : Int) := ⟨p * 7, rfl, wr _ _ (by omega) (by omega)⟩; obtain ⟨s2, hs2, w6⟩ : ∃ s : Nat, s = p * 7 + 3 ∧ IntKind.i64.wrap ((s1 : Int) + 3) = (s : Int) := ⟨p * 7 + 3, rfl, wr _ _ (by omega) (by omega)⟩; rw [← hs2] at e2
        obtain ⟨y3, hy3, w7⟩ : ∃ y : Nat, y ≤ 2000000 ∧ IntKind.i64.wrap ((y1 : Int) + (y2 : Int)) = (y : Int) := ⟨y1 + y2, by omega, wr _ _ (by omega) (by omega)⟩; obtain ⟨y4, hy4, w8⟩ : ∃ y : Nat, y ≤ 29000000 ∧ IntKind.i64.wrap ((p : Int) * 29) = (y : Int) := ⟨p * 29, by omega, wr _ _ (by omega) (by omega)⟩; obtain ⟨y5, hy5, w9⟩ : ∃ y : Nat, y ≤ 31000000 ∧ IntKind.i64.wrap ((y3 : Int) + (y4 : Int)) = (y : Int) := ⟨y3 + y4, by omega, wr _ _ (by omega) (by omega)⟩
        have wq : IntKind.i64.wrap (q3 : Int) = q3 := wr _ _ rfl (by omega)
        obtain ⟨y6, hy6, w10⟩ : ∃ y : Nat, y ≤ 53000000 ∧ IntKind.i64.wrap ((q3 : Int) * 53) = (y : Int) := ⟨q3 * 53, by omega, wr _ _ (by omega) (by omega)⟩; obtain ⟨y7, hy7, w11⟩ : ∃ y : Nat, y ≤ 90000000 ∧ IntKind.i64.wrap ((y5 : Int) + (y6 : Int)) = (y : Int) := ⟨y5 + y6, by omega, wr _ _ (by omega) (by omega)⟩; obtain ⟨y8, hy8, w12⟩ : ∃ y : Nat, y ≤ 90000000 ∧ (y7 : Int) / 64 = (y : Int) := ⟨y7 / 64, by omega, by omega⟩; obtain ⟨y9, hy9, w13⟩ := xor_i64 y7 y8 (by omega) (by omega)
        have hbw : b < w.heap.size := by omega
        have lq1 : (q1 : Int) < n := by omega
        have lq2 : (q2 : Int) < n := by omega
        have nn : ((n : Int) == 0) = false := hn0'
        clear hs1 hs2
        go_enter Tryd.func33, Tryd.ntmps33
        go_wp2; refine region_up (by kernel_rfl) (by kernel_rfl) ?_; refine up_step rfl ?_; apply Exists.intro; refine ⟨fun w1 hw1 => ?_, ?_⟩
        · go_simp
          try rfl
        go_simp; refine up_step rfl ?_; apply Exists.intro; refine ⟨fun w1 hw1 => ?_, ?_⟩
        · go_simp
          try rfl
        go_simp; refine up_step rfl ?_; apply Exists.intro; refine ⟨fun w1 hw1 => ?_, ?_⟩
        · go_simp
          try rfl
        go_simp; refine up_step rfl ?_; apply Exists.intro; refine ⟨fun w1 hw1 => ?_, ?_⟩
        · obtain ⟨hc, hf, hz⟩ := hw1.facts
          try simp at hz
          go_simp
          try rfl
        go_simp; refine up_step rfl ?_; apply Exists.intro; refine ⟨fun w1 hw1 => ?_, ?_⟩
        · go_simp
          try rfl
        go_simp; refine up_step rfl ?_; apply Exists.intro; refine ⟨fun w1 hw1 => ?_, ?_⟩
        · go_simp
          try rfl
        go_simp; refine up_step rfl ?_; apply Exists.intro; refine ⟨fun w1 hw1 => ?_, ?_⟩
        · go_simp
          try rfl
        go_simp; refine up_step rfl ?_; apply Exists.intro; refine ⟨fun w1 hw1 => ?_, ?_⟩
        · go_simp
          try rfl
        go_simp; refine up_step rfl ?_; apply Exists.intro; refine ⟨fun w1 hw1 => ?_, ?_⟩
        · obtain ⟨hc, hf, hz⟩ := hw1.facts
          try simp at hz
          go_simp
          try rfl
        go_simp; refine up_step rfl ?_; apply Exists.intro; refine ⟨fun w1 hw1 => ?_, ?_⟩
        · go_simp
          try rfl
        go_simp; refine up_step rfl ?_; apply Exists.intro; refine ⟨fun w1 hw1 => ?_, ?_⟩
        · go_simp
          try rfl
        go_simp; refine up_step rfl ?_; apply Exists.intro; refine ⟨fun w1 hw1 => ?_, ?_⟩
        · go_simp
          try rfl
        go_simp; refine up_step rfl ?_; apply Exists.intro; refine ⟨fun w1 hw1 => ?_, ?_⟩
        · obtain ⟨hc, hf, hz⟩ := hw1.facts
          try simp at hz
          go_simp
          try rfl
        go_simp; refine up_step rfl ?_; apply Exists.intro; refine ⟨fun w1 hw1 => ?_, ?_⟩
        · go_simp
          try rfl
        go_simp; refine up_step rfl ?_; apply Exists.intro; refine ⟨fun w1 hw1 => ?_, ?_⟩
        · go_simp
          try rfl
        go_simp; refine up_step rfl ?_; apply Exists.intro; refine ⟨fun w1 hw1 => ?_, ?_⟩
        · go_simp
          try rfl
        go_simp; refine up_step rfl ?_; apply Exists.intro; refine ⟨fun w1 hw1 => ?_, ?_⟩
        · go_simp
          try rfl
        go_simp; refine up_step rfl ?_; apply Exists.intro; refine ⟨fun w1 hw1 => ?_, ?_⟩
        · go_simp
          try rfl
        go_simp; refine up_step rfl ?_; apply Exists.intro; refine ⟨fun w1 hw1 => ?_, ?_⟩
        · obtain ⟨hc, hf, hz⟩ := hw1.facts
          try simp at hz
          go_simp
          try rfl
        go_simp; refine up_step rfl ?_; apply Exists.intro; refine ⟨fun w1 hw1 => ?_, ?_⟩
        · go_simp
          try rfl
        go_simp; refine up_step rfl ?_; apply Exists.intro; refine ⟨fun w1 hw1 => ?_, ?_⟩
        · go_simp
          try rfl
        go_simp; refine up_step rfl ?_; apply Exists.intro; refine ⟨fun w1 hw1 => ?_, ?_⟩
        · go_simp
          try rfl
        go_simp; refine up_step rfl ?_; apply Exists.intro; refine ⟨fun w1 hw1 => ?_, ?_⟩
        · go_simp
          try rfl
        go_simp; refine up_step rfl ?_; apply Exists.intro; refine ⟨fun w1 hw1 => ?_, ?_⟩
        · go_simp
          try rfl
        go_simp; refine up_step rfl ?_; apply Exists.intro; refine ⟨fun w1 hw1 => ?_, ?_⟩
        · go_simp
          try rfl
        go_simp; refine up_step rfl ?_; apply Exists.intro; refine ⟨fun w1 hw1 => ?_, ?_⟩
        · obtain ⟨hc, hf, hz⟩ := hw1.facts
          try simp at hz
          go_simp
          try rfl
        go_simp; refine up_step rfl ?_; apply Exists.intro; refine ⟨fun w1 hw1 => ?_, ?_⟩
        · go_simp
          try rfl
        go_simp; refine up_step rfl ?_; apply Exists.intro; refine ⟨fun w1 hw1 => ?_, ?_⟩
        · go_simp
          try rfl
        go_simp; refine up_step rfl ?_; apply Exists.intro; refine ⟨fun w1 hw1 => ?_, ?_⟩
        · go_simp
          try rfl
        go_simp; refine up_step rfl ?_; apply Exists.intro; refine ⟨fun w1 hw1 => ?_, ?_⟩
        · obtain ⟨hc, hf, hz⟩ := hw1.facts
          try simp at hz
          go_simp
          try rfl
        go_simp; refine up_step rfl ?_; apply Exists.intro; refine ⟨fun w1 hw1 => ?_, ?_⟩
        · go_simp
          try rfl
        go_simp; refine up_step rfl ?_; apply Exists.intro; refine ⟨fun w1 hw1 => ?_, ?_⟩
        · go_simp
          try rfl
        go_simp; refine up_step rfl ?_; apply Exists.intro; refine ⟨fun w1 hw1 => ?_, ?_⟩
        · go_simp
          try rfl
        go_simp; refine up_step rfl ?_; apply Exists.intro; refine ⟨fun w1 hw1 => ?_, ?_⟩
        · go_simp
          try rfl
        go_simp; refine up_step rfl ?_; apply Exists.intro; refine ⟨fun w1 hw1 => ?_, ?_⟩
        · go_simp
          try rfl
        go_simp; refine up_step rfl ?_; apply Exists.intro; refine ⟨fun w1 hw1 => ?_, ?_⟩
        · go_simp
          try rfl
        go_simp; refine up_step rfl ?_; apply Exists.intro; refine ⟨fun w1 hw1 => ?_, ?_⟩
        · go_simp
          try rfl
        go_simp; refine up_step rfl ?_; apply Exists.intro; refine ⟨fun w1 hw1 => ?_, ?_⟩
        · go_simp
          try rfl
        go_simp; refine up_step rfl ?_; apply Exists.intro; refine ⟨fun w1 hw1 => ?_, ?_⟩
        · go_simp
          try rfl
        go_simp; refine up_step rfl ?_; apply Exists.intro; refine ⟨fun w1 hw1 => ?_, ?_⟩
        · go_simp
          try rfl
        go_simp; refine up_step rfl ?_; apply Exists.intro; refine ⟨fun w1 hw1 => ?_, ?_⟩
        · obtain ⟨hc, hf, hz⟩ := hw1.facts
          try simp at hz
          go_simp
          try rfl
        go_simp; refine up_step rfl ?_; apply Exists.intro; refine ⟨fun w1 hw1 => ?_, ?_⟩
        · go_simp
          try rfl
        go_simp; refine up_step rfl ?_; apply Exists.intro; refine ⟨fun w1 hw1 => ?_, ?_⟩
        · go_simp
          try rfl
        go_simp; refine up_step rfl ?_; apply Exists.intro; refine ⟨fun w1 hw1 => ?_, ?_⟩
        · go_simp
          try rfl
        go_simp; refine up_step rfl ?_; apply Exists.intro; refine ⟨fun w1 hw1 => ?_, ?_⟩
        · go_simp
          try rfl
        go_simp; refine up_step rfl ?_; apply Exists.intro; refine ⟨fun w1 hw1 => ?_, ?_⟩
        · go_simp
          try rfl
        go_simp; refine wpQuiet_nil ?_; intro wA uA; clear w1 w2 w3 w4 w5 w6 w7 w8 w9 wq w10 w11 e1 e2 e3; go_wp2; go_ret
        exact ⟨_, rfl, Int.emod_nonneg _ (by omega), .inl (Int.emod_lt_of_pos _ (by omega)), R.out.up uA, ((Mv.refl _ _).setCell _).trans (uA.mv g)⟩
end Go.Proofs.YtlkmhmiamdbhcaaDoor

namespace Go.Proofs.YtlkmhmiamdbhcaaDoor
set_option maxRecDepth 100000
open Go.RowKit
theorem Rd.alloc {w : World} {g N : Nat} (h : Rd w g N) (o : Obj) : Rd (w.alloc o) g N := h.up ((Up.refl w).alloc o)
/-- What odd gives. -/
def Tossed (g N : Nat) (w : World) (x : Ending) (w' : World) : Prop :=
  ∃ b : Bool, x = .returned (.bool b) ∧ Rd w' g N ∧ Mv g w w'
set_option maxHeartbeats 400000 in
theorem odd_any (g N : Nat) (m : Int) (w : World) (hm : I64 m) (hN : N ≤ 1000000) (hR : Rd w g N) :
    Calls Tryd.prog 45 #[.pointer (some ⟨g, 0, none⟩), .int .i64 m] w (Tossed g (N + 1) w) := by
  have R := Lib.hid hR
  clear hR
  by_cases h : 0 < m
  · have hm2 : m ≤ 9223372036854775807 := hm.2
    have HM := Lib.hid hm
    clear hm
    go_enter Tryd.func45, Tryd.ntmps45
    go_wp2_with fail
    refine (pick_any g N m _ HM.out hN R.out).mono ?_; rintro x w1 ⟨v, rfl, _, _, R1, M1⟩
    have RR := Lib.hid R1
    have MM := Lib.hid M1
    clear R1 M1; go_wp2
    all_goals go_ret
    all_goals exact ⟨_, rfl, RR.out, MM.out⟩
  · have HM := Lib.hid hm
    clear hm
    go_enter Tryd.func45, Tryd.ntmps45
    go_wp2; go_ret
    exact ⟨_, rfl, R.out.mono (by omega), Mv.refl _ _⟩
/-- A new reader. -/
def Opened (w : World) (x : Ending) (w' : World) : Prop :=
  ∃ g, x = .returned (.pointer (some ⟨g, 0, none⟩)) ∧ w.heap.size ≤ g ∧ Rd w' g 0 ∧ Up w w'
theorem Bys.less {w : World} {A : Option Addr} {n k B : Nat} (h : Bys w A n B) (hk : k ≤ n) : Bys w A k B := fun h0 => by
  obtain ⟨b, off, hA, hb, hc⟩ := h (by omega)
  exact ⟨b, off, hA, hb, fun i hi => hc i (by omega)⟩
theorem Rd.new {w : World} {A : Option Addr} {n cap : Nat} (hn : n ≤ 2000) (hB : Bys w A n w.heap.size) (t : TypeId) : Rd (w.alloc (.cells #[.slice A n cap, .int .i64 0] t)) w.heap.size 0 := by
  have hh := heap_alloc_new w (.cells #[.slice A n cap, .int .i64 0] t)
  refine ⟨A, n, cap, 0, ?_, ?_, ?_, Nat.le_refl _, by simp, hn, hB.keep fun b o hb => World.cell?_alloc_lt w _ ⟨b, o, none⟩ hb⟩
  · rw [cell_of_row _ _ 0 _ _ _ hh]; rfl
  · rw [cell_of_row _ _ 1 _ _ _ hh]; rfl
  · unfold World.frozen?
    rw [hh]; simp
theorem open_any (A : Option Addr) (n cap : Nat) (w : World) (hc : n ≤ cap) (hmax : cap ≤ 9223372036854775807) (hB : Bys w A n w.heap.size) :
    Calls Tryd.prog 32 #[.slice A n cap] w (Opened w) := by
  have HB := Lib.hid hB
  clear hB
  by_cases h : 2000 < n
  · obtain ⟨b, off, rfl, _, _⟩ := HB.out (by omega)
    have h1 : ((n : Int) > 2000) := by omega
    go_enter Tryd.func32, Tryd.ntmps32
    go_wp2; go_ret
    exact ⟨w.heap.size, rfl, Nat.le_refl _, Rd.new (Nat.le_refl _) (HB.out.less (by omega)) _, (Up.refl _).alloc _⟩
  · go_enter Tryd.func32, Tryd.ntmps32
    go_wp2; go_ret
    exact ⟨w.heap.size, rfl, Nat.le_refl _, Rd.new (by omega) HB.out _, (Up.refl _).alloc _⟩
end Go.Proofs.YtlkmhmiamdbhcaaDoor

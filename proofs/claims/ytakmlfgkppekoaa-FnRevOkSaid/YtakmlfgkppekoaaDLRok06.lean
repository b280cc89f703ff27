/-
  What odd and l20Open give, in one sentence: a bool and the reader one further; a new reader; for every reader and every code that lie in memory.
  What pick and odd give, in one sentence: a number below its bound, a bool, the reader is one further, and no block is made; for every reader that lies in memory.
  What eqEvtEvt, szEvtEvtS and eqEvtEvtS return, in one sentence: whether the events are the same, what is left of a size, whether two lists are the same; for all that lie in memory.
  The order of events, in one sentence: it is irreflexive, total, asymmetric and transitive, and an earlier time is less; and what == and != of two events give; for all events.
  What l1At returns, in one sentence: the first place of an event in a list, or -1; for every list that lies in memory.
-/
import Derived.Laws.StructEq
import Derived.Test.YtakmlfgkppekoaaDLRok01
import Derived.Test.YtakmlfgkppekoaaDLRok03
import Derived.Test.YtakmlfgkppekoaaDLRok05
namespace Go.Proofs.Ytakmlfgkppekoaa
set_option maxRecDepth 100000
open Go.RowKit
theorem Rd.alloc {w : World} {g N : Nat} (h : Rd w g N) (o : Obj) : Rd (w.alloc o) g N := h.up ((Up.refl w).alloc o)
/-- What odd gives. -/
def Tossed (g N : Nat) (w : World) (x : Ending) (w' : World) : Prop :=
  ∃ b : Bool, x = .returned (.bool b) ∧ Rd w' g N ∧ Mv g w w'
set_option maxHeartbeats 400000 in
theorem odd_any (g N : Nat) (m : Int) (w : World) (hm : I64 m) (hN : N ≤ 1000000) (hR : Rd w g N) :
    Calls Try.prog 88 #[.pointer (some ⟨g, 0, none⟩), .int .i64 m] w (Tossed g (N + 1) w) := by
  have R := Lib.hid hR
  clear hR
  by_cases h : 0 < m
  · have hm2 : m ≤ 9223372036854775807 := hm.2
    have HM := Lib.hid hm
    clear hm
    go_enter Try.func88, Try.ntmps88
    go_wp2_with fail
    refine (pick_any g N m _ HM.out hN R.out).mono ?_; rintro x w1 ⟨v, rfl, _, _, R1, M1⟩
    have RR := Lib.hid R1
    have MM := Lib.hid M1
    clear R1 M1; go_wp2
    all_goals go_ret
    all_goals exact ⟨_, rfl, RR.out, MM.out⟩
  · have HM := Lib.hid hm
    clear hm
    go_enter Try.func88, Try.ntmps88
    go_wp2; go_ret
    exact ⟨_, rfl, R.out.mono (by omega), Mv.refl _ _⟩
/-- A new reader. -/
def Opened (w : World) (x : Ending) (w' : World) : Prop :=
  ∃ g, x = .returned (.pointer (some ⟨g, 0, none⟩)) ∧ w.heap.size ≤ g ∧ Rd w' g 0 ∧ Up w w'
theorem Bys.less {w : World} {A : Option Addr} {n k B : Nat} (h : Bys w A n B) (hk : k ≤ n) : Bys w A k B := fun h0 => by
  obtain ⟨b, off, hA, hb, hc⟩ := h (by omega)
  exact ⟨b, off, hA, hb, fun i hi => hc i (by omega)⟩
theorem Rd.new {w : World} {A : Option Addr} {n cap : Nat} (hn : n ≤ 2000) (hB : Bys w A n w.heap.size) (t : TypeId) : Rd (w.alloc (.cells #[.slice A n cap, .int .i64 0] t)) w.heap.size 0 := by
  have hh := heap_alloc_new w (.cells #[.slice A n cap, .int .i64 0] t)
  refine ⟨A, n, cap, 0, ?_, ?_, ?_, Nat.le_refl _, by simp, hn, hB.keep fun b o hb => World.cell?_alloc_lt w _ ⟨b, o, none⟩ hb⟩
  · rw [cell_of_row _ _ 0 _ _ _ hh]; rfl
  · rw [cell_of_row _ _ 1 _ _ _ hh]; rfl
  · unfold World.frozen?
    rw [hh]; simp
theorem open_any (A : Option Addr) (n cap : Nat) (w : World) (hc : n ≤ cap) (hmax : cap ≤ 9223372036854775807) (hB : Bys w A n w.heap.size) :
    Calls Try.prog 79 #[.slice A n cap] w (Opened w) := by
  have HB := Lib.hid hB
  clear hB
  by_cases h : 2000 < n
  · obtain ⟨b, off, rfl, _, _⟩ := HB.out (by omega)
    have h1 : ((n : Int) > 2000) := by omega
    go_enter Try.func79, Try.ntmps79
    go_wp2; go_ret
    exact ⟨w.heap.size, rfl, Nat.le_refl _, Rd.new (Nat.le_refl _) (HB.out.less (by omega)) _, (Up.refl _).alloc _⟩
  · go_enter Try.func79, Try.ntmps79
    go_wp2; go_ret
    exact ⟨w.heap.size, rfl, Nat.le_refl _, Rd.new (by omega) HB.out _, (Up.refl _).alloc _⟩
end Go.Proofs.Ytakmlfgkppekoaa

namespace Go.Proofs.Ytakmlfgkppekoaa
set_option maxRecDepth 100000
open Go.RowKit
set_option maxHeartbeats 2000000 in
theorem pickP_any (g N : Nat) (m : Int) (w : World) (hm : I64 m) (hN : N ≤ 1000000) (hR : Rd w g N) :
    Calls Try.prog 80 #[.pointer (some ⟨g, 0, none⟩), .int .i64 m] w (PickedP g N m w) := by
  obtain ⟨A, n, cap, p, h0, h1, hf, hp, hg, hn, hb⟩ := hR
  have R := Lib.hid (Rd.step h0 h1 hf hp hg hn hb)
  have HM := Lib.hid hm
  clear hm
  by_cases hm1 : m < 1
  · go_enter Try.func80, Try.ntmps80
    go_wp2; go_ret
    exact ⟨0, rfl, by omega, .inr rfl, R.out, (Pk.refl _ _).set _ _⟩
  · by_cases hn0 : n = 0
    · subst hn0
      go_enter Try.func80, Try.ntmps80
      go_wp2; go_ret
      exact ⟨0, rfl, by omega, .inr rfl, R.out, (Pk.refl _ _).set _ _⟩
    · obtain ⟨b, off, rfl, hbg, hc⟩ := hb (by omega)
      have hn0' : ((n : Int) == 0) = false := by simp; omega
      have HC := Lib.hid hc
      clear hc
      have hne : b ≠ g := by omega
      by_cases hpn : p < n
      · obtain ⟨z, hz, hcz⟩ := HC.out p hpn
        go_enter Try.func80, Try.ntmps80
        go_wp2; go_ret
        exact ⟨_, rfl, Int.emod_nonneg _ (by omega), .inl (Int.emod_lt_of_pos _ (by omega)), R.out, (Pk.refl _ _).set _ _⟩
      · obtain ⟨q1, hq1, e1⟩ : ∃ q : Nat, q < n ∧ (p : Int).tmod (n : Int) = (q : Int) := ⟨p % n, Nat.mod_lt _ (by omega), by rw [Int.tmod_eq_emod_of_nonneg (by omega)]; rfl⟩
        obtain ⟨q2, hq2, e2⟩ : ∃ q : Nat, q < n ∧ ((p * 7 + 3 : Nat) : Int).tmod (n : Int) = (q : Int) := ⟨(p * 7 + 3) % n, Nat.mod_lt _ (by omega), by rw [Int.tmod_eq_emod_of_nonneg (by omega)]; rfl⟩; obtain ⟨q3, hq3, e3⟩ : ∃ q : Nat, q ≤ p ∧ (p : Int).tdiv (n : Int) = (q : Int) := ⟨p / n, Nat.div_le_self _ _, by rw [Int.tdiv_eq_ediv_of_nonneg (by omega)]; rfl⟩; obtain ⟨z1, hz1, hcz1⟩ := HC.out q1 hq1; obtain ⟨z2, hz2, hcz2⟩ := HC.out q2 hq2
        have w1 : IntKind.i64.wrap (z1 : Int) = z1 := wr _ _ rfl (by omega)
        have w2 : IntKind.i64.wrap (z2 : Int) = z2 := wr _ _ rfl (by omega)
        obtain ⟨y1, hy1, w3⟩ : ∃ y : Nat, y ≤ 1000000 ∧ IntKind.i64.wrap ((z1 : Int) * 131) = (y : Int) := ⟨z1 * 131, by omega, wr _ _ (by omega) (by omega)⟩; obtain ⟨y2, hy2, w4⟩ : ∃ y : Nat, y ≤ 1000000 ∧ IntKind.i64.wrap ((z2 : Int) * 1117) = (y : Int) := ⟨z2 * 1117, by omega, wr _ _ (by omega) (by omega)⟩; obtain ⟨s1, hs1, w5⟩ : ∃ s : Nat, s = p * 7 ∧ IntKind.i64.wrap ((p : Int) * 7) = (s : Int) := ⟨p * 7, rfl, wr _ _ (by omega) (by omega)⟩; obtain ⟨s2, hs2, w6⟩ : ∃ s : Nat, s = p * 7 + 3 ∧ IntKind.i64.wrap ((s1 : Int) + 3) = (s : Int) := ⟨p * 7 + 3, rfl, wr _ _ (by omega) (by omega)⟩; rw [← hs2] at e2
        obtain ⟨y3, hy3, w7⟩ : ∃ y : Nat, y ≤ 2000000 ∧ IntKind.i64.wrap ((y1 : Int) + (y2 : Int)) = (y : Int) := ⟨y1 + y2, by omega, wr _ _ (by omega) (by omega)⟩; obtain ⟨y4, hy4, w8⟩ : ∃ y : Nat, y ≤ 29000000 ∧ IntKind.i64.wrap ((p : Int) * 29) = (y : Int) := ⟨p * 29, by omega, wr _ _ (by omega) (by omega)⟩; obtain ⟨y5, hy5, w9⟩ : ∃ y : Nat, y ≤ 31000000 ∧ IntKind.i64.wrap ((y3 : Int) + (y4 : Int)) = (y : Int) := ⟨y3 + y4, by omega, wr _ _ (by omega) (by omega)⟩
        have wq : IntKind.i64.wrap (q3 : Int) = q3 := wr _ _ rfl (by omega)
        obtain ⟨y6, hy6, w10⟩ : ∃ y : Nat, y ≤ 53000000 ∧ IntKind.i64.wrap ((q3 : Int) * 53) = (y : Int) := ⟨q3 * 53, by omega, wr _ _ (by omega) (by omega)⟩; obtain ⟨y7, hy7, w11⟩ : ∃ y : Nat, y ≤ 90000000 ∧ IntKind.i64.wrap ((y5 : Int) + (y6 : Int)) = (y : Int) := ⟨y5 + y6, by omega, wr _ _ (by omega) (by omega)⟩; obtain ⟨y8, hy8, w12⟩ : ∃ y : Nat, y ≤ 90000000 ∧ (y7 : Int) / 64 = (y : Int) := ⟨y7 / 64, by omega, by omega⟩; obtain ⟨y9, hy9, w13⟩ := xor_i64 y7 y8 (by omega) (by omega)
        have hbw : b < w.heap.size := by omega
        have lq1 : (q1 : Int) < n := by omega
        have lq2 : (q2 : Int) < n := by omega
        have nn : ((n : Int) == 0) = false := hn0'
        clear hs1 hs2
        go_enter Try.func80, Try.ntmps80
        go_wp2; refine region_nu (by kernel_rfl) (by kernel_rfl) ?_; refine nu_step rfl ?_; apply Exists.intro; refine ⟨fun w1 hw1 => ?_, ?_⟩
        · go_simp
          try rfl
        go_simp; refine nu_step rfl ?_; apply Exists.intro; refine ⟨fun w1 hw1 => ?_, ?_⟩
        · go_simp
          try rfl
        go_simp; refine nu_step rfl ?_; apply Exists.intro; refine ⟨fun w1 hw1 => ?_, ?_⟩
        · go_simp
          try rfl
        go_simp; refine nu_step rfl ?_; apply Exists.intro; refine ⟨fun w1 hw1 => ?_, ?_⟩
        · obtain ⟨hc, hf, hz⟩ := hw1.facts
          try simp at hz
          go_simp
          try rfl
        go_simp; refine nu_step rfl ?_; apply Exists.intro; refine ⟨fun w1 hw1 => ?_, ?_⟩
        · go_simp
          try rfl
        go_simp; refine nu_step rfl ?_; apply Exists.intro; refine ⟨fun w1 hw1 => ?_, ?_⟩
        · go_simp
          try rfl
        go_simp; refine nu_step rfl ?_; apply Exists.intro; refine ⟨fun w1 hw1 => ?_, ?_⟩
        · go_simp
          try rfl
        go_simp; refine nu_step rfl ?_; apply Exists.intro; refine ⟨fun w1 hw1 => ?_, ?_⟩
        · go_simp
          try rfl
        go_simp; refine nu_step rfl ?_; apply Exists.intro; refine ⟨fun w1 hw1 => ?_, ?_⟩
        · obtain ⟨hc, hf, hz⟩ := hw1.facts
          try simp at hz
          go_simp
          try rfl
        go_simp; refine nu_step rfl ?_; apply Exists.intro; refine ⟨fun w1 hw1 => ?_, ?_⟩
        · go_simp
          try rfl
        go_simp; refine nu_step rfl ?_; apply Exists.intro; refine ⟨fun w1 hw1 => ?_, ?_⟩
        · go_simp
          try rfl
        go_simp; refine nu_step rfl ?_; apply Exists.intro; refine ⟨fun w1 hw1 => ?_, ?_⟩
        · go_simp
          try rfl
        go_simp; refine nu_step rfl ?_; apply Exists.intro; refine ⟨fun w1 hw1 => ?_, ?_⟩
        · obtain ⟨hc, hf, hz⟩ := hw1.facts
          try simp at hz
          go_simp
          try rfl
        go_simp; refine nu_step rfl ?_; apply Exists.intro; refine ⟨fun w1 hw1 => ?_, ?_⟩
        · go_simp
          try rfl
        go_simp; refine nu_step rfl ?_; apply Exists.intro; refine ⟨fun w1 hw1 => ?_, ?_⟩
        · go_simp
          try rfl
        go_simp; refine nu_step rfl ?_; apply Exists.intro; refine ⟨fun w1 hw1 => ?_, ?_⟩
        · go_simp
          try rfl
        go_simp; refine nu_step rfl ?_; apply Exists.intro; refine ⟨fun w1 hw1 => ?_, ?_⟩
        · go_simp
          try rfl
        go_simp; refine nu_step rfl ?_; apply Exists.intro; refine ⟨fun w1 hw1 => ?_, ?_⟩
        · go_simp
          try rfl
        go_simp; refine nu_step rfl ?_; apply Exists.intro; refine ⟨fun w1 hw1 => ?_, ?_⟩
        · obtain ⟨hc, hf, hz⟩ := hw1.facts
          try simp at hz
          go_simp
          try rfl
        go_simp; refine nu_step rfl ?_; apply Exists.intro; refine ⟨fun w1 hw1 => ?_, ?_⟩
        · go_simp
          try rfl
        go_simp; refine nu_step rfl ?_; apply Exists.intro; refine ⟨fun w1 hw1 => ?_, ?_⟩
        · go_simp
          try rfl
        go_simp; refine nu_step rfl ?_; apply Exists.intro; refine ⟨fun w1 hw1 => ?_, ?_⟩
        · go_simp
          try rfl
        go_simp; refine nu_step rfl ?_; apply Exists.intro; refine ⟨fun w1 hw1 => ?_, ?_⟩
        · go_simp
          try rfl
        go_simp; refine nu_step rfl ?_; apply Exists.intro; refine ⟨fun w1 hw1 => ?_, ?_⟩
        · go_simp
          try rfl
        go_simp; refine nu_step rfl ?_; apply Exists.intro; refine ⟨fun w1 hw1 => ?_, ?_⟩
        · go_simp
          try rfl
        go_simp; refine nu_step rfl ?_; apply Exists.intro; refine ⟨fun w1 hw1 => ?_, ?_⟩
        · obtain ⟨hc, hf, hz⟩ := hw1.facts
          try simp at hz
          go_simp
          try rfl
        go_simp; refine nu_step rfl ?_; apply Exists.intro; refine ⟨fun w1 hw1 => ?_, ?_⟩
        · go_simp
          try rfl
        go_simp; refine nu_step rfl ?_; apply Exists.intro; refine ⟨fun w1 hw1 => ?_, ?_⟩
        · go_simp
          try rfl
        go_simp; refine nu_step rfl ?_; apply Exists.intro; refine ⟨fun w1 hw1 => ?_, ?_⟩
        · go_simp
          try rfl
        go_simp; refine nu_step rfl ?_; apply Exists.intro; refine ⟨fun w1 hw1 => ?_, ?_⟩
        · obtain ⟨hc, hf, hz⟩ := hw1.facts
          try simp at hz
          go_simp
          try rfl
        go_simp; refine nu_step rfl ?_; apply Exists.intro; refine ⟨fun w1 hw1 => ?_, ?_⟩
        · go_simp
          try rfl
        go_simp; refine nu_step rfl ?_; apply Exists.intro; refine ⟨fun w1 hw1 => ?_, ?_⟩
        · go_simp
          try rfl
        go_simp; refine nu_step rfl ?_; apply Exists.intro; refine ⟨fun w1 hw1 => ?_, ?_⟩
        · go_simp
          try rfl
        go_simp; refine nu_step rfl ?_; apply Exists.intro; refine ⟨fun w1 hw1 => ?_, ?_⟩
        · go_simp
          try rfl
        go_simp; refine nu_step rfl ?_; apply Exists.intro; refine ⟨fun w1 hw1 => ?_, ?_⟩
        · go_simp
          try rfl
        go_simp; refine nu_step rfl ?_; apply Exists.intro; refine ⟨fun w1 hw1 => ?_, ?_⟩
        · go_simp
          try rfl
        go_simp; refine nu_step rfl ?_; apply Exists.intro; refine ⟨fun w1 hw1 => ?_, ?_⟩
        · go_simp
          try rfl
        go_simp; refine nu_step rfl ?_; apply Exists.intro; refine ⟨fun w1 hw1 => ?_, ?_⟩
        · go_simp
          try rfl
        go_simp; refine nu_step rfl ?_; apply Exists.intro; refine ⟨fun w1 hw1 => ?_, ?_⟩
        · go_simp
          try rfl
        go_simp; refine nu_step rfl ?_; apply Exists.intro; refine ⟨fun w1 hw1 => ?_, ?_⟩
        · go_simp
          try rfl
        go_simp; refine nu_step rfl ?_; apply Exists.intro; refine ⟨fun w1 hw1 => ?_, ?_⟩
        · obtain ⟨hc, hf, hz⟩ := hw1.facts
          try simp at hz
          go_simp
          try rfl
        go_simp; refine nu_step rfl ?_; apply Exists.intro; refine ⟨fun w1 hw1 => ?_, ?_⟩
        · go_simp
          try rfl
        go_simp; refine nu_step rfl ?_; apply Exists.intro; refine ⟨fun w1 hw1 => ?_, ?_⟩
        · go_simp
          try rfl
        go_simp; refine nu_step rfl ?_; apply Exists.intro; refine ⟨fun w1 hw1 => ?_, ?_⟩
        · go_simp
          try rfl
        go_simp; refine nu_step rfl ?_; apply Exists.intro; refine ⟨fun w1 hw1 => ?_, ?_⟩
        · go_simp
          try rfl
        go_simp; refine nu_step rfl ?_; apply Exists.intro; refine ⟨fun w1 hw1 => ?_, ?_⟩
        · go_simp
          try rfl
        go_simp; refine wpQuiet_nil ?_; intro wA uA; clear w1 w2 w3 w4 w5 w6 w7 w8 w9 wq w10 w11 e1 e2 e3; go_wp2; go_ret
        exact ⟨_, rfl, Int.emod_nonneg _ (by omega), .inl (Int.emod_lt_of_pos _ (by omega)), R.out.nu uA, ((Pk.refl _ _).set _ _).nu uA⟩
set_option maxHeartbeats 400000 in
theorem oddP_any (g N : Nat) (m : Int) (w : World) (hm : I64 m) (hN : N ≤ 1000000) (hR : Rd w g N) :
    Calls Try.prog 88 #[.pointer (some ⟨g, 0, none⟩), .int .i64 m] w (TossedP g (N + 1) w) := by
  have R := Lib.hid hR
  clear hR
  by_cases h : 0 < m
  · have hm2 : m ≤ 9223372036854775807 := hm.2
    have HM := Lib.hid hm
    clear hm
    go_enter Try.func88, Try.ntmps88
    go_wp2_with fail
    refine (pickP_any g N m _ HM.out hN R.out).mono ?_; rintro x w1 ⟨v, rfl, _, _, R1, M1⟩
    have RR := Lib.hid R1
    have MM := Lib.hid M1
    clear R1 M1; go_wp2
    all_goals go_ret
    all_goals exact ⟨_, rfl, RR.out, MM.out⟩
  · have HM := Lib.hid hm
    clear hm
    go_enter Try.func88, Try.ntmps88
    go_wp2; go_ret
    exact ⟨_, rfl, R.out.mono (by omega), Pk.refl _ _⟩
end Go.Proofs.Ytakmlfgkppekoaa

namespace Go.Proofs.Ytakmlfgkppekoaa
set_option maxRecDepth 100000
open Go.RowKit
def eqB (a b : Evt) : Bool := decide (a = b)
theorem eqB_mk (a b c d e f a' b' c' d' e' f' : Int) : eqB ⟨a, b, c, d, e, f⟩ ⟨a', b', c', d', e', f'⟩ = (decide (a = a') && decide (b = b') && decide (c = c') && decide (d = d') && decide (e = e') && decide (f = f')) := by
  unfold eqB; rw [Bool.eq_iff_iff]; simp [Bool.and_eq_true, and_assoc]
end Go.Proofs.Ytakmlfgkppekoaa

namespace Go.Proofs.Ytakmlfgkppekoaa
set_option maxRecDepth 100000
open Go.RowKit
theorem equalIn_evt (a b : Evt) (w : World) : (Op.equalIn 10000 45 a.v b.v).run Try.prog w = .ok (eqB a b) w := by
  obtain ⟨z0, z1, z2, z3, z4, z5⟩ := a; obtain ⟨y0, y1, y2, y3, y4, y5⟩ := b
  have u3 := Try.underlying3
  have a3 := Try.isAgg3
  have s3 := Try.sizeOf3
  have hS : Try.prog.underlying 45 = some (.struct (Try.prog.fieldsOf 45)) := by kernel_rfl
  have hp : Try.prog.stoodInHeld 45 = false := by kernel_rfl
  rw [eqB_mk]; unfold Evt.v; dsimp only; rw [show (10000 : Nat) = 9999 + 1 from rfl, run_equalIn_agg w 9999 45 _ _ hS hp]; simp only [Program.fieldsOf, Try.underlying45]; go_simp
  by_cases h0 : z0 = y0 <;> by_cases h1 : z1 = y1 <;> by_cases h2 : z2 = y2 <;> by_cases h3 : z3 = y3 <;> by_cases h4 : z4 = y4 <;> by_cases h5 : z5 = y5 <;> simp [h0, h1, h2, h3, h4, h5]
theorem eql_evt (a b : Evt) (w : World) : (binOp .eql 45 a.v b.v).run Try.prog w = .ok (.bool (eqB a b)) w := by
  have h := equalIn_evt a b w
  unfold Evt.v at h ⊢; rw [run_eql_struct, h]
  rfl
theorem guard_evt (op : BinOp) (x y : Operand) (xs ys : Array Value) (w : World) : (eqGuard op 45 x y (.agg xs) (.agg ys)).run Try.prog w = .ok () w :=
  run_eqGuard_agg w op 45 x y xs ys (by kernel_rfl)
end Go.Proofs.Ytakmlfgkppekoaa

namespace Go.Proofs.Ytakmlfgkppekoaa
set_option maxRecDepth 100000
open Go.RowKit
/-- r is the first place of e. -/
def IsAt (e : Evt) (es : List Evt) (r : Int) : Prop :=
  (∃ k : Nat, r = k ∧ k < es.length ∧ eqB (es.getD k default) e = true ∧ ∀ j, j < k → eqB (es.getD j default) e = false) ∨
  (r = -1 ∧ ∀ j, j < es.length → eqB (es.getD j default) e = false)
/-- What l1At gives. -/
def AtPost (e : Evt) (es : List Evt) (w : World) (x : Ending) (w' : World) : Prop := ∃ r, x = .returned (.int .i64 r) ∧ IsAt e es r ∧ Up w w'
/-- What its loop keeps. -/
def AtRel (e : Evt) (es : List Evt) (n : Nat) (i : Value) : Prop := ∃ k : Nat, k ≤ n ∧ i = .int .i64 k ∧ ∀ j, j < k → eqB (es.getD j default) e = false
set_option maxHeartbeats 4000000 in
theorem l1At_any (A : Option Addr) (n cap : Nat) (es : List Evt) (e : Evt) (w : World) (hn : n ≤ 1000000000) (hE : Evs w A n es) :
    Calls Try.prog 116 #[.slice A n cap, e.v] w (AtPost e es w) := by
  have HE := Lib.hid hE
  have LE := Lib.hid hE.1
  have CL := Lib.hid (fun x W => eql_evt x e W)
  have gd := guard_evt
  clear hE
  generalize hee : e = e' at CL ⊢
  have HEE := Lib.hid hee
  clear hee; obtain ⟨et, eto, efr, esq, ekd, edt⟩ := e'; unfold Evt.v at CL ⊢; dsimp only at CL ⊢
  go_enter Try.func116, Try.ntmps116
  go_wp2
  go_loopw [5] (fun i wr => AtRel e es n i ∧ Up w wr ∧ Box wr w.heap.size ⟨et, eto, efr, esq, ekd, edt⟩) (fun i _ => n - (intOf i).toNat)
  case atStart => exact ⟨⟨0, by omega, rfl, fun j hj => absurd hj (by omega)⟩, (Up.refl w).alloc _, Box.new w ⟨et, eto, efr, esq, ekd, edt⟩ _⟩
  case round =>
    obtain ⟨⟨k, hk, rfl, hr⟩, ur, bx⟩ := hrel
    have HR := Lib.hid hr
    have BX := Lib.hid bx
    have hsx := bx.lt
    clear hr bx
    by_cases hlt : k < n
    · obtain ⟨bb, off, hA, hbb, hc⟩ := HE.out.2 (by omega)
      subst hA
      have a0 := (hc k hlt).up ur hbb
      have hbb' : bb < wr.heap.size := by have := ur.size; omega
      clear hc
      have cl := CL.out (es.getD k default)
      generalize hxx : es.getD k default = x at a0 cl
      have HX := Lib.hid hxx
      clear hxx
      generalize hq : eqB x ⟨et, eto, efr, esq, ekd, edt⟩ = q at cl
      have HQ := Lib.hid hq
      clear hq; obtain ⟨xt, xto, xfr, xsq, xkd, xdt⟩ := x; unfold EvAt at a0; dsimp only at a0 cl
      have i4 : (k : Int) < n := by omega
      obtain ⟨⟨e0, e1, e2, e3, e4, e5⟩, -⟩ := BX.out.mk6; obtain ⟨p0, p1, p2, p3, p4, p5⟩ := a0; go_wp2; refine region_up (by kernel_rfl) (by kernel_rfl) ?_; refine up_step rfl ?_; apply Exists.intro; refine ⟨fun w1 hw1 => ?_, ?_⟩
      · go_simp
        try rfl
      go_simp; refine up_step rfl ?_; apply Exists.intro; refine ⟨fun w1 hw1 => ?_, ?_⟩
      · go_simp
        try rfl
      go_simp; refine up_step rfl ?_; apply Exists.intro; refine ⟨fun w1 hw1 => ?_, ?_⟩
      · go_simp
        try rfl
      go_simp; refine up_step rfl ?_; apply Exists.intro; refine ⟨fun w1 hw1 => ?_, ?_⟩
      · obtain ⟨hc, hf, hz⟩ := hw1.facts
        try simp at hz
        go_simp
        try rfl
      go_simp; refine up_step rfl ?_; apply Exists.intro; refine ⟨fun w1 hw1 => ?_, ?_⟩
      · obtain ⟨hc, hf, hz⟩ := hw1.facts
        try simp at hz
        go_simp
        try rfl
      go_simp; refine up_step rfl ?_; apply Exists.intro; refine ⟨fun w1 hw1 => ?_, ?_⟩
      · go_simp
        try rfl
      go_simp; refine wpQuiet_nil ?_; intro wA uA; clear i4 cl p0 p1 p2 p3 p4 p5 e0 e1 e2 e3 e4 e5
      cases q
      · go_wp2
        go_roundw
        case rel => exact ⟨⟨k + 1, by omega, by go_num, fun j hj => (by
            rcases Nat.lt_or_ge j k with h | h
            · exact HR.out j h
            · obtain rfl : j = k := by omega
              rw [HX.out, HEE.out]
              exact HQ.out)⟩, ur.trans uA, BX.out.up uA⟩
        case measure => simp [intOf]; omega
      · go_wp2
        go_ret
        have hat : IsAt e es (k : Int) := .inl ⟨k, rfl, by rw [LE.out]; exact hlt, by rw [HX.out, HEE.out]; exact HQ.out, HR.out⟩
        rw [HEE.out] at hat
        exact ⟨_, rfl, hat, ur.trans uA⟩
    · go_wp2
      go_ret
      have hat : IsAt e es (-1) := .inr ⟨rfl, fun j hj => HR.out j (by have := LE.out; omega)⟩
      rw [HEE.out] at hat
      exact ⟨_, rfl, hat, ur⟩
end Go.Proofs.Ytakmlfgkppekoaa

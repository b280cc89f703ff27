/-
  What toMdlRuleS, toMdlRuleSS and toMdlModel return, in one sentence: the same, all over new blocks; for all that lie in memory.
  What the laying of marks keeps, in one sentence: only cells that hold numbers are written, only in a stretch of blocks, and they hold numbers again; no condition is made.
-/
import Derived.Test.YtakmlfgkppekoaaDLEcdo03
import Derived.Test.YtakmlfgkppekoaaDLEcdo04
import Derived.Test.YtakmlfgkppekoaaDLEcdo05
namespace Go.Proofs.Ytakmlfgkppekoaa
set_option maxRecDepth 100000
open Go.RowKit
theorem info63 : (Try.prog.info? 63).map (fun i => (i.zero, i.size, i.bytes)) = some (some (.agg #[.int .i64 0, .int .i64 0, .int .i64 0, .int .i64 0, .slice none 0 0]), 5, 56) := by kernel_rfl
theorem info60 : (Try.prog.info? 60).map (fun i => (i.zero, i.size, i.bytes)) = some (some (.slice none 0 0), 1, 24) := by kernel_rfl
theorem Own.evs' {w : World} {g n : Nat} {es : List Evt} (h : Own w g n es) : Evs w (some ⟨g, 0, none⟩) n es :=
  ⟨h.1, fun _ => ⟨g, 0, rfl, h.2.1, fun i hi => by rw [Nat.zero_add]; exact h.2.2.1 i hi⟩⟩
theorem Own.up' {w w' : World} {g n : Nat} {es : List Evt} (h : Own w g n es) (u : Up w w') : Own w' g n es :=
  ⟨h.1, by have := u.size; have := h.2.1; omega, fun i hi => (h.2.2.1 i hi).up u h.2.1, fun j hj => (u.frozens _ _ h.2.1).trans (h.2.2.2 j hj)⟩
/-- A rule of the call's own: its cells, and its sends in a block from lo on. -/
def RuleF (w : World) (lo b o : Nat) (r : Rule) : Prop :=
  ∃ g n, (w.cell? ⟨b, o, none⟩ = some (.int .i64 r.kd) ∧ w.cell? ⟨b, o + 1, none⟩ = some (.int .i64 r.a) ∧ w.cell? ⟨b, o + 2, none⟩ = some (.int .i64 r.b) ∧ w.cell? ⟨b, o + 3, none⟩ = some (.int .i64 r.c) ∧ w.cell? ⟨b, o + 4, none⟩ = some (.slice (some ⟨g, 0, none⟩) n n)) ∧
    lo ≤ g ∧ n ≤ 9223372036854775807 ∧ Own w g n r.sends
theorem RuleF.at_ {w : World} {lo b o : Nat} {r : Rule} (h : RuleF w lo b o r) : RuleAt w b o r := by
  obtain ⟨g, n, hc, _, hn, ho⟩ := h
  exact ⟨_, n, n, hc, hn, ho.evs'⟩
theorem RuleF.up {w w' : World} {lo b o : Nat} {r : Rule} (h : RuleF w lo b o r) (u : Up w w') (hb : b < w.heap.size) : RuleF w' lo b o r := by
  obtain ⟨g, n, ⟨h0, h1, h2, h3, h4⟩, hl, hn, ho⟩ := h
  exact ⟨g, n, ⟨(u.cells _ _ hb).trans h0, (u.cells _ _ hb).trans h1, (u.cells _ _ hb).trans h2, (u.cells _ _ hb).trans h3, (u.cells _ _ hb).trans h4⟩, hl, hn, ho.up' u⟩
theorem RuleF.putFar {w : World} {lo b o b' o' : Nat} {r r' : Rule} {s : Value} (h : RuleF w lo b o r) (hl : b' < lo) (hd : b' ≠ b ∨ o + 5 ≤ o' ∨ o' + 5 ≤ o) : RuleF (putR w b' o' r' s) lo b o r := by
  obtain ⟨g, n, ⟨h0, h1, h2, h3, h4⟩, hl', hn, ho⟩ := h
  have f : ∀ k, k < 5 → (putR w b' o' r' s).cell? ⟨b, o + k, none⟩ = w.cell? ⟨b, o + k, none⟩ := fun k hk => putR_other _ _ _ _ _ _ _ (by omega)
  exact ⟨g, n, ⟨(f 0 (by omega)).trans h0, (f 1 (by omega)).trans h1, (f 2 (by omega)).trans h2, (f 3 (by omega)).trans h3, (f 4 (by omega)).trans h4⟩, hl', hn, ho.putR (by omega)⟩
theorem RuleF.setFar {w : World} {lo b o : Nat} {r : Rule} (h : RuleF w lo b o r) {p : Addr} (hl : p.block < lo) (hb : p.block ≠ b) (u : Value) : RuleF (w.setCell p u) lo b o r := by
  obtain ⟨g, n, ⟨h0, h1, h2, h3, h4⟩, hl', hn, ho⟩ := h
  have f : ∀ j, (w.setCell p u).cell? ⟨b, j, none⟩ = w.cell? ⟨b, j, none⟩ := fun j => World.cell?_setCell_other _ _ _ _ (fun e => hb (by rw [e]))
  exact ⟨g, n, ⟨(f _).trans h0, (f _).trans h1, (f _).trans h2, (f _).trans h3, (f _).trans h4⟩, hl', hn, ho.setFar (by omega) u⟩
/-- Rules of the call's own. -/
structure RulesF (w : World) (g n : Nat) (rs : List Rule) : Prop where
  len : rs.length = n
  big : n ≤ 9223372036854775807
  lt : g < w.heap.size
  at_ : ∀ i, i < n → RuleF w (g + 1) g (i * 5) (rs.getD i default)
  free : ∀ j, j < n * 5 → w.frozen? ⟨g, j, none⟩ = false
theorem RulesF.rules {w : World} {g n : Nat} {rs : List Rule} (h : RulesF w g n rs) : Rules w (some ⟨g, 0, none⟩) n rs :=
  ⟨h.len, h.big, fun _ => ⟨g, 0, rfl, h.lt, fun i hi => by rw [Nat.zero_add]; exact (h.at_ i hi).at_⟩⟩
theorem RulesF.up {w w' : World} {g n : Nat} {rs : List Rule} (h : RulesF w g n rs) (u : Up w w') : RulesF w' g n rs :=
  ⟨h.len, h.big, Nat.lt_of_lt_of_le h.lt u.size, fun i hi => (h.at_ i hi).up u h.lt, fun j hj => (u.frozens _ _ h.lt).trans (h.free j hj)⟩
theorem RulesF.setFar {w : World} {g n : Nat} {rs : List Rule} (h : RulesF w g n rs) {p : Addr} (hl : p.block < g) (u : Value) : RulesF (w.setCell p u) g n rs :=
  ⟨h.len, h.big, by simpa using h.lt, fun i hi => (h.at_ i hi).setFar (by omega) (by omega) u, fun j hj => by have := h.free j hj; simpa [go_sem] using this⟩
/-- The block g on the way: k of its n rules are laid. -/
structure PartR (w : World) (g n k : Nat) (rs : List Rule) : Prop where
  lt : g < w.heap.size
  at_ : ∀ i, i < k → RuleF w (g + 1) g (i * 5) (rs.getD i default)
  some_ : ∀ j, j < n * 5 → ∃ v, w.cell? ⟨g, j, none⟩ = some v
  free : ∀ j, j < n * 5 → w.frozen? ⟨g, j, none⟩ = false
theorem PartR.begin (w : World) (n : Nat) (t : TypeId) (rs : List Rule) (z : Array Value) : PartR (w.alloc (.cells (madeCells z (n * 5)) t)) w.heap.size n 0 rs :=
  ⟨by simp, fun i hi => absurd hi (by omega), fun j hj => (made_cell w _ _ t j hj).1, fun j hj => (made_cell w _ _ t j hj).2⟩
theorem PartR.up {w w' : World} {g n k : Nat} {rs : List Rule} (h : PartR w g n k rs) (u : Up w w') : PartR w' g n k rs :=
  ⟨Nat.lt_of_lt_of_le h.lt u.size, fun i hi => (h.at_ i hi).up u h.lt, fun j hj => by obtain ⟨v, hv⟩ := h.some_ j hj; exact ⟨v, (u.cells _ _ h.lt).trans hv⟩, fun j hj => (u.frozens _ _ h.lt).trans (h.free j hj)⟩
theorem PartR.put {w : World} {g n k g' n' : Nat} {rs : List Rule} {r : Rule} (h : PartR w g n k rs) (hr : rs.getD k default = r) (hk : k < n) (hg : g + 1 ≤ g') (hn : n' ≤ 9223372036854775807) (ho : Own w g' n' r.sends) :
    PartR (putR w g (k * 5) r (.slice (some ⟨g', 0, none⟩) n' n')) g n (k + 1) rs := by
  refine ⟨by rw [putR_size]; exact h.lt, fun i hi => ?_, fun j hj => ?_, fun j hj => (putR_frozen _ _ _ _ _ _).trans (h.free j hj)⟩
  · by_cases hik : i = k
    · subst hik
      rw [hr]
      exact ⟨g', n', putR_at (fun q hq => h.some_ _ (by omega)), hg, hn, ho.putR (by omega)⟩
    · exact (h.at_ i (by omega)).putFar (by omega) (by omega)
  · obtain ⟨v, hv⟩ := h.some_ j hj
    unfold putR; obtain ⟨v1, h1⟩ := setCell_some (p := ⟨g, k * 5, none⟩) (u := .int .i64 r.kd) hv; obtain ⟨v2, h2⟩ := setCell_some (p := ⟨g, k * 5 + 1, none⟩) (u := .int .i64 r.a) h1; obtain ⟨v3, h3⟩ := setCell_some (p := ⟨g, k * 5 + 2, none⟩) (u := .int .i64 r.b) h2; obtain ⟨v4, h4⟩ := setCell_some (p := ⟨g, k * 5 + 3, none⟩) (u := .int .i64 r.c) h3
    exact setCell_some h4
def NewRules (rs : List Rule) (n : Nat) (w : World) (x : Ending) (w' : World) : Prop :=
  ∃ g, x = .returned (.slice (some ⟨g, 0, none⟩) n n) ∧ w.heap.size ≤ g ∧ RulesF w' g n rs ∧ Up w w'
set_option maxHeartbeats 4000000 in
theorem toRuleS_any (A : Option Addr) (n cap : Nat) (rs : List Rule) (w : World) (hn : n ≤ 1048576) (hE : Rules w A n rs) (hS : Small rs) :
    Calls Try.prog 111 #[.slice A n cap] w (NewRules rs n w) := by
  obtain ⟨i0, hi, hz0, hz1, hz2⟩ := info_parts info63
  have hmk := fun W => run_make_rowN (P := Try.prog) 60 63 i0 _ Try.underlying60 hi hz0 .i64 .i64 n n (Nat.le_refl _) (by rw [hz2]; omega) (by omega) W
  rw [hz1] at hmk
  have HE := Lib.hid hE
  have LE := Lib.hid hE.1
  have SM := Lib.hid hS
  have CL := Lib.hid (fun r A n c W a b => toRule_any r A n c W a b)
  clear hE hi hz0 hz1 hz2 hS
  go_enter Try.func111, Try.ntmps111
  go_wp2
  generalize hg : w.heap.size = g
  have HG := Lib.hid (Nat.le_of_eq hg)
  go_loopw [4] (fun i wr => (∃ k : Nat, k ≤ n ∧ i = .int .i64 k ∧ PartR wr g n k rs) ∧ Up w wr) (fun i _ => n - (intOf i).toNat)
  case atStart =>
    refine ⟨⟨0, by omega, rfl, ?_⟩, (Up.refl _).alloc _⟩; subst hg
    exact PartR.begin w n _ rs _
  case round =>
    obtain ⟨⟨k, hk, rfl, hp⟩, ur⟩ := hrel
    have HP := Lib.hid hp
    have UR := Lib.hid ur
    clear hp
    by_cases hlt : k < n
    · obtain ⟨b, off, hA, hb, hc⟩ := (HE.out.up ur).2.2 (by omega)
      subst hA
      have a0 := hc k hlt
      clear hc ur
      have sm := SM.out k (by rw [LE.out]; exact hlt)
      have cl := CL.out (rs.getD k default)
      generalize hpk : rs.getD k default = p at a0 cl sm
      have HE' := Lib.hid hpk
      clear hpk; obtain ⟨A3, n3, c3, ⟨p0, p1, p2, p3, p4⟩, hn3, he3⟩ := a0
      have hn3' : n3 ≤ 1048576 := by rw [← he3.1]; exact sm
      have cl2 := cl A3 n3 c3 wr (by omega) he3
      obtain ⟨pk, pa, pb, pc, ps⟩ := p; unfold NewRule at cl2; unfold Rule.v at cl2; dsimp only at p0 p1 p2 p3 p4 cl2
      have C := Lib.hid cl2
      clear cl cl2 he3 sm
      have hgl : g < wr.heap.size := HP.out.lt
      have i4 : (k : Int) < n := by omega
      have i5 : IntKind.i64.wrap ((k : Int) + 1) = (k : Int) + 1 := IntWalk.i64_in _ (by omega)
      go_wp2_with fail
      refine C.out.mono ?_; rintro x wA ⟨g', rfl, hg', o', uA⟩
      have P := HP.out.up uA
      have O' := Lib.hid o'
      have UA := Lib.hid (UR.out.trans uA)
      obtain ⟨v0, c0⟩ := P.some_ (k * 5) (by omega); obtain ⟨v1, c1⟩ := P.some_ (k * 5 + 1) (by omega); obtain ⟨v2, c2⟩ := P.some_ (k * 5 + 2) (by omega); obtain ⟨v3, c3⟩ := P.some_ (k * 5 + 3) (by omega); obtain ⟨v4, c4⟩ := P.some_ (k * 5 + 4) (by omega)
      have f0 := P.free (k * 5) (by omega)
      have f1 := P.free (k * 5 + 1) (by omega)
      have f2 := P.free (k * 5 + 2) (by omega)
      have f3 := P.free (k * 5 + 3) (by omega)
      have f4 := P.free (k * 5 + 4) (by omega)
      have HP2 := Lib.hid P
      have HG' := Lib.hid (show g + 1 ≤ g' by omega)
      clear P p0 p1 p2 p3 p4 o' uA hg'; go_wp2
      go_roundw
      case rel =>
        have hq := HP2.out.put HE'.out hlt HG'.out hn3 O'.out
        have hu := UA.out.putR (b := g) (o := k * 5) (r := ⟨pk, pa, pb, pc, ps⟩) (s := .slice (some ⟨g', 0, none⟩) n3 n3) HG.out
        unfold putR at hq hu
        exact ⟨⟨k + 1, by omega, by first | rfl | go_num, hq⟩, hu⟩
      case measure => (simp [intOf]; try omega)
    · have hkn : k = n := by omega
      have i4 : ¬ (k : Int) < n := by omega
      clear ur; go_wp2; go_ret; refine ⟨g, rfl, by omega, ⟨LE.out, by omega, HP.out.lt, fun i hi => HP.out.at_ i (by omega), HP.out.free⟩, UR.out⟩
/-- Rows of rules of the call's own. -/
structure RulzF (w : World) (g n : Nat) (rss : List (List Rule)) : Prop where
  len : rss.length = n
  big : n ≤ 9223372036854775807
  lt : g < w.heap.size
  at_ : ∀ i, i < n → ∃ g' n', w.cell? ⟨g, i, none⟩ = some (.slice (some ⟨g', 0, none⟩) n' n') ∧ g < g' ∧ RulesF w g' n' (rss.getD i [])
  free : ∀ j, j < n → w.frozen? ⟨g, j, none⟩ = false
theorem RulzF.rulz {w : World} {g n : Nat} {rss : List (List Rule)} (h : RulzF w g n rss) : Rulz w (some ⟨g, 0, none⟩) n rss :=
  ⟨h.len, h.big, fun _ => ⟨g, 0, rfl, h.lt, fun i hi => by
    obtain ⟨g', n', hc, _, hr⟩ := h.at_ i hi
    exact ⟨_, n', n', by rw [Nat.zero_add]; exact hc, hr.rules⟩⟩⟩
theorem RulzF.up {w w' : World} {g n : Nat} {rss : List (List Rule)} (h : RulzF w g n rss) (u : Up w w') : RulzF w' g n rss :=
  ⟨h.len, h.big, Nat.lt_of_lt_of_le h.lt u.size, fun i hi => by
    obtain ⟨g', n', hc, hg, hr⟩ := h.at_ i hi
    exact ⟨g', n', (u.cells _ _ h.lt).trans hc, hg, hr.up u⟩, fun j hj => (u.frozens _ _ h.lt).trans (h.free j hj)⟩
theorem RulzF.setFar {w : World} {g n : Nat} {rss : List (List Rule)} (h : RulzF w g n rss) {p : Addr} (hl : p.block < g) (u : Value) : RulzF (w.setCell p u) g n rss :=
  ⟨h.len, h.big, by simpa using h.lt, fun i hi => by
    obtain ⟨g', n', hc, hg, hr⟩ := h.at_ i hi
    exact ⟨g', n', (World.cell?_setCell_other _ _ _ _ (fun e => by rw [e] at hl; exact absurd hl (Nat.lt_irrefl _))).trans hc, hg, hr.setFar (by omega) u⟩, fun j hj => by have := h.free j hj; simpa [go_sem] using this⟩
structure PartZ (w : World) (g n k : Nat) (rss : List (List Rule)) : Prop where
  lt : g < w.heap.size
  at_ : ∀ i, i < k → ∃ g' n', w.cell? ⟨g, i, none⟩ = some (.slice (some ⟨g', 0, none⟩) n' n') ∧ g < g' ∧ RulesF w g' n' (rss.getD i [])
  some_ : ∀ j, j < n → ∃ v, w.cell? ⟨g, j, none⟩ = some v
  free : ∀ j, j < n → w.frozen? ⟨g, j, none⟩ = false
theorem PartZ.begin (w : World) (n : Nat) (t : TypeId) (rss : List (List Rule)) (z : Array Value) : PartZ (w.alloc (.cells (madeCells z (n * 1)) t)) w.heap.size n 0 rss :=
  ⟨by simp, fun i hi => absurd hi (by omega), fun j hj => (made_cell w _ _ t j (by omega)).1, fun j hj => (made_cell w _ _ t j (by omega)).2⟩
theorem PartZ.up {w w' : World} {g n k : Nat} {rss : List (List Rule)} (h : PartZ w g n k rss) (u : Up w w') : PartZ w' g n k rss :=
  ⟨Nat.lt_of_lt_of_le h.lt u.size, fun i hi => by
    obtain ⟨g', n', hc, hg, hr⟩ := h.at_ i hi
    exact ⟨g', n', (u.cells _ _ h.lt).trans hc, hg, hr.up u⟩, fun j hj => by obtain ⟨v, hv⟩ := h.some_ j hj; exact ⟨v, (u.cells _ _ h.lt).trans hv⟩, fun j hj => (u.frozens _ _ h.lt).trans (h.free j hj)⟩
theorem PartZ.put {w : World} {g n k g' n' : Nat} {rss : List (List Rule)} {rs : List Rule} (h : PartZ w g n k rss) (hr : rss.getD k [] = rs) (hk : k < n) (hg : g < g') (ho : RulesF w g' n' rs) :
    PartZ (w.setCell ⟨g, k, none⟩ (.slice (some ⟨g', 0, none⟩) n' n')) g n (k + 1) rss := by
  refine ⟨by simpa using h.lt, fun i hi => ?_, fun j hj => ?_, fun j hj => by have := h.free j hj; simpa [go_sem] using this⟩
  · by_cases hik : i = k
    · subst hik
      rw [hr]; obtain ⟨v, hv⟩ := h.some_ i hk
      exact ⟨g', n', World.cell?_setCell_same _ _ _ hv, hg, ho.setFar hg _⟩
    · obtain ⟨g2, n2, hc, hg2, hr2⟩ := h.at_ i (by omega)
      exact ⟨g2, n2, (World.cell?_setCell_other _ _ _ _ (addr_ne (by omega))).trans hc, hg2, hr2.setFar hg2 _⟩
  · obtain ⟨v, hv⟩ := h.some_ j hj
    exact setCell_some hv
def NewRulz (rss : List (List Rule)) (n : Nat) (w : World) (x : Ending) (w' : World) : Prop :=
  ∃ g, x = .returned (.slice (some ⟨g, 0, none⟩) n n) ∧ w.heap.size ≤ g ∧ RulzF w' g n rss ∧ Up w w'
/-- Each list of rules is short. -/
def Shorts (rss : List (List Rule)) : Prop := ∀ i, i < rss.length → (rss.getD i []).length ≤ 1048576 ∧ Small (rss.getD i [])
set_option maxHeartbeats 4000000 in
theorem toRuleSS_any (A : Option Addr) (n cap : Nat) (rss : List (List Rule)) (w : World) (hn : n ≤ 1048576) (hE : Rulz w A n rss) (hS : Shorts rss) :
    Calls Try.prog 68 #[.slice A n cap] w (NewRulz rss n w) := by
  obtain ⟨i0, hi, hz0, hz1, hz2⟩ := info_parts info60
  have hmk := fun W => run_make_rowN (P := Try.prog) 30 60 i0 _ Try.underlying30 hi hz0 .i64 .i64 n n (Nat.le_refl _) (by rw [hz2]; omega) (by omega) W
  rw [hz1] at hmk
  have HE := Lib.hid hE
  have LE := Lib.hid hE.1
  have SM := Lib.hid hS
  have CL := Lib.hid (fun r A n c W a b d => toRuleS_any A n c r W a b d)
  clear hE hi hz0 hz1 hz2 hS
  go_enter Try.func68, Try.ntmps68
  go_wp2
  generalize hg : w.heap.size = g
  have HG := Lib.hid (Nat.le_of_eq hg)
  go_loopw [4] (fun i wr => (∃ k : Nat, k ≤ n ∧ i = .int .i64 k ∧ PartZ wr g n k rss) ∧ Up w wr) (fun i _ => n - (intOf i).toNat)
  case atStart =>
    refine ⟨⟨0, by omega, rfl, ?_⟩, by first | exact (Up.refl _).alloc _ | (simpa using (Up.refl w).alloc _)⟩; subst hg
    first | exact PartZ.begin w n _ rss _ | (have := PartZ.begin w n 60 rss #[.slice none 0 0]; simpa using this)
  case round =>
    obtain ⟨⟨k, hk, rfl, hp⟩, ur⟩ := hrel
    have HP := Lib.hid hp
    have UR := Lib.hid ur
    clear hp
    by_cases hlt : k < n
    · obtain ⟨b, off, hA, hb, hc⟩ := (HE.out.up ur).2.2 (by omega)
      subst hA; obtain ⟨A3, n3, c3, p0, he3⟩ := hc k hlt; clear hc ur
      have sm := SM.out k (by rw [LE.out]; exact hlt)
      have cl := CL.out (rss.getD k [])
      generalize hpk : rss.getD k [] = p at he3 cl sm
      have HE' := Lib.hid hpk
      clear hpk
      have hn3' : n3 ≤ 1048576 := by rw [← he3.1]; exact sm.1
      have C := Lib.hid (cl A3 n3 c3 wr hn3' he3 sm.2)
      clear cl he3 sm
      have hgl : g < wr.heap.size := HP.out.lt
      have i4 : (k : Int) < n := by omega
      have i5 : IntKind.i64.wrap ((k : Int) + 1) = (k : Int) + 1 := IntWalk.i64_in _ (by omega)
      go_wp2_with fail
      refine C.out.mono ?_; rintro x wA ⟨g', rfl, hg', o', uA⟩
      have P := HP.out.up uA
      have O' := Lib.hid o'
      have UA := Lib.hid (UR.out.trans uA)
      obtain ⟨v0, c0⟩ := P.some_ k (by omega)
      have f0 := P.free k (by omega)
      have HP2 := Lib.hid P
      have HG' := Lib.hid (show g < g' by omega)
      clear P p0 o' uA hg'; go_wp2
      go_roundw
      case rel =>
        exact ⟨⟨k + 1, by omega, by first | rfl | go_num, HP2.out.put HE'.out hlt HG'.out O'.out⟩, UA.out.setCell HG.out _⟩
      case measure => (simp [intOf]; try omega)
    · have hkn : k = n := by omega
      have i4 : ¬ (k : Int) < n := by omega
      clear ur; go_wp2; go_ret; refine ⟨g, rfl, by omega, ⟨LE.out, by omega, HP.out.lt, fun i hi => HP.out.at_ i (by omega), HP.out.free⟩, UR.out⟩
/-- A model over new blocks. -/
def NewMdl (m : Mdl) (n k : Nat) (w : World) (x : Ending) (w' : World) : Prop :=
  ∃ g1 g2, x = .returned (.agg #[.slice (some ⟨g1, 0, none⟩) n n, .slice (some ⟨g2, 0, none⟩) k k, .int .i64 m.til]) ∧ w.heap.size ≤ g1 ∧ w.heap.size ≤ g2 ∧ RulzF w' g1 n m.rules ∧ Own w' g2 k m.starts ∧ Up w w'
end Go.Proofs.Ytakmlfgkppekoaa

namespace Go.Proofs.Ytakmlfgkppekoaa
set_option maxRecDepth 100000
open Go.RowKit
/-- w' is w with new blocks, and with numbers written over numbers in blocks lo to hi - 1. -/
structure Ints (lo hi : Nat) (w w' : World) : Prop where
  os : w'.os = w.os
  tape : w'.tape = w.tape
  output : w'.output = w.output
  size : w.heap.size ≤ w'.heap.size
  block : ∀ k, k < w.heap.size → (k < lo ∨ hi ≤ k) → w'.heap[k]? = w.heap[k]?
  cell : ∀ b j v, b < w.heap.size → w.cell? ⟨b, j, none⟩ = some v → ((∃ z, v = .int .i64 z) ∧ ∃ z, w'.cell? ⟨b, j, none⟩ = some (.int .i64 z)) ∨ w'.cell? ⟨b, j, none⟩ = some v
  frozen : ∀ b j, b < w.heap.size → w'.frozen? ⟨b, j, none⟩ = w.frozen? ⟨b, j, none⟩
section
variable {lo hi : Nat}
theorem Ints.refl (w : World) : Ints lo hi w w := ⟨rfl, rfl, rfl, Nat.le_refl _, fun _ _ _ => rfl, fun _ _ _ _ h => .inr h, fun _ _ _ => rfl⟩
theorem Ints.trans {a b c : World} (h : Ints lo hi a b) (k : Ints lo hi b c) : Ints lo hi a c :=
  ⟨k.os.trans h.os, k.tape.trans h.tape, k.output.trans h.output, Nat.le_trans h.size k.size, fun j hj hne => (k.block j (Nat.lt_of_lt_of_le hj h.size) hne).trans (h.block j hj hne),
    fun b j v hb hv => by
      have hb' := Nat.lt_of_lt_of_le hb h.size
      rcases h.cell b j v hb hv with ⟨⟨z, rfl⟩, z', hz⟩ | hv'
      · rcases k.cell b j _ hb' hz with ⟨_, h2⟩ | h2
        · exact .inl ⟨⟨z, rfl⟩, h2⟩
        · exact .inl ⟨⟨z, rfl⟩, z', h2⟩
      · exact k.cell b j v hb' hv',
    fun b j hb => (k.frozen b j (Nat.lt_of_lt_of_le hb h.size)).trans (h.frozen b j hb)⟩
theorem Up.ints {w w' : World} (u : Up w w') : Ints lo hi w w' :=
  ⟨u.below.os, u.below.tape, u.below.output, u.size, fun k hk _ => u.below.block k hk, fun b j _ hb hv => .inr ((u.cells b j hb).trans hv), fun b j hb => u.frozens b j hb⟩
theorem Ints.set {a w : World} (h : Ints lo hi a w) {b o : Nat} {z z' : Int} (hc : w.cell? ⟨b, o, none⟩ = some (.int .i64 z)) (hb : lo ≤ b) (hb' : b < hi) : Ints lo hi a (w.setCell ⟨b, o, none⟩ (.int .i64 z')) := by
  refine h.trans ⟨rfl, rfl, rfl, by simp, fun k _ hne => Below.heap_setCell w ⟨b, o, none⟩ _ k (by dsimp only; omega), fun b2 j v _ hv => ?_, fun b2 j _ => by simp [go_sem]⟩
  by_cases e : b = b2 ∧ o = j
  · obtain ⟨rfl, rfl⟩ := e
    rw [hc] at hv
    injection hv with hv
    exact .inl ⟨⟨z, hv.symm⟩, z', World.cell?_setCell_same _ _ _ hc⟩
  · exact .inr ((World.cell?_setCell_other _ _ _ _ (addr_ne (by omega))).trans hv)
/-- Blocks outside the stretch are left alone. -/
theorem Ints.cells {w w' : World} (h : Ints lo hi w w') : ∀ b o, b < w.heap.size → (b < lo ∨ hi ≤ b) → w'.cell? ⟨b, o, none⟩ = w.cell? ⟨b, o, none⟩ := fun b o hb hne => World.cell?_of_block (w := w) (a := ⟨b, o, none⟩) (h.block b hb hne)
theorem Ints.up {a w w' : World} (h : Ints lo hi w w') (k : Up a w) (hl : a.heap.size ≤ lo) : Up a w' :=
  ⟨h.os.trans k.below.os, h.tape.trans k.below.tape, h.output.trans k.below.output, Nat.le_trans k.size h.size, fun j hj => (h.block j (Nat.lt_of_lt_of_le hj k.size) (by omega)).trans (k.below.block j hj)⟩
/-- A cell that holds a number and may be written. -/
def IntC (w : World) (b o : Nat) : Prop := (∃ z, w.cell? ⟨b, o, none⟩ = some (.int .i64 z)) ∧ w.frozen? ⟨b, o, none⟩ = false
theorem IntC.ints {w w' : World} {b o : Nat} (h : IntC w b o) (k : Ints lo hi w w') (hb : b < w.heap.size) : IntC w' b o := by
  obtain ⟨⟨z, hz⟩, hf⟩ := h; refine ⟨?_, (k.frozen b o hb).trans hf⟩
  rcases k.cell b o _ hb hz with ⟨_, h2⟩ | h2
  · exact h2
  · exact ⟨z, h2⟩
theorem Ints.slice {w w' : World} (k : Ints lo hi w w') {b o : Nat} {A : Option Addr} {n c : Nat} (hb : b < w.heap.size) (h : w.cell? ⟨b, o, none⟩ = some (.slice A n c)) : w'.cell? ⟨b, o, none⟩ = some (.slice A n c) := by
  rcases k.cell b o _ hb h with ⟨⟨z, hz⟩, _⟩ | h2
  · cases hz
  · exact h2
/-- Events, or sends, that may be marked. -/
def ShE (lo hi : Nat) (w : World) (A : Option Addr) (n : Nat) : Prop :=
  0 < n → ∃ b off, A = some ⟨b, off, none⟩ ∧ (lo ≤ b ∧ b < hi ∧ b < w.heap.size) ∧ ∀ i, i < n → ∀ j, j < 6 → IntC w b (off + i * 6 + j)
/-- Rules that may be marked. -/
def ShR (lo hi : Nat) (w : World) (A : Option Addr) (n : Nat) : Prop :=
  0 < n → ∃ b off, A = some ⟨b, off, none⟩ ∧ (lo ≤ b ∧ b < hi ∧ b < w.heap.size) ∧ ∀ i, i < n → (∀ j, j < 4 → IntC w b (off + i * 5 + j)) ∧ ∃ A' n' c', w.cell? ⟨b, off + i * 5 + 4, none⟩ = some (.slice A' n' c') ∧ n' ≤ 1048576 ∧ ShE lo hi w A' n'
def ShZ (lo hi : Nat) (w : World) (A : Option Addr) (n : Nat) : Prop :=
  0 < n → ∃ b off, A = some ⟨b, off, none⟩ ∧ b < w.heap.size ∧ ∀ i, i < n → ∃ A' n' c', w.cell? ⟨b, off + i, none⟩ = some (.slice A' n' c') ∧ n' ≤ 1048576 ∧ ShR lo hi w A' n'
theorem ShE.ints {w w' : World} {A : Option Addr} {n : Nat} (h : ShE lo hi w A n) (k : Ints lo hi w w') : ShE lo hi w' A n := fun hn => by
  obtain ⟨b, off, hA, ⟨h1, h2, h3⟩, hc⟩ := h hn
  exact ⟨b, off, hA, ⟨h1, h2, Nat.lt_of_lt_of_le h3 k.size⟩, fun i hi j hj => (hc i hi j hj).ints k h3⟩
theorem ShR.ints {w w' : World} {A : Option Addr} {n : Nat} (h : ShR lo hi w A n) (k : Ints lo hi w w') : ShR lo hi w' A n := fun hn => by
  obtain ⟨b, off, hA, ⟨h1, h2, h3⟩, hc⟩ := h hn; refine ⟨b, off, hA, ⟨h1, h2, Nat.lt_of_lt_of_le h3 k.size⟩, fun i hi => ?_⟩; obtain ⟨hj, A', n', c', hs, hn', he⟩ := hc i hi
  exact ⟨fun j hj' => (hj j hj').ints k h3, A', n', c', k.slice h3 hs, hn', he.ints k⟩
theorem ShZ.ints {w w' : World} {A : Option Addr} {n : Nat} (h : ShZ lo hi w A n) (k : Ints lo hi w w') : ShZ lo hi w' A n := fun hn => by
  obtain ⟨b, off, hA, h3, hc⟩ := h hn; refine ⟨b, off, hA, Nat.lt_of_lt_of_le h3 k.size, fun i hi => ?_⟩; obtain ⟨A', n', c', hs, hn', he⟩ := hc i hi
  exact ⟨A', n', c', k.slice h3 hs, hn', he.ints k⟩
/-- What was laid by to.. may be marked. -/
theorem Own.sh {w : World} {g n : Nat} {es : List Evt} (h : Own w g n es) (h1 : lo ≤ g) (h2 : w.heap.size ≤ hi) : ShE lo hi w (some ⟨g, 0, none⟩) n := fun _ =>
  ⟨g, 0, rfl, ⟨h1, by have := h.2.1; omega, h.2.1⟩, fun i hi' j hj => by
    obtain ⟨c0, c1, c2, c3, c4, c5⟩ := h.2.2.1 i hi'; refine ⟨?_, h.2.2.2 _ (by omega)⟩; rw [Nat.zero_add]
    have h6 : j = 0 ∨ j = 1 ∨ j = 2 ∨ j = 3 ∨ j = 4 ∨ j = 5 := by omega
    rcases h6 with rfl | rfl | rfl | rfl | rfl | rfl
    · exact ⟨_, c0⟩
    · exact ⟨_, c1⟩
    · exact ⟨_, c2⟩
    · exact ⟨_, c3⟩
    · exact ⟨_, c4⟩
    · exact ⟨_, c5⟩⟩
theorem RulesF.sh {w : World} {g n : Nat} {rs : List Rule} (h : RulesF w g n rs) (hs : Small rs) (h1 : lo ≤ g) (h2 : w.heap.size ≤ hi) : ShR lo hi w (some ⟨g, 0, none⟩) n := fun _ =>
  ⟨g, 0, rfl, ⟨h1, by have := h.lt; omega, h.lt⟩, fun i hi' => by
    obtain ⟨g', n', ⟨c0, c1, c2, c3, c4⟩, hg', _, ho⟩ := h.at_ i hi'
    have hsm := hs i (by rw [h.len]; exact hi')
    refine ⟨fun j hj => ⟨?_, h.free _ (by omega)⟩, some ⟨g', 0, none⟩, n', n', by rw [Nat.zero_add]; exact c4, by rw [← ho.1]; exact hsm, ho.sh (by omega) h2⟩; rw [Nat.zero_add]
    have h4 : j = 0 ∨ j = 1 ∨ j = 2 ∨ j = 3 := by omega
    rcases h4 with rfl | rfl | rfl | rfl
    · exact ⟨_, c0⟩
    · exact ⟨_, c1⟩
    · exact ⟨_, c2⟩
    · exact ⟨_, c3⟩⟩
theorem RulzF.sh {w : World} {g n : Nat} {rss : List (List Rule)} (h : RulzF w g n rss) (hs : Shorts rss) (h1 : lo ≤ g) (h2 : w.heap.size ≤ hi) : ShZ lo hi w (some ⟨g, 0, none⟩) n := fun _ =>
  ⟨g, 0, rfl, h.lt, fun i hi' => by
    obtain ⟨g', n', c0, hg', hr⟩ := h.at_ i hi'; obtain ⟨s1, s2⟩ := hs i (by rw [h.len]; exact hi')
    exact ⟨_, n', n', by rw [Nat.zero_add]; exact c0, by rw [← hr.len]; exact s1, hr.sh s2 (by omega) h2⟩⟩
end
end Go.Proofs.Ytakmlfgkppekoaa

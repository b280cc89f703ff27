/-
  What toMdlRuleS, toMdlRuleSS and toMdlModel return, in one sentence: the same, all over new blocks; for all that lie in memory.
  What szMdlRule, szMdlRuleS, szMdlRuleSS and szMdlModel return, in one sentence: -1, or what is left, and then each list is short; for all that lie in memory.
-/
import Derived.Test.YtakmlfgkppekoaaDLEbak02
import Derived.Test.YtakmlfgkppekoaaDLEbak03
import Derived.Test.YtakmlfgkppekoaaDLEbak10
namespace Go.Proofs.Ytakmlfgkppekoaa
set_option maxRecDepth 100000
open Go.RowKit
theorem info63 : (Try.prog.info? 63).map (fun i => (i.zero, i.size, i.bytes)) = some (some (.agg #[.int .i64 0, .int .i64 0, .int .i64 0, .int .i64 0, .slice none 0 0]), 5, 56) := by kernel_rfl
theorem info60 : (Try.prog.info? 60).map (fun i => (i.zero, i.size, i.bytes)) = some (some (.slice none 0 0), 1, 24) := by kernel_rfl
theorem Own.evs' {w : World} {g n : Nat} {es : List Evt} (h : Own w g n es) : Evs w (some ⟨g, 0, none⟩) n es :=
  ⟨h.1, fun _ => ⟨g, 0, rfl, h.2.1, fun i hi => by rw [Nat.zero_add]; exact h.2.2.1 i hi⟩⟩
theorem Own.up' {w w' : World} {g n : Nat} {es : List Evt} (h : Own w g n es) (u : Up w w') : Own w' g n es :=
  ⟨h.1, by have := u.size; have := h.2.1; omega, fun i hi => (h.2.2.1 i hi).up u h.2.1, fun j hj => (u.frozens _ _ h.2.1).trans (h.2.2.2 j hj)⟩
/-- A rule of the call's own: its cells, and its sends in a block from lo on. -/
def RuleF (w : World) (lo b o : Nat) (r : Rule) : Prop :=
  ∃ g n, (w.cell? ⟨b, o, none⟩ = some (.int .i64 r.kd) ∧ w.cell? ⟨b, o + 1, none⟩ = some (.int .i64 r.a) ∧ w.cell? ⟨b, o + 2, none⟩ = some (.int .i64 r.b) ∧ w.cell? ⟨b, o + 3, none⟩ = some (.int .i64 r.c) ∧ w.cell? ⟨b, o + 4, none⟩ = some (.slice (some ⟨g, 0, none⟩) n n)) ∧
    lo ≤ g ∧ n ≤ 9223372036854775807 ∧ Own w g n r.sends
theorem RuleF.at_ {w : World} {lo b o : Nat} {r : Rule} (h : RuleF w lo b o r) : RuleAt w b o r := by
  obtain ⟨g, n, hc, _, hn, ho⟩ := h
  exact ⟨_, n, n, hc, hn, ho.evs'⟩
theorem RuleF.up {w w' : World} {lo b o : Nat} {r : Rule} (h : RuleF w lo b o r) (u : Up w w') (hb : b < w.heap.size) : RuleF w' lo b o r := by
  obtain ⟨g, n, ⟨h0, h1, h2, h3, h4⟩, hl, hn, ho⟩ := h
  exact ⟨g, n, ⟨(u.cells _ _ hb).trans h0, (u.cells _ _ hb).trans h1, (u.cells _ _ hb).trans h2, (u.cells _ _ hb).trans h3, (u.cells _ _ hb).trans h4⟩, hl, hn, ho.up' u⟩
theorem RuleF.putFar {w : World} {lo b o b' o' : Nat} {r r' : Rule} {s : Value} (h : RuleF w lo b o r) (hl : b' < lo) (hd : b' ≠ b ∨ o + 5 ≤ o' ∨ o' + 5 ≤ o) : RuleF (putR w b' o' r' s) lo b o r := by
  obtain ⟨g, n, ⟨h0, h1, h2, h3, h4⟩, hl', hn, ho⟩ := h
  have f : ∀ k, k < 5 → (putR w b' o' r' s).cell? ⟨b, o + k, none⟩ = w.cell? ⟨b, o + k, none⟩ := fun k hk => putR_other _ _ _ _ _ _ _ (by omega)
  exact ⟨g, n, ⟨(f 0 (by omega)).trans h0, (f 1 (by omega)).trans h1, (f 2 (by omega)).trans h2, (f 3 (by omega)).trans h3, (f 4 (by omega)).trans h4⟩, hl', hn, ho.putR (by omega)⟩
theorem RuleF.setFar {w : World} {lo b o : Nat} {r : Rule} (h : RuleF w lo b o r) {p : Addr} (hl : p.block < lo) (hb : p.block ≠ b) (u : Value) : RuleF (w.setCell p u) lo b o r := by
  obtain ⟨g, n, ⟨h0, h1, h2, h3, h4⟩, hl', hn, ho⟩ := h
  have f : ∀ j, (w.setCell p u).cell? ⟨b, j, none⟩ = w.cell? ⟨b, j, none⟩ := fun j => World.cell?_setCell_other _ _ _ _ (fun e => hb (by rw [e]))
  exact ⟨g, n, ⟨(f _).trans h0, (f _).trans h1, (f _).trans h2, (f _).trans h3, (f _).trans h4⟩, hl', hn, ho.setFar (by omega) u⟩
/-- Rules of the call's own. -/
structure RulesF (w : World) (g n : Nat) (rs : List Rule) : Prop where
  len : rs.length = n
  big : n ≤ 9223372036854775807
  lt : g < w.heap.size
  at_ : ∀ i, i < n → RuleF w (g + 1) g (i * 5) (rs.getD i default)
  free : ∀ j, j < n * 5 → w.frozen? ⟨g, j, none⟩ = false
theorem RulesF.rules {w : World} {g n : Nat} {rs : List Rule} (h : RulesF w g n rs) : Rules w (some ⟨g, 0, none⟩) n rs :=
  ⟨h.len, h.big, fun _ => ⟨g, 0, rfl, h.lt, fun i hi => by rw [Nat.zero_add]; exact (h.at_ i hi).at_⟩⟩
theorem RulesF.up {w w' : World} {g n : Nat} {rs : List Rule} (h : RulesF w g n rs) (u : Up w w') : RulesF w' g n rs :=
  ⟨h.len, h.big, Nat.lt_of_lt_of_le h.lt u.size, fun i hi => (h.at_ i hi).up u h.lt, fun j hj => (u.frozens _ _ h.lt).trans (h.free j hj)⟩
theorem RulesF.setFar {w : World} {g n : Nat} {rs : List Rule} (h : RulesF w g n rs) {p : Addr} (hl : p.block < g) (u : Value) : RulesF (w.setCell p u) g n rs :=
  ⟨h.len, h.big, by simpa using h.lt, fun i hi => (h.at_ i hi).setFar (by omega) (by omega) u, fun j hj => by have := h.free j hj; simpa [go_sem] using this⟩
/-- The block g on the way: k of its n rules are laid. -/
structure PartR (w : World) (g n k : Nat) (rs : List Rule) : Prop where
  lt : g < w.heap.size
  at_ : ∀ i, i < k → RuleF w (g + 1) g (i * 5) (rs.getD i default)
  some_ : ∀ j, j < n * 5 → ∃ v, w.cell? ⟨g, j, none⟩ = some v
  free : ∀ j, j < n * 5 → w.frozen? ⟨g, j, none⟩ = false
theorem PartR.begin (w : World) (n : Nat) (t : TypeId) (rs : List Rule) (z : Array Value) : PartR (w.alloc (.cells (madeCells z (n * 5)) t)) w.heap.size n 0 rs :=
  ⟨by simp, fun i hi => absurd hi (by omega), fun j hj => (made_cell w _ _ t j hj).1, fun j hj => (made_cell w _ _ t j hj).2⟩
theorem PartR.up {w w' : World} {g n k : Nat} {rs : List Rule} (h : PartR w g n k rs) (u : Up w w') : PartR w' g n k rs :=
  ⟨Nat.lt_of_lt_of_le h.lt u.size, fun i hi => (h.at_ i hi).up u h.lt, fun j hj => by obtain ⟨v, hv⟩ := h.some_ j hj; exact ⟨v, (u.cells _ _ h.lt).trans hv⟩, fun j hj => (u.frozens _ _ h.lt).trans (h.free j hj)⟩
theorem PartR.put {w : World} {g n k g' n' : Nat} {rs : List Rule} {r : Rule} (h : PartR w g n k rs) (hr : rs.getD k default = r) (hk : k < n) (hg : g + 1 ≤ g') (hn : n' ≤ 9223372036854775807) (ho : Own w g' n' r.sends) :
    PartR (putR w g (k * 5) r (.slice (some ⟨g', 0, none⟩) n' n')) g n (k + 1) rs := by
  refine ⟨by rw [putR_size]; exact h.lt, fun i hi => ?_, fun j hj => ?_, fun j hj => (putR_frozen _ _ _ _ _ _).trans (h.free j hj)⟩
  · by_cases hik : i = k
    · subst hik
      rw [hr]
      exact ⟨g', n', putR_at (fun q hq => h.some_ _ (by omega)), hg, hn, ho.putR (by omega)⟩
    · exact (h.at_ i (by omega)).putFar (by omega) (by omega)
  · obtain ⟨v, hv⟩ := h.some_ j hj
    unfold putR; obtain ⟨v1, h1⟩ := setCell_some (p := ⟨g, k * 5, none⟩) (u := .int .i64 r.kd) hv; obtain ⟨v2, h2⟩ := setCell_some (p := ⟨g, k * 5 + 1, none⟩) (u := .int .i64 r.a) h1; obtain ⟨v3, h3⟩ := setCell_some (p := ⟨g, k * 5 + 2, none⟩) (u := .int .i64 r.b) h2; obtain ⟨v4, h4⟩ := setCell_some (p := ⟨g, k * 5 + 3, none⟩) (u := .int .i64 r.c) h3
    exact setCell_some h4
def NewRules (rs : List Rule) (n : Nat) (w : World) (x : Ending) (w' : World) : Prop :=
  ∃ g, x = .returned (.slice (some ⟨g, 0, none⟩) n n) ∧ w.heap.size ≤ g ∧ RulesF w' g n rs ∧ Up w w'
set_option maxHeartbeats 4000000 in
theorem toRuleS_any (A : Option Addr) (n cap : Nat) (rs : List Rule) (w : World) (hn : n ≤ 1048576) (hE : Rules w A n rs) (hS : Small rs) :
    Calls Try.prog 111 #[.slice A n cap] w (NewRules rs n w) := by
  obtain ⟨i0, hi, hz0, hz1, hz2⟩ := info_parts info63
  have hmk := fun W => run_make_rowN (P := Try.prog) 60 63 i0 _ Try.underlying60 hi hz0 .i64 .i64 n n (Nat.le_refl _) (by rw [hz2]; omega) (by omega) W
  rw [hz1] at hmk
  have HE := Lib.hid hE
  have LE := Lib.hid hE.1
  have SM := Lib.hid hS
  have CL := Lib.hid (fun r A n c W a b => toRule_any r A n c W a b)
  clear hE hi hz0 hz1 hz2 hS
  go_enter Try.func111, Try.ntmps111
  go_wp2
  generalize hg : w.heap.size = g
  have HG := Lib.hid (Nat.le_of_eq hg)
  go_loopw [4] (fun i wr => (∃ k : Nat, k ≤ n ∧ i = .int .i64 k ∧ PartR wr g n k rs) ∧ Up w wr) (fun i _ => n - (intOf i).toNat)
  case atStart =>
    refine ⟨⟨0, by omega, rfl, ?_⟩, (Up.refl _).alloc _⟩; subst hg
    exact PartR.begin w n _ rs _
  case round =>
    obtain ⟨⟨k, hk, rfl, hp⟩, ur⟩ := hrel
    have HP := Lib.hid hp
    have UR := Lib.hid ur
    clear hp
    by_cases hlt : k < n
    · obtain ⟨b, off, hA, hb, hc⟩ := (HE.out.up ur).2.2 (by omega)
      subst hA
      have a0 := hc k hlt
      clear hc ur
      have sm := SM.out k (by rw [LE.out]; exact hlt)
      have cl := CL.out (rs.getD k default)
      generalize hpk : rs.getD k default = p at a0 cl sm
      have HE' := Lib.hid hpk
      clear hpk; obtain ⟨A3, n3, c3, ⟨p0, p1, p2, p3, p4⟩, hn3, he3⟩ := a0
      have hn3' : n3 ≤ 1048576 := by rw [← he3.1]; exact sm
      have cl2 := cl A3 n3 c3 wr (by omega) he3
      obtain ⟨pk, pa, pb, pc, ps⟩ := p; unfold NewRule at cl2; unfold Rule.v at cl2; dsimp only at p0 p1 p2 p3 p4 cl2
      have C := Lib.hid cl2
      clear cl cl2 he3 sm
      have hgl : g < wr.heap.size := HP.out.lt
      have i4 : (k : Int) < n := by omega
      have i5 : IntKind.i64.wrap ((k : Int) + 1) = (k : Int) + 1 := IntWalk.i64_in _ (by omega)
      go_wp2_with fail
      refine C.out.mono ?_; rintro x wA ⟨g', rfl, hg', o', uA⟩
      have P := HP.out.up uA
      have O' := Lib.hid o'
      have UA := Lib.hid (UR.out.trans uA)
      obtain ⟨v0, c0⟩ := P.some_ (k * 5) (by omega); obtain ⟨v1, c1⟩ := P.some_ (k * 5 + 1) (by omega); obtain ⟨v2, c2⟩ := P.some_ (k * 5 + 2) (by omega); obtain ⟨v3, c3⟩ := P.some_ (k * 5 + 3) (by omega); obtain ⟨v4, c4⟩ := P.some_ (k * 5 + 4) (by omega)
      have f0 := P.free (k * 5) (by omega)
      have f1 := P.free (k * 5 + 1) (by omega)
      have f2 := P.free (k * 5 + 2) (by omega)
      have f3 := P.free (k * 5 + 3) (by omega)
      have f4 := P.free (k * 5 + 4) (by omega)
      have HP2 := Lib.hid P
      have HG' := Lib.hid (show g + 1 ≤ g' by omega)
      clear P p0 p1 p2 p3 p4 o' uA hg'; go_wp2
      go_roundw
      case rel =>
        have hq := HP2.out.put HE'.out hlt HG'.out hn3 O'.out
        have hu := UA.out.putR (b := g) (o := k * 5) (r := ⟨pk, pa, pb, pc, ps⟩) (s := .slice (some ⟨g', 0, none⟩) n3 n3) HG.out
        unfold putR at hq hu
        exact ⟨⟨k + 1, by omega, by first | rfl | go_num, hq⟩, hu⟩
      case measure => (simp [intOf]; try omega)
    · have hkn : k = n := by omega
      have i4 : ¬ (k : Int) < n := by omega
      clear ur; go_wp2; go_ret; refine ⟨g, rfl, by omega, ⟨LE.out, by omega, HP.out.lt, fun i hi => HP.out.at_ i (by omega), HP.out.free⟩, UR.out⟩
/-- Rows of rules of the call's own. -/
structure RulzF (w : World) (g n : Nat) (rss : List (List Rule)) : Prop where
  len : rss.length = n
  big : n ≤ 9223372036854775807
  lt : g < w.heap.size
  at_ : ∀ i, i < n → ∃ g' n', w.cell? ⟨g, i, none⟩ = some (.slice (some ⟨g', 0, none⟩) n' n') ∧ g < g' ∧ RulesF w g' n' (rss.getD i [])
  free : ∀ j, j < n → w.frozen? ⟨g, j, none⟩ = false
theorem RulzF.rulz {w : World} {g n : Nat} {rss : List (List Rule)} (h : RulzF w g n rss) : Rulz w (some ⟨g, 0, none⟩) n rss :=
  ⟨h.len, h.big, fun _ => ⟨g, 0, rfl, h.lt, fun i hi => by
    obtain ⟨g', n', hc, _, hr⟩ := h.at_ i hi
    exact ⟨_, n', n', by rw [Nat.zero_add]; exact hc, hr.rules⟩⟩⟩
theorem RulzF.up {w w' : World} {g n : Nat} {rss : List (List Rule)} (h : RulzF w g n rss) (u : Up w w') : RulzF w' g n rss :=
  ⟨h.len, h.big, Nat.lt_of_lt_of_le h.lt u.size, fun i hi => by
    obtain ⟨g', n', hc, hg, hr⟩ := h.at_ i hi
    exact ⟨g', n', (u.cells _ _ h.lt).trans hc, hg, hr.up u⟩, fun j hj => (u.frozens _ _ h.lt).trans (h.free j hj)⟩
theorem RulzF.setFar {w : World} {g n : Nat} {rss : List (List Rule)} (h : RulzF w g n rss) {p : Addr} (hl : p.block < g) (u : Value) : RulzF (w.setCell p u) g n rss :=
  ⟨h.len, h.big, by simpa using h.lt, fun i hi => by
    obtain ⟨g', n', hc, hg, hr⟩ := h.at_ i hi
    exact ⟨g', n', (World.cell?_setCell_other _ _ _ _ (fun e => by rw [e] at hl; exact absurd hl (Nat.lt_irrefl _))).trans hc, hg, hr.setFar (by omega) u⟩, fun j hj => by have := h.free j hj; simpa [go_sem] using this⟩
structure PartZ (w : World) (g n k : Nat) (rss : List (List Rule)) : Prop where
  lt : g < w.heap.size
  at_ : ∀ i, i < k → ∃ g' n', w.cell? ⟨g, i, none⟩ = some (.slice (some ⟨g', 0, none⟩) n' n') ∧ g < g' ∧ RulesF w g' n' (rss.getD i [])
  some_ : ∀ j, j < n → ∃ v, w.cell? ⟨g, j, none⟩ = some v
  free : ∀ j, j < n → w.frozen? ⟨g, j, none⟩ = false
theorem PartZ.begin (w : World) (n : Nat) (t : TypeId) (rss : List (List Rule)) (z : Array Value) : PartZ (w.alloc (.cells (madeCells z (n * 1)) t)) w.heap.size n 0 rss :=
  ⟨by simp, fun i hi => absurd hi (by omega), fun j hj => (made_cell w _ _ t j (by omega)).1, fun j hj => (made_cell w _ _ t j (by omega)).2⟩
theorem PartZ.up {w w' : World} {g n k : Nat} {rss : List (List Rule)} (h : PartZ w g n k rss) (u : Up w w') : PartZ w' g n k rss :=
  ⟨Nat.lt_of_lt_of_le h.lt u.size, fun i hi => by
    obtain ⟨g', n', hc, hg, hr⟩ := h.at_ i hi
    exact ⟨g', n', (u.cells _ _ h.lt).trans hc, hg, hr.up u⟩, fun j hj => by obtain ⟨v, hv⟩ := h.some_ j hj; exact ⟨v, (u.cells _ _ h.lt).trans hv⟩, fun j hj => (u.frozens _ _ h.lt).trans (h.free j hj)⟩
theorem PartZ.put {w : World} {g n k g' n' : Nat} {rss : List (List Rule)} {rs : List Rule} (h : PartZ w g n k rss) (hr : rss.getD k [] = rs) (hk : k < n) (hg : g < g') (ho : RulesF w g' n' rs) :
    PartZ (w.setCell ⟨g, k, none⟩ (.slice (some ⟨g', 0, none⟩) n' n')) g n (k + 1) rss := by
  refine ⟨by simpa using h.lt, fun i hi => ?_, fun j hj => ?_, fun j hj => by have := h.free j hj; simpa [go_sem] using this⟩
  · by_cases hik : i = k
    · subst hik
      rw [hr]; obtain ⟨v, hv⟩ := h.some_ i hk
      exact ⟨g', n', World.cell?_setCell_same _ _ _ hv, hg, ho.setFar hg _⟩
    · obtain ⟨g2, n2, hc, hg2, hr2⟩ := h.at_ i (by omega)
      exact ⟨g2, n2, (World.cell?_setCell_other _ _ _ _ (addr_ne (by omega))).trans hc, hg2, hr2.setFar hg2 _⟩
  · obtain ⟨v, hv⟩ := h.some_ j hj
    exact setCell_some hv
def NewRulz (rss : List (List Rule)) (n : Nat) (w : World) (x : Ending) (w' : World) : Prop :=
  ∃ g, x = .returned (.slice (some ⟨g, 0, none⟩) n n) ∧ w.heap.size ≤ g ∧ RulzF w' g n rss ∧ Up w w'
/-- Each list of rules is short. -/
def Shorts (rss : List (List Rule)) : Prop := ∀ i, i < rss.length → (rss.getD i []).length ≤ 1048576 ∧ Small (rss.getD i [])
set_option maxHeartbeats 4000000 in
theorem toRuleSS_any (A : Option Addr) (n cap : Nat) (rss : List (List Rule)) (w : World) (hn : n ≤ 1048576) (hE : Rulz w A n rss) (hS : Shorts rss) :
    Calls Try.prog 68 #[.slice A n cap] w (NewRulz rss n w) := by
  obtain ⟨i0, hi, hz0, hz1, hz2⟩ := info_parts info60
  have hmk := fun W => run_make_rowN (P := Try.prog) 30 60 i0 _ Try.underlying30 hi hz0 .i64 .i64 n n (Nat.le_refl _) (by rw [hz2]; omega) (by omega) W
  rw [hz1] at hmk
  have HE := Lib.hid hE
  have LE := Lib.hid hE.1
  have SM := Lib.hid hS
  have CL := Lib.hid (fun r A n c W a b d => toRuleS_any A n c r W a b d)
  clear hE hi hz0 hz1 hz2 hS
  go_enter Try.func68, Try.ntmps68
  go_wp2
  generalize hg : w.heap.size = g
  have HG := Lib.hid (Nat.le_of_eq hg)
  go_loopw [4] (fun i wr => (∃ k : Nat, k ≤ n ∧ i = .int .i64 k ∧ PartZ wr g n k rss) ∧ Up w wr) (fun i _ => n - (intOf i).toNat)
  case atStart =>
    refine ⟨⟨0, by omega, rfl, ?_⟩, by first | exact (Up.refl _).alloc _ | (simpa using (Up.refl w).alloc _)⟩; subst hg
    first | exact PartZ.begin w n _ rss _ | (have := PartZ.begin w n 60 rss #[.slice none 0 0]; simpa using this)
  case round =>
    obtain ⟨⟨k, hk, rfl, hp⟩, ur⟩ := hrel
    have HP := Lib.hid hp
    have UR := Lib.hid ur
    clear hp
    by_cases hlt : k < n
    · obtain ⟨b, off, hA, hb, hc⟩ := (HE.out.up ur).2.2 (by omega)
      subst hA; obtain ⟨A3, n3, c3, p0, he3⟩ := hc k hlt; clear hc ur
      have sm := SM.out k (by rw [LE.out]; exact hlt)
      have cl := CL.out (rss.getD k [])
      generalize hpk : rss.getD k [] = p at he3 cl sm
      have HE' := Lib.hid hpk
      clear hpk
      have hn3' : n3 ≤ 1048576 := by rw [← he3.1]; exact sm.1
      have C := Lib.hid (cl A3 n3 c3 wr hn3' he3 sm.2)
      clear cl he3 sm
      have hgl : g < wr.heap.size := HP.out.lt
      have i4 : (k : Int) < n := by omega
      have i5 : IntKind.i64.wrap ((k : Int) + 1) = (k : Int) + 1 := IntWalk.i64_in _ (by omega)
      go_wp2_with fail
      refine C.out.mono ?_; rintro x wA ⟨g', rfl, hg', o', uA⟩
      have P := HP.out.up uA
      have O' := Lib.hid o'
      have UA := Lib.hid (UR.out.trans uA)
      obtain ⟨v0, c0⟩ := P.some_ k (by omega)
      have f0 := P.free k (by omega)
      have HP2 := Lib.hid P
      have HG' := Lib.hid (show g < g' by omega)
      clear P p0 o' uA hg'; go_wp2
      go_roundw
      case rel =>
        exact ⟨⟨k + 1, by omega, by first | rfl | go_num, HP2.out.put HE'.out hlt HG'.out O'.out⟩, UA.out.setCell HG.out _⟩
      case measure => (simp [intOf]; try omega)
    · have hkn : k = n := by omega
      have i4 : ¬ (k : Int) < n := by omega
      clear ur; go_wp2; go_ret; refine ⟨g, rfl, by omega, ⟨LE.out, by omega, HP.out.lt, fun i hi => HP.out.at_ i (by omega), HP.out.free⟩, UR.out⟩
/-- A model over new blocks. -/
def NewMdl (m : Mdl) (n k : Nat) (w : World) (x : Ending) (w' : World) : Prop :=
  ∃ g1 g2, x = .returned (.agg #[.slice (some ⟨g1, 0, none⟩) n n, .slice (some ⟨g2, 0, none⟩) k k, .int .i64 m.til]) ∧ w.heap.size ≤ g1 ∧ w.heap.size ≤ g2 ∧ RulzF w' g1 n m.rules ∧ Own w' g2 k m.starts ∧ Up w w'
end Go.Proofs.Ytakmlfgkppekoaa

namespace Go.Proofs.Ytakmlfgkppekoaa
set_option maxRecDepth 100000
open Go.RowKit
/-- What a count gives. -/
def Sized (p : Prop) (left : Int) (w : World) (x : Ending) (w' : World) : Prop :=
  ∃ z : Int, x = .returned (.int .i64 z) ∧ (z = -1 ∨ (0 ≤ z ∧ z ≤ left ∧ p)) ∧ Up w w'
structure ShortR (rs : List Rule) : Prop where
  few : rs.length ≤ 1048576
  small : Small rs
structure ShortS (rs : List (List Rule)) (n : Nat) : Prop where
  small : ∀ i, i < rs.length → (rs.getD i []).length ≤ 1048576 ∧ Small (rs.getD i [])
  few : n ≤ 1048576
structure ShortM (m : Mdl) (n : Nat) : Prop where
  fit : FitM m
  few : n ≤ 1048576
  shorts : ∀ i, i < m.rules.length → (m.rules.getD i []).length ≤ 1048576 ∧ Small (m.rules.getD i [])
theorem szRule_any (r : Rule) (A : Option Addr) (n c : Nat) (left : Int) (w : World) (h0 : 0 ≤ left) (h1 : left ≤ 1048576) (hn : n ≤ 9223372036854775807) (hE : Evs w A n r.sends) :
    Calls Try.prog 139 #[r.v (.slice A n c), .int .i64 left] w (Sized (r.sends.length ≤ 1048576) left w) := by
  have CL := Lib.hid (fun W => szSnd_any A n c left W h0 (by omega) hn)
  have LE := Lib.hid hE.1
  obtain ⟨kd, ra, rb, rc, es⟩ := r; clear hE; unfold Rule.v; dsimp only
  by_cases h : left < n
  · have j1 : (-1 : Int) < 0 := by omega
    have C2 := Lib.hid (if_pos h ▸ CL.out)
    clear CL
    go_enter Try.func139, Try.ntmps139
    go_wp2_with fail
    refine (C2.out _).mono ?_; rintro x w1 ⟨rfl, rfl⟩; go_wp2; go_ret
    exact ⟨-1, rfl, .inl rfl, (Up.refl _).alloc _⟩
  · have j1 : ¬ left - n < 0 := by omega
    have C2 := Lib.hid (if_neg h ▸ CL.out)
    have PP := Lib.hid (show es.length ≤ 1048576 by rw [LE.out]; omega)
    clear CL
    go_enter Try.func139, Try.ntmps139
    go_wp2_with fail
    refine (C2.out _).mono ?_; rintro x w1 ⟨rfl, rfl⟩; go_wp2; go_ret
    exact ⟨left - n, rfl, .inr ⟨by omega, by omega, PP.out⟩, (Up.refl _).alloc _⟩
set_option maxHeartbeats 2000000 in
theorem szRuleS_any (A : Option Addr) (n c : Nat) (rs : List Rule) (left : Int) (w : World) (h0 : 0 ≤ left) (h1 : left ≤ 1048576) (hR : Rules w A n rs) :
    Calls Try.prog 110 #[.slice A n c, .int .i64 left] w (Sized (ShortR rs) left w) := by
  have hbig := hR.2.1
  have HR := Lib.hid hR
  have LR := Lib.hid hR.1
  have CL := Lib.hid (fun r A n c l W a b hn hE => szRule_any r A n c l W a b hn hE)
  clear hR
  have i9 : IntKind.i64.wrap (left - (n : Int)) = left - n := IntWalk.i64_in _ (by omega)
  go_enter Try.func110, Try.ntmps110
  by_cases h : left < n
  · have j1 : left - n < 0 := by omega
    go_wp2; go_ret
    exact ⟨-1, rfl, .inl rfl, Up.refl _⟩
  · have j1 : ¬ left - n < 0 := by omega
    go_wp2
    go_loopw [1, 5] (fun s i wr => (∃ (l : Int) (k : Nat), k ≤ n ∧ s = .int .i64 l ∧ i = .int .i64 k ∧ 0 ≤ l ∧ l ≤ left ∧ Hid (∀ j, j < k → (rs.getD j default).sends.length ≤ 1048576)) ∧ Up w wr) (fun _ i _ => n - (intOf i).toNat)
    case atStart => exact ⟨⟨left - n, 0, by omega, rfl, rfl, by omega, by omega, Lib.hid (fun j hj => absurd hj (by omega))⟩, Up.refl _⟩
    case round =>
      obtain ⟨⟨l, k, hk, rfl, rfl, hl0, hl1, SM⟩, ur⟩ := hrel
      have UR := Lib.hid ur
      by_cases hlt : k < n
      · obtain ⟨b, off, hA, hb, hc⟩ := (HR.out.up ur).2.2 (by omega)
        subst hA
        have a0 := hc k hlt
        clear hc ur
        have cl := fun A n c W => CL.out (rs.getD k default) A n c l W hl0 (by omega)
        have SK := Lib.hid (fun (h : (rs.getD k default).sends.length ≤ 1048576) j (hj : j < k + 1) => (show (rs.getD j default).sends.length ≤ 1048576 from if e : j = k then e ▸ h else SM.out j (by omega)))
        generalize rs.getD k default = p at a0 cl SK
        obtain ⟨A3, n3, c3, ⟨p0, p1, p2, p3, p4⟩, hn3, he3⟩ := a0
        have cl2 := fun W (u : Up wr W) => cl A3 n3 c3 W hn3 (he3.up u)
        obtain ⟨pk, pa, pb, pc, ps⟩ := p; unfold Rule.v at cl2; dsimp only at p0 p1 p2 p3 p4 cl2 SK
        have C := Lib.hid cl2
        clear cl cl2 he3
        have i4 : (k : Int) < n := by omega
        have i5 : IntKind.i64.wrap ((k : Int) + 1) = (k : Int) + 1 := IntWalk.i64_in _ (by omega)
        go_wp2_with fail
        refine (C.out _ (Up.refl _)).mono ?_; rintro x w1 ⟨z, rfl, hz, u1⟩
        have U1 := Lib.hid (UR.out.trans u1)
        clear u1
        rcases hz with rfl | ⟨z0, z1, hp⟩
        · go_wp2
          go_ret
          exact ⟨-1, rfl, .inl rfl, U1.out⟩
        · have S2 := Lib.hid (SK.out hp)
          have j3 : ¬ z < 0 := by omega
          clear hp; go_wp2
          go_roundw
          case rel => exact ⟨⟨z, k + 1, by omega, rfl, by first | rfl | go_num, by omega, by omega, S2⟩, U1.out⟩
          case measure => (simp [intOf]; try omega)
      · have i4 : ¬ (k : Int) < n := by omega
        clear ur; go_wp2; go_ret
        exact ⟨l, rfl, .inr ⟨by omega, by omega, ⟨by rw [LR.out]; omega, fun j hj => SM.out j (by have := LR.out; omega)⟩⟩, UR.out⟩
set_option maxHeartbeats 2000000 in
theorem szRuleSS_any (A : Option Addr) (n c : Nat) (rs : List (List Rule)) (left : Int) (w : World) (h0 : 0 ≤ left) (h1 : left ≤ 1048576) (hR : Rulz w A n rs) :
    Calls Try.prog 67 #[.slice A n c, .int .i64 left] w (Sized (ShortS rs n) left w) := by
  have hbig := hR.2.1
  have HR := Lib.hid hR
  have LR := Lib.hid hR.1
  have CL := Lib.hid (fun r A n c l W a b hE => szRuleS_any A n c r l W a b hE)
  clear hR
  have i9 : IntKind.i64.wrap (left - (n : Int)) = left - n := IntWalk.i64_in _ (by omega)
  go_enter Try.func67, Try.ntmps67
  by_cases h : left < n
  · have j1 : left - n < 0 := by omega
    go_wp2; go_ret
    exact ⟨-1, rfl, .inl rfl, Up.refl _⟩
  · have j1 : ¬ left - n < 0 := by omega
    have hnn : n ≤ 1048576 := by omega
    go_wp2
    go_loopw [1, 5] (fun s i wr => (∃ (l : Int) (k : Nat), k ≤ n ∧ s = .int .i64 l ∧ i = .int .i64 k ∧ 0 ≤ l ∧ l ≤ left ∧ Hid (∀ j, j < k → (rs.getD j []).length ≤ 1048576 ∧ Small (rs.getD j []))) ∧ Up w wr) (fun _ i _ => n - (intOf i).toNat)
    case atStart => exact ⟨⟨left - n, 0, by omega, rfl, rfl, by omega, by omega, Lib.hid (fun j hj => absurd hj (by omega))⟩, Up.refl _⟩
    case round =>
      obtain ⟨⟨l, k, hk, rfl, rfl, hl0, hl1, SM⟩, ur⟩ := hrel
      have UR := Lib.hid ur
      by_cases hlt : k < n
      · obtain ⟨b, off, hA, hb, hc⟩ := (HR.out.up ur).2.2 (by omega)
        subst hA; obtain ⟨A3, n3, c3, p0, he3⟩ := hc k hlt; clear hc ur
        have cl := fun W (u : Up wr W) => CL.out (rs.getD k []) A3 n3 c3 l W hl0 (by omega) (he3.up u)
        have SK := Lib.hid (fun (h : ShortR (rs.getD k [])) j (hj : j < k + 1) => (show (rs.getD j []).length ≤ 1048576 ∧ Small (rs.getD j []) from if e : j = k then e ▸ ⟨h.few, h.small⟩ else SM.out j (by omega)))
        generalize rs.getD k [] = p at cl SK he3
        have C := Lib.hid cl
        clear cl he3
        have i4 : (k : Int) < n := by omega
        have i5 : IntKind.i64.wrap ((k : Int) + 1) = (k : Int) + 1 := IntWalk.i64_in _ (by omega)
        go_wp2_with fail
        refine (C.out _ (Up.refl _)).mono ?_; rintro x w1 ⟨z, rfl, hz, u1⟩
        have U1 := Lib.hid (UR.out.trans u1)
        clear u1
        rcases hz with rfl | ⟨z0, z1, hp⟩
        · go_wp2
          go_ret
          exact ⟨-1, rfl, .inl rfl, U1.out⟩
        · have S2 := Lib.hid (SK.out hp)
          have j3 : ¬ z < 0 := by omega
          clear hp; go_wp2
          go_roundw
          case rel => exact ⟨⟨z, k + 1, by omega, rfl, by first | rfl | go_num, by omega, by omega, S2⟩, U1.out⟩
          case measure => (simp [intOf]; try omega)
      · have i4 : ¬ (k : Int) < n := by omega
        clear ur; go_wp2; go_ret
        exact ⟨l, rfl, .inr ⟨by omega, by omega, ⟨fun j hj => SM.out j (by have := LR.out; omega), by omega⟩⟩, UR.out⟩
set_option maxHeartbeats 2000000 in
theorem szMdl_any (A : Option Addr) (n c : Nat) (B : Option Addr) (k d : Nat) (m : Mdl) (w : World) (hM : MdlV w A n B k m) :
    Calls Try.prog 18 #[.agg #[.slice A n c, .slice B k d, .int .i64 m.til], .int .i64 1048576] w (Sized (ShortM m n) 1048576 w) := by
  obtain ⟨rs, es, til⟩ := m
  have CR := Lib.hid (fun W (u : Up w W) => szRuleSS_any A n c rs 1048576 W (by omega) (by omega) (hM.rules.up u))
  have CE := Lib.hid (fun l W a b => sz_any B k d l W a b hM.big)
  have LE := Lib.hid hM.starts.1
  have B0 := Lib.hid (Box3.new w (.slice A n c) (.slice B k d) (.int .i64 til) 27)
  clear hM; dsimp only
  go_enter Try.func18, Try.ntmps18
  go_wp2_with fail
  refine (CR.out _ ((Up.refl _).alloc _)).mono ?_; rintro x w1 ⟨z, rfl, hz, u1⟩
  have U1 := Lib.hid (((Up.refl w).alloc _).trans u1)
  have x0 := B0.out.up u1
  obtain ⟨p0, p1, p2⟩ := And.intro x0.c0 (And.intro x0.c1 x0.c2); clear u1 x0
  rcases hz with rfl | ⟨z0, z1, ⟨hp, hn⟩⟩
  · go_wp2
    go_ret
    exact ⟨-1, rfl, .inl rfl, U1.out⟩
  · have HP := Lib.hid hp
    have j3 : ¬ z < 0 := by omega
    clear hp
    by_cases h : z < k
    · have C2 := Lib.hid (fun W => if_pos h ▸ CE.out z W z0 (by omega))
      have j1 : (-1 : Int) < 0 := by omega
      go_wp2_with fail
      refine (C2.out _).mono ?_; rintro x w2 ⟨rfl, rfl⟩; go_wp2; go_ret
      exact ⟨-1, rfl, .inl rfl, U1.out⟩
    · have C2 := Lib.hid (fun W => if_neg h ▸ CE.out z W z0 (by omega))
      have j1 : ¬ z - (k : Int) < 0 := by omega
      go_wp2_with fail
      refine (C2.out _).mono ?_; rintro x w2 ⟨rfl, rfl⟩; go_wp2; go_ret
      exact ⟨z - k, rfl, .inr ⟨by omega, by omega, ⟨⟨fun i hi => (HP.out i hi).2, by rw [LE.out]; omega⟩, hn, HP.out⟩⟩, U1.out⟩
end Go.Proofs.Ytakmlfgkppekoaa

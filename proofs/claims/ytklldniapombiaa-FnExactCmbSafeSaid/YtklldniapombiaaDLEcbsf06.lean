/-
  What toMdlRuleS, toMdlRuleSS and toMdlModel return, in one sentence: the same, all over new blocks; for all that lie in memory.
  What the laying of marks keeps, in one sentence: only cells that hold numbers are written, only in a stretch of blocks, and they hold numbers again; no condition is made.
  The first rule of a kind and where it stands, in one sentence: defined over lists; no condition is made.
  What the two EvtRise return, in one sentence: whether each event is less than the next one; for every list that lies in memory.
-/
import Derived.Test.YtklldniapombiaaDLEcbsf01
import Derived.Test.YtklldniapombiaaDLEcbsf02
import Derived.Test.YtklldniapombiaaDLEcbsf03
import Derived.Test.YtklldniapombiaaDLEcbsf04
import Derived.Test.YtklldniapombiaaDLEcbsf05
namespace Go.Proofs.Ytklldniapombiaa
set_option maxRecDepth 100000
open Go.RowKit
theorem info166 : (Try.prog.info? 166).map (fun i => (i.zero, i.size, i.bytes)) = some (some (.agg #[.int .i64 0, .int .i64 0, .int .i64 0, .int .i64 0, .slice none 0 0]), 5, 56) := by kernel_rfl
theorem info118 : (Try.prog.info? 118).map (fun i => (i.zero, i.size, i.bytes)) = some (some (.slice none 0 0), 1, 24) := by kernel_rfl
theorem Own.evs' {w : World} {g n : Nat} {es : List Evt} (h : Own w g n es) : Evs w (some ⟨g, 0, none⟩) n es :=
  ⟨h.1, fun _ => ⟨g, 0, rfl, h.2.1, fun i hi => by rw [Nat.zero_add]; exact h.2.2.1 i hi⟩⟩
theorem Own.up' {w w' : World} {g n : Nat} {es : List Evt} (h : Own w g n es) (u : Up w w') : Own w' g n es :=
  ⟨h.1, by have := u.size; have := h.2.1; omega, fun i hi => (h.2.2.1 i hi).up u h.2.1, fun j hj => (u.frozens _ _ h.2.1).trans (h.2.2.2 j hj)⟩
/-- A rule of the call's own: its cells, and its sends in a block from lo on. -/
def RuleF (w : World) (lo b o : Nat) (r : Rule) : Prop :=
  ∃ g n, (w.cell? ⟨b, o, none⟩ = some (.int .i64 r.kd) ∧ w.cell? ⟨b, o + 1, none⟩ = some (.int .i64 r.a) ∧ w.cell? ⟨b, o + 2, none⟩ = some (.int .i64 r.b) ∧ w.cell? ⟨b, o + 3, none⟩ = some (.int .i64 r.c) ∧ w.cell? ⟨b, o + 4, none⟩ = some (.slice (some ⟨g, 0, none⟩) n n)) ∧
    lo ≤ g ∧ n ≤ 9223372036854775807 ∧ Own w g n r.sends
theorem RuleF.at_ {w : World} {lo b o : Nat} {r : Rule} (h : RuleF w lo b o r) : RuleAt w b o r := by
  obtain ⟨g, n, hc, _, hn, ho⟩ := h
  exact ⟨_, n, n, hc, hn, ho.evs'⟩
theorem RuleF.up {w w' : World} {lo b o : Nat} {r : Rule} (h : RuleF w lo b o r) (u : Up w w') (hb : b < w.heap.size) : RuleF w' lo b o r := by
  obtain ⟨g, n, ⟨h0, h1, h2, h3, h4⟩, hl, hn, ho⟩ := h
  exact ⟨g, n, ⟨(u.cells _ _ hb).trans h0, (u.cells _ _ hb).trans h1, (u.cells _ _ hb).trans h2, (u.cells _ _ hb).trans h3, (u.cells _ _ hb).trans h4⟩, hl, hn, ho.up' u⟩
theorem RuleF.putFar {w : World} {lo b o b' o' : Nat} {r r' : Rule} {s : Value} (h : RuleF w lo b o r) (hl : b' < lo) (hd : b' ≠ b ∨ o + 5 ≤ o' ∨ o' + 5 ≤ o) : RuleF (putR w b' o' r' s) lo b o r := by
  obtain ⟨g, n, ⟨h0, h1, h2, h3, h4⟩, hl', hn, ho⟩ := h
  have f : ∀ k, k < 5 → (putR w b' o' r' s).cell? ⟨b, o + k, none⟩ = w.cell? ⟨b, o + k, none⟩ := fun k hk => putR_other _ _ _ _ _ _ _ (by omega)
  exact ⟨g, n, ⟨(f 0 (by omega)).trans h0, (f 1 (by omega)).trans h1, (f 2 (by omega)).trans h2, (f 3 (by omega)).trans h3, (f 4 (by omega)).trans h4⟩, hl', hn, ho.putR (by omega)⟩
theorem RuleF.setFar {w : World} {lo b o : Nat} {r : Rule} (h : RuleF w lo b o r) {p : Addr} (hl : p.block < lo) (hb : p.block ≠ b) (u : Value) : RuleF (w.setCell p u) lo b o r := by
  obtain ⟨g, n, ⟨h0, h1, h2, h3, h4⟩, hl', hn, ho⟩ := h
  have f : ∀ j, (w.setCell p u).cell? ⟨b, j, none⟩ = w.cell? ⟨b, j, none⟩ := fun j => World.cell?_setCell_other _ _ _ _ (fun e => hb (by rw [e]))
  exact ⟨g, n, ⟨(f _).trans h0, (f _).trans h1, (f _).trans h2, (f _).trans h3, (f _).trans h4⟩, hl', hn, ho.setFar (by omega) u⟩
/-- Rules of the call's own. -/
structure RulesF (w : World) (g n : Nat) (rs : List Rule) : Prop where
  len : rs.length = n
  big : n ≤ 9223372036854775807
  lt : g < w.heap.size
  at_ : ∀ i, i < n → RuleF w (g + 1) g (i * 5) (rs.getD i default)
  free : ∀ j, j < n * 5 → w.frozen? ⟨g, j, none⟩ = false
theorem RulesF.rules {w : World} {g n : Nat} {rs : List Rule} (h : RulesF w g n rs) : Rules w (some ⟨g, 0, none⟩) n rs :=
  ⟨h.len, h.big, fun _ => ⟨g, 0, rfl, h.lt, fun i hi => by rw [Nat.zero_add]; exact (h.at_ i hi).at_⟩⟩
theorem RulesF.up {w w' : World} {g n : Nat} {rs : List Rule} (h : RulesF w g n rs) (u : Up w w') : RulesF w' g n rs :=
  ⟨h.len, h.big, Nat.lt_of_lt_of_le h.lt u.size, fun i hi => (h.at_ i hi).up u h.lt, fun j hj => (u.frozens _ _ h.lt).trans (h.free j hj)⟩
theorem RulesF.setFar {w : World} {g n : Nat} {rs : List Rule} (h : RulesF w g n rs) {p : Addr} (hl : p.block < g) (u : Value) : RulesF (w.setCell p u) g n rs :=
  ⟨h.len, h.big, by simpa using h.lt, fun i hi => (h.at_ i hi).setFar (by omega) (by omega) u, fun j hj => by have := h.free j hj; simpa [go_sem] using this⟩
/-- The block g on the way: k of its n rules are laid. -/
structure PartR (w : World) (g n k : Nat) (rs : List Rule) : Prop where
  lt : g < w.heap.size
  at_ : ∀ i, i < k → RuleF w (g + 1) g (i * 5) (rs.getD i default)
  some_ : ∀ j, j < n * 5 → ∃ v, w.cell? ⟨g, j, none⟩ = some v
  free : ∀ j, j < n * 5 → w.frozen? ⟨g, j, none⟩ = false
theorem PartR.begin (w : World) (n : Nat) (t : TypeId) (rs : List Rule) (z : Array Value) : PartR (w.alloc (.cells (madeCells z (n * 5)) t)) w.heap.size n 0 rs :=
  ⟨by simp, fun i hi => absurd hi (by omega), fun j hj => (made_cell w _ _ t j hj).1, fun j hj => (made_cell w _ _ t j hj).2⟩
theorem PartR.up {w w' : World} {g n k : Nat} {rs : List Rule} (h : PartR w g n k rs) (u : Up w w') : PartR w' g n k rs :=
  ⟨Nat.lt_of_lt_of_le h.lt u.size, fun i hi => (h.at_ i hi).up u h.lt, fun j hj => by obtain ⟨v, hv⟩ := h.some_ j hj; exact ⟨v, (u.cells _ _ h.lt).trans hv⟩, fun j hj => (u.frozens _ _ h.lt).trans (h.free j hj)⟩
theorem PartR.put {w : World} {g n k g' n' : Nat} {rs : List Rule} {r : Rule} (h : PartR w g n k rs) (hr : rs.getD k default = r) (hk : k < n) (hg : g + 1 ≤ g') (hn : n' ≤ 9223372036854775807) (ho : Own w g' n' r.sends) :
    PartR (putR w g (k * 5) r (.slice (some ⟨g', 0, none⟩) n' n')) g n (k + 1) rs := by
  refine ⟨by rw [putR_size]; exact h.lt, fun i hi => ?_, fun j hj => ?_, fun j hj => (putR_frozen _ _ _ _ _ _).trans (h.free j hj)⟩
  · by_cases hik : i = k
    · subst hik
      rw [hr]
      exact ⟨g', n', putR_at (fun q hq => h.some_ _ (by omega)), hg, hn, ho.putR (by omega)⟩
    · exact (h.at_ i (by omega)).putFar (by omega) (by omega)
  · obtain ⟨v, hv⟩ := h.some_ j hj
    unfold putR; obtain ⟨v1, h1⟩ := setCell_some (p := ⟨g, k * 5, none⟩) (u := .int .i64 r.kd) hv; obtain ⟨v2, h2⟩ := setCell_some (p := ⟨g, k * 5 + 1, none⟩) (u := .int .i64 r.a) h1; obtain ⟨v3, h3⟩ := setCell_some (p := ⟨g, k * 5 + 2, none⟩) (u := .int .i64 r.b) h2; obtain ⟨v4, h4⟩ := setCell_some (p := ⟨g, k * 5 + 3, none⟩) (u := .int .i64 r.c) h3
    exact setCell_some h4
def NewRules (rs : List Rule) (n : Nat) (w : World) (x : Ending) (w' : World) : Prop :=
  ∃ g, x = .returned (.slice (some ⟨g, 0, none⟩) n n) ∧ w.heap.size ≤ g ∧ RulesF w' g n rs ∧ Up w w'
set_option maxHeartbeats 4000000 in
theorem toRuleS_any (A : Option Addr) (n cap : Nat) (rs : List Rule) (w : World) (hn : n ≤ 1048576) (hE : Rules w A n rs) (hS : Small rs) :
    Calls Try.prog 112 #[.slice A n cap] w (NewRules rs n w) := by
  obtain ⟨i0, hi, hz0, hz1, hz2⟩ := info_parts info166
  have hmk := fun W => run_make_rowN (P := Try.prog) 118 166 i0 _ Try.underlying118 hi hz0 .i64 .i64 n n (Nat.le_refl _) (by rw [hz2]; omega) (by omega) W
  rw [hz1] at hmk
  have HE := Lib.hid hE
  have LE := Lib.hid hE.1
  have SM := Lib.hid hS
  have CL := Lib.hid (fun r A n c W a b => toRule_any r A n c W a b)
  clear hE hi hz0 hz1 hz2 hS
  go_enter Try.func112, Try.ntmps112
  go_wp2
  generalize hg : w.heap.size = g
  have HG := Lib.hid (Nat.le_of_eq hg)
  go_loopw [4] (fun i wr => (∃ k : Nat, k ≤ n ∧ i = .int .i64 k ∧ PartR wr g n k rs) ∧ Up w wr) (fun i _ => n - (intOf i).toNat)
  case atStart =>
    refine ⟨⟨0, by omega, rfl, ?_⟩, (Up.refl _).alloc _⟩; subst hg
    exact PartR.begin w n _ rs _
  case round =>
    obtain ⟨⟨k, hk, rfl, hp⟩, ur⟩ := hrel
    have HP := Lib.hid hp
    have UR := Lib.hid ur
    clear hp
    by_cases hlt : k < n
    · obtain ⟨b, off, hA, hb, hc⟩ := (HE.out.up ur).2.2 (by omega)
      subst hA
      have a0 := hc k hlt
      clear hc ur
      have sm := SM.out k (by rw [LE.out]; exact hlt)
      have cl := CL.out (rs.getD k default)
      generalize hpk : rs.getD k default = p at a0 cl sm
      have HE' := Lib.hid hpk
      clear hpk; obtain ⟨A3, n3, c3, ⟨p0, p1, p2, p3, p4⟩, hn3, he3⟩ := a0
      have hn3' : n3 ≤ 1048576 := by rw [← he3.1]; exact sm
      have cl2 := cl A3 n3 c3 wr (by omega) he3
      obtain ⟨pk, pa, pb, pc, ps⟩ := p; unfold NewRule at cl2; unfold Rule.v at cl2; dsimp only at p0 p1 p2 p3 p4 cl2
      have C := Lib.hid cl2
      clear cl cl2 he3 sm
      have hgl : g < wr.heap.size := HP.out.lt
      have i4 : (k : Int) < n := by omega
      have i5 : IntKind.i64.wrap ((k : Int) + 1) = (k : Int) + 1 := IntWalk.i64_in _ (by omega)
      go_wp2_with fail
      refine C.out.mono ?_; rintro x wA ⟨g', rfl, hg', o', uA⟩
      have P := HP.out.up uA
      have O' := Lib.hid o'
      have UA := Lib.hid (UR.out.trans uA)
      obtain ⟨v0, c0⟩ := P.some_ (k * 5) (by omega); obtain ⟨v1, c1⟩ := P.some_ (k * 5 + 1) (by omega); obtain ⟨v2, c2⟩ := P.some_ (k * 5 + 2) (by omega); obtain ⟨v3, c3⟩ := P.some_ (k * 5 + 3) (by omega); obtain ⟨v4, c4⟩ := P.some_ (k * 5 + 4) (by omega)
      have f0 := P.free (k * 5) (by omega)
      have f1 := P.free (k * 5 + 1) (by omega)
      have f2 := P.free (k * 5 + 2) (by omega)
      have f3 := P.free (k * 5 + 3) (by omega)
      have f4 := P.free (k * 5 + 4) (by omega)
      have HP2 := Lib.hid P
      have HG' := Lib.hid (show g + 1 ≤ g' by omega)
      clear P p0 p1 p2 p3 p4 o' uA hg'; go_wp2
      go_roundw
      case rel =>
        have hq := HP2.out.put HE'.out hlt HG'.out hn3 O'.out
        have hu := UA.out.putR (b := g) (o := k * 5) (r := ⟨pk, pa, pb, pc, ps⟩) (s := .slice (some ⟨g', 0, none⟩) n3 n3) HG.out
        unfold putR at hq hu
        exact ⟨⟨k + 1, by omega, by first | rfl | go_num, hq⟩, hu⟩
      case measure => (simp [intOf]; try omega)
    · have hkn : k = n := by omega
      have i4 : ¬ (k : Int) < n := by omega
      clear ur; go_wp2; go_ret; refine ⟨g, rfl, by omega, ⟨LE.out, by omega, HP.out.lt, fun i hi => HP.out.at_ i (by omega), HP.out.free⟩, UR.out⟩
/-- Rows of rules of the call's own. -/
structure RulzF (w : World) (g n : Nat) (rss : List (List Rule)) : Prop where
  len : rss.length = n
  big : n ≤ 9223372036854775807
  lt : g < w.heap.size
  at_ : ∀ i, i < n → ∃ g' n', w.cell? ⟨g, i, none⟩ = some (.slice (some ⟨g', 0, none⟩) n' n') ∧ g < g' ∧ RulesF w g' n' (rss.getD i [])
  free : ∀ j, j < n → w.frozen? ⟨g, j, none⟩ = false
theorem RulzF.rulz {w : World} {g n : Nat} {rss : List (List Rule)} (h : RulzF w g n rss) : Rulz w (some ⟨g, 0, none⟩) n rss :=
  ⟨h.len, h.big, fun _ => ⟨g, 0, rfl, h.lt, fun i hi => by
    obtain ⟨g', n', hc, _, hr⟩ := h.at_ i hi
    exact ⟨_, n', n', by rw [Nat.zero_add]; exact hc, hr.rules⟩⟩⟩
theorem RulzF.up {w w' : World} {g n : Nat} {rss : List (List Rule)} (h : RulzF w g n rss) (u : Up w w') : RulzF w' g n rss :=
  ⟨h.len, h.big, Nat.lt_of_lt_of_le h.lt u.size, fun i hi => by
    obtain ⟨g', n', hc, hg, hr⟩ := h.at_ i hi
    exact ⟨g', n', (u.cells _ _ h.lt).trans hc, hg, hr.up u⟩, fun j hj => (u.frozens _ _ h.lt).trans (h.free j hj)⟩
theorem RulzF.setFar {w : World} {g n : Nat} {rss : List (List Rule)} (h : RulzF w g n rss) {p : Addr} (hl : p.block < g) (u : Value) : RulzF (w.setCell p u) g n rss :=
  ⟨h.len, h.big, by simpa using h.lt, fun i hi => by
    obtain ⟨g', n', hc, hg, hr⟩ := h.at_ i hi
    exact ⟨g', n', (World.cell?_setCell_other _ _ _ _ (fun e => by rw [e] at hl; exact absurd hl (Nat.lt_irrefl _))).trans hc, hg, hr.setFar (by omega) u⟩, fun j hj => by have := h.free j hj; simpa [go_sem] using this⟩
structure PartZ (w : World) (g n k : Nat) (rss : List (List Rule)) : Prop where
  lt : g < w.heap.size
  at_ : ∀ i, i < k → ∃ g' n', w.cell? ⟨g, i, none⟩ = some (.slice (some ⟨g', 0, none⟩) n' n') ∧ g < g' ∧ RulesF w g' n' (rss.getD i [])
  some_ : ∀ j, j < n → ∃ v, w.cell? ⟨g, j, none⟩ = some v
  free : ∀ j, j < n → w.frozen? ⟨g, j, none⟩ = false
theorem PartZ.begin (w : World) (n : Nat) (t : TypeId) (rss : List (List Rule)) (z : Array Value) : PartZ (w.alloc (.cells (madeCells z (n * 1)) t)) w.heap.size n 0 rss :=
  ⟨by simp, fun i hi => absurd hi (by omega), fun j hj => (made_cell w _ _ t j (by omega)).1, fun j hj => (made_cell w _ _ t j (by omega)).2⟩
theorem PartZ.up {w w' : World} {g n k : Nat} {rss : List (List Rule)} (h : PartZ w g n k rss) (u : Up w w') : PartZ w' g n k rss :=
  ⟨Nat.lt_of_lt_of_le h.lt u.size, fun i hi => by
    obtain ⟨g', n', hc, hg, hr⟩ := h.at_ i hi
    exact ⟨g', n', (u.cells _ _ h.lt).trans hc, hg, hr.up u⟩, fun j hj => by obtain ⟨v, hv⟩ := h.some_ j hj; exact ⟨v, (u.cells _ _ h.lt).trans hv⟩, fun j hj => (u.frozens _ _ h.lt).trans (h.free j hj)⟩
theorem PartZ.put {w : World} {g n k g' n' : Nat} {rss : List (List Rule)} {rs : List Rule} (h : PartZ w g n k rss) (hr : rss.getD k [] = rs) (hk : k < n) (hg : g < g') (ho : RulesF w g' n' rs) :
    PartZ (w.setCell ⟨g, k, none⟩ (.slice (some ⟨g', 0, none⟩) n' n')) g n (k + 1) rss := by
  refine ⟨by simpa using h.lt, fun i hi => ?_, fun j hj => ?_, fun j hj => by have := h.free j hj; simpa [go_sem] using this⟩
  · by_cases hik : i = k
    · subst hik
      rw [hr]; obtain ⟨v, hv⟩ := h.some_ i hk
      exact ⟨g', n', World.cell?_setCell_same _ _ _ hv, hg, ho.setFar hg _⟩
    · obtain ⟨g2, n2, hc, hg2, hr2⟩ := h.at_ i (by omega)
      exact ⟨g2, n2, (World.cell?_setCell_other _ _ _ _ (addr_ne (by omega))).trans hc, hg2, hr2.setFar hg2 _⟩
  · obtain ⟨v, hv⟩ := h.some_ j hj
    exact setCell_some hv
def NewRulz (rss : List (List Rule)) (n : Nat) (w : World) (x : Ending) (w' : World) : Prop :=
  ∃ g, x = .returned (.slice (some ⟨g, 0, none⟩) n n) ∧ w.heap.size ≤ g ∧ RulzF w' g n rss ∧ Up w w'
/-- Each list of rules is short. -/
def Shorts (rss : List (List Rule)) : Prop := ∀ i, i < rss.length → (rss.getD i []).length ≤ 1048576 ∧ Small (rss.getD i [])
set_option maxHeartbeats 4000000 in
theorem toRuleSS_any (A : Option Addr) (n cap : Nat) (rss : List (List Rule)) (w : World) (hn : n ≤ 1048576) (hE : Rulz w A n rss) (hS : Shorts rss) :
    Calls Try.prog 56 #[.slice A n cap] w (NewRulz rss n w) := by
  obtain ⟨i0, hi, hz0, hz1, hz2⟩ := info_parts info118
  have hmk := fun W => run_make_rowN (P := Try.prog) 33 118 i0 _ Try.underlying33 hi hz0 .i64 .i64 n n (Nat.le_refl _) (by rw [hz2]; omega) (by omega) W
  rw [hz1] at hmk
  have HE := Lib.hid hE
  have LE := Lib.hid hE.1
  have SM := Lib.hid hS
  have CL := Lib.hid (fun r A n c W a b d => toRuleS_any A n c r W a b d)
  clear hE hi hz0 hz1 hz2 hS
  go_enter Try.func56, Try.ntmps56
  go_wp2
  generalize hg : w.heap.size = g
  have HG := Lib.hid (Nat.le_of_eq hg)
  go_loopw [4] (fun i wr => (∃ k : Nat, k ≤ n ∧ i = .int .i64 k ∧ PartZ wr g n k rss) ∧ Up w wr) (fun i _ => n - (intOf i).toNat)
  case atStart =>
    refine ⟨⟨0, by omega, rfl, ?_⟩, by first | exact (Up.refl _).alloc _ | (simpa using (Up.refl w).alloc _)⟩; subst hg
    first | exact PartZ.begin w n _ rss _ | (have := PartZ.begin w n 118 rss #[.slice none 0 0]; simpa using this)
  case round =>
    obtain ⟨⟨k, hk, rfl, hp⟩, ur⟩ := hrel
    have HP := Lib.hid hp
    have UR := Lib.hid ur
    clear hp
    by_cases hlt : k < n
    · obtain ⟨b, off, hA, hb, hc⟩ := (HE.out.up ur).2.2 (by omega)
      subst hA; obtain ⟨A3, n3, c3, p0, he3⟩ := hc k hlt; clear hc ur
      have sm := SM.out k (by rw [LE.out]; exact hlt)
      have cl := CL.out (rss.getD k [])
      generalize hpk : rss.getD k [] = p at he3 cl sm
      have HE' := Lib.hid hpk
      clear hpk
      have hn3' : n3 ≤ 1048576 := by rw [← he3.1]; exact sm.1
      have C := Lib.hid (cl A3 n3 c3 wr hn3' he3 sm.2)
      clear cl he3 sm
      have hgl : g < wr.heap.size := HP.out.lt
      have i4 : (k : Int) < n := by omega
      have i5 : IntKind.i64.wrap ((k : Int) + 1) = (k : Int) + 1 := IntWalk.i64_in _ (by omega)
      go_wp2_with fail
      refine C.out.mono ?_; rintro x wA ⟨g', rfl, hg', o', uA⟩
      have P := HP.out.up uA
      have O' := Lib.hid o'
      have UA := Lib.hid (UR.out.trans uA)
      obtain ⟨v0, c0⟩ := P.some_ k (by omega)
      have f0 := P.free k (by omega)
      have HP2 := Lib.hid P
      have HG' := Lib.hid (show g < g' by omega)
      clear P p0 o' uA hg'; go_wp2
      go_roundw
      case rel =>
        exact ⟨⟨k + 1, by omega, by first | rfl | go_num, HP2.out.put HE'.out hlt HG'.out O'.out⟩, UA.out.setCell HG.out _⟩
      case measure => (simp [intOf]; try omega)
    · have hkn : k = n := by omega
      have i4 : ¬ (k : Int) < n := by omega
      clear ur; go_wp2; go_ret; refine ⟨g, rfl, by omega, ⟨LE.out, by omega, HP.out.lt, fun i hi => HP.out.at_ i (by omega), HP.out.free⟩, UR.out⟩
/-- A model over new blocks. -/
def NewMdl (m : Mdl) (n k : Nat) (w : World) (x : Ending) (w' : World) : Prop :=
  ∃ g1 g2, x = .returned (.agg #[.slice (some ⟨g1, 0, none⟩) n n, .slice (some ⟨g2, 0, none⟩) k k, .int .i64 m.til]) ∧ w.heap.size ≤ g1 ∧ w.heap.size ≤ g2 ∧ RulzF w' g1 n m.rules ∧ Own w' g2 k m.starts ∧ Up w w'
end Go.Proofs.Ytklldniapombiaa

namespace Go.Proofs.Ytklldniapombiaa
set_option maxRecDepth 100000
open Go.RowKit
section
variable {lo hi : Nat}
/-- A cell that holds a number and may be written. -/
def IntC (w : World) (b o : Nat) : Prop := (∃ z, w.cell? ⟨b, o, none⟩ = some (.int .i64 z)) ∧ w.frozen? ⟨b, o, none⟩ = false
end
end Go.Proofs.Ytklldniapombiaa

namespace Go.Proofs.Ytklldniapombiaa
set_option maxRecDepth 100000
open Go.RowKit
/-- The first rule of a kind. -/
def ruleOf (kd : Int) : List Rule → Option Rule
  | [] => none
  | r :: rs => if r.kd = kd then some r else ruleOf kd rs
end Go.Proofs.Ytklldniapombiaa

namespace Go.Proofs.Ytklldniapombiaa
set_option maxRecDepth 100000
open Go.RowKit
set_option maxHeartbeats 1000000 in
theorem ascE_any (A : Option Addr) (n cap : Nat) (es : List Evt) (w : World) (hn : n ≤ 1000000000) (hE : Evs w A n es) :
    Calls Try.prog 166 #[.func (.func 146) #[] #[], .slice A n cap] w fun x w' => x = .returned (.bool (riseB es)) ∧ Up w w' := by
  have H0 := Lib.hid (show riseB (es.drop 0) = riseB es from rfl)
  have ST := Lib.hid (riseB_drop es)
  have EN := Lib.hid (riseB_end es)
  have HE := Lib.hid hE
  have LE := Lib.hid hE.1
  have CL := Lib.hid (fun a b W => cmpE_any a b W)
  clear hE
  go_enter Try.func166, Try.ntmps166
  go_wp2
  go_loopw [5] (fun i wr => (∃ j : Nat, (j = 0 ∨ j + 1 ≤ n) ∧ i = .int .i64 ((j : Int) + 1) ∧ riseB (es.drop j) = riseB es) ∧ Up w wr) (fun i _ => n + 1 - (intOf i).toNat)
  case atStart => exact ⟨⟨0, .inl rfl, rfl, H0.out⟩, Up.refl _⟩
  case round =>
    obtain ⟨⟨j, hj, rfl, hr⟩, ur⟩ := hrel
    have HR := Lib.hid hr
    clear hr
    by_cases hlt : j + 1 < n
    · obtain ⟨b, off, hA, hb, hc⟩ := HE.out.2 (by omega)
      subst hA
      have a0 := (hc j (by omega)).up ur hb
      have a1 := (hc (j + 1) hlt).up ur hb
      have hb' : b < wr.heap.size := by have := ur.size; omega
      clear hc
      have S := ST.out j (by rw [LE.out]; exact hlt)
      have cl := CL.out (es.getD j default) (es.getD (j + 1) default)
      generalize es.getD j default = p at a0 S cl
      generalize es.getD (j + 1) default = q at a1 S cl
      have S' := Lib.hid S
      clear S
      generalize hz : cmpE p q = z at cl
      have HZ := Lib.hid (show ltE p q = decide (z < 0) by unfold ltE; rw [hz])
      clear hz
      generalize ltE p q = r at S' HZ
      obtain ⟨pt, pto, pfr, psq, pkd, pdt⟩ := p; obtain ⟨qt, qto, qfr, qsq, qkd, qdt⟩ := q; unfold EvAt at a0 a1; unfold Evt.v at cl; dsimp only at a0 a1 cl; obtain ⟨p0, p1, p2, p3, p4, p5⟩ := a0; obtain ⟨q0, q1, q2, q3, q4, q5⟩ := a1
      have C := Lib.hid cl
      clear cl
      have i0 : IntKind.i64.wrap (j : Int) = j := IntWalk.i64_in _ (by omega)
      have i1 : (0 : Int) ≤ (j : Int) + 1 := by omega
      have i2 : ((j : Int) + 1).toNat = j + 1 := by omega
      have i3 : (j : Int) + 1 < n := by omega
      have i4 : (j : Int) < n := by omega
      go_wp2
      by_cases hz : z < 0
      · have hr : r = true := by rw [HZ.out]; exact decide_eq_true hz
        have HR2 := Lib.hid hr
        clear hr; refine region_up (by kernel_rfl) (by kernel_rfl) ?_; refine up_step rfl ?_; apply Exists.intro; refine ⟨fun w1 hw1 => ?_, ?_⟩
        · go_simp
          try rfl
        go_simp; refine up_step rfl ?_; apply Exists.intro; refine ⟨fun w1 hw1 => ?_, ?_⟩
        · go_simp
          try rfl
        go_simp; refine up_step rfl ?_; apply Exists.intro; refine ⟨fun w1 hw1 => ?_, ?_⟩
        · go_simp
          try rfl
        go_simp; refine up_step rfl ?_; apply Exists.intro; refine ⟨fun w1 hw1 => ?_, ?_⟩
        · go_simp
          try rfl
        go_simp; refine up_step rfl ?_; apply Exists.intro; refine ⟨fun w1 hw1 => ?_, ?_⟩
        · go_simp
          try rfl
        go_simp; refine up_step rfl ?_; apply Exists.intro; refine ⟨fun w1 hw1 => ?_, ?_⟩
        · obtain ⟨hc, hf, hz⟩ := hw1.facts
          try simp at hz
          go_simp
          try rfl
        go_simp; refine up_step rfl ?_; apply Exists.intro; refine ⟨fun w1 hw1 => ?_, ?_⟩
        · go_simp
          try rfl
        go_simp; refine up_step rfl ?_; apply Exists.intro; refine ⟨fun w1 hw1 => ?_, ?_⟩
        · go_simp
          try rfl
        go_simp; refine up_step rfl ?_; apply Exists.intro; refine ⟨fun w1 hw1 => ?_, ?_⟩
        · go_simp
          try rfl
        go_simp; refine up_step rfl ?_; apply Exists.intro; refine ⟨fun w1 hw1 => ?_, ?_⟩
        · obtain ⟨hc, hf, hz⟩ := hw1.facts
          try simp at hz
          go_simp
          try rfl
        go_simp; refine up_step rfl ?_; apply Exists.intro; refine ⟨fun w1 hw1 => ?_, ?_⟩
        · go_simp
          exact up_call hw1 (C.out _)
        go_simp; refine up_step rfl ?_; apply Exists.intro; refine ⟨fun w1 hw1 => ?_, ?_⟩
        · go_simp
          try rfl
        go_simp; refine wpQuiet_nil ?_; intro wA uA; clear i0 i1 i2 i3 i4 p0 p1 p2 p3 p4 p5 q0 q1 q2 q3 q4 q5 C; go_wp2
        go_roundw
        case rel => exact ⟨⟨j + 1, .inr (by omega), by go_num, by rw [← HR.out, S'.out, HR2.out]; rfl⟩, ur.trans uA⟩
        case measure => simp [intOf]; omega
      · have hz0 : 0 ≤ z := by omega
        have hr : r = false := by rw [HZ.out]; exact decide_eq_false hz
        have HR2 := Lib.hid hr
        clear hr; refine region_up (by kernel_rfl) (by kernel_rfl) ?_; refine up_step rfl ?_; apply Exists.intro; refine ⟨fun w1 hw1 => ?_, ?_⟩
        · go_simp
          try rfl
        go_simp; refine up_step rfl ?_; apply Exists.intro; refine ⟨fun w1 hw1 => ?_, ?_⟩
        · go_simp
          try rfl
        go_simp; refine up_step rfl ?_; apply Exists.intro; refine ⟨fun w1 hw1 => ?_, ?_⟩
        · go_simp
          try rfl
        go_simp; refine up_step rfl ?_; apply Exists.intro; refine ⟨fun w1 hw1 => ?_, ?_⟩
        · go_simp
          try rfl
        go_simp; refine up_step rfl ?_; apply Exists.intro; refine ⟨fun w1 hw1 => ?_, ?_⟩
        · go_simp
          try rfl
        go_simp; refine up_step rfl ?_; apply Exists.intro; refine ⟨fun w1 hw1 => ?_, ?_⟩
        · obtain ⟨hc, hf, hz⟩ := hw1.facts
          try simp at hz
          go_simp
          try rfl
        go_simp; refine up_step rfl ?_; apply Exists.intro; refine ⟨fun w1 hw1 => ?_, ?_⟩
        · go_simp
          try rfl
        go_simp; refine up_step rfl ?_; apply Exists.intro; refine ⟨fun w1 hw1 => ?_, ?_⟩
        · go_simp
          try rfl
        go_simp; refine up_step rfl ?_; apply Exists.intro; refine ⟨fun w1 hw1 => ?_, ?_⟩
        · go_simp
          try rfl
        go_simp; refine up_step rfl ?_; apply Exists.intro; refine ⟨fun w1 hw1 => ?_, ?_⟩
        · obtain ⟨hc, hf, hz⟩ := hw1.facts
          try simp at hz
          go_simp
          try rfl
        go_simp; refine up_step rfl ?_; apply Exists.intro; refine ⟨fun w1 hw1 => ?_, ?_⟩
        · go_simp
          exact up_call hw1 (C.out _)
        go_simp; refine up_step rfl ?_; apply Exists.intro; refine ⟨fun w1 hw1 => ?_, ?_⟩
        · go_simp
          try rfl
        go_simp; refine wpQuiet_nil ?_; intro wA uA; clear i0 i1 i2 i3 i4 p0 p1 p2 p3 p4 p5 q0 q1 q2 q3 q4 q5 C; go_wp2; go_ret
        exact ⟨ret_bool (by rw [← HR.out, S'.out, HR2.out]; rfl), ur.trans uA⟩
    · have e := EN.out j (by rw [LE.out]; omega)
      have E := Lib.hid e
      clear e; go_wp2; go_ret
      exact ⟨ret_bool (by rw [← HR.out, E.out]), ur⟩
theorem implRise_any (A : Option Addr) (n cap : Nat) (es : List Evt) (w : World) (hn : n ≤ 1000000000) (hE : Evs w A n es) :
    Calls Try.prog 129 #[.slice A n cap] w fun x w' => x = .returned (.bool (riseB es)) ∧ Up w w' := by
  have C := Lib.hid (ascE_any A n cap es w hn hE)
  generalize riseB es = r at C ⊢
  clear hE
  go_enter Try.func129, Try.ntmps129
  go_wp2_with fail
  refine C.out.mono ?_; rintro x w1 ⟨rfl, u⟩; go_wp2; go_ret
  exact ⟨rfl, u⟩
set_option maxHeartbeats 1000000 in
theorem specRise_any (A : Option Addr) (n cap : Nat) (es : List Evt) (w : World) (hn : n ≤ 1000000000) (hE : Evs w A n es) :
    Calls Try.prog 70 #[.slice A n cap] w fun x w' => x = .returned (.bool (riseB es)) ∧ Up w w' := by
  have H0 := Lib.hid (show riseB (es.drop 0) = riseB es from rfl)
  have ST := Lib.hid (riseB_drop es)
  have EN := Lib.hid (riseB_end es)
  have HE := Lib.hid hE
  have LE := Lib.hid hE.1
  have CL := Lib.hid (fun a b W => specLess_any a b W)
  clear hE
  go_enter Try.func70, Try.ntmps70
  go_wp2
  go_loopw [3] (fun i wr => (∃ j : Nat, (j = 0 ∨ j + 1 ≤ n) ∧ i = .int .i64 ((j : Int) + 1) ∧ riseB (es.drop j) = riseB es) ∧ Up w wr) (fun i _ => n + 1 - (intOf i).toNat)
  case atStart => exact ⟨⟨0, .inl rfl, rfl, H0.out⟩, Up.refl _⟩
  case round =>
    obtain ⟨⟨j, hj, rfl, hr⟩, ur⟩ := hrel
    have HR := Lib.hid hr
    clear hr
    by_cases hlt : j + 1 < n
    · obtain ⟨b, off, hA, hb, hc⟩ := HE.out.2 (by omega)
      subst hA
      have a0 := (hc j (by omega)).up ur hb
      have a1 := (hc (j + 1) hlt).up ur hb
      have hb' : b < wr.heap.size := by have := ur.size; omega
      clear hc
      have S := ST.out j (by rw [LE.out]; exact hlt)
      have cl := CL.out (es.getD j default) (es.getD (j + 1) default)
      generalize es.getD j default = p at a0 S cl
      generalize es.getD (j + 1) default = q at a1 S cl
      have S' := Lib.hid S
      clear S
      generalize ltE p q = r at S' cl
      obtain ⟨pt, pto, pfr, psq, pkd, pdt⟩ := p; obtain ⟨qt, qto, qfr, qsq, qkd, qdt⟩ := q; unfold EvAt at a0 a1; unfold Evt.v at cl; dsimp only at a0 a1 cl; obtain ⟨p0, p1, p2, p3, p4, p5⟩ := a0; obtain ⟨q0, q1, q2, q3, q4, q5⟩ := a1
      have C := Lib.hid cl
      clear cl
      have i0 : IntKind.i64.wrap (j : Int) = j := IntWalk.i64_in _ (by omega)
      have i1 : (0 : Int) ≤ (j : Int) + 1 := by omega
      have i2 : ((j : Int) + 1).toNat = j + 1 := by omega
      have i3 : (j : Int) + 1 < n := by omega
      have i4 : (j : Int) < n := by omega
      go_wp2; refine region_up (by kernel_rfl) (by kernel_rfl) ?_; refine up_step rfl ?_; apply Exists.intro; refine ⟨fun w1 hw1 => ?_, ?_⟩
      · go_simp
        try rfl
      go_simp; refine up_step rfl ?_; apply Exists.intro; refine ⟨fun w1 hw1 => ?_, ?_⟩
      · go_simp
        try rfl
      go_simp; refine up_step rfl ?_; apply Exists.intro; refine ⟨fun w1 hw1 => ?_, ?_⟩
      · go_simp
        try rfl
      go_simp; refine up_step rfl ?_; apply Exists.intro; refine ⟨fun w1 hw1 => ?_, ?_⟩
      · go_simp
        try rfl
      go_simp; refine up_step rfl ?_; apply Exists.intro; refine ⟨fun w1 hw1 => ?_, ?_⟩
      · obtain ⟨hc, hf, hz⟩ := hw1.facts
        try simp at hz
        go_simp
        try rfl
      go_simp; refine up_step rfl ?_; apply Exists.intro; refine ⟨fun w1 hw1 => ?_, ?_⟩
      · go_simp
        try rfl
      go_simp; refine up_step rfl ?_; apply Exists.intro; refine ⟨fun w1 hw1 => ?_, ?_⟩
      · go_simp
        try rfl
      go_simp; refine up_step rfl ?_; apply Exists.intro; refine ⟨fun w1 hw1 => ?_, ?_⟩
      · go_simp
        try rfl
      go_simp; refine up_step rfl ?_; apply Exists.intro; refine ⟨fun w1 hw1 => ?_, ?_⟩
      · obtain ⟨hc, hf, hz⟩ := hw1.facts
        try simp at hz
        go_simp
        try rfl
      go_simp; refine up_step rfl ?_; apply Exists.intro; refine ⟨fun w1 hw1 => ?_, ?_⟩
      · go_simp
        exact up_call hw1 (C.out _)
      go_simp; refine up_step rfl ?_; apply Exists.intro; refine ⟨fun w1 hw1 => ?_, ?_⟩
      · go_simp
        try rfl
      go_simp; refine wpQuiet_nil ?_; intro wA uA; clear i0 i1 i2 i3 i4 p0 p1 p2 p3 p4 p5 q0 q1 q2 q3 q4 q5 C
      cases r
      · go_wp2
        go_ret
        exact ⟨ret_bool (by rw [← HR.out, S'.out]; rfl), ur.trans uA⟩
      · go_wp2
        go_roundw
        case rel => exact ⟨⟨j + 1, .inr (by omega), by go_num, by rw [← HR.out, S'.out]; rfl⟩, ur.trans uA⟩
        case measure => simp [intOf]; omega
    · have e := EN.out j (by rw [LE.out]; omega)
      have E := Lib.hid e
      clear e; go_wp2; go_ret
      exact ⟨ret_bool (by rw [← HR.out, E.out]), ur⟩
end Go.Proofs.Ytklldniapombiaa

/-
  What toCmbHostS returns, in one sentence: the same hosts over new rows; for every list that lies in memory.
  What toSeqRecSS returns, in one sentence: the same rows of records over new rows; for every list that lies in memory.
  What toCmbState returns, in one sentence: the same simulation, all over new rows; for every simulation that lies in memory.
-/
import Derived.Test.YtipjcjjjkkaigabDLEcbok03
import Derived.Test.YtipjcjjjkkaigabDLEcbok19
namespace Go.Proofs.Ytipjcjjjkkaigab
set_option maxRecDepth 100000
open Go.RowKit
/-- A host of the call's own: its cells, and its lists in blocks from lo on. -/
def ChF (w : World) (lo b o : Nat) (h : Ch) : Prop :=
  ∃ g n g2 k, (w.cell? ⟨b, o, none⟩ = some (.int .i64 h.now.s) ∧ w.cell? ⟨b, o + 1, none⟩ = some (.int .i64 h.now.sq) ∧ w.cell? ⟨b, o + 2, none⟩ = some (.int .i64 h.now.ct) ∧ w.cell? ⟨b, o + 3, none⟩ = some (.slice (some ⟨g, 0, none⟩) n n) ∧ w.cell? ⟨b, o + 4, none⟩ = some (.slice (some ⟨g2, 0, none⟩) k k)) ∧ (n ≤ 1048576 ∧ k ≤ 1048576) ∧ NwE w lo g n h.wait ∧ NwN w lo g2 k h.ins
theorem ChF.at_ {w : World} {lo b o : Nat} {h : Ch} (f : ChF w lo b o h) : ChAt w b o h := by
  obtain ⟨g, n, g2, k, hc, ⟨hn, hk⟩, he, hi⟩ := f
  exact ⟨_, n, n, _, k, k, hc, ⟨he.evs, hn⟩, hi.v, hk⟩
theorem ChF.keep {w w' : World} {lo b o : Nat} {h : Ch} (f : ChF w lo b o h) (c : ∀ j, j < 5 → w'.cell? ⟨b, o + j, none⟩ = w.cell? ⟨b, o + j, none⟩) (v1 : ∀ {g n : Nat} {xs : List Evt}, NwE w lo g n xs → NwE w' lo g n xs) (v2 : ∀ {g n : Nat} {xs : List Int}, NwN w lo g n xs → NwN w' lo g n xs) : ChF w' lo b o h := by
  obtain ⟨g, n, g2, k, ⟨h0, h1, h2, h3, h4⟩, hb, he, hi⟩ := f
  exact ⟨g, n, g2, k, ⟨(c 0 (by omega)).trans h0, (c 1 (by omega)).trans h1, (c 2 (by omega)).trans h2, (c 3 (by omega)).trans h3, (c 4 (by omega)).trans h4⟩, hb, v1 he, v2 hi⟩
theorem ChF.up {w w' : World} {lo b o : Nat} {h : Ch} (f : ChF w lo b o h) (u : Up w w') (hb : b < w.heap.size) : ChF w' lo b o h := f.keep (fun _ _ => u.cells _ _ hb) (fun x => x.up u) (fun x => x.up u)
/-- Hosts of the call's own. -/
structure ChsF (w : World) (lo g n : Nat) (hs : List Ch) : Prop where
  lo_ : lo ≤ g
  len : hs.length = n
  lt : g < w.heap.size
  at_ : ∀ i, i < n → ChF w (g + 1) g (i * 5) (hs.getD i default)
  free : ∀ j, j < n * 5 → w.frozen? ⟨g, j, none⟩ = false
theorem ChsF.chs {w : World} {lo g n : Nat} {hs : List Ch} (h : ChsF w lo g n hs) : Chs w (some ⟨g, 0, none⟩) n hs :=
  ⟨h.len, fun _ => ⟨g, 0, rfl, h.lt, fun i hi => by rw [Nat.zero_add]; exact (h.at_ i hi).at_⟩⟩
theorem ChsF.up {w w' : World} {lo g n : Nat} {hs : List Ch} (h : ChsF w lo g n hs) (u : Up w w') : ChsF w' lo g n hs :=
  ⟨h.lo_, h.len, Nat.lt_of_lt_of_le h.lt u.size, fun i hi => (h.at_ i hi).up u h.lt, fun j hj => (u.frozens _ _ h.lt).trans (h.free j hj)⟩
theorem ChsF.hib {w w' : World} {lo g n : Nat} {hs : List Ch} (h : ChsF w lo g n hs) (k : Hib lo w w') : ChsF w' lo g n hs :=
  ⟨h.lo_, h.len, Nat.lt_of_lt_of_le h.lt k.size, fun i hi => (h.at_ i hi).keep (fun _ _ => k.cell h.lo_ h.lt) (fun x => x.hib (k.mono (by have := h.lo_; omega))) (fun x => x.hib (k.mono (by have := h.lo_; omega))), fun j hj => (k.frozen h.lo_ h.lt).trans (h.free j hj)⟩
/-- The world with five cells laid. -/
def putC (w : World) (b o : Nat) (c : Cst) (s t : Value) : World := ((((w.setCell ⟨b, o, none⟩ (.int .i64 c.s)).setCell ⟨b, o + 1, none⟩ (.int .i64 c.sq)).setCell ⟨b, o + 2, none⟩ (.int .i64 c.ct)).setCell ⟨b, o + 3, none⟩ s).setCell ⟨b, o + 4, none⟩ t
theorem putC_other (w : World) (b o : Nat) (c : Cst) (s t : Value) (b' o' : Nat) (h : b ≠ b' ∨ o' < o ∨ o + 5 ≤ o') : (putC w b o c s t).cell? ⟨b', o', none⟩ = w.cell? ⟨b', o', none⟩ := by
  unfold putC; rw [World.cell?_setCell_other _ _ _ _ (addr_ne (by omega)), World.cell?_setCell_other _ _ _ _ (addr_ne (by omega)), World.cell?_setCell_other _ _ _ _ (addr_ne (by omega)), World.cell?_setCell_other _ _ _ _ (addr_ne (by omega)), World.cell?_setCell_other _ _ _ _ (addr_ne (by omega))]
theorem putC_frozen (w : World) (b o : Nat) (c : Cst) (s t : Value) (a : Addr) : (putC w b o c s t).frozen? a = w.frozen? a := by
  unfold putC; simp [go_sem]
theorem putC_size (w : World) (b o : Nat) (c : Cst) (s t : Value) : (putC w b o c s t).heap.size = w.heap.size := by
  unfold putC; simp
theorem putC_some {w : World} {g o : Nat} {c : Cst} {s t : Value} {b j : Nat} {v : Value} (h : w.cell? ⟨b, j, none⟩ = some v) : ∃ v, (putC w g o c s t).cell? ⟨b, j, none⟩ = some v := by
  unfold putC; obtain ⟨v1, h1⟩ := setCell_some (p := ⟨g, o, none⟩) (u := .int .i64 c.s) h; obtain ⟨v2, h2⟩ := setCell_some (p := ⟨g, o + 1, none⟩) (u := .int .i64 c.sq) h1; obtain ⟨v3, h3⟩ := setCell_some (p := ⟨g, o + 2, none⟩) (u := .int .i64 c.ct) h2; obtain ⟨v4, h4⟩ := setCell_some (p := ⟨g, o + 3, none⟩) (u := s) h3
  exact setCell_some h4
theorem putC_at {w : World} {b o : Nat} {c : Cst} {s t : Value} (h : ∀ j, j < 5 → ∃ v, w.cell? ⟨b, o + j, none⟩ = some v) :
    (putC w b o c s t).cell? ⟨b, o, none⟩ = some (.int .i64 c.s) ∧ (putC w b o c s t).cell? ⟨b, o + 1, none⟩ = some (.int .i64 c.sq) ∧ (putC w b o c s t).cell? ⟨b, o + 2, none⟩ = some (.int .i64 c.ct) ∧ (putC w b o c s t).cell? ⟨b, o + 3, none⟩ = some s ∧ (putC w b o c s t).cell? ⟨b, o + 4, none⟩ = some t := by
  obtain ⟨v0, h0⟩ := h 0 (by omega); obtain ⟨v1, h1⟩ := h 1 (by omega); obtain ⟨v2, h2⟩ := h 2 (by omega); obtain ⟨v3, h3⟩ := h 3 (by omega); obtain ⟨v4, h4⟩ := h 4 (by omega)
  have n : ∀ {x y : Nat}, x ≠ y → (⟨b, x, none⟩ : Addr) ≠ ⟨b, y, none⟩ := fun e => addr_ne (.inr e)
  have ot : ∀ (W : World) {x y : Nat} (u : Value), x ≠ y → (W.setCell ⟨b, x, none⟩ u).cell? ⟨b, y, none⟩ = W.cell? ⟨b, y, none⟩ := fun W _ _ u e => World.cell?_setCell_other W _ _ u (n e)
  unfold putC; refine ⟨?_, ?_, ?_, ?_, ?_⟩
  · rw [ot _ _ (by omega), ot _ _ (by omega), ot _ _ (by omega), ot _ _ (by omega)]
    exact World.cell?_setCell_same _ _ _ h0
  · rw [ot _ _ (by omega), ot _ _ (by omega), ot _ _ (by omega)]
    exact World.cell?_setCell_same _ _ _ ((ot _ _ (by omega)).trans h1)
  · rw [ot _ _ (by omega), ot _ _ (by omega)]
    exact World.cell?_setCell_same _ _ _ ((ot _ _ (by omega)).trans ((ot _ _ (by omega)).trans h2))
  · rw [ot _ _ (by omega)]
    exact World.cell?_setCell_same _ _ _ ((ot _ _ (by omega)).trans ((ot _ _ (by omega)).trans ((ot _ _ (by omega)).trans h3)))
  · exact World.cell?_setCell_same _ _ _ ((ot _ _ (by omega)).trans ((ot _ _ (by omega)).trans ((ot _ _ (by omega)).trans ((ot _ _ (by omega)).trans h4))))
theorem Up.putC {a w : World} {b : Nat} (h : Up a w) (hb : a.heap.size ≤ b) (o : Nat) (c : Cst) (s t : Value) : Up a (Go.Proofs.Ytipjcjjjkkaigab.putC w b o c s t) := ((((h.setCell hb _).setCell hb _).setCell hb _).setCell hb _).setCell hb _
theorem Hib.putC {lo b : Nat} {a w : World} (h : Hib lo a w) (hb : b < lo) (o : Nat) (c : Cst) (s t : Value) : Hib lo a (Go.Proofs.Ytipjcjjjkkaigab.putC w b o c s t) := ((((h.set hb).set hb).set hb).set hb).set hb
/-- The block g on the way: k of its n rows are laid. -/
structure PartC (w : World) (g n k : Nat) (hs : List Ch) : Prop where
  lt : g < w.heap.size
  at_ : ∀ i, i < k → ChF w (g + 1) g (i * 5) (hs.getD i default)
  some_ : ∀ j, j < n * 5 → ∃ v, w.cell? ⟨g, j, none⟩ = some v
  free : ∀ j, j < n * 5 → w.frozen? ⟨g, j, none⟩ = false
theorem PartC.begin (w : World) (n : Nat) (t : TypeId) (hs : List Ch) (z : Array Value) : PartC (w.alloc (.cells (madeCells z (n * 5)) t)) w.heap.size n 0 hs :=
  ⟨by simp, fun i hi => absurd hi (by omega), fun j hj => (made_cell w _ _ t j hj).1, fun j hj => (made_cell w _ _ t j hj).2⟩
theorem PartC.up {w w' : World} {g n k : Nat} {hs : List Ch} (h : PartC w g n k hs) (u : Up w w') : PartC w' g n k hs :=
  ⟨Nat.lt_of_lt_of_le h.lt u.size, fun i hi => (h.at_ i hi).up u h.lt, fun j hj => by obtain ⟨v, hv⟩ := h.some_ j hj; exact ⟨v, (u.cells _ _ h.lt).trans hv⟩, fun j hj => (u.frozens _ _ h.lt).trans (h.free j hj)⟩
theorem PartC.put {w : World} {g n k g1 n1 g2 n2 : Nat} {hs : List Ch} {d : Ch} (h : PartC w g n k hs) (hd : hs.getD k default = d) (hk : k < n) (hn : n1 ≤ 1048576 ∧ n2 ≤ 1048576) (he : NwE w (g + 1) g1 n1 d.wait) (hi_ : NwN w (g + 1) g2 n2 d.ins) :
    PartC (putC w g (k * 5) d.now (.slice (some ⟨g1, 0, none⟩) n1 n1) (.slice (some ⟨g2, 0, none⟩) n2 n2)) g n (k + 1) hs := by
  have HH : Hib (g + 1) w (putC w g (k * 5) d.now (.slice (some ⟨g1, 0, none⟩) n1 n1) (.slice (some ⟨g2, 0, none⟩) n2 n2)) := (Hib.refl _ _).putC (by omega) _ _ _ _
  refine ⟨by rw [putC_size]; exact h.lt, fun i hi => ?_, fun j hj => ?_, fun j hj => (putC_frozen _ _ _ _ _ _ _).trans (h.free j hj)⟩
  · by_cases hik : i = k
    · subst hik
      rw [hd]
      exact ⟨g1, n1, g2, n2, putC_at (fun j hj => h.some_ _ (by omega)), hn, he.hib HH, hi_.hib HH⟩
    · exact (h.at_ i (by omega)).keep (fun j hj => putC_other _ _ _ _ _ _ _ _ (by omega)) (fun x => x.hib HH) (fun x => x.hib HH)
  · obtain ⟨v, hv⟩ := h.some_ j hj
    exact putC_some hv
def NewChs (hs : List Ch) (n : Nat) (w : World) (x : Ending) (w' : World) : Prop :=
  ∃ g, x = .returned (.slice (some ⟨g, 0, none⟩) n n) ∧ ChsF w' w.heap.size g n hs ∧ Up w w'
theorem info56 : (Try.prog.info? 56).map (fun i => (i.zero, i.size, i.bytes)) = some (some (.agg #[.int .i64 0, .int .i64 0, .int .i64 0, .slice none 0 0, .slice none 0 0]), 5, 72) := by kernel_rfl
set_option maxHeartbeats 4000000 in
theorem toChs_any (A : Option Addr) (n cap : Nat) (hs : List Ch) (w : World) (hn : n ≤ 1048576) (hE : Chs w A n hs) :
    Calls Try.prog 28 #[.slice A n cap] w (NewChs hs n w) := by
  obtain ⟨i0, hi, hz0, hz1, hz2⟩ := info_parts info56
  have hmk := fun W => run_make_rowN (P := Try.prog) 38 56 i0 _ Try.underlying38 hi hz0 .i64 .i64 n n (Nat.le_refl _) (by rw [hz2]; omega) (by omega) W
  rw [hz1] at hmk
  have HE := Lib.hid hE
  have LE := Lib.hid hE.1
  have CL := Lib.hid (fun h A n c B k d W a b e f => toCh_any h A n c B k d W a b e f)
  clear hE hi hz0 hz1 hz2
  go_enter Try.func28, Try.ntmps28
  go_wp2
  generalize hg : w.heap.size = g
  have HG := Lib.hid (Nat.le_of_eq hg)
  go_loopw [4] (fun i wr => (∃ k : Nat, k ≤ n ∧ i = .int .i64 k ∧ PartC wr g n k hs) ∧ Up w wr) (fun i _ => n - (intOf i).toNat)
  case atStart =>
    refine ⟨⟨0, by omega, rfl, ?_⟩, (Up.refl _).alloc _⟩; subst hg
    exact PartC.begin w n _ hs _
  case round =>
    obtain ⟨⟨k, hk, rfl, hp⟩, ur⟩ := hrel
    have HP := Lib.hid hp
    have UR := Lib.hid ur
    clear hp
    by_cases hlt : k < n
    · obtain ⟨b, off, hA, hb, hc⟩ := (HE.out.up ur).2 (by omega)
      subst hA
      have a0 := hc k hlt
      clear hc ur
      have cl := CL.out (hs.getD k default)
      generalize hpk : hs.getD k default = p at a0 cl
      have HE2 := Lib.hid hpk
      clear hpk; obtain ⟨A3, n3, c3, A4, n4, c4, ⟨p0, p1, p2, p3, p4⟩, ⟨h5, h6⟩, h7, h8⟩ := a0
      have cl2 := cl A3 n3 c3 A4 n4 c4 wr h6 h8 h5 h7
      unfold NewCh at cl2; obtain ⟨⟨e0, e1, e2⟩, pw, px⟩ := p; dsimp only at p0 p1 p2 p3 p4 cl2
      have C := Lib.hid cl2
      clear cl cl2 h5 h7
      have hgl : g < wr.heap.size := HP.out.lt
      have i4 : (k : Int) < n := by omega
      have i5 : IntKind.i64.wrap ((k : Int) + 1) = (k : Int) + 1 := IntWalk.i64_in _ (by omega)
      go_wp2_with fail
      refine C.out.mono ?_; rintro x wA ⟨g1, g2, rfl, he', hi', uA⟩
      have P := HP.out.up uA
      have NE := Lib.hid (show NwE wA (g + 1) g1 n3 pw from ⟨by have := he'.lo_; omega, he'.own⟩)
      have NI := Lib.hid (show NwN wA (g + 1) g2 n4 px from ⟨by have := hi'.lo_; omega, hi'.v, hi'.own⟩)
      have UA := Lib.hid (UR.out.trans uA)
      obtain ⟨v0, c0⟩ := P.some_ (k * 5) (by omega); obtain ⟨v1, c1⟩ := P.some_ (k * 5 + 1) (by omega); obtain ⟨v2, c2⟩ := P.some_ (k * 5 + 2) (by omega); obtain ⟨v3, c5⟩ := P.some_ (k * 5 + 3) (by omega); obtain ⟨v4, c6⟩ := P.some_ (k * 5 + 4) (by omega)
      have f0 := P.free (k * 5) (by omega)
      have f1 := P.free (k * 5 + 1) (by omega)
      have f2 := P.free (k * 5 + 2) (by omega)
      have f3 := P.free (k * 5 + 3) (by omega)
      have f4 := P.free (k * 5 + 4) (by omega)
      have HP2 := Lib.hid P
      clear P p0 p1 p2 p3 p4 he' hi' uA; go_wp2
      go_roundw
      case rel =>
        have hq := HP2.out.put HE2.out hlt ⟨h6, h8⟩ NE.out NI.out
        have hu := UA.out.putC (b := g) HG.out (k * 5) ⟨e0, e1, e2⟩ (.slice (some ⟨g1, 0, none⟩) n3 n3) (.slice (some ⟨g2, 0, none⟩) n4 n4)
        unfold putC at hq hu
        exact ⟨⟨k + 1, by omega, by first | rfl | go_num, hq⟩, hu⟩
      case measure => (simp [intOf]; try omega)
    · have hkn : k = n := by omega
      have i4 : ¬ (k : Int) < n := by omega
      clear ur; go_wp2; go_ret; refine ⟨g, rfl, ⟨by omega, LE.out, HP.out.lt, fun i hi => HP.out.at_ i (by omega), HP.out.free⟩, UR.out⟩
end Go.Proofs.Ytipjcjjjkkaigab

namespace Go.Proofs.Ytipjcjjjkkaigab
set_option maxRecDepth 100000
open Go.RowKit
/-- Rows of records of the call's own. -/
structure LgsF (w : World) (lo g n : Nat) (ls : List (List Rec)) : Prop where
  lo_ : lo ≤ g
  len : ls.length = n
  lt : g < w.heap.size
  at_ : ∀ i, i < n → ∃ g' n', w.cell? ⟨g, i, none⟩ = some (.slice (some ⟨g', 0, none⟩) n' n') ∧ n' ≤ 1048576 ∧ NwR w (g + 1) g' n' (ls.getD i [])
  free : ∀ j, j < n → w.frozen? ⟨g, j, none⟩ = false
theorem LgsF.lgs {w : World} {lo g n : Nat} {ls : List (List Rec)} (h : LgsF w lo g n ls) : Lgs w (some ⟨g, 0, none⟩) n ls :=
  ⟨h.len, fun _ => ⟨g, 0, rfl, h.lt, fun i hi => by
    obtain ⟨g', n', hc, hb, hr⟩ := h.at_ i hi
    exact ⟨_, n', n', by rw [Nat.zero_add]; exact hc, hr.v, hb⟩⟩⟩
theorem LgsF.hib {w w' : World} {lo g n : Nat} {ls : List (List Rec)} (h : LgsF w lo g n ls) (k : Hib lo w w') : LgsF w' lo g n ls :=
  ⟨h.lo_, h.len, Nat.lt_of_lt_of_le h.lt k.size, fun i hi => by
    obtain ⟨g', n', hc, hb, hr⟩ := h.at_ i hi
    exact ⟨g', n', (k.cell h.lo_ h.lt).trans hc, hb, hr.hib (k.mono (by have := h.lo_; omega))⟩, fun j hj => (k.frozen h.lo_ h.lt).trans (h.free j hj)⟩
structure PartL (w : World) (g n k : Nat) (ls : List (List Rec)) : Prop where
  lt : g < w.heap.size
  at_ : ∀ i, i < k → ∃ g' n', w.cell? ⟨g, i, none⟩ = some (.slice (some ⟨g', 0, none⟩) n' n') ∧ n' ≤ 1048576 ∧ NwR w (g + 1) g' n' (ls.getD i [])
  some_ : ∀ j, j < n → ∃ v, w.cell? ⟨g, j, none⟩ = some v
  free : ∀ j, j < n → w.frozen? ⟨g, j, none⟩ = false
theorem PartL.begin (w : World) (n : Nat) (t : TypeId) (ls : List (List Rec)) (z : Array Value) : PartL (w.alloc (.cells (madeCells z (n * 1)) t)) w.heap.size n 0 ls :=
  ⟨by simp, fun i hi => absurd hi (by omega), fun j hj => (made_cell w _ _ t j (by omega)).1, fun j hj => (made_cell w _ _ t j (by omega)).2⟩
theorem PartL.up {w w' : World} {g n k : Nat} {ls : List (List Rec)} (h : PartL w g n k ls) (u : Up w w') : PartL w' g n k ls :=
  ⟨Nat.lt_of_lt_of_le h.lt u.size, fun i hi => by
    obtain ⟨g', n', hc, hb, hr⟩ := h.at_ i hi
    exact ⟨g', n', (u.cells _ _ h.lt).trans hc, hb, hr.up u⟩, fun j hj => by obtain ⟨v, hv⟩ := h.some_ j hj; exact ⟨v, (u.cells _ _ h.lt).trans hv⟩, fun j hj => (u.frozens _ _ h.lt).trans (h.free j hj)⟩
theorem PartL.put {w : World} {g n k g' n' : Nat} {ls : List (List Rec)} {rs : List Rec} (h : PartL w g n k ls) (hr : ls.getD k [] = rs) (hk : k < n) (hb : n' ≤ 1048576) (ho : NwR w (g + 1) g' n' rs) :
    PartL (w.setCell ⟨g, k, none⟩ (.slice (some ⟨g', 0, none⟩) n' n')) g n (k + 1) ls := by
  have HH : Hib (g + 1) w (w.setCell ⟨g, k, none⟩ (.slice (some ⟨g', 0, none⟩) n' n')) := (Hib.refl _ _).set (by omega)
  refine ⟨by simpa using h.lt, fun i hi => ?_, fun j hj => ?_, fun j hj => by have := h.free j hj; simpa [go_sem] using this⟩
  · by_cases hik : i = k
    · subst hik
      rw [hr]; obtain ⟨v, hv⟩ := h.some_ i hk
      exact ⟨g', n', World.cell?_setCell_same _ _ _ hv, hb, ho.hib HH⟩
    · obtain ⟨g2, n2, hc, hb2, hr2⟩ := h.at_ i (by omega)
      exact ⟨g2, n2, (World.cell?_setCell_other _ _ _ _ (addr_ne (by omega))).trans hc, hb2, hr2.hib HH⟩
  · obtain ⟨v, hv⟩ := h.some_ j hj
    exact setCell_some hv
def NewLgs (ls : List (List Rec)) (n : Nat) (w : World) (x : Ending) (w' : World) : Prop :=
  ∃ g, x = .returned (.slice (some ⟨g, 0, none⟩) n n) ∧ LgsF w' w.heap.size g n ls ∧ Up w w'
theorem info57 : (Try.prog.info? 57).map (fun i => (i.zero, i.size, i.bytes)) = some (some (.slice none 0 0), 1, 24) := by kernel_rfl
set_option maxHeartbeats 4000000 in
theorem toLgs_any (A : Option Addr) (n cap : Nat) (ls : List (List Rec)) (w : World) (hn : n ≤ 1048576) (hE : Lgs w A n ls) :
    Calls Try.prog 29 #[.slice A n cap] w (NewLgs ls n w) := by
  obtain ⟨i0, hi, hz0, hz1, hz2⟩ := info_parts info57
  have hmk := fun W => run_make_rowN (P := Try.prog) 39 57 i0 _ Try.underlying39 hi hz0 .i64 .i64 n n (Nat.le_refl _) (by rw [hz2]; omega) (by omega) W
  rw [hz1] at hmk
  have HE := Lib.hid hE
  have LE := Lib.hid hE.1
  have CL := Lib.hid (fun r A n c W a b => toR_any A n c r W a b)
  clear hE hi hz0 hz1 hz2
  go_enter Try.func29, Try.ntmps29
  go_wp2
  generalize hg : w.heap.size = g
  have HG := Lib.hid (Nat.le_of_eq hg)
  go_loopw [4] (fun i wr => (∃ k : Nat, k ≤ n ∧ i = .int .i64 k ∧ PartL wr g n k ls) ∧ Up w wr) (fun i _ => n - (intOf i).toNat)
  case atStart =>
    refine ⟨⟨0, by omega, rfl, ?_⟩, by first | exact (Up.refl _).alloc _ | (simpa using (Up.refl w).alloc _)⟩; subst hg
    first | exact PartL.begin w n _ ls _ | (have := PartL.begin w n 57 ls #[.slice none 0 0]; simpa using this)
  case round =>
    obtain ⟨⟨k, hk, rfl, hp⟩, ur⟩ := hrel
    have HP := Lib.hid hp
    have UR := Lib.hid ur
    clear hp
    by_cases hlt : k < n
    · obtain ⟨b, off, hA, hb, hc⟩ := (HE.out.up ur).2 (by omega)
      subst hA; obtain ⟨A3, n3, c3, p0, he3, hn3⟩ := hc k hlt; clear hc ur
      have cl := CL.out (ls.getD k [])
      generalize hpk : ls.getD k [] = p at he3 cl
      have HE2 := Lib.hid hpk
      clear hpk
      have C := Lib.hid (cl A3 n3 c3 wr hn3 he3)
      clear cl he3
      have hgl : g < wr.heap.size := HP.out.lt
      have i4 : (k : Int) < n := by omega
      have i5 : IntKind.i64.wrap ((k : Int) + 1) = (k : Int) + 1 := IntWalk.i64_in _ (by omega)
      go_wp2_with fail
      refine C.out.mono ?_; rintro x wA ⟨g', rfl, hg', hv', ho', uA⟩
      have P := HP.out.up uA
      have NI := Lib.hid (show NwR wA (g + 1) g' n3 p from ⟨by omega, hv', ho'⟩)
      have UA := Lib.hid (UR.out.trans uA)
      obtain ⟨v0, c0⟩ := P.some_ k (by omega)
      have f0 := P.free k (by omega)
      have HP2 := Lib.hid P
      clear P p0 hv' ho' uA hg'; go_wp2
      go_roundw
      case rel =>
        exact ⟨⟨k + 1, by omega, by first | rfl | go_num, HP2.out.put HE2.out hlt hn3 NI.out⟩, UA.out.setCell HG.out _⟩
      case measure => (simp [intOf]; try omega)
    · have hkn : k = n := by omega
      have i4 : ¬ (k : Int) < n := by omega
      clear ur; go_wp2; go_ret; refine ⟨g, rfl, ⟨by omega, LE.out, HP.out.lt, fun i hi => HP.out.at_ i (by omega), HP.out.free⟩, UR.out⟩
end Go.Proofs.Ytipjcjjjkkaigab

namespace Go.Proofs.Ytipjcjjjkkaigab
set_option maxRecDepth 100000
open Go.RowKit
/-- A simulation of the call's own. -/
def NewCmb (hs : List Ch) (ls : List (List Rec)) (n k : Nat) (w : World) (x : Ending) (w' : World) : Prop :=
  ∃ g g2, x = .returned (.agg #[.slice (some ⟨g, 0, none⟩) n n, .slice (some ⟨g2, 0, none⟩) k k]) ∧ ChsF w' w.heap.size g n hs ∧ LgsF w' w.heap.size g2 k ls ∧ Up w w'
set_option maxHeartbeats 800000 in
theorem toCmb_any (HA : Option Addr) (n hc : Nat) (LB : Option Addr) (k lc : Nat) (hs : List Ch) (ls : List (List Rec)) (w : World) (hV : CbV w HA n LB k hs ls) : Calls Try.prog 10 #[.agg #[.slice HA n hc, .slice LB k lc]] w (NewCmb hs ls n k w) := by
  have hn := hV.few.1
  have hk := hV.few.2
  have C0 := Lib.hid (fun W (u : Up w W) => toChs_any HA n hc hs W hn (hV.hosts.up u))
  have C1 := Lib.hid (fun W (u : Up w W) => toLgs_any LB k lc ls W hk (hV.logs.up u))
  unfold NewCmb; unfold NewChs at C0; unfold NewLgs at C1; clear hV hn hk
  have X := Lib.hid (((Blk.new w #[.slice HA n hc, .slice LB k lc] 29).alloc (.cells #[.slice none 0 0, .slice none 0 0] 41)).alloc (.cells #[.slice none 0 0, .slice none 0 0] 41))
  have R := Lib.hid ((Blk.new (w.alloc (.cells #[.slice HA n hc, .slice LB k lc] 29)) #[.slice none 0 0, .slice none 0 0] 41).alloc (.cells #[.slice none 0 0, .slice none 0 0] 41))
  have O := Lib.hid (Blk.new ((w.alloc (.cells #[.slice HA n hc, .slice LB k lc] 29)).alloc (.cells #[.slice none 0 0, .slice none 0 0] 41)) #[.slice none 0 0, .slice none 0 0] 41)
  simp only [World.size_alloc] at R O
  have U := Lib.hid ((((Up.refl w).alloc (.cells #[.slice HA n hc, .slice LB k lc] 29)).alloc (.cells #[.slice none 0 0, .slice none 0 0] 41)).alloc (.cells #[.slice none 0 0, .slice none 0 0] 41))
  have le_ : w.heap.size + 3 ≤ (((w.alloc (.cells #[.slice HA n hc, .slice LB k lc] 29)).alloc (.cells #[.slice none 0 0, .slice none 0 0] 41)).alloc (.cells #[.slice none 0 0, .slice none 0 0] 41)).heap.size := by simp
  go_enter Try.func10, Try.ntmps10
  go_wp2_with fail
  generalize ((w.alloc (.cells #[.slice HA n hc, .slice LB k lc] 29)).alloc (.cells #[.slice none 0 0, .slice none 0 0] 41)).alloc (.cells #[.slice none 0 0, .slice none 0 0] 41) = W at *
  generalize hbO : w.heap.size + 1 + 1 = bO at *
  generalize hbR : w.heap.size + 1 = bR at *
  generalize hbX : w.heap.size = bX at *
  have n1 : bX ≠ bR := by omega
  have n2 : bX ≠ bO := by omega
  have n3 : bR ≠ bO := by omega
  have n4 : bO ≠ bX := by omega
  have n5 : bO ≠ bR := by omega
  have n6 : bR ≠ bX := by omega
  have LT := Lib.hid (show w.heap.size ≤ bR ∧ w.heap.size ≤ bO ∧ bR < bX + 3 ∧ bO < bX + 3 by omega)
  clear hbO hbR
  have le_pre := le_
  refine (C0.out _ U.out).mono ?_; rintro x w1_ ⟨g, rfl, hv, u⟩
  have U := Lib.hid (U.out.trans u)
  have X := Lib.hid (X.out.up u)
  have R := Lib.hid (R.out.up u)
  have O := Lib.hid (O.out.up u)
  have le_ : bX + 3 ≤ w1_.heap.size := Nat.le_trans le_ u.size
  have N1 := Lib.hid (show ChsF w1_ (bX + 3) g n hs from ⟨Nat.le_trans le_pre hv.lo_, hv.len, hv.lt, hv.at_, hv.free⟩)
  clear hv le_pre; clear u
  have O2 := Lib.hid (Blk.castb (arr2 := #[.slice (some ⟨g, 0, none⟩) n n, .slice none 0 0]) (O.out.set 0 (.slice (some ⟨g, 0, none⟩) n n)) (by simp))
  have R2 := Lib.hid (R.out.far (b' := bO) 0 (.slice (some ⟨g, 0, none⟩) n n) n3)
  have X2 := Lib.hid (X.out.far (b' := bO) 0 (.slice (some ⟨g, 0, none⟩) n n) n2)
  have U2 := Lib.hid (U.out.setCell (p := ⟨bO, 0, none⟩) (LT.out.2.1) (.slice (some ⟨g, 0, none⟩) n n))
  have HS2 := Lib.hid ((Hib.refl (bX + 3) w1_).set (b := bO) (o := 0) (u := .slice (some ⟨g, 0, none⟩) n n) LT.out.2.2.2)
  have N12 := Lib.hid (N1.out.hib HS2.out)
  have o0 := O.out.cell (j := 0) rfl
  have o1 := O.out.cell (j := 1) rfl
  have fO := O.out.frozen
  have lo_ := O.out.lt
  have x1 := X.out.cell (j := 1) rfl
  have lx := X.out.lt
  have le2 : bX + 3 ≤ ((w1_.setCell ⟨bO, 0, none⟩ (.slice (some ⟨g, 0, none⟩) n n))).heap.size := by simpa using le_
  clear le_
  go_wp2_with fail
  generalize (w1_.setCell ⟨bO, 0, none⟩ (.slice (some ⟨g, 0, none⟩) n n)) = V0 at *
  have le_ := le2
  have O := O2
  have R := R2
  have X := X2
  have U := U2
  have N1 := N12
  clear le2 O2 R2 X2 U2 HS2 fO lo_ lx x1 o0 o1 N12
  have le_pre := le_
  refine (C1.out _ U.out).mono ?_; rintro x w2_ ⟨g2, rfl, hv, u⟩
  have U := Lib.hid (U.out.trans u)
  have X := Lib.hid (X.out.up u)
  have R := Lib.hid (R.out.up u)
  have O := Lib.hid (O.out.up u)
  have le_ : bX + 3 ≤ w2_.heap.size := Nat.le_trans le_ u.size
  have N1 := Lib.hid (N1.out.up u)
  have N2 := Lib.hid (show LgsF w2_ (bX + 3) g2 k ls from ⟨Nat.le_trans le_pre hv.lo_, hv.len, hv.lt, hv.at_, hv.free⟩)
  clear hv le_pre; clear u
  have O2 := Lib.hid (Blk.castb (arr2 := #[.slice (some ⟨g, 0, none⟩) n n, .slice (some ⟨g2, 0, none⟩) k k]) (O.out.set 1 (.slice (some ⟨g2, 0, none⟩) k k)) (by simp))
  have R2 := Lib.hid (R.out.far (b' := bO) 1 (.slice (some ⟨g2, 0, none⟩) k k) n3)
  have X2 := Lib.hid (X.out.far (b' := bO) 1 (.slice (some ⟨g2, 0, none⟩) k k) n2)
  have U2 := Lib.hid (U.out.setCell (p := ⟨bO, 1, none⟩) (LT.out.2.1) (.slice (some ⟨g2, 0, none⟩) k k))
  have HS2 := Lib.hid ((Hib.refl (bX + 3) w2_).set (b := bO) (o := 1) (u := .slice (some ⟨g2, 0, none⟩) k k) LT.out.2.2.2)
  have N12 := Lib.hid (N1.out.hib HS2.out)
  have N22 := Lib.hid (N2.out.hib HS2.out)
  have R3 := Lib.hid (Blk.castb (arr2 := #[.slice (some ⟨g, 0, none⟩) n n, .slice (some ⟨g2, 0, none⟩) k k]) ((R2.out.set 0 (.slice (some ⟨g, 0, none⟩) n n)).set 1 (.slice (some ⟨g2, 0, none⟩) k k)) (by simp))
  have U3 := Lib.hid ((U2.out.setCell (p := ⟨bR, 0, none⟩) (LT.out.1) (.slice (some ⟨g, 0, none⟩) n n)).setCell (p := ⟨bR, 1, none⟩) (LT.out.1) (.slice (some ⟨g2, 0, none⟩) k k))
  have HS3 := Lib.hid (((Hib.refl (bX + 3) (w2_.setCell ⟨bO, 1, none⟩ (.slice (some ⟨g2, 0, none⟩) k k))).set (b := bR) (o := 0) (u := .slice (some ⟨g, 0, none⟩) n n) LT.out.2.2.1).set (b := bR) (o := 1) (u := .slice (some ⟨g2, 0, none⟩) k k) LT.out.2.2.1)
  have N13 := Lib.hid (N12.out.hib HS3.out)
  have N23 := Lib.hid (N22.out.hib HS3.out)
  have o0 := O.out.cell (j := 0) rfl
  have o1 := O.out.cell (j := 1) rfl
  have fO := O.out.frozen
  have lo_ := O.out.lt
  have r0 := R.out.cell (j := 0) rfl
  have r1 := R.out.cell (j := 1) rfl
  have fR := R.out.frozen
  have lr := R.out.lt
  go_wp2; clear o0 r0 o1 r1 fO fR lo_ lr
  generalize (((w2_.setCell ⟨bO, 1, none⟩ (.slice (some ⟨g2, 0, none⟩) k k)).setCell ⟨bR, 0, none⟩ (.slice (some ⟨g, 0, none⟩) n n)).setCell ⟨bR, 1, none⟩ (.slice (some ⟨g2, 0, none⟩) k k)) = WF at *
  obtain ⟨k0, k1⟩ := And.intro (R3.out.cell (j := 0) rfl) (R3.out.cell (j := 1) rfl)
  exact bodyPost_ret (v := .agg #[.slice (some ⟨g, 0, none⟩) n n, .slice (some ⟨g2, 0, none⟩) k k]) (by simp [results, Try.results10, go_sem, k0, k1]) rfl ⟨g, g2, rfl, ⟨by have := N13.out.lo_; omega, N13.out.len, N13.out.lt, N13.out.at_, N13.out.free⟩, ⟨by have := N23.out.lo_; omega, N23.out.len, N23.out.lt, N23.out.at_, N23.out.free⟩, U3.out⟩
end Go.Proofs.Ytipjcjjjkkaigab

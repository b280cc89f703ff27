/-
  Hosts in memory, in one sentence: what it means that cells hold what was done, what is kept, lists of both and a host; no condition is made.
  How a host that came in is opened, in one sentence: by value it gives its component, its number and its four lists; no condition is made.
  What ascending returns of items, in one sentence: whether each is less than the next one; for every list that lies in memory.
  Heaps whose blocks are typed, in one sentence: of each block from a S on whose element type a table lists, every cell holds what the table says, and what each step keeps of it; no condition is made.
  What is kept where one block alone is written, in one sentence: lists of events elsewhere, their blocks, the reader; no condition is made.
  What stands in the slots of regions over a typed heap, in one sentence: numbers, arrays of numbers, aggregates, slices in typed blocks, each kept by every step; no condition is made.
  Which records and which pending events are valid, in one sentence: two functions on numbers; no condition is made.
-/
import Derived.ArgAppend
import Derived.Test.YtlkmhmiamdbhcabGreatDLElst01
import Derived.Test.YtlkmhmiamdbhcabGreatDLElst02
import Derived.Test.YtlkmhmiamdbhcabGreatDLElst03
import Derived.Test.YtlkmhmiamdbhcabGreatDLElst07
import Derived.Test.YtlkmhmiamdbhcabGreatDLElst10
namespace Go.Proofs.YtlkmhmiamdbhcabGreat
set_option maxRecDepth 100000
open Go.RowKit
/-- What was done: the item, the component ahead of it, the state behind it, what was sent. -/
structure Don where
  it : Rec
  bf : Cst
  s : Int
  sent : List Rec
deriving DecidableEq
instance : Inhabited Don := ⟨⟨default, default, 0, []⟩⟩
/-- What is kept: by what it was sent, and what. -/
structure Kep where
  by_ : Evt
  sent : Rec
deriving DecidableEq
instance : Inhabited Kep := ⟨⟨default, default⟩⟩
structure Hst where
  now : Cst
  ids : Int
  done : List Don
  wait : List Rec
  anti : List Rec
  keep : List Kep
deriving DecidableEq
def Don.v (d : Don) (s : Value) : Value := .agg #[.int .i64 d.it.ev.t, .int .i64 d.it.ev.to, .int .i64 d.it.ev.fr, .int .i64 d.it.ev.sq, .int .i64 d.it.ev.kd, .int .i64 d.it.ev.dt, .int .i64 d.it.s, .int .i64 d.bf.s, .int .i64 d.bf.sq, .int .i64 d.bf.ct, .int .i64 d.s, s]
def Kep.v (d : Kep) : Value := .agg #[.int .i64 d.by_.t, .int .i64 d.by_.to, .int .i64 d.by_.fr, .int .i64 d.by_.sq, .int .i64 d.by_.kd, .int .i64 d.by_.dt, .int .i64 d.sent.ev.t, .int .i64 d.sent.ev.to, .int .i64 d.sent.ev.fr, .int .i64 d.sent.ev.sq, .int .i64 d.sent.ev.kd, .int .i64 d.sent.ev.dt, .int .i64 d.sent.s]
def Don.nums (d : Don) : List Int := [d.it.ev.t, d.it.ev.to, d.it.ev.fr, d.it.ev.sq, d.it.ev.kd, d.it.ev.dt, d.it.s, d.bf.s, d.bf.sq, d.bf.ct, d.s]
def Kep.nums (d : Kep) : List Int := [d.by_.t, d.by_.to, d.by_.fr, d.by_.sq, d.by_.kd, d.by_.dt, d.sent.ev.t, d.sent.ev.to, d.sent.ev.fr, d.sent.ev.sq, d.sent.ev.kd, d.sent.ev.dt, d.sent.s]
/-- The twelve cells, from o on. -/
def DonAt (w : World) (b o : Nat) (d : Don) : Prop :=
  ∃ A n c, (w.cell? ⟨b, o, none⟩ = some (.int .i64 d.it.ev.t) ∧ w.cell? ⟨b, o + 1, none⟩ = some (.int .i64 d.it.ev.to) ∧ w.cell? ⟨b, o + 2, none⟩ = some (.int .i64 d.it.ev.fr) ∧ w.cell? ⟨b, o + 3, none⟩ = some (.int .i64 d.it.ev.sq) ∧ w.cell? ⟨b, o + 4, none⟩ = some (.int .i64 d.it.ev.kd) ∧ w.cell? ⟨b, o + 5, none⟩ = some (.int .i64 d.it.ev.dt) ∧ w.cell? ⟨b, o + 6, none⟩ = some (.int .i64 d.it.s) ∧ w.cell? ⟨b, o + 7, none⟩ = some (.int .i64 d.bf.s) ∧ w.cell? ⟨b, o + 8, none⟩ = some (.int .i64 d.bf.sq) ∧ w.cell? ⟨b, o + 9, none⟩ = some (.int .i64 d.bf.ct) ∧ w.cell? ⟨b, o + 10, none⟩ = some (.int .i64 d.s) ∧ w.cell? ⟨b, o + 11, none⟩ = some (.slice A n c)) ∧ n ≤ 9223372036854775807 ∧ Recs w A n d.sent
def Dons (w : World) (A : Option Addr) (n : Nat) (ds : List Don) : Prop :=
  ds.length = n ∧ n ≤ 9223372036854775807 ∧ (0 < n → ∃ b off, A = some ⟨b, off, none⟩ ∧ b < w.heap.size ∧ ∀ i, i < n → DonAt w b (off + i * 12) (ds.getD i default))
/-- The thirteen cells, from o on. -/
def KepAt (w : World) (b o : Nat) (d : Kep) : Prop :=
  w.cell? ⟨b, o, none⟩ = some (.int .i64 d.by_.t) ∧ w.cell? ⟨b, o + 1, none⟩ = some (.int .i64 d.by_.to) ∧ w.cell? ⟨b, o + 2, none⟩ = some (.int .i64 d.by_.fr) ∧ w.cell? ⟨b, o + 3, none⟩ = some (.int .i64 d.by_.sq) ∧ w.cell? ⟨b, o + 4, none⟩ = some (.int .i64 d.by_.kd) ∧ w.cell? ⟨b, o + 5, none⟩ = some (.int .i64 d.by_.dt) ∧ w.cell? ⟨b, o + 6, none⟩ = some (.int .i64 d.sent.ev.t) ∧ w.cell? ⟨b, o + 7, none⟩ = some (.int .i64 d.sent.ev.to) ∧ w.cell? ⟨b, o + 8, none⟩ = some (.int .i64 d.sent.ev.fr) ∧ w.cell? ⟨b, o + 9, none⟩ = some (.int .i64 d.sent.ev.sq) ∧ w.cell? ⟨b, o + 10, none⟩ = some (.int .i64 d.sent.ev.kd) ∧ w.cell? ⟨b, o + 11, none⟩ = some (.int .i64 d.sent.ev.dt) ∧ w.cell? ⟨b, o + 12, none⟩ = some (.int .i64 d.sent.s)
def Keps (w : World) (A : Option Addr) (n : Nat) (ks : List Kep) : Prop :=
  ks.length = n ∧ (0 < n → ∃ b off, A = some ⟨b, off, none⟩ ∧ b < w.heap.size ∧ ∀ i, i < n → KepAt w b (off + i * 13) (ks.getD i default))
theorem DonAt.up {w w' : World} {b o : Nat} {d : Don} (h : DonAt w b o d) (u : Up w w') (hb : b < w.heap.size) : DonAt w' b o d := by
  obtain ⟨A, n, c, ⟨h0, h1, h2, h3, h4, h5, h6, h7, h8, h9, h10, h11⟩, hn, hE⟩ := h
  exact ⟨A, n, c, ⟨(u.cells _ _ hb).trans h0, (u.cells _ _ hb).trans h1, (u.cells _ _ hb).trans h2, (u.cells _ _ hb).trans h3, (u.cells _ _ hb).trans h4, (u.cells _ _ hb).trans h5, (u.cells _ _ hb).trans h6, (u.cells _ _ hb).trans h7, (u.cells _ _ hb).trans h8, (u.cells _ _ hb).trans h9, (u.cells _ _ hb).trans h10, (u.cells _ _ hb).trans h11⟩, hn, hE.up u⟩
theorem KepAt.keep {w w' : World} {b o : Nat} {x : Kep} (h : KepAt w b o x) (k : ∀ j, w'.cell? ⟨b, j, none⟩ = w.cell? ⟨b, j, none⟩) : KepAt w' b o x := by
  obtain ⟨h0, h1, h2, h3, h4, h5, h6, h7, h8, h9, h10, h11, h12⟩ := h
  exact ⟨(k _).trans h0, (k _).trans h1, (k _).trans h2, (k _).trans h3, (k _).trans h4, (k _).trans h5, (k _).trans h6, (k _).trans h7, (k _).trans h8, (k _).trans h9, (k _).trans h10, (k _).trans h11, (k _).trans h12⟩
theorem KepAt.up {w w' : World} {b o : Nat} {x : Kep} (h : KepAt w b o x) (u : Up w w') (hb : b < w.heap.size) : KepAt w' b o x := h.keep fun j => u.cells b j hb
theorem Dons.up {w w' : World} {A : Option Addr} {n : Nat} {ds : List Don} (h : Dons w A n ds) (u : Up w w') : Dons w' A n ds :=
  ⟨h.1, h.2.1, fun hn => by
    obtain ⟨b, off, hA, hb, hc⟩ := h.2.2 hn
    exact ⟨b, off, hA, Nat.lt_of_lt_of_le hb u.size, fun i hi => (hc i hi).up u hb⟩⟩
theorem Keps.up {w w' : World} {A : Option Addr} {n : Nat} {xs : List Kep} (h : Keps w A n xs) (u : Up w w') : Keps w' A n xs :=
  ⟨h.1, fun hn => by
    obtain ⟨b, off, hA, hb, hc⟩ := h.2 hn
    exact ⟨b, off, hA, Nat.lt_of_lt_of_le hb u.size, fun i hi => (hc i hi).up u hb⟩⟩
/-- A host's value. -/
def Hst.v (h : Hst) (d w a k : Value) : Value := .agg #[.int .i64 h.now.s, .int .i64 h.now.sq, .int .i64 h.now.ct, .int .i64 h.ids, d, w, a, k]
/-- A host over these slices. -/
structure HstV (w : World) (Ad : Option Addr) (nd : Nat) (Aw : Option Addr) (nw : Nat) (Aa : Option Addr) (na : Nat) (Ak : Option Addr) (nk : Nat) (h : Hst) : Prop where
  done : Dons w Ad nd h.done
  wait : Recs w Aw nw h.wait
  anti : Recs w Aa na h.anti
  keep : Keps w Ak nk h.keep
  bw : nw ≤ 9223372036854775807
  ba : na ≤ 9223372036854775807
  bk : nk ≤ 9223372036854775807
theorem HstV.up {w w' : World} {Ad : Option Addr} {nd : Nat} {Aw : Option Addr} {nw : Nat} {Aa : Option Addr} {na : Nat} {Ak : Option Addr} {nk : Nat} {h : Hst} (x : HstV w Ad nd Aw nw Aa na Ak nk h) (u : Up w w') : HstV w' Ad nd Aw nw Aa na Ak nk h :=
  ⟨x.done.up u, x.wait.up u, x.anti.up u, x.keep.up u, x.bw, x.ba, x.bk⟩
end Go.Proofs.YtlkmhmiamdbhcabGreat

namespace Go.Proofs.YtlkmhmiamdbhcabGreat
set_option maxRecDepth 100000
open Go.ChangeShapes Go.WideShapes Go.ChangeAt Go.RowKit Go.Joins Go.Deep
set_option linter.unusedVariables false
section
variable {H : Type} {enc : TypeId × Value → H} {P : Program} {w : World} {base : Nat} {spare : Nat → Bool} {held : Bool}
/-- A slice whose elements are s cells each, of which each says Q of something. -/
theorem open_list {α : Type} [Inhabited α] {Q : List Value → α → Prop} {t e : TypeId} {s fuel : Nat} {v : Value} {y : DataW H × List MemPlace} (ht : P.underlying t = some (.slice e)) (hC : P.cellsOf e = s) (hs : 0 < s)
    (hQ : ∀ fuel cs x, cs.length = s → DataW.trod enc P w base spare held fuel e cs = some x → ∃ a, Q cs a) (hf : DataW.trod enc P w base spare held fuel t [v] = some y) :
    ∃ A len c, v = .slice A len c ∧ len ≤ 9223372036854775807 ∧ ∃ xs : List α, xs.length = len ∧ (0 < len → ∃ b off, A = some ⟨b, off, none⟩ ∧ b < w.heap.size ∧ ∀ i, i < len → ∃ cs, cs.length = s ∧ Q cs (xs.getD i default) ∧ ∀ j, (h : j < s) → w.cell? ⟨b, off + i * s + j, none⟩ = cs[j]?) := by
  rcases open_slice ht hf with ⟨hcs, _⟩ | ⟨a, len, c, m, n, D, Pl, hcs, _, hl, hm, hmm, _, hi⟩
  · simp only [List.cons.injEq, and_true] at hcs
    exact ⟨none, 0, 0, hcs, by omega, [], rfl, fun h => absurd h (by omega)⟩
  · simp only [List.cons.injEq, and_true] at hcs
    have hnm : len ≤ m := by rw [hmm]; split <;> omega
    have one : ∀ i, i < len → ∃ x : α, ∃ cs, cs.length = s ∧ Q cs x ∧ ∀ j, j < s → w.cell? (a.add (i * s + j)) = cs[j]? := by
      intro i hin; obtain ⟨cs', hc, ht'⟩ := hi i (by omega); rw [hC] at hc; obtain ⟨_, hcl, hat⟩ := World.cells?_some hc; obtain ⟨x, hx⟩ := hQ _ cs' _ hcl ht'; refine ⟨x, cs', hcl, hx, fun j hj => ?_⟩
      have := hat j hj
      rw [Go.Deep.add_add] at this
      exact this
    obtain ⟨xs, hlen, hxs⟩ := list_of len one; obtain ⟨b, off, spot⟩ := a
    have nosp : 0 < len → spot = none := fun h0 => by
      obtain ⟨cs, hcl, _, hj⟩ := hxs 0 h0
      have := hj 0 hs
      rw [List.getElem?_eq_getElem (by omega)] at this
      simpa [Addr.add] using World.cell?_spot this
    have ad : ∀ k, (⟨b, off, none⟩ : Addr).add k = ⟨b, off + k, none⟩ := fun k => by
      unfold Addr.add
      split
      · rename_i h0; subst h0; rfl
      · rfl
    refine ⟨_, len, c, hcs, by unfold maxLen at hm; omega, xs, hlen, fun h0 => ?_⟩; obtain rfl := nosp h0; refine ⟨b, off, rfl, ?_, fun i hin => ?_⟩
    · obtain ⟨cs, hcl, _, hj⟩ := hxs 0 h0
      have := hj 0 hs
      rw [List.getElem?_eq_getElem (by omega), ad] at this
      exact block_lt this
    · obtain ⟨cs, hcl, hq, hj⟩ := hxs i hin
      refine ⟨cs, hcl, hq, fun j hjs => ?_⟩
      have := hj j hjs
      rw [ad] at this; rw [← this]
      congr 2
      omega
end
def ItmQ (cs : List Value) (r : Rec) : Prop := cs = [.int .i64 r.ev.t, .int .i64 r.ev.to, .int .i64 r.ev.fr, .int .i64 r.ev.sq, .int .i64 r.ev.kd, .int .i64 r.ev.dt, .int .i64 r.s]
section
variable {H : Type} {enc : TypeId × Value → H} {w : World} {base : Nat} {spare : Nat → Bool} {held : Bool}
theorem evt_q (fuel : Nat) (c0 c1 c2 c3 c4 c5 : Value) (x : DataW H × List MemPlace) (h : DataW.trod enc Tryz.prog w base spare held fuel 99 [c0, c1, c2, c3, c4, c5] = some x) :
    ∃ e : Evt, c0 = .int .i64 e.t ∧ c1 = .int .i64 e.to ∧ c2 = .int .i64 e.fr ∧ c3 = .int .i64 e.sq ∧ c4 = .int .i64 e.kd ∧ c5 = .int .i64 e.dt := by
  have f := evt_nums fuel _ x rfl h
  obtain ⟨z0, g0⟩ := f 0 (by omega); obtain ⟨z1, g1⟩ := f 1 (by omega); obtain ⟨z2, g2⟩ := f 2 (by omega); obtain ⟨z3, g3⟩ := f 3 (by omega); obtain ⟨z4, g4⟩ := f 4 (by omega); obtain ⟨z5, g5⟩ := f 5 (by omega)
  exact ⟨⟨z0, z1, z2, z3, z4, z5⟩, by simpa using g0, by simpa using g1, by simpa using g2, by simpa using g3, by simpa using g4, by simpa using g5⟩
theorem itm_q (fuel : Nat) (cs : List Value) (x : DataW H × List MemPlace) (hcl : cs.length = 7) (h : DataW.trod enc Tryz.prog w base spare held fuel 101 cs = some x) : ∃ r : Rec, ItmQ cs r := by
  have f := itm_nums fuel cs x hcl h
  obtain ⟨z0, g0⟩ := f 0 (by omega); obtain ⟨z1, g1⟩ := f 1 (by omega); obtain ⟨z2, g2⟩ := f 2 (by omega); obtain ⟨z3, g3⟩ := f 3 (by omega); obtain ⟨z4, g4⟩ := f 4 (by omega); obtain ⟨z5, g5⟩ := f 5 (by omega); obtain ⟨z6, g6⟩ := f 6 (by omega)
  match cs, hcl with
  | [c0, c1, c2, c3, c4, c5, c6], _ =>
    simp at g0 g1 g2 g3 g4 g5 g6; subst g0 g1 g2 g3 g4 g5 g6
    exact ⟨⟨⟨z0, z1, z2, z3, z4, z5⟩, z6⟩, rfl⟩
theorem int_q (fuel : Nat) (c : Value) (x : DataW H × List MemPlace) (h : DataW.trod enc Tryz.prog w base spare held fuel 3 [c] = some x) : ∃ z : Int, c = .int .i64 z := by
  obtain ⟨z, e, _, _⟩ := DataW.trod_int Tryz.underlying3 h; simp only [List.cons.injEq, and_true] at e
  exact ⟨z, e⟩
theorem cst_q (fuel : Nat) (c0 c1 c2 : Value) (x : DataW H × List MemPlace) (h : DataW.trod enc Tryz.prog w base spare held fuel 27 [c0, c1, c2] = some x) :
    ∃ e : Cst, c0 = .int .i64 e.s ∧ c1 = .int .i64 e.sq ∧ c2 = .int .i64 e.ct := by
  obtain ⟨f0, f1, f2, hu, o0, o1, o2, t0, t1, t2⟩ := (⟨_, _, _, Tryz.underlying27, rfl, rfl, rfl, rfl, rfl, rfl⟩ : ∃ f0 f1 f2 : Field, Tryz.prog.underlying 27 = some (.struct #[f0, f1, f2]) ∧ f0.offset = 0 ∧ f1.offset = 1 ∧ f2.offset = 2 ∧ f0.type = 3 ∧ f1.type = 3 ∧ f2.type = 3); obtain ⟨ys, n', _, _, _, hyl, hf⟩ := DataW.trod_struct hu h
  have hyl : ys.length = 3 := hyl
  have k1 : Tryz.prog.cellsOf 3 = 1 := by kernel_rfl
  have h0 := hf 0 f0 rfl
  have h1 := hf 1 f1 rfl
  have h2 := hf 2 f2 rfl
  rw [o0, t0, k1, List.getElem?_eq_getElem (by omega : 0 < ys.length)] at h0; rw [o1, t1, k1, List.getElem?_eq_getElem (by omega : 1 < ys.length)] at h1; rw [o2, t2, k1, List.getElem?_eq_getElem (by omega : 2 < ys.length)] at h2; obtain ⟨z0, e0⟩ := int_q _ _ _ h0; obtain ⟨z1, e1⟩ := int_q _ _ _ h1; obtain ⟨z2, e2⟩ := int_q _ _ _ h2
  exact ⟨⟨z0, z1, z2⟩, e0, e1, e2⟩
theorem open_itms {v : Value} {fuel : Nat} {y : DataW H × List MemPlace} (hf : DataW.trod enc Tryz.prog w base spare held fuel 29 [v] = some y) : ∃ A n c xs, v = .slice A n c ∧ n ≤ 9223372036854775807 ∧ Recs w A n xs := by
  obtain ⟨A, n, c, rfl, hbig, xs, hl, hx⟩ := open_list (Q := ItmQ) Tryz.underlying29 cells101 (by omega) itm_q hf; refine ⟨A, n, c, xs, rfl, hbig, hl, fun hn => ?_⟩; obtain ⟨b, off, hA, hb, hi⟩ := hx hn; refine ⟨b, off, hA, hb, fun i hin => ?_⟩; obtain ⟨cs, hcl, hq, hj⟩ := hi i hin; unfold ItmQ at hq; subst hq
  exact ⟨hj 0 (by omega), hj 1 (by omega), hj 2 (by omega), hj 3 (by omega), hj 4 (by omega), hj 5 (by omega), hj 6 (by omega)⟩
theorem cells122 : Tryz.prog.cellsOf 122 = 13 := by kernel_rfl
def KepQ (cs : List Value) (k : Kep) : Prop := cs = [.int .i64 k.by_.t, .int .i64 k.by_.to, .int .i64 k.by_.fr, .int .i64 k.by_.sq, .int .i64 k.by_.kd, .int .i64 k.by_.dt, .int .i64 k.sent.ev.t, .int .i64 k.sent.ev.to, .int .i64 k.sent.ev.fr, .int .i64 k.sent.ev.sq, .int .i64 k.sent.ev.kd, .int .i64 k.sent.ev.dt, .int .i64 k.sent.s]
theorem kep_q (fuel : Nat) (cs : List Value) (x : DataW H × List MemPlace) (hcl : cs.length = 13) (h : DataW.trod enc Tryz.prog w base spare held fuel 122 cs = some x) : ∃ k : Kep, KepQ cs k := by
  obtain ⟨f0, f1, hu, o0, o1, t0, t1⟩ := (⟨_, _, Tryz.underlying122, rfl, rfl, rfl, rfl⟩ : ∃ f0 f1 : Field, Tryz.prog.underlying 122 = some (.struct #[f0, f1]) ∧ f0.offset = 0 ∧ f1.offset = 6 ∧ f0.type = 99 ∧ f1.type = 101); obtain ⟨ys, n', _, _, _, hyl, hf⟩ := DataW.trod_struct hu h
  have hyl : ys.length = 2 := hyl
  match cs, hcl with
  | [c0, c1, c2, c3, c4, c5, c6, c7, c8, c9, c10, c11, c12], _ =>
    have h0 := hf 0 f0 rfl
    have h1 := hf 1 f1 rfl
    rw [o0, t0, cells99, List.getElem?_eq_getElem (by omega : 0 < ys.length)] at h0; rw [o1, t1, cells101, List.getElem?_eq_getElem (by omega : 1 < ys.length)] at h1; obtain ⟨e, rfl, rfl, rfl, rfl, rfl, rfl⟩ := evt_q _ _ _ _ _ _ _ _ h0; obtain ⟨r, hr⟩ := itm_q _ _ _ rfl h1; unfold ItmQ at hr; simp only [List.drop, List.take, List.cons.injEq, and_true] at hr; obtain ⟨rfl, rfl, rfl, rfl, rfl, rfl, rfl⟩ := hr
    exact ⟨⟨e, r⟩, rfl⟩
theorem open_keps {v : Value} {fuel : Nat} {y : DataW H × List MemPlace} (hf : DataW.trod enc Tryz.prog w base spare held fuel 30 [v] = some y) : ∃ A n c xs, v = .slice A n c ∧ n ≤ 9223372036854775807 ∧ Keps w A n xs := by
  obtain ⟨A, n, c, rfl, hbig, xs, hl, hx⟩ := open_list (Q := KepQ) Tryz.underlying30 cells122 (by omega) kep_q hf; refine ⟨A, n, c, xs, rfl, hbig, hl, fun hn => ?_⟩; obtain ⟨b, off, hA, hb, hi⟩ := hx hn; refine ⟨b, off, hA, hb, fun i hin => ?_⟩; obtain ⟨cs, hcl, hq, hj⟩ := hi i hin; unfold KepQ at hq; subst hq
  exact ⟨hj 0 (by omega), hj 1 (by omega), hj 2 (by omega), hj 3 (by omega), hj 4 (by omega), hj 5 (by omega), hj 6 (by omega), hj 7 (by omega), hj 8 (by omega), hj 9 (by omega), hj 10 (by omega), hj 11 (by omega), hj 12 (by omega)⟩
theorem cells103 : Tryz.prog.cellsOf 103 = 12 := by kernel_rfl
def DonQ (w : World) (cs : List Value) (d : Don) : Prop := ∃ A n c, cs = [.int .i64 d.it.ev.t, .int .i64 d.it.ev.to, .int .i64 d.it.ev.fr, .int .i64 d.it.ev.sq, .int .i64 d.it.ev.kd, .int .i64 d.it.ev.dt, .int .i64 d.it.s, .int .i64 d.bf.s, .int .i64 d.bf.sq, .int .i64 d.bf.ct, .int .i64 d.s, .slice A n c] ∧ n ≤ 9223372036854775807 ∧ Recs w A n d.sent
theorem don_q (fuel : Nat) (cs : List Value) (x : DataW H × List MemPlace) (hcl : cs.length = 12) (h : DataW.trod enc Tryz.prog w base spare held fuel 103 cs = some x) : ∃ d : Don, DonQ w cs d := by
  obtain ⟨f0, f1, f2, f3, hu, o0, o1, o2, o3, t0, t1, t2, t3⟩ := (⟨_, _, _, _, Tryz.underlying103, rfl, rfl, rfl, rfl, rfl, rfl, rfl, rfl⟩ : ∃ f0 f1 f2 f3 : Field, Tryz.prog.underlying 103 = some (.struct #[f0, f1, f2, f3]) ∧ f0.offset = 0 ∧ f1.offset = 7 ∧ f2.offset = 10 ∧ f3.offset = 11 ∧ f0.type = 101 ∧ f1.type = 27 ∧ f2.type = 3 ∧ f3.type = 29); obtain ⟨ys, n', _, _, _, hyl, hf⟩ := DataW.trod_struct hu h
  have hyl : ys.length = 4 := hyl
  have k1 : Tryz.prog.cellsOf 3 = 1 := by kernel_rfl
  have k2 : Tryz.prog.cellsOf 29 = 1 := by kernel_rfl
  have k3 : Tryz.prog.cellsOf 27 = 3 := by kernel_rfl
  match cs, hcl with
  | [c0, c1, c2, c3, c4, c5, c6, c7, c8, c9, c10, c11], _ =>
    have h0 := hf 0 f0 rfl
    have h1 := hf 1 f1 rfl
    have h2 := hf 2 f2 rfl
    have h3 := hf 3 f3 rfl
    rw [o0, t0, cells101, List.getElem?_eq_getElem (by omega : 0 < ys.length)] at h0; rw [o1, t1, k3, List.getElem?_eq_getElem (by omega : 1 < ys.length)] at h1; rw [o2, t2, k1, List.getElem?_eq_getElem (by omega : 2 < ys.length)] at h2; rw [o3, t3, k2, List.getElem?_eq_getElem (by omega : 3 < ys.length)] at h3; obtain ⟨r, hr⟩ := itm_q _ _ _ rfl h0; obtain ⟨b, rfl, rfl, rfl⟩ := cst_q _ _ _ _ _ h1; obtain ⟨z, rfl⟩ := int_q _ _ _ h2; obtain ⟨A, n, c, xs, rfl, hn, hx⟩ := open_itms h3; unfold ItmQ at hr; simp only [List.drop, List.take, List.cons.injEq, and_true] at hr; obtain ⟨rfl, rfl, rfl, rfl, rfl, rfl, rfl⟩ := hr
    exact ⟨⟨r, b, z, xs⟩, A, n, c, rfl, hn, hx⟩
theorem open_dons {v : Value} {fuel : Nat} {y : DataW H × List MemPlace} (hf : DataW.trod enc Tryz.prog w base spare held fuel 28 [v] = some y) : ∃ A n c xs, v = .slice A n c ∧ Dons w A n xs := by
  obtain ⟨A, n, c, rfl, hbig, xs, hl, hx⟩ := open_list (Q := DonQ w) Tryz.underlying28 cells103 (by omega) don_q hf; refine ⟨A, n, c, xs, rfl, hl, hbig, fun hn => ?_⟩; obtain ⟨b, off, hA, hb, hi⟩ := hx hn; refine ⟨b, off, hA, hb, fun i hin => ?_⟩; obtain ⟨cs, hcl, ⟨A', n', c', hq, hn', hs⟩, hj⟩ := hi i hin; subst hq
  exact ⟨A', n', c', ⟨hj 0 (by omega), hj 1 (by omega), hj 2 (by omega), hj 3 (by omega), hj 4 (by omega), hj 5 (by omega), hj 6 (by omega), hj 7 (by omega), hj 8 (by omega), hj 9 (by omega), hj 10 (by omega), hj 11 (by omega)⟩, hn', hs⟩
theorem cells32 : Tryz.prog.cellsOf 32 = 8 := by kernel_rfl
theorem open_hst {r : Reach} {b0 : Nat} {v : Value} {d : DataW H} {p : List MemPlace} (hv : Value.okWide Tryz.prog w r b0 32 v) (h : DataW.Trod enc Tryz.prog w base spare held 32 v d p) :
    ∃ x : Hst, ∃ Ad nd cd Aw nw cw Aa na ca Ak nk ck, v = x.v (.slice Ad nd cd) (.slice Aw nw cw) (.slice Aa na ca) (.slice Ak nk ck) ∧ HstV w Ad nd Aw nw Aa na Ak nk x := by
  obtain ⟨f0, f1, f2, f3, f4, f5, hu, o0, o1, o2, o3, o4, o5, t0, t1, t2, t3, t4, t5⟩ := (⟨_, _, _, _, _, _, Tryz.underlying32, rfl, rfl, rfl, rfl, rfl, rfl, rfl, rfl, rfl, rfl, rfl, rfl⟩ : ∃ f0 f1 f2 f3 f4 f5 : Field, Tryz.prog.underlying 32 = some (.struct #[f0, f1, f2, f3, f4, f5]) ∧ f0.offset = 0 ∧ f1.offset = 3 ∧ f2.offset = 4 ∧ f3.offset = 5 ∧ f4.offset = 6 ∧ f5.offset = 7 ∧ f0.type = 27 ∧ f1.type = 3 ∧ f2.type = 28 ∧ f3.type = 29 ∧ f4.type = 29 ∧ f5.type = 30); obtain ⟨cs, rfl, hsz⟩ := okWide_struct hu hv; obtain ⟨l⟩ := cs
  have k1 : Tryz.prog.cellsOf 3 = 1 := by kernel_rfl
  have k2 : Tryz.prog.cellsOf 29 = 1 := by kernel_rfl
  have k3 : Tryz.prog.cellsOf 27 = 3 := by kernel_rfl
  have k4 : Tryz.prog.cellsOf 28 = 1 := by kernel_rfl
  have k5 : Tryz.prog.cellsOf 30 = 1 := by kernel_rfl
  match l, hsz.trans cells32 with
  | [c0, c1, c2, c3, c4, c5, c6, c7], _ =>
    obtain ⟨fuel, hf⟩ := h; obtain ⟨ys, n', _, _, _, hyl, hg⟩ := DataW.trod_struct hu hf
    have hyl : ys.length = 6 := hyl
    have h0 := hg 0 f0 rfl
    have h1 := hg 1 f1 rfl
    have h2 := hg 2 f2 rfl
    have h3 := hg 3 f3 rfl
    have h4 := hg 4 f4 rfl
    have h5 := hg 5 f5 rfl
    rw [o0, t0, k3, List.getElem?_eq_getElem (by omega : 0 < ys.length)] at h0; rw [o1, t1, k1, List.getElem?_eq_getElem (by omega : 1 < ys.length)] at h1; rw [o2, t2, k4, List.getElem?_eq_getElem (by omega : 2 < ys.length)] at h2; rw [o3, t3, k2, List.getElem?_eq_getElem (by omega : 3 < ys.length)] at h3; rw [o4, t4, k2, List.getElem?_eq_getElem (by omega : 4 < ys.length)] at h4; rw [o5, t5, k5, List.getElem?_eq_getElem (by omega : 5 < ys.length)] at h5; obtain ⟨b, rfl, rfl, rfl⟩ := cst_q _ c0 c1 c2 _ h0; obtain ⟨z, rfl⟩ := int_q _ c3 _ h1; obtain ⟨Ad, nd, cd, xd, rfl, hd⟩ := open_dons (v := c4) h2
    obtain ⟨Aw, nw, cw, xw, rfl, bw, hw⟩ := open_itms (v := c5) h3; obtain ⟨Aa, na, ca, xa, rfl, ba, ha⟩ := open_itms (v := c6) h4; obtain ⟨Ak, nk, ck, xk, rfl, bk, hk⟩ := open_keps (v := c7) h5
    exact ⟨⟨b, z, xd, xw, xa, xk⟩, Ad, nd, cd, Aw, nw, cw, Aa, na, ca, Ak, nk, ck, rfl, hd, hw, ha, hk, bw, ba, bk⟩
end
end Go.Proofs.YtlkmhmiamdbhcabGreat

namespace Go.Proofs.YtlkmhmiamdbhcabGreat
set_option maxRecDepth 100000
open Go.RowKit
def Rec.itm (r : Rec) : Itm := ⟨r.ev, r.s⟩
def ltR (a b : Rec) : Bool := ltT a.itm b.itm
/-- Is each less than the next one? -/
def riseT : List Rec → Bool
  | a :: b :: r => ltR a b && riseT (b :: r)
  | _ => true
theorem riseT_drop (es : List Rec) (j : Nat) (h : j + 1 < es.length) : riseT (es.drop j) = (ltR (es.getD j default) (es.getD (j + 1) default) && riseT (es.drop (j + 1))) := by
  rw [List.drop_eq_getElem_cons (show j < es.length by omega), List.drop_eq_getElem_cons h, riseT]; simp [show j < es.length by omega, h]
theorem riseT_end (es : List Rec) (j : Nat) (h : es.length ≤ j + 1) : riseT (es.drop j) = true := by
  by_cases hj : j < es.length
  · rw [List.drop_eq_getElem_cons hj, List.drop_eq_nil_of_le h]; rfl
  · rw [List.drop_eq_nil_of_le (by omega)]; rfl
set_option maxHeartbeats 1000000 in
theorem ascI_any (A : Option Addr) (n cap : Nat) (es : List Rec) (w : World) (hn : n ≤ 1000000000) (hE : Recs w A n es) :
    Calls Tryz.prog 120 #[.func (.func 82) #[] #[], .slice A n cap] w fun x w' => x = .returned (.bool (riseT es)) ∧ Up w w' := by
  have H0 := Lib.hid (show riseT (es.drop 0) = riseT es from rfl)
  have ST := Lib.hid (riseT_drop es)
  have EN := Lib.hid (riseT_end es)
  have HE := Lib.hid hE
  have LE := Lib.hid hE.1
  have CL := Lib.hid (fun a b W => itmCmp_any (Rec.itm a) (Rec.itm b) W)
  clear hE
  go_enter Tryz.func120, Tryz.ntmps120
  go_wp2
  go_loopw [5] (fun i wr => (∃ j : Nat, (j = 0 ∨ j + 1 ≤ n) ∧ i = .int .i64 ((j : Int) + 1) ∧ riseT (es.drop j) = riseT es) ∧ Up w wr) (fun i _ => n + 1 - (intOf i).toNat)
  case atStart => exact ⟨⟨0, .inl rfl, rfl, H0.out⟩, Up.refl _⟩
  case round =>
    obtain ⟨⟨j, hj, rfl, hr⟩, ur⟩ := hrel
    have HR := Lib.hid hr
    clear hr
    by_cases hlt : j + 1 < n
    · obtain ⟨b, off, hA, hb, hc⟩ := HE.out.2 (by omega)
      subst hA
      have a0 := (hc j (by omega)).up ur hb
      have a1 := (hc (j + 1) hlt).up ur hb
      have hb' : b < wr.heap.size := by have := ur.size; omega
      clear hc
      have S := ST.out j (by rw [LE.out]; exact hlt)
      have cl := CL.out (es.getD j default) (es.getD (j + 1) default)
      generalize es.getD j default = p at a0 S cl
      generalize es.getD (j + 1) default = q at a1 S cl
      have S' := Lib.hid S
      clear S
      generalize hz : cmpT (Rec.itm p) (Rec.itm q) = z at cl
      have HZ := Lib.hid (show ltR p q = decide (z < 0) by unfold ltR ltT; rw [hz])
      clear hz
      generalize ltR p q = r at S' HZ
      obtain ⟨⟨pt, pto, pfr, psq, pkd, pdt⟩, ps⟩ := p; obtain ⟨⟨qt, qto, qfr, qsq, qkd, qdt⟩, qs⟩ := q; unfold RecAt at a0 a1; unfold Rec.itm Itm.v at cl; dsimp only at a0 a1 cl; obtain ⟨p0, p1, p2, p3, p4, p5, p6⟩ := a0; obtain ⟨q0, q1, q2, q3, q4, q5, q6⟩ := a1
      have C := Lib.hid cl
      clear cl
      have i0 : IntKind.i64.wrap (j : Int) = j := IntWalk.i64_in _ (by omega)
      have i1 : (0 : Int) ≤ (j : Int) + 1 := by omega
      have i2 : ((j : Int) + 1).toNat = j + 1 := by omega
      have i3 : (j : Int) + 1 < n := by omega
      have i4 : (j : Int) < n := by omega
      go_wp2
      by_cases hz : z < 0
      · have hr : r = true := by rw [HZ.out]; exact decide_eq_true hz
        have HR2 := Lib.hid hr
        clear hr; refine region_up (by kernel_rfl) (by kernel_rfl) ?_; refine up_step rfl ?_; apply Exists.intro; refine ⟨fun w1 hw1 => ?_, ?_⟩
        · go_simp
          try rfl
        go_simp; refine up_step rfl ?_; apply Exists.intro; refine ⟨fun w1 hw1 => ?_, ?_⟩
        · go_simp
          try rfl
        go_simp; refine up_step rfl ?_; apply Exists.intro; refine ⟨fun w1 hw1 => ?_, ?_⟩
        · go_simp
          try rfl
        go_simp; refine up_step rfl ?_; apply Exists.intro; refine ⟨fun w1 hw1 => ?_, ?_⟩
        · go_simp
          try rfl
        go_simp; refine up_step rfl ?_; apply Exists.intro; refine ⟨fun w1 hw1 => ?_, ?_⟩
        · go_simp
          try rfl
        go_simp; refine up_step rfl ?_; apply Exists.intro; refine ⟨fun w1 hw1 => ?_, ?_⟩
        · obtain ⟨hc, hf, hz⟩ := hw1.facts
          try simp at hz
          go_simp
          try rfl
        go_simp; refine up_step rfl ?_; apply Exists.intro; refine ⟨fun w1 hw1 => ?_, ?_⟩
        · go_simp
          try rfl
        go_simp; refine up_step rfl ?_; apply Exists.intro; refine ⟨fun w1 hw1 => ?_, ?_⟩
        · go_simp
          try rfl
        go_simp; refine up_step rfl ?_; apply Exists.intro; refine ⟨fun w1 hw1 => ?_, ?_⟩
        · go_simp
          try rfl
        go_simp; refine up_step rfl ?_; apply Exists.intro; refine ⟨fun w1 hw1 => ?_, ?_⟩
        · obtain ⟨hc, hf, hz⟩ := hw1.facts
          try simp at hz
          go_simp
          try rfl
        go_simp; refine up_step rfl ?_; apply Exists.intro; refine ⟨fun w1 hw1 => ?_, ?_⟩
        · go_simp
          exact up_call hw1 (C.out _)
        go_simp; refine up_step rfl ?_; apply Exists.intro; refine ⟨fun w1 hw1 => ?_, ?_⟩
        · go_simp
          try rfl
        go_simp; refine wpQuiet_nil ?_; intro wA uA; clear i0 i1 i2 i3 i4 p0 p1 p2 p3 p4 p5 p6 q0 q1 q2 q3 q4 q5 q6 C; go_wp2
        go_roundw
        case rel => exact ⟨⟨j + 1, .inr (by omega), by go_num, by rw [← HR.out, S'.out, HR2.out]; rfl⟩, ur.trans uA⟩
        case measure => simp [intOf]; omega
      · have hz0 : 0 ≤ z := by omega
        have hr : r = false := by rw [HZ.out]; exact decide_eq_false hz
        have HR2 := Lib.hid hr
        clear hr; refine region_up (by kernel_rfl) (by kernel_rfl) ?_; refine up_step rfl ?_; apply Exists.intro; refine ⟨fun w1 hw1 => ?_, ?_⟩
        · go_simp
          try rfl
        go_simp; refine up_step rfl ?_; apply Exists.intro; refine ⟨fun w1 hw1 => ?_, ?_⟩
        · go_simp
          try rfl
        go_simp; refine up_step rfl ?_; apply Exists.intro; refine ⟨fun w1 hw1 => ?_, ?_⟩
        · go_simp
          try rfl
        go_simp; refine up_step rfl ?_; apply Exists.intro; refine ⟨fun w1 hw1 => ?_, ?_⟩
        · go_simp
          try rfl
        go_simp; refine up_step rfl ?_; apply Exists.intro; refine ⟨fun w1 hw1 => ?_, ?_⟩
        · go_simp
          try rfl
        go_simp; refine up_step rfl ?_; apply Exists.intro; refine ⟨fun w1 hw1 => ?_, ?_⟩
        · obtain ⟨hc, hf, hz⟩ := hw1.facts
          try simp at hz
          go_simp
          try rfl
        go_simp; refine up_step rfl ?_; apply Exists.intro; refine ⟨fun w1 hw1 => ?_, ?_⟩
        · go_simp
          try rfl
        go_simp; refine up_step rfl ?_; apply Exists.intro; refine ⟨fun w1 hw1 => ?_, ?_⟩
        · go_simp
          try rfl
        go_simp; refine up_step rfl ?_; apply Exists.intro; refine ⟨fun w1 hw1 => ?_, ?_⟩
        · go_simp
          try rfl
        go_simp; refine up_step rfl ?_; apply Exists.intro; refine ⟨fun w1 hw1 => ?_, ?_⟩
        · obtain ⟨hc, hf, hz⟩ := hw1.facts
          try simp at hz
          go_simp
          try rfl
        go_simp; refine up_step rfl ?_; apply Exists.intro; refine ⟨fun w1 hw1 => ?_, ?_⟩
        · go_simp
          exact up_call hw1 (C.out _)
        go_simp; refine up_step rfl ?_; apply Exists.intro; refine ⟨fun w1 hw1 => ?_, ?_⟩
        · go_simp
          try rfl
        go_simp; refine wpQuiet_nil ?_; intro wA uA; clear i0 i1 i2 i3 i4 p0 p1 p2 p3 p4 p5 p6 q0 q1 q2 q3 q4 q5 q6 C; go_wp2; go_ret
        exact ⟨ret_bool (by rw [← HR.out, S'.out, HR2.out]; rfl), ur.trans uA⟩
    · have e := EN.out j (by rw [LE.out]; omega)
      have E := Lib.hid e
      clear e; go_wp2; go_ret
      exact ⟨ret_bool (by rw [← HR.out, E.out]), ur⟩
end Go.Proofs.YtlkmhmiamdbhcabGreat

namespace Go.Proofs.YtlkmhmiamdbhcabGreat
set_option maxRecDepth 100000
open Go.RowKit
/-- What a cell may hold: a number; a slice of at most mx elements of type e, of so many cells each. -/
inductive CK where
  | num
  | sl (e size mx : Nat)
abbrev Tbl := Nat → List CK
section
variable {T : Tbl} {S : Nat → Prop} {g : Nat} {w w' w'' : World}
theorem heap_set (w : World) (b o : Nat) (u : Value) {arr : Array Value} {e : Nat} {fz : Nat × Nat} (ha : w.heap[b]? = some (.cells arr e fz)) :
    (w.setCell ⟨b, o, none⟩ u).heap[b]? = some (.cells (arr.setIfInBounds o u) e fz) := by
  unfold World.setCell; simp [Array.getElem?_modify, ha]
end
end Go.Proofs.YtlkmhmiamdbhcabGreat

namespace Go.Proofs.YtlkmhmiamdbhcabGreat
set_option maxRecDepth 100000
open Go.RowKit
theorem own_addr {w : World} {base e n c b off : Nat} {A : Option Addr} {xs : List Value} (h : w.ownsRow base e 6 (.slice A n c) n xs) (hA : A = some ⟨b, off, none⟩) : base ≤ b := by
  subst hA
  exact (h.lt b rfl).1
end Go.Proofs.YtlkmhmiamdbhcabGreat

namespace Go.Proofs.YtlkmhmiamdbhcabGreat
set_option maxRecDepth 100000
open Go.RowKit
section
variable {S : Nat → Prop} {K g N0 : Nat} {W0 w w' : World}
end
section
variable {T : Tbl} {S S' : Nat → Prop} {g : Nat} {w w' : World}
/-- A block known whole. -/
def Blk (w : World) (b e : Nat) (arr : Array Value) : Prop := w.heap[b]? = some (.cells arr e (0, 0))
theorem Blk.cell {b e j : Nat} {arr : Array Value} {v : Value} (h : Blk w b e arr) (hv : arr[j]? = some v) : w.cell? ⟨b, j, none⟩ = some v := by
  unfold World.cell?; dsimp only; rw [h]
  exact hv
theorem Blk.frozen {b e : Nat} {arr : Array Value} (h : Blk w b e arr) (j : Nat) : w.frozen? ⟨b, j, none⟩ = false := by
  unfold World.frozen?; dsimp only; rw [h]; simp
theorem Blk.lt {b e : Nat} {arr : Array Value} (h : Blk w b e arr) : b < w.heap.size := (Array.getElem?_eq_some_iff.1 h).1
theorem Blk.mv {b e : Nat} {arr : Array Value} (h : Blk w b e arr) (k : Mv g w w') (hb : b ≠ g) : Blk w' b e arr := (k.block b h.lt hb).trans h
theorem Blk.up {b e : Nat} {arr : Array Value} (h : Blk w b e arr) (k : Up w w') : Blk w' b e arr := (k.below.block b h.lt).trans h
theorem Blk.alloc {b e : Nat} {arr : Array Value} (h : Blk w b e arr) (o : Obj) : Blk (w.alloc o) b e arr := (heap_alloc_old w _ h.lt).trans h
theorem Blk.new (w : World) (arr : Array Value) (e : Nat) : Blk (w.alloc (.cells arr e)) w.heap.size e arr := heap_alloc_new w _
theorem Blk.set {b e : Nat} {arr : Array Value} (h : Blk w b e arr) (o : Nat) (u : Value) : Blk (w.setCell ⟨b, o, none⟩ u) b e (arr.setIfInBounds o u) := heap_set w b o u h
theorem Blk.far {b b' e : Nat} {arr : Array Value} (h : Blk w b e arr) (o : Nat) (u : Value) (hb : b ≠ b') : Blk (w.setCell ⟨b', o, none⟩ u) b e arr := (Below.heap_setCell w ⟨b', o, none⟩ u b hb).trans h
end
end Go.Proofs.YtlkmhmiamdbhcabGreat

namespace Go.Proofs.YtlkmhmiamdbhcabGreat
set_option maxRecDepth 100000
open Go.RowKit
/-- May an event be pending, among so many components and up to that end? -/
def takB (many til : Int) (e : Evt) : Bool := okB e many && decide (e.t ≤ til)
end Go.Proofs.YtlkmhmiamdbhcabGreat

/-
  What is known of a model on the way, in one sentence: its rows of rules lie in a typed heap, its two blocks are known whole; no condition is made.
  A region that draws its order and whose effects are forced into one order, in one sentence: one walk in the order of the text serves every order, where each operation yields in every world or is the only one that may come up.
-/
import Derived.Deep.RegionHeld3
import Derived.Test.YtakmlfgkppekoaaDLRok01
import Derived.Test.YtakmlfgkppekoaaDLRok03
import Derived.Test.YtakmlfgkppekoaaDLRok04
import Derived.Test.YtakmlfgkppekoaaDLRok05
import Derived.Test.YtakmlfgkppekoaaDLRok06
namespace Go.Proofs.Ytakmlfgkppekoaa
set_option maxRecDepth 100000
open Go.RowKit
/-- The blocks that come behind w. -/
def Beh (w : World) : Nat → Prop := fun b => w.heap.size ≤ b
theorem Beh.not {w : World} {g : Nat} (h : g < w.heap.size) : ¬ Beh w g := fun h' => by unfold Beh at h'; omega
/-- With n rows of rules. -/
structure Md (w : World) (g b4 b6 : Nat) (til : Int) (n c : Nat) (v6 : Value) (wr : World) : Prop where
  th : TH (TM c) (Beh w) wr
  rd : Rd wr g c
  rows : Gs wr (Beh w) 60 1 n v6
  m6 : Blk wr b6 33 #[v6, .slice none 0 0, .int .i64 til]
  m4 : Blk wr b4 33 #[.slice none 0 0, .slice none 0 0, .int .i64 0]
  mv : Mv g w wr
  lo : w.heap.size ≤ wr.heap.size
section
variable {w wr wr' : World} {g b4 b6 : Nat} {til : Int} {n c c' : Nat} {v6 : Value}
theorem Md.above (h : Md w g b4 b6 til n c v6 wr) : ∀ b, wr.heap.size ≤ b → Beh w b := fun _ hb => Nat.le_trans h.lo hb
theorem Md.pk (h : Md w g b4 b6 til n c v6 wr) (p : Pk g wr wr') (r : Rd wr' g c') (hg : g < w.heap.size) (hc : c ≤ c') (h4 : b4 ≠ g) (h6 : b6 ≠ g) : Md w g b4 b6 til n c' v6 wr' :=
  ⟨(h.th.pk p (Beh.not hg)).up hc, r, Gs.st (T := TM c) h.rows p.st, h.m6.pk p h6, h.m4.pk p h4, h.mv.trans p.mv, by rw [p.size]; exact h.lo⟩
/-- Behind steps that keep what is typed. -/
theorem Md.step (h : Md w g b4 b6 til n c v6 wr) (t : TH (TM c') (Beh w) wr') (s : St (TM c) (Beh w) g wr wr') (r : Rd wr' g c') (h4 : b4 ≠ g) (h6 : b6 ≠ g) : Md w g b4 b6 til n c' v6 wr' :=
  ⟨t, r, h.rows.st s, h.m6.st s (TM_mdl _) h6, h.m4.st s (TM_mdl _) h4, s.mv (fun _ hj => Beh.not hj) h.mv, Nat.le_trans h.lo s.size⟩
theorem Md.grow (h : Md w g b4 b6 til n c v6 wr) (t : TH (TM c) (Beh w) wr') (s : St (TM c) (Beh w) g wr wr') (hh : wr'.heap[g]? = wr.heap[g]?) (hg : g < w.heap.size) (h4 : b4 ≠ g) (h6 : b6 ≠ g) : Md w g b4 b6 til n c v6 wr' :=
  h.step t s (Rd.st h.rd (fun k hk => by
    by_cases e : k = g
    · subst e; exact hh
    · exact s.old k (Beh.not (by omega)) e) s.size) h4 h6
theorem Md.put0 (h : Md w g b4 b6 til n c v6 wr) {n' : Nat} {v : Value} (hv : Gs wr (Beh w) 60 1 n' v) (hg : g < b6) (hw : w.heap.size ≤ b6) (h4 : b4 ≠ b6) : Md w g b4 b6 til n' c v (wr.setCell ⟨b6, 0, none⟩ v) :=
  ⟨h.th.setF h.m6 (TM_mdl _), Rd.st h.rd (fun k hk => Below.heap_setCell wr ⟨b6, 0, none⟩ v k (by dsimp only; omega)) (by simp), hv.setCell _ _ _, h.m6.set 0 v, h.m4.far 0 v h4, h.mv.setNew (p := ⟨b6, 0, none⟩) hw v, by simpa using h.lo⟩
theorem Md.alloc {e : Nat} {arr : Array Value} (h : Md w g b4 b6 til n c v6 wr) (hn : TM c e ≠ [] → ∀ j v, arr[j]? = some v → TC (TM c) wr (Beh w) e j v) : Md w g b4 b6 til n c v6 (wr.alloc (.cells arr e)) :=
  ⟨h.th.alloc h.above hn, Rd.st h.rd (fun j hj => heap_alloc_old wr _ (by have := h.rd.lt; omega)) (by simp), h.rows.alloc _, h.m6.alloc _, h.m4.alloc _, h.mv.alloc _, by simp; have := h.lo; omega⟩
end
/-- The blocks of the rules: those behind w, up to top. -/
def Mid (w : World) (top : Nat) : Nat → Prop := fun b => w.heap.size ≤ b ∧ b < top
/-- The rules are laid, and these starts. -/
structure Ms (w : World) (top g b4 b6 : Nat) (til : Int) (many K c : Nat) (v6 : Value) (A : Option Addr) (c5 : Nat) (es : List Evt) (wr : World) : Prop where
  th : TH (TM K) (Mid w top) wr
  rows : Gs wr (Mid w top) 60 1 many v6
  rd : Rd wr g c
  m6 : Blk wr b6 33 #[v6, .slice A es.length c5, .int .i64 til]
  m4 : Blk wr b4 33 #[.slice none 0 0, .slice none 0 0, .int .i64 0]
  mv : Mv g w wr
  lo : top ≤ wr.heap.size
  own : wr.ownsRow top 45 6 (.slice A es.length c5) es.length (flat es)
section
variable {w wr wr' : World} {top g b4 b6 : Nat} {til : Int} {many K c c' c5 : Nat} {v6 : Value} {A : Option Addr} {es : List Evt}
theorem Ms.evs (h : Ms w top g b4 b6 til many K c v6 A c5 es wr) : Evs wr A es.length es := own_evs h.own
theorem Ms.up (h : Ms w top g b4 b6 til many K c v6 A c5 es wr) (u : Up wr wr') : Ms w top g b4 b6 til many K c v6 A c5 es wr' :=
  ⟨h.th.keep fun b hb => u.below.block b (by have := h.lo; unfold Mid at hb; omega), h.rows.keep fun b hb => u.below.block b (by have := h.lo; unfold Mid at hb; omega), h.rd.up u, h.m6.up u, h.m4.up u, h.mv.trans (u.mv g), Nat.le_trans h.lo u.size, own_up h.own u⟩
theorem Ms.pk (h : Ms w top g b4 b6 til many K c v6 A c5 es wr) (p : Pk g wr wr') (r : Rd wr' g c') (hg : g < w.heap.size) (hgt : g < top) (h4 : b4 ≠ g) (h6 : b6 ≠ g) : Ms w top g b4 b6 til many K c' v6 A c5 es wr' :=
  ⟨h.th.keep fun b hb => p.mv.block b (by have := h.lo; unfold Mid at hb; omega) (by unfold Mid at hb; omega), h.rows.keep fun b hb => p.mv.block b (by have := h.lo; unfold Mid at hb; omega) (by unfold Mid at hb; omega), r, h.m6.pk p h6, h.m4.pk p h4, h.mv.trans p.mv, by rw [p.size]; exact h.lo, own_mv h.own p.mv hgt⟩
theorem Ms.put1 (h : Ms w top g b4 b6 til many K c v6 A c5 es wr) {A' : Option Addr} {c5' : Nat} {es' : List Evt} (ho : wr.ownsRow top 45 6 (.slice A' es'.length c5') es'.length (flat es')) (hg : g < b6) (hw : w.heap.size ≤ b6) (h4 : b4 ≠ b6) (ht : b6 < top) :
    Ms w top g b4 b6 til many K c v6 A' c5' es' (wr.setCell ⟨b6, 1, none⟩ (.slice A' es'.length c5')) :=
  ⟨h.th.setF h.m6 (TM_mdl _), h.rows.setCell _ _ _, Rd.st h.rd (fun k hk => Below.heap_setCell wr ⟨b6, 1, none⟩ _ k (by dsimp only; omega)) (by simp), h.m6.set 1 _, h.m4.far 1 _ h4, h.mv.setNew (p := ⟨b6, 1, none⟩) hw _, by simpa using h.lo,
    own_mv ho ((Mv.refl b6 wr).setCell _) ht⟩
theorem Ms.of (h : Md w g b4 b6 til many c v6 wr) : Ms w wr.heap.size g b4 b6 til many c c v6 none 0 [] wr :=
  ⟨h.th.sub (fun _ hb hl => ⟨hb, hl⟩) (fun _ hb _ => hb.1), h.rows.sub (fun _ hb hl => ⟨hb, hl⟩), h.rd, h.m6, h.m4, h.mv, Nat.le_refl _, World.ownsRow_nil wr _ _ _⟩
end
def L4 (w : World) (top g b4 b6 : Nat) (til : Int) (many K N : Nat) (v6 : Value) (i : Value) (wr : World) : Prop :=
  ∃ j c A c5 es, i = .int .i64 ((j : Nat) : Int) ∧ j ≤ 6 ∧ List.length es + j ≤ 6 ∧ es.length ≤ c5 ∧ c5 ≤ 9223372036854775807 ∧ c + 10 * j ≤ N + 900 ∧ Ms w top g b4 b6 til many K c v6 A c5 es wr
/-- The loops' relations. -/
def L1 (w : World) (g b4 b6 : Nat) (til : Int) (many N : Nat) (i : Value) (wr : World) : Prop :=
  ∃ k c v6, i = .int .i64 ((k : Nat) : Int) ∧ k ≤ many ∧ 10 ≤ c ∧ c ≤ N + 20 + 200 * k ∧ Md w g b4 b6 til k c v6 wr
def L2 (w : World) (g b4 b6 : Nat) (til : Int) (k : Nat) (N : Nat) (v6 : Value) (v8 i : Value) (wr : World) : Prop :=
  ∃ q r c : Nat, i = .int .i64 (q : Int) ∧ q ≤ 3 ∧ 10 ≤ c ∧ c ≤ N + 20 + 200 * k + 64 * q ∧ r ≤ q ∧ Gs wr (Beh w) 63 5 r v8 ∧ Md w g b4 b6 til k c v6 wr
def L3 (w : World) (g b4 b6 : Nat) (til : Int) (k q r bx : Nat) (N : Nat) (v6 v8 : Value) (i : Value) (wr : World) : Prop :=
  ∃ j c : Nat, i = .int .i64 (j : Int) ∧ j ≤ 2 ∧ 10 ≤ c ∧ c + 21 * j ≤ N + 20 + 200 * k + 64 * q + 64 ∧ Gs wr (Beh w) 63 5 r v8 ∧ (∃ arr, Blk wr bx 63 arr ∧ arr.size = 5) ∧ Md w g b4 b6 til k c v6 wr
/-- The blocks from lo on are as they were. -/
structure Sml (lo : Nat) (w w2 : World) : Prop where
  size : w.heap.size ≤ w2.heap.size
  block : ∀ k, lo ≤ k → k < w.heap.size → w2.heap[k]? = w.heap[k]?
theorem Sml.of_mv {g lo : Nat} {w w2 : World} (m : Mv g w w2) (h : g < lo) : Sml lo w w2 := ⟨m.size, fun k h1 h2 => m.block k h2 (by omega)⟩
theorem Sml.trans {lo : Nat} {a b c : World} (h : Sml lo a b) (k : Sml lo b c) : Sml lo a c := ⟨Nat.le_trans h.size k.size, fun j h1 h2 => (k.block j h1 (Nat.lt_of_lt_of_le h2 h.size)).trans (h.block j h1 h2)⟩
theorem Sml.set {lo b o : Nat} {a w : World} {u : Value} (h : Sml lo a w) (hb : b < lo) : Sml lo a (w.setCell ⟨b, o, none⟩ u) :=
  ⟨by simpa using h.size, fun k h1 h2 => (Below.heap_setCell w ⟨b, o, none⟩ u k (by dsimp only; omega)).trans (h.block k h1 h2)⟩
theorem Evs.sm {lo n : Nat} {w w2 : World} {A : Option Addr} {es : List Evt} (h : Evs w A n es) (k : Sml lo w w2) (hA : ∀ b off, A = some ⟨b, off, none⟩ → lo ≤ b) : Evs w2 A n es :=
  ⟨h.1, fun hn => by
    obtain ⟨b, off, e, hb, hc⟩ := h.2 hn
    have cell : ∀ o, w2.cell? ⟨b, o, none⟩ = w.cell? ⟨b, o, none⟩ := fun o => World.cell?_of_block (w := w) (a := ⟨b, o, none⟩) (k.block b (hA b off e) hb)
    refine ⟨b, off, e, Nat.lt_of_lt_of_le hb k.size, fun i hi => ?_⟩; obtain ⟨c0, c1, c2, c3, c4, c5⟩ := hc i hi
    exact ⟨(cell _).trans c0, (cell _).trans c1, (cell _).trans c2, (cell _).trans c3, (cell _).trans c4, (cell _).trans c5⟩⟩
/-- What l20Model gives. -/
def DrawnM (g N : Nat) (w : World) (x : Ending) (w' : World) : Prop :=
  ∃ (A : Option Addr) (n c : Nat) (B : Option Addr) (k d : Nat) (m : Mdl), x = .returned (.agg #[.slice A n c, .slice B k d, .int .i64 m.til]) ∧ (∀ w2, Sml w.heap.size w' w2 → MdlV w2 A n B k m) ∧ (n ≤ 32 ∧ n ≤ c ∧ c ≤ 9223372036854775807) ∧ (k ≤ 7 ∧ k ≤ d ∧ d ≤ 9223372036854775807) ∧ (-1 ≤ m.til ∧ m.til ≤ 100) ∧
    (∀ i, i < n → (m.rules.getD i []).length ≤ 1000000 ∧ ∀ j, j < (m.rules.getD i []).length → ((m.rules.getD i []).getD j default).sends.length ≤ 1000000) ∧ Rd w' g N ∧ Mv g w w'
/-- What is read off at the end. -/
theorem fin_of {S : Nat → Prop} {g N N' K n c7 c5 b4 : Nat} {w wr : World} {til : Int} {A7 A5 : Option Addr} {es : List Evt} (th : TH (TM K) S wr) (rows : Gs wr S 60 1 n (.slice A7 n c7)) (rd : Rd wr g N) (m4 : Blk wr b4 33 #[.slice none 0 0, .slice none 0 0, .int .i64 0]) (mv : Mv g w wr)
    (ev : Evs wr A5 es.length es) (far : ∀ b off, A5 = some ⟨b, off, none⟩ → b ≠ b4) (hK : K ≤ 1000000) (hn : n ≤ 32) (hc7 : n ≤ c7 ∧ c7 ≤ maxLen) (hk : es.length ≤ 7) (hc5 : es.length ≤ c5 ∧ c5 ≤ 9223372036854775807) (ht : -1 ≤ til ∧ til ≤ 100) (hN : N ≤ N') (hg : g < b4) (hw : w.heap.size ≤ b4) (hSl : ∀ b, S b → w.heap.size ≤ b) (farl : ∀ b off, A5 = some ⟨b, off, none⟩ → w.heap.size ≤ b) :
    DrawnM g N' w (.returned (.agg #[.slice A7 n c7, .slice A5 es.length c5, .int .i64 til])) (((wr.setCell ⟨b4, 0, none⟩ (.slice A7 n c7)).setCell ⟨b4, 1, none⟩ (.slice A5 es.length c5)).setCell ⟨b4, 2, none⟩ (.int .i64 til)) := by
  have t := ((th.setF (o := 0) (u := .slice A7 n c7) m4 (TM_mdl _)).setF (o := 1) (u := .slice A5 es.length c5) (m4.set _ _) (TM_mdl _)).setF (o := 2) (u := .int .i64 til) ((m4.set _ _).set _ _) (TM_mdl _)
  have r := ((rows.setCell b4 0 (.slice A7 n c7)).setCell b4 1 (.slice A5 es.length c5)).setCell b4 2 (.int .i64 til)
  have m : Mv b4 wr (((wr.setCell ⟨b4, 0, none⟩ (.slice A7 n c7)).setCell ⟨b4, 1, none⟩ (.slice A5 es.length c5)).setCell ⟨b4, 2, none⟩ (.int .i64 til)) := (((Mv.refl b4 wr).setCell _).setCell _).setCell _
  have e := ev.mv m far
  obtain ⟨rss, hr, hl⟩ := r.rulz hK t (by omega); refine ⟨A7, n, c7, A5, es.length, c5, ⟨rss, es, til⟩, rfl, fun w2 m2 => ⟨hr w2 ⟨m2.size, fun b hb hl => m2.block b (hSl b hb) hl⟩, e.sm m2 farl, by omega⟩, ⟨hn, hc7.1, by have := hc7.2; simp only [maxLen] at this; omega⟩, ⟨hk, hc5⟩, ht, fun i hi => ?_, ?_, ?_⟩
  · obtain ⟨h1, h2⟩ := hl i hi
    exact ⟨by dsimp only; omega, fun j hj => by have := h2 j hj; dsimp only; omega⟩
  · exact (Rd.st (w' := (((wr.setCell ⟨b4, 0, none⟩ (.slice A7 n c7)).setCell ⟨b4, 1, none⟩ (.slice A5 es.length c5)).setCell ⟨b4, 2, none⟩ (.int .i64 til))) rd (fun k hk => by
      rw [Below.heap_setCell _ ⟨b4, 2, none⟩ _ k (by dsimp only; omega), Below.heap_setCell _ ⟨b4, 1, none⟩ _ k (by dsimp only; omega), Below.heap_setCell _ ⟨b4, 0, none⟩ _ k (by dsimp only; omega)]) (by simp)).mono hN
  · exact ((mv.setNew (p := ⟨b4, 0, none⟩) hw _).setNew (p := ⟨b4, 1, none⟩) hw _).setNew (p := ⟨b4, 2, none⟩) hw _
theorem Ms.fin {w wr : World} {top g N b4 b6 many K c c5 c7 : Nat} {til : Int} {A A7 : Option Addr} {es : List Evt} (h : Ms w top g b4 b6 til many K c (.slice A7 many c7) A c5 es wr) (hK : K ≤ 1000000) (hn : many ≤ 32) (hk : es.length ≤ 7) (hc5 : es.length ≤ c5) (hc5m : c5 ≤ 9223372036854775807) (ht : -1 ≤ til ∧ til ≤ 100) (hN : c ≤ N + 2000) (hg : g < b4) (hw : w.heap.size ≤ b4) (h4 : b4 < top) :
    DrawnM g (N + 2000) w (.returned (.agg #[.slice A7 many c7, .slice A es.length c5, .int .i64 til])) (((wr.setCell ⟨b4, 0, none⟩ (.slice A7 many c7)).setCell ⟨b4, 1, none⟩ (.slice A es.length c5)).setCell ⟨b4, 2, none⟩ (.int .i64 til)) := by
  obtain ⟨A', c', he, h1, h2⟩ := h.rows.parts
  injection he with _ _ he3
  subst he3
  exact fin_of h.th h.rows h.rd h.m4 h.mv h.evs (fun b off hA => by have := own_addr h.own hA; omega) hK hn ⟨h1, h2⟩ hk ⟨hc5, hc5m⟩ ht hN hg hw (fun b h5 => by unfold Mid at h5; omega) (fun b off hA => by have := own_addr h.own hA; omega)
/-- The blocks of the rules, and those behind the starts. -/
def Two (w : World) (top tq : Nat) : Nat → Prop := fun b => (w.heap.size ≤ b ∧ b < top) ∨ tq ≤ b
/-- A model that is spoiled. -/
structure Mz (w : World) (top tq g b4 b6 : Nat) (til : Int) (n K c : Nat) (v6 : Value) (A : Option Addr) (c5 : Nat) (es : List Evt) (wr : World) : Prop where
  th : TH (TM K) (Two w top tq) wr
  rows : Gs wr (Two w top tq) 60 1 n v6
  rd : Rd wr g c
  m6 : Blk wr b6 33 #[v6, .slice A es.length c5, .int .i64 til]
  m4 : Blk wr b4 33 #[.slice none 0 0, .slice none 0 0, .int .i64 0]
  mv : Mv g w wr
  lo : tq ≤ wr.heap.size
  evs : Evs wr A es.length es
  far : ∀ b off, A = some ⟨b, off, none⟩ → top ≤ b ∧ b < tq
section
variable {w wr wr' : World} {top tq g b4 b6 : Nat} {til : Int} {n K K' c c' c5 : Nat} {v6 : Value} {A : Option Addr} {es : List Evt}
theorem Mz.of (h : Ms w top g b4 b6 til n K c v6 A c5 es wr) : Mz w top wr.heap.size g b4 b6 til n K c v6 A c5 es wr :=
  ⟨h.th.sub (fun b hb _ => .inl hb) (fun b hb hl => by rcases hb with hb | hb; exact hb; omega), h.rows.sub (fun b hb _ => .inl hb), h.rd, h.m6, h.m4, h.mv, Nat.le_refl _, h.evs, fun b off hA => by
    subst hA
    exact h.own.lt b rfl⟩
theorem Two.above (h : tq ≤ wr.heap.size) : ∀ b, wr.heap.size ≤ b → Two w top tq b := fun _ hb => .inr (Nat.le_trans h hb)
theorem Two.not (hg : g < w.heap.size) (hq : g < tq) : ∀ j, j ≤ g → ¬ Two w top tq j := fun j hj h => by unfold Two at h; omega
theorem Mz.up {e : Nat} {arr : Array Value} (h : Mz w top tq g b4 b6 til n K c v6 A c5 es wr) (ht : TM K e = []) : Mz w top tq g b4 b6 til n K c v6 A c5 es (wr.alloc (.cells arr e)) :=
  ⟨h.th.free' ht, h.rows.alloc _, Rd.st h.rd (fun j hj => heap_alloc_old wr _ (by have := h.rd.lt; omega)) (by simp), h.m6.alloc _, h.m4.alloc _, h.mv.alloc _, by have := h.lo; simp; omega, h.evs.up ((Up.refl wr).alloc _), h.far⟩
theorem Mz.pk (h : Mz w top tq g b4 b6 til n K c v6 A c5 es wr) (p : Pk g wr wr') (r : Rd wr' g c') (hg : ¬ Two w top tq g) (hgt : g < top) (h4 : b4 ≠ g) (h6 : b6 ≠ g) : Mz w top tq g b4 b6 til n K c' v6 A c5 es wr' :=
  ⟨h.th.pk p hg, Gs.st (T := TM K) h.rows p.st, r, h.m6.pk p h6, h.m4.pk p h4, h.mv.trans p.mv, by rw [p.size]; exact h.lo, h.evs.mv p.mv (fun b off hA => by have := h.far b off hA; omega), h.far⟩
/-- Behind steps that keep what is typed. -/
theorem Mz.step (h : Mz w top tq g b4 b6 til n K c v6 A c5 es wr) (t : TH (TM K') (Two w top tq) wr') (s : St (TM K) (Two w top tq) g wr wr') (r : Rd wr' g c') (hgt : g < top) (hwt : w.heap.size ≤ top) (htq : top ≤ tq) (h4 : b4 ≠ g) (h6 : b6 ≠ g) : Mz w top tq g b4 b6 til n K' c' v6 A c5 es wr' :=
  ⟨t, h.rows.st s, r, h.m6.st s (TM_mdl _) h6, h.m4.st s (TM_mdl _) h4, s.mv (fun j hj h2 => by unfold Two at h2; omega) h.mv, Nat.le_trans h.lo s.size,
    ⟨rfl, fun hn => by
      obtain ⟨b, off, hA, hb, hc⟩ := h.evs.2 hn; obtain ⟨h1, h2⟩ := h.far b off hA
      have hh : wr'.heap[b]? = wr.heap[b]? := s.old b (fun h3 => by unfold Two at h3; omega) (by omega)
      have cell : ∀ o, wr'.cell? ⟨b, o, none⟩ = wr.cell? ⟨b, o, none⟩ := fun o => World.cell?_of_block (w := wr) (a := ⟨b, o, none⟩) hh
      refine ⟨b, off, hA, Nat.lt_of_lt_of_le hb s.size, fun i hi => ?_⟩; obtain ⟨c0, c1, c2, c3, c4, c5⟩ := hc i hi
      exact ⟨(cell _).trans c0, (cell _).trans c1, (cell _).trans c2, (cell _).trans c3, (cell _).trans c4, (cell _).trans c5⟩⟩, h.far⟩
theorem Mz.grow (h : Mz w top tq g b4 b6 til n K c v6 A c5 es wr) (t : TH (TM K) (Two w top tq) wr') (s : St (TM K) (Two w top tq) g wr wr') (hh : wr'.heap[g]? = wr.heap[g]?) (hg : ∀ j, j ≤ g → ¬ Two w top tq j) (hgt : g < top) (hwt : w.heap.size ≤ top) (htq : top ≤ tq) (h4 : b4 ≠ g) (h6 : b6 ≠ g) : Mz w top tq g b4 b6 til n K c v6 A c5 es wr' :=
  h.step t s (Rd.st h.rd (fun k hk => by
    by_cases e : k = g
    · subst e; exact hh
    · exact s.old k (hg k hk) e) s.size) hgt hwt htq h4 h6
theorem Mz.put0 (h : Mz w top tq g b4 b6 til n K c v6 A c5 es wr) {n' : Nat} {v : Value} (hv : Gs wr (Two w top tq) 60 1 n' v) (hg : g < b6) (hw : w.heap.size ≤ b6) (h4 : b4 ≠ b6) (ht : b6 < top) : Mz w top tq g b4 b6 til n' K c v A c5 es (wr.setCell ⟨b6, 0, none⟩ v) :=
  ⟨h.th.setF h.m6 (TM_mdl _), hv.setCell _ _ _, Rd.st h.rd (fun k hk => Below.heap_setCell wr ⟨b6, 0, none⟩ v k (by dsimp only; omega)) (by simp), h.m6.set 0 v, h.m4.far 0 v h4, h.mv.setNew (p := ⟨b6, 0, none⟩) hw v, by simpa using h.lo,
    h.evs.mv ((Mv.refl b6 wr).setCell _) (fun b off hA => by have := h.far b off hA; omega), h.far⟩
theorem Mz.put2 (h : Mz w top tq g b4 b6 til n K c v6 A c5 es wr) (til' : Int) (hg : g < b6) (hw : w.heap.size ≤ b6) (h4 : b4 ≠ b6) (ht : b6 < top) : Mz w top tq g b4 b6 til' n K c v6 A c5 es (wr.setCell ⟨b6, 2, none⟩ (.int .i64 til')) :=
  ⟨h.th.setF h.m6 (TM_mdl _), h.rows.setCell _ _ _, Rd.st h.rd (fun k hk => Below.heap_setCell wr ⟨b6, 2, none⟩ _ k (by dsimp only; omega)) (by simp), h.m6.set 2 _, h.m4.far 2 _ h4, h.mv.setNew (p := ⟨b6, 2, none⟩) hw _, by simpa using h.lo,
    h.evs.mv ((Mv.refl b6 wr).setCell _) (fun b off hA => by have := h.far b off hA; omega), h.far⟩
theorem Mz.fin {N c7 : Nat} {A7 : Option Addr} (h : Mz w top tq g b4 b6 til n K c (.slice A7 n c7) A c5 es wr) (hK : K ≤ 1000000) (hn : n ≤ 32) (hk : es.length ≤ 7) (hc5 : es.length ≤ c5) (hc5m : c5 ≤ 9223372036854775807) (ht : -1 ≤ til ∧ til ≤ 100) (hN : c ≤ N + 2000) (hg : g < b4) (hw : w.heap.size ≤ b4) (h4 : b4 < top) (hgq : top ≤ tq) :
    DrawnM g (N + 2000) w (.returned (.agg #[.slice A7 n c7, .slice A es.length c5, .int .i64 til])) (((wr.setCell ⟨b4, 0, none⟩ (.slice A7 n c7)).setCell ⟨b4, 1, none⟩ (.slice A es.length c5)).setCell ⟨b4, 2, none⟩ (.int .i64 til)) := by
  obtain ⟨A', c', he, h1, h2⟩ := h.rows.parts
  injection he with _ _ he3
  subst he3
  exact fin_of h.th h.rows h.rd h.m4 h.mv h.evs (fun b off hA => by have := h.far b off hA; omega) hK hn ⟨h1, h2⟩ hk ⟨hc5, hc5m⟩ ht hN hg hw (fun b h5 => by unfold Two at h5; omega) (fun b off hA => by have := h.far b off hA; omega)
/-- A row of rules, read and written. -/
theorem row_read {S : Nat → Prop} {br kk cr : Nat} {wr : World} (th : TH (TM K) S wr) (rows : Gs wr S 60 1 n (.slice (some ⟨br, 0, none⟩) n cr)) (hk : kk < n) :
    ∃ A q c, wr.cell? ⟨br, kk, none⟩ = some (.slice A q c) ∧ wr.frozen? ⟨br, kk, none⟩ = false ∧ q ≤ K ∧ Gs wr S 63 5 q (.slice A q c) := by
  obtain ⟨b, arr, hA, _, hb, ha, hs, _⟩ := rows.at_ (by omega)
  injection hA with hA
  injection hA with hA
  subst hA; obtain ⟨v, h1, h2, h3⟩ := th.read (o := kk) hb ha (TM_row_ne K) (by omega); obtain ⟨q, hq, hg⟩ := h2.at_ (k := .sl 63 5 K) (by rw [TM_row]; simp [Nat.mod_one]); obtain ⟨A, c, rfl, _, _⟩ := hg.parts
  exact ⟨A, q, c, h1, h3, hq, hg⟩
theorem row_put {S : Nat → Prop} {br kk cr : Nat} {wr : World} {v : Value} (th : TH (TM K) S wr) (rows : Gs wr S 60 1 n (.slice (some ⟨br, 0, none⟩) n cr)) (hk : kk < n) (hK : K ≤ K') (hv : ∃ q, q ≤ K' ∧ Gs wr S 63 5 q v) :
    TH (TM K') S (wr.setCell ⟨br, kk, none⟩ v) ∧ St (TM K) S g wr (wr.setCell ⟨br, kk, none⟩ v) := by
  obtain ⟨b, arr, hA, _, hb, ha, hs, _⟩ := rows.at_ (by omega)
  injection hA with hA
  injection hA with hA
  subst hA
  exact ⟨(th.up hK).set hb ha (TM_row_ne _) ⟨.sl 63 5 K', by rw [TM_row]; simp [Nat.mod_one], hv⟩, St.set hb ha (TM_row_ne _)⟩
end
theorem ev1_reads {w : World} {b : Nat} {e : Evt} (hb : b < w.heap.size) (h : EvAt w b 0 e) : Reads w w.heap.size 6 (some ⟨b, 0, none⟩) 1 (flat [e]) := by
  refine ⟨by rw [flat_len]; simp, fun _ => ⟨_, rfl, hb, fun j u hu => ?_⟩⟩; rw [Addr.add_lit, Nat.zero_add]; obtain ⟨c0, c1, c2, c3, c4, c5⟩ := h
  have hu : [Value.int .i64 e.t, .int .i64 e.to, .int .i64 e.fr, .int .i64 e.sq, .int .i64 e.kd, .int .i64 e.dt][j]? = some u := hu
  have hj : j < 6 := (List.getElem?_eq_some_iff.1 hu).1
  have h6 : j = 0 ∨ j = 1 ∨ j = 2 ∨ j = 3 ∨ j = 4 ∨ j = 5 := by omega
  rcases h6 with rfl | rfl | rfl | rfl | rfl | rfl <;> (injection hu with hu; subst hu; assumption)
theorem own_len1 {w : World} {b e : Nat} {v : Value} {es : List Evt} {x : Evt} (h : w.ownsRow b e 6 v (es.length + 1) (flat (es ++ [x]))) : w.ownsRow b e 6 v (es ++ [x]).length (flat (es ++ [x])) := by
  rw [List.length_append]
  exact h
/-- What is kept where an event is drawn and appended to the starts. -/
structure Kp (w : World) (top g b4 b6 : Nat) (til : Int) (many K : Nat) (v6 sl : Value) (w1 wr : World) : Prop where
  th : TH (TM K) (Mid w top) wr
  rows : Gs wr (Mid w top) 60 1 many v6
  m6 : Blk wr b6 33 #[v6, sl, .int .i64 til]
  m4 : Blk wr b4 33 #[.slice none 0 0, .slice none 0 0, .int .i64 0]
  mv : Mv g w wr
  rd : ∀ {cc : Nat} {p : Nat} {u : Value}, g < p → Rd w1 g cc → Rd (wr.setCell ⟨p, 1, none⟩ u) g cc
theorem spoil_ev {w w0 w1 w' : World} {top g b4 b6 many K c c5 : Nat} {til : Int} {v6 : Value} {A : Option Addr} {es : List Evt} {row : Option Nat} (h : Ms w top g b4 b6 til many K c v6 A c5 es w0) (m : Mv g w0 w1) (hg : w1.grownBy w' row) (hr : ∀ j, row = some j → top ≤ j) (_ : g < top) (hb : g < w.heap.size ∧ b4 ≠ g ∧ b6 ≠ g ∧ b4 < top ∧ b6 < top ∧ w.heap.size ≤ top) :
    Kp w top g b4 b6 til many K v6 (.slice A es.length c5) w1 w' := by
  obtain ⟨hgw, h4, h6, h4t, h6t, hwt⟩ := hb
  have keep : ∀ b, b < top → b ≠ g → w'.heap[b]? = w0.heap[b]? := fun b hb hne => by
    have hl : b < w0.heap.size := by have := h.lo; omega
    have hl1 : b < w1.heap.size := by have := m.size; omega
    exact (hg.block b hl1 (fun e => by have := hr b e.symm; omega)).trans (m.block b hl hne)
  refine ⟨h.th.keep fun b hb => keep b (by unfold Mid at hb; omega) (by unfold Mid at hb; omega), h.rows.keep fun b hb => keep b (by unfold Mid at hb; omega) (by unfold Mid at hb; omega), (keep b6 h6t h6).trans h.m6, (keep b4 h4t h4).trans h.m4, ?_, fun {cc p u} hp r => ?_⟩
  · exact ⟨hg.os.trans (m.os.trans h.mv.os), hg.tape.trans (m.tape.trans h.mv.tape), hg.output.trans (m.output.trans h.mv.output), Nat.le_trans h.mv.size (Nat.le_trans m.size hg.size), fun k hk hne => (keep k (by omega) hne).trans (h.mv.block k hk hne)⟩
  · refine Rd.st r (fun k hk => ?_) (by have := hg.size; simpa using this)
    rw [Below.heap_setCell w' ⟨p, 1, none⟩ u k (by dsimp only; omega)]
    exact hg.block k (by have := r.lt; omega) (fun e => by have := hr k e.symm; omega)
end Go.Proofs.Ytakmlfgkppekoaa

namespace Go.Proofs.Ytakmlfgkppekoaa
set_option maxRecDepth 100000
open Go.RowKit
def mixB (ops : Array Oper) : List (Nat × Bool) → Array Bool → Bool
  | [], listed => (Region.ready .any ops listed).isEmpty
  | (k, true) :: fs, listed => decide (k < ops.size) && (Region.ready .any ops listed).contains k && Region.free .any ops listed k && mixB ops fs (listed.setIfInBounds k true)
  | (k, false) :: fs, listed => decide (k < ops.size) && decide (Region.ready .any ops listed = [k]) && mixB ops fs (listed.setIfInBounds k true)
def wpMix (P : Program) (ops : Array Oper) (Q : Exit → Act → World → Prop) : List (Nat × Bool) → Act → World → Prop
  | (k, true) :: fs, a, w => ∃ o v, ops[k]? = some o ∧ Yields P ops o v a ∧ wpMix P ops Q fs (a.put o.dst v) w
  | (k, false) :: fs, a, w => ∃ o, ops[k]? = some o ∧ if Region.wanted o (yielded ops a.tmps) = true then o.wp P a w (wpMix P ops Q fs) Q else wpMix P ops Q fs (a.put o.dst undef) w
  | [], a, w => Q .normal a w
theorem wpAny_of_mix {P : Program} {ops : Array Oper} {Q : Exit → Act → World → Prop} (hsel : Region.noSelect ops = true) (hQ : ∀ c (a : Act) d v w, Q (.panic c) (a.put d v) w → Q (.panic c) a w) :
    ∀ (fs : List (Nat × Bool)) (listed : Array Bool) (a : Act) (w : World), mixB ops fs listed = true → wpMix P ops Q fs a w → wpAny P .any ops Q fs.length listed a w
  | [], _, _, _, hB, h => ⟨by simpa [mixB] using hB, h⟩
  | (k, true) :: fs, listed, a, w, hB, h => by
    simp only [mixB, Bool.and_eq_true] at hB; obtain ⟨o, v, h0, hy, hn⟩ := h
    exact wpAny_take h0 hsel hB.1.2 hB.1.1.2 (fun c a w => hQ c a _ _ w) hy (wpAny_of_mix hsel hQ fs _ _ _ hB.2 hn)
  | (k, false) :: fs, listed, a, w, hB, h => by
    simp only [mixB, Bool.and_eq_true, decide_eq_true_eq] at hB; obtain ⟨o, h0, h⟩ := h
    refine wpAny_all hB.1.2 (by simp) fun i hi => ?_
    obtain rfl : i = k := by simpa using hi
    refine wpOp_mono (K := wpMix P ops Q fs) (fun a' w' h' => wpAny_of_mix hsel hQ fs _ _ _ hB.2 h') ?_; unfold wpOp; simp only [h0]
    split
    · rename_i hw
      rw [if_pos hw] at h
      exact .inl h
    · rename_i hw
      rw [if_neg hw] at h
      exact h
section
variable {P : Program} {ops : Array Oper} {Q : Exit → Act → World → Prop} {fs : List (Nat × Bool)} {k : Nat} {o : Oper} {a : Act} {w : World}
theorem mix_go (h0 : ops[k]? = some o) (hw : Region.wanted o (yielded ops a.tmps) = true) (h : ∀ K : Act → World → Prop, (∀ a w, wpMix P ops Q fs a w → K a w) → o.wp P a w K Q) : wpMix P ops Q ((k, false) :: fs) a w := by
  refine ⟨o, h0, ?_⟩; rw [if_pos hw]
  exact h _ fun _ _ h => h
theorem mix_nil (h : Q .normal a w) : wpMix P ops (NoPanic Q) [] a w := h
end
end Go.Proofs.Ytakmlfgkppekoaa

/-
  A simulator in rows of the call's own, in one sentence: it is kept by what makes new blocks, by a reader's step, and by a write into a block of another kind; no condition is made.
  What l20Cmp gives, in one sentence: a component state of three small numbers, and the reader some steps further; for every reader.
-/
import Derived.Test.YtklldniapombiaaDLWev02
import Derived.Test.YtklldniapombiaaDLWev05
import Derived.Test.YtklldniapombiaaDLWev08
import Derived.Test.YtklldniapombiaaDLWev09
import Derived.Test.YtklldniapombiaaDLWev14
import Derived.Test.YtklldniapombiaaDLWev15
import Derived.Test.YtklldniapombiaaDLWev17
import Derived.Test.YtklldniapombiaaDLWev20
import Derived.Test.YtklldniapombiaaDLWev32
namespace Go.Proofs.Ytklldniapombiaa
set_option maxRecDepth 100000
open Go.RowKit
structure SqRw (w : World) (lo : Nat) (Ac : Option Addr) (nc cc : Nat) (Aw : Option Addr) (nw cw : Nat) (Al : Option Addr) (nl cl : Nat) (s : Sq) : Prop where
  o1 : w.ownsRow lo 76 3 (.slice Ac nc cc) nc (flat3 s.comps)
  o2 : w.ownsRow lo 74 6 (.slice Aw nw cw) nw (flat s.wait)
  o3 : w.ownsRow lo 180 7 (.slice Al nl cl) nl (flat7 s.log)
section
variable {w w' : World} {lo nc cc nw cw nl cl : Nat} {Ac Aw Al : Option Addr} {s : Sq}
theorem SqRw.v (h : SqRw w lo Ac nc cc Aw nw cw Al nl cl s) : SqV w Ac nc Aw nw Al nl s := ⟨own3_csts h.o1, own_evs h.o2, own7_recs h.o3⟩
theorem SqRw.up (h : SqRw w lo Ac nc cc Aw nw cw Al nl cl s) (u : Up w w') : SqRw w' lo Ac nc cc Aw nw cw Al nl cl s := ⟨own_up h.o1 u, own_up h.o2 u, own_up h.o3 u⟩
theorem SqRw.mono {lo' : Nat} (h : SqRw w lo Ac nc cc Aw nw cw Al nl cl s) (k : lo' ≤ lo) : SqRw w lo' Ac nc cc Aw nw cw Al nl cl s := ⟨own_mono h.o1 k, own_mono h.o2 k, own_mono h.o3 k⟩
/-- Blocks from lo on stay. -/
theorem SqRw.keep (h : SqRw w lo Ac nc cc Aw nw cw Al nl cl s) (k : ∀ b : Nat, lo ≤ b → b < w.heap.size → (∃ (arr : Array Value) (t : Nat), w.heap[b]? = some (.cells arr t (0, 0)) ∧ (t = 76 ∨ t = 74 ∨ t = 180)) → w'.heap[b]? = w.heap[b]?) : SqRw w' lo Ac nc cc Aw nw cw Al nl cl s := by
  have key : ∀ {e size n : Nat} {v : Value} {xs : List Value}, (e = 76 ∨ e = 74 ∨ e = 180) → w.ownsRow lo e size v n xs → w'.ownsRow lo e size v n xs := fun {e size n v xs} he o => by
    refine own_keep o fun g hg hlt => ?_
    rcases o.2 with ⟨h0, _⟩ | ⟨g', cap, cur, h0, hl, hb, _⟩
    · rw [h0] at hg; cases hg
    · rw [h0] at hg
      injection hg with hg
      have hg : g' = g := hg
      subst hg
      exact k _ hl hlt ⟨cur, e, hb, he⟩
  exact ⟨key (.inl rfl) h.o1, key (.inr (.inl rfl)) h.o2, key (.inr (.inr rfl)) h.o3⟩
theorem SqRw.mv {g : Nat} (h : SqRw w lo Ac nc cc Aw nw cw Al nl cl s) (m : Mv g w w') (hg : g < lo) : SqRw w' lo Ac nc cc Aw nw cw Al nl cl s := h.keep fun b h1 h2 _ => m.block b h2 (by omega)
/-- A block of another kind is written. -/
theorem SqRw.far {p o t : Nat} {u : Value} {arr : Array Value} (h : SqRw w lo Ac nc cc Aw nw cw Al nl cl s) (hp : Blk w p t arr) (ht : t ≠ 76 ∧ t ≠ 74 ∧ t ≠ 180) : SqRw (w.setCell ⟨p, o, none⟩ u) lo Ac nc cc Aw nw cw Al nl cl s := h.keep fun b _ _ ⟨cur, t', hb, ht'⟩ => by
  refine Below.heap_setCell w ⟨p, o, none⟩ u b (fun e => ?_); dsimp only at e; subst e; unfold Blk at hp; rw [hp] at hb
  injection hb with hb
  injection hb with _ hb _
  subst hb
  rcases ht' with e | e | e
  · exact ht.1 e
  · exact ht.2.1 e
  · exact ht.2.2 e
end
theorem flat3_zeros (k j : Nat) (hj : j < k * 3) : (flat3 (List.replicate k (⟨0, 0, 0⟩ : Cst)))[j]? = some (.int .i64 0) := by
  have e : j = j / 3 * 3 + j % 3 := by omega
  rw [e, flat3_get _ _ _ (by rw [List.length_replicate]; omega) (by omega)]
  have h1 : (List.replicate k (⟨0, 0, 0⟩ : Cst)).getD (j / 3) default = ⟨0, 0, 0⟩ := by
    simp only [List.getD, List.getElem?_replicate]; rw [if_pos (by omega)]
    rfl
  rw [h1]
  have h3 : j % 3 = 0 ∨ j % 3 = 1 ∨ j % 3 = 2 := by omega
  rcases h3 with h | h | h <;> rw [h] <;> rfl
theorem ZeroC.own {w : World} {lo k : Nat} {v : Value} (h : ZeroC lo k v w) (hk : k ≤ 4) : w.ownsRow lo 76 3 v k (flat3 (List.replicate k (⟨0, 0, 0⟩ : Cst))) := by
  refine ⟨by rw [flat3_len, List.length_replicate], ?_⟩
  rcases h with ⟨rfl, rfl⟩ | ⟨g, rfl, hg, hb⟩
  · exact .inl ⟨rfl, rfl⟩
  · have hsz : (madeCells #[.int .i64 0, .int .i64 0, .int .i64 0] (k * 3)).size = k * 3 := size_madeCells _ _
    refine .inr ⟨g, k, _, rfl, hg, hb, Nat.le_refl _, by simp only [maxLen]; omega, hsz, ?_⟩
    refine List.ext_getElem? fun j => ?_
    rw [List.getElem?_take]
    by_cases hj : j < k * 3
    · rw [if_pos hj, Array.getElem?_toList, flat3_zeros k j hj]
      unfold madeCells; rw [Array.getElem?_map, Array.getElem?_range, if_pos hj]
      have h3 : j % 3 = 0 ∨ j % 3 = 1 ∨ j % 3 = 2 := by omega
      rcases h3 with h | h | h <;> simp [h]
    · rw [if_neg hj, List.getElem?_eq_none (by rw [flat3_len, List.length_replicate]; omega)]
theorem stpR_grow {m : Mdl} {n nc nw nl : Nat} {s : Sq} (hL : s.comps.length = nc ∧ s.wait.length = nw ∧ s.log.length = nl) : (stpR m n nc s).1.comps.length ≤ nc ∧ (stpR m n nc s).1.wait.length ≤ nw + 12 ∧ (stpR m n nc s).1.log.length ≤ nl + 1 := by
  obtain ⟨h1, h2, h3⟩ := hL; unfold stpR
  split
  · rename_i ht
    rw [sqS_fit] at ht; simp only [Bool.and_eq_true] at ht; unfold stpS
    split
    · exact ⟨by dsimp only; omega, by dsimp only; omega, by dsimp only; omega⟩
    · rename_i e r hw
      have hd := doE_len (c := s.comps.getD e.to.toNat default) (e := e) ht.1
      dsimp only; rw [List.length_set, insAll_len, List.length_append]; rw [hw, List.length_cons] at h2; simp only [List.length_cons, List.length_nil]
      omega
  · simp
/-- One component state more. -/
theorem SqRw.push1 {w wa w6 : World} {lo nc cc nw cw nl cl c9 : Nat} {Ac Aw Al A9 : Option Addr} {s : Sq} {x : Cst} (h : SqRw w lo Ac nc cc Aw nw cw Al nl cl s) (u : Up w wa) (ho : w6.ownsRow lo 76 3 (.slice A9 (nc + 1) c9) (nc + 1) (flat3 s.comps ++ flat3 [x])) (hg : wa.grownBy w6 (Value.slice Ac nc cc).ownBlock) :
    SqRw w6 lo A9 (nc + 1) c9 Aw nw cw Al nl cl ⟨s.comps ++ [x], s.wait, s.log⟩ := by
  have o1 := own_up h.o1 u
  have o2 := own_up h.o2 u
  have o3 := own_up h.o3 u
  refine ⟨by rw [flat3_app]; exact ho, own_keep o2 fun g hg' hlt => hg.block g hlt fun e => ?_, own_keep o3 fun g hg' hlt => hg.block g hlt fun e => ?_⟩
  · exact own_apart o1 o2 (by decide) g e.symm hg'
  · exact own_apart o1 o3 (by decide) g e.symm hg'
/-- One pending event more. -/
theorem SqRw.push2 {w wa w6 : World} {lo nc cc nw cw nl cl c9 : Nat} {Ac Aw Al A9 : Option Addr} {s : Sq} {x : Evt} (h : SqRw w lo Ac nc cc Aw nw cw Al nl cl s) (u : Up w wa) (ho : w6.ownsRow lo 74 6 (.slice A9 (nw + 1) c9) (nw + 1) (flat s.wait ++ flat [x])) (hg : wa.grownBy w6 (Value.slice Aw nw cw).ownBlock) :
    SqRw w6 lo Ac nc cc A9 (nw + 1) c9 Al nl cl ⟨s.comps, s.wait ++ [x], s.log⟩ := by
  have o1 := own_up h.o1 u
  have o2 := own_up h.o2 u
  have o3 := own_up h.o3 u
  refine ⟨own_keep o1 fun g hg' hlt => hg.block g hlt fun e => ?_, by rw [flat_app]; exact ho, own_keep o3 fun g hg' hlt => hg.block g hlt fun e => ?_⟩
  · exact own_apart o2 o1 (by decide) g e.symm hg'
  · exact own_apart o2 o3 (by decide) g e.symm hg'
/-- One record more. -/
theorem SqRw.push3 {w wa w6 : World} {lo nc cc nw cw nl cl c9 : Nat} {Ac Aw Al A9 : Option Addr} {s : Sq} {x : Rec} (h : SqRw w lo Ac nc cc Aw nw cw Al nl cl s) (u : Up w wa) (ho : w6.ownsRow lo 180 7 (.slice A9 (nl + 1) c9) (nl + 1) (flat7 s.log ++ flat7 [x])) (hg : wa.grownBy w6 (Value.slice Al nl cl).ownBlock) :
    SqRw w6 lo Ac nc cc Aw nw cw A9 (nl + 1) c9 ⟨s.comps, s.wait, s.log ++ [x]⟩ := by
  have o1 := own_up h.o1 u
  have o2 := own_up h.o2 u
  have o3 := own_up h.o3 u
  refine ⟨own_keep o1 fun g hg' hlt => hg.block g hlt fun e => ?_, own_keep o2 fun g hg' hlt => hg.block g hlt fun e => ?_, by rw [flat7_app]; exact ho⟩
  · exact own_apart o3 o1 (by decide) g e.symm hg'
  · exact own_apart o3 o2 (by decide) g e.symm hg'
theorem SqRw.set0 {w : World} {lo nc cc nw cw nl cl gc : Nat} {Aw Al : Option Addr} {s : Sq} (h : SqRw w lo (some ⟨gc, 0, none⟩) nc cc Aw nw cw Al nl cl s) (hn : 0 < nc) (t : Cst) :
    SqRw (((w.setCell ⟨gc, 0, none⟩ (.int .i64 t.s)).setCell ⟨gc, 1, none⟩ (.int .i64 t.sq)).setCell ⟨gc, 2, none⟩ (.int .i64 t.ct)) lo (some ⟨gc, 0, none⟩) nc cc Aw nw cw Al nl cl ⟨s.comps.set 0 t, s.wait, s.log⟩ := by
  have hl : s.comps.length = nc := by have := h.o1.1; rw [flat3_len] at this; omega
  have blk : ∀ g : Nat, g ≠ gc → (((w.setCell ⟨gc, 0, none⟩ (.int .i64 t.s)).setCell ⟨gc, 1, none⟩ (.int .i64 t.sq)).setCell ⟨gc, 2, none⟩ (.int .i64 t.ct)).heap[g]? = w.heap[g]? := fun g hg =>
    (Below.heap_setCell _ ⟨gc, 2, none⟩ _ g hg).trans ((Below.heap_setCell _ ⟨gc, 1, none⟩ _ g hg).trans (Below.heap_setCell w ⟨gc, 0, none⟩ _ g hg))
  refine ⟨?_, own_keep h.o2 fun g hg _ => blk g fun e => ?_, own_keep h.o3 fun g hg _ => blk g fun e => ?_⟩
  · have := own_setCell (own_setCell (own_setCell h.o1 (j := 0) (.int .i64 t.s)) (j := 1) (.int .i64 t.sq)) (j := 2) (.int .i64 t.ct)
    have e := flat3_set s.comps 0 t (by omega)
    rw [Nat.zero_mul, Nat.zero_add, Nat.zero_add] at e; rw [e] at this
    exact this
  · subst e
    exact own_apart h.o1 h.o2 (by decide) g rfl hg
  · subst e
    exact own_apart h.o1 h.o3 (by decide) g rfl hg
theorem own_blk {w : World} {b e size n c : Nat} {A : Option Addr} {xs : List Value} (h : w.ownsRow b e size (.slice A n c) n xs) (hn : 0 < n) : ∃ g arr, A = some ⟨g, 0, none⟩ ∧ b ≤ g ∧ Blk w g e arr ∧ n * size ≤ arr.size := by
  rcases h.2 with ⟨_, h0⟩ | ⟨g, cap, cur, hv, hg, hb, hnc, _, hsz, _⟩
  · omega
  · injection hv with hA _ _
    exact ⟨g, cur, hA, hg, hb, by rw [hsz]; exact Nat.mul_le_mul_right _ hnc⟩
theorem own_form {w : World} {b e size n : Nat} {v : Value} {xs : List Value} (h : w.ownsRow b e size v (n + 1) xs) : ∃ A c, v = .slice A (n + 1) c := by
  rcases h.2 with ⟨_, h0⟩ | ⟨g, cap, cur, rfl, _⟩
  · omega
  · exact ⟨_, cap, rfl⟩
theorem own_formP {w : World} {b e size n : Nat} {v : Value} {xs : List Value} (h : w.ownsRow b e size v n xs) (hn : 0 < n) : ∃ A c, v = .slice A n c := by
  rcases h.2 with ⟨_, h0⟩ | ⟨g, cap, cur, rfl, _⟩
  · omega
  · exact ⟨_, cap, rfl⟩
theorem own_oneE (w : World) (lo : Nat) (e : Evt) (h : lo ≤ w.heap.size) : (w.alloc (.cells #[.int .i64 e.t, .int .i64 e.to, .int .i64 e.fr, .int .i64 e.sq, .int .i64 e.kd, .int .i64 e.dt] 74)).ownsRow lo 74 6 (.slice (some ⟨w.heap.size, 0, none⟩) 1 1) 1 (flat [e]) :=
  ⟨rfl, .inr ⟨w.heap.size, 1, _, rfl, h, heap_alloc_new w _, Nat.le_refl _, by simp only [maxLen]; omega, rfl, rfl⟩⟩
theorem SqRw.cons2 {w wa w6 : World} {lo nc cc nw cw nl cl c9 : Nat} {Ac Aw Al A9 : Option Addr} {s : Sq} {y : Evt} {v1 : Value} (h : SqRw w lo Ac nc cc Aw nw cw Al nl cl s) (u : Up w wa) (hl : wa.ownsRow lo 74 6 v1 1 (flat [y])) (ho : w6.ownsRow lo 74 6 (.slice A9 (1 + nw) c9) (1 + nw) (flat [y] ++ flat s.wait)) (hg : wa.grownBy w6 v1.ownBlock) :
    SqRw w6 lo Ac nc cc A9 (1 + nw) c9 Al nl cl ⟨s.comps, y :: s.wait, s.log⟩ := by
  have o1 := own_up h.o1 u
  have o3 := own_up h.o3 u
  refine ⟨own_keep o1 fun g hg' hlt => hg.block g hlt fun e => ?_, ?_, own_keep o3 fun g hg' hlt => hg.block g hlt fun e => ?_⟩
  · exact own_apart hl o1 (by decide) g e.symm hg'
  · rw [show y :: s.wait = [y] ++ s.wait from rfl, flat_app]
    exact ho
  · exact own_apart hl o3 (by decide) g e.symm hg'
theorem own_geR {w : World} {b e size n : Nat} {v : Value} {xs : List Value} (h : w.ownsRow b e size v n xs) : ∀ x, v.ownBlock = some x → b ≤ x := fun x hx => by
  rcases h.2 with ⟨rfl, _⟩ | ⟨g, cap, cur, rfl, hg, hb, _⟩
  · cases hx
  injection hx with hx
  have hx : g = x := hx
  omega
/-- A block of another kind stays when a row grows. -/
theorem blk_grown {wa w6 : World} {lo e size n b t : Nat} {v : Value} {xs : List Value} {arr : Array Value} (h : Blk wa b t arr) (o : wa.ownsRow lo e size v n xs) (hg : wa.grownBy w6 v.ownBlock) (he : e ≠ t) : Blk w6 b t arr :=
  (hg.block b h.lt (fun x => own_off o h he b x.symm rfl)).trans h
theorem cst_new (w : World) (x y z : Int) : Reads (w.alloc (.cells #[.int .i64 x, .int .i64 y, .int .i64 z] 76)) (w.alloc (.cells #[.int .i64 x, .int .i64 y, .int .i64 z] 76)).heap.size 3 (some ⟨w.heap.size, 0, none⟩) 1 (flat3 [⟨x, y, z⟩]) := by
  refine ⟨rfl, fun _ => ⟨_, rfl, by simp, fun j u hu => ?_⟩⟩
  have hh := heap_alloc_new w (.cells #[.int .i64 x, .int .i64 y, .int .i64 z] 76)
  have ad : (⟨w.heap.size, 0, none⟩ : Addr).add j = ⟨w.heap.size, j, none⟩ := by
    unfold Addr.add
    split <;> simp_all
  rw [ad, cell_of_row _ _ j _ _ _ hh, ← hu]; simp [flat3, Cst.c3]
theorem evt_new1 (w : World) (g : Nat) (e : Evt) (h : Blk w g 74 e.c6.toArray) : Reads w w.heap.size 6 (some ⟨g, 0, none⟩) 1 (flat [e]) := by
  refine ⟨rfl, fun _ => ⟨_, rfl, h.lt, fun j u hu => ?_⟩⟩
  have ad : (⟨g, 0, none⟩ : Addr).add j = ⟨g, j, none⟩ := by
    unfold Addr.add
    split <;> simp_all
  rw [ad, cell_of_row _ _ j _ _ _ h, ← hu]; simp [flat]
theorem rec_new1 (w : World) (g : Nat) (r : Rec) (h : Blk w g 180 r.c7.toArray) : Reads w w.heap.size 7 (some ⟨g, 0, none⟩) 1 (flat7 [r]) := by
  refine ⟨rfl, fun _ => ⟨_, rfl, h.lt, fun j u hu => ?_⟩⟩
  have ad : (⟨g, 0, none⟩ : Addr).add j = ⟨g, j, none⟩ := by
    unfold Addr.add
    split <;> simp_all
  rw [ad, cell_of_row _ _ j _ _ _ h, ← hu]; simp [flat7]
end Go.Proofs.Ytklldniapombiaa

namespace Go.Proofs.Ytklldniapombiaa
set_option maxRecDepth 100000
open Go.RowKit
def IsPtr (g : Nat) (v : Value) (_ : World) : Prop := v = .pointer (some ⟨g, 0, none⟩)
def IsN (lo hi : Int) (v : Value) (_ : World) : Prop := ∃ z : Int, v = .int .i64 z ∧ lo ≤ z ∧ z ≤ hi
/-- A new slice of two small numbers. -/
def IsTwo (g B : Nat) (v : Value) (w : World) : Prop :=
  ∃ (b : Nat) (x y : Int), v = .slice (some ⟨b, 0, none⟩) 2 2 ∧ b ≠ g ∧ B ≤ b ∧ b < w.heap.size ∧ w.cell? ⟨b, 0, none⟩ = some (.int .i64 x) ∧ w.cell? ⟨b, 1, none⟩ = some (.int .i64 y) ∧ (-1000000 ≤ x ∧ x ≤ 1000000) ∧ (-1000000 ≤ y ∧ y ≤ 1000000)
/-- The place of one. -/
def IsCell (g : Nat) (v : Value) (w : World) : Prop :=
  ∃ (b j : Nat) (x : Int), v = .pointer (some ⟨b, j, none⟩) ∧ b ≠ g ∧ b < w.heap.size ∧ w.cell? ⟨b, j, none⟩ = some (.int .i64 x) ∧ -1000000 ≤ x ∧ x ≤ 1000000
def IsCst (v : Value) (_ : World) : Prop := ∃ x y z : Int, v = .agg #[.int .i64 x, .int .i64 y, .int .i64 z] ∧ (-1000000 ≤ x ∧ x ≤ 1000000) ∧ (-1000000 ≤ y ∧ y ≤ 1000000) ∧ (-1000000 ≤ z ∧ z ≤ 1000000)
/-- A new block of three numbers. -/
def IsNew3 (g B : Nat) (v : Value) (w : World) : Prop :=
  ∃ b : Nat, v = .pointer (some ⟨b, 0, none⟩) ∧ b ≠ g ∧ B ≤ b ∧ b < w.heap.size ∧ (∀ j, j < 3 → ∃ u, w.cell? ⟨b, j, none⟩ = some u) ∧ ∀ j, w.frozen? ⟨b, j, none⟩ = false
theorem IsTwo.mv {g B : Nat} {v : Value} {w w' : World} (h : IsTwo g B v w) (m : Mv g w w') : IsTwo g B v w' := by
  obtain ⟨b, x, y, hv, h1, h2, h3, h4, h5, h6, h7⟩ := h
  exact ⟨b, x, y, hv, h1, h2, Nat.lt_of_lt_of_le h3 m.size, (m.cells _ _ h3 h1).trans h4, (m.cells _ _ h3 h1).trans h5, h6, h7⟩
theorem IsCell.mv {g : Nat} {v : Value} {w w' : World} (h : IsCell g v w) (m : Mv g w w') : IsCell g v w' := by
  obtain ⟨b, j, x, hv, h1, h2, h3, h4⟩ := h
  exact ⟨b, j, x, hv, h1, Nat.lt_of_lt_of_le h2 m.size, (m.cells _ _ h2 h1).trans h3, h4⟩
theorem IsNew3.mv {g B : Nat} {v : Value} {w w' : World} (h : IsNew3 g B v w) (m : Mv g w w') : IsNew3 g B v w' := by
  obtain ⟨b, hv, h1, h2, h3, h4, h5⟩ := h
  exact ⟨b, hv, h1, h2, Nat.lt_of_lt_of_le h3 m.size, fun j hj => by obtain ⟨u, hu⟩ := h4 j hj; exact ⟨u, (m.cells _ _ h3 h1).trans hu⟩, fun j => (m.frozens _ _ h3 h1).trans (h5 j)⟩
/-- The reader within its bound, with so many operations to go. -/
def Left (g B : Nat) (w0 : World) (k : Nat) (w : World) : Prop := (∃ N, N + k ≤ B ∧ Rd w g N) ∧ Mv g w0 w
theorem Left.less {g B k : Nat} {w0 w : World} (h : Left g B w0 (k + 1) w) : Left g B w0 k w := by
  obtain ⟨⟨N, hN, hR⟩, m⟩ := h
  exact ⟨⟨N, by omega, hR⟩, m⟩
theorem Left.mv {g B k : Nat} {w0 w w' : World} (h : Left g B w0 (k + 1) w) (u : Up w w') : Left g B w0 k w' := by
  obtain ⟨⟨N, hN, hR⟩, m⟩ := h
  exact ⟨⟨N, by omega, hR.up u⟩, m.trans (u.mv g)⟩
/-- A pick in such a world. -/
theorem Left.pick {g B k : Nat} {w0 w : World} (h : Left g B w0 (k + 1) w) (hB : B ≤ 1000000) (m : Int) (hm : 0 < m) (hm2 : m ≤ 1000000) :
    Calls Try.prog 106 #[.pointer (some ⟨g, 0, none⟩), .int .i64 m] w fun x w' => ∃ z : Int, x = .returned (.int .i64 z) ∧ (0 ≤ z ∧ z < m) ∧ Mv g w w' ∧ Left g B w0 k w' := by
  obtain ⟨⟨N, hN, hR⟩, mv⟩ := h; refine (pick_any g N m w ⟨by omega, by omega⟩ (by omega) hR).mono ?_; rintro x w' ⟨z, rfl, h0, h1, r, m'⟩
  exact ⟨z, rfl, ⟨h0, by omega⟩, m', ⟨⟨N + 1, by omega, r⟩, mv.trans m'⟩⟩
theorem Rd.lt' {w : World} {g N : Nat} (h : Rd w g N) : g < w.heap.size := by
  obtain ⟨_, _, _, _, _, _, _, _, hg, _⟩ := h
  exact hg
theorem Left.lt {g B k : Nat} {w0 w : World} (h : Left g B w0 k w) : g < w.heap.size := by
  obtain ⟨⟨N, _, hR⟩, _⟩ := h
  exact hR.lt'
theorem IsTwo.new {g B : Nat} (w : World) (x y : Int) (t : TypeId) (hg : g < w.heap.size) (hB : B ≤ w.heap.size) (hx : -1000000 ≤ x ∧ x ≤ 1000000) (hy : -1000000 ≤ y ∧ y ≤ 1000000) :
    IsTwo g B (.slice (some ⟨w.heap.size, 0, none⟩) 2 2) (w.alloc (.cells #[.int .i64 x, .int .i64 y] t)) := by
  have hh := heap_alloc_new w (.cells #[.int .i64 x, .int .i64 y] t)
  exact ⟨w.heap.size, x, y, rfl, by omega, hB, by simp, by rw [cell_of_row _ _ 0 _ _ _ hh]; rfl, by rw [cell_of_row _ _ 1 _ _ _ hh]; rfl, hx, hy⟩
theorem IsNew3.new {g B : Nat} (w : World) (x y z : Value) (t : TypeId) (hg : g < w.heap.size) (hB : B ≤ w.heap.size) :
    IsNew3 g B (.pointer (some ⟨w.heap.size, 0, none⟩)) (w.alloc (.cells #[x, y, z] t)) := by
  have hh := heap_alloc_new w (.cells #[x, y, z] t)
  refine ⟨w.heap.size, rfl, by omega, hB, by simp, fun j hj => ⟨_, by rw [cell_of_row _ _ j _ _ _ hh]; exact Array.getElem?_eq_getElem (by simpa using hj)⟩, fun j => ?_⟩; unfold World.frozen?; rw [hh]; simp
/-- Two numbers in a new block, behind a pick. -/
theorem two_num {w w' : World} {g : Nat} {x y : Int} {t : TypeId} (m : Mv g (w.alloc (.cells #[.int .i64 x, .int .i64 y] t)) w') (hg : g < w.heap.size) {v : Int} (h0 : 0 ≤ v) (h1 : v < 2) :
    ∃ u : Int, (u = x ∨ u = y) ∧ w'.cell? ⟨w.heap.size, v.toNat, none⟩ = some (.int .i64 u) := by
  obtain ⟨t0, t1⟩ := two_at m hg
  have d : v = 0 ∨ v = 1 := by omega
  rcases d with rfl | rfl
  · exact ⟨x, .inl rfl, t0⟩
  · exact ⟨y, .inr rfl, t1⟩
def cmpR (g B : Nat) (d : Nat) : Value → World → Prop :=
  if d = 10 then IsTwo g B else if d = 17 then IsCell g else if d = 21 then IsCst else if d = 5 then IsNew3 g B
  else if d = 12 ∨ d = 14 ∨ d = 16 then IsN 0 1 else if d = 15 then IsN 1 2
  else if d = 6 ∨ d = 8 ∨ d = 11 ∨ d = 13 ∨ d = 19 then IsPtr g else IsN (-1000000) 1000000
theorem cmpR_5 (g B : Nat) : cmpR g B 5 = IsNew3 g B := by simp [cmpR]
theorem cmpR_6 (g B : Nat) : cmpR g B 6 = IsPtr g := by simp [cmpR]
theorem cmpR_7 (g B : Nat) : cmpR g B 7 = IsN (-1000000) 1000000 := by simp [cmpR]
theorem cmpR_8 (g B : Nat) : cmpR g B 8 = IsPtr g := by simp [cmpR]
theorem cmpR_9 (g B : Nat) : cmpR g B 9 = IsN (-1000000) 1000000 := by simp [cmpR]
theorem cmpR_10 (g B : Nat) : cmpR g B 10 = IsTwo g B := by simp [cmpR]
theorem cmpR_11 (g B : Nat) : cmpR g B 11 = IsPtr g := by simp [cmpR]
theorem cmpR_12 (g B : Nat) : cmpR g B 12 = IsN 0 1 := by simp [cmpR]
theorem cmpR_13 (g B : Nat) : cmpR g B 13 = IsPtr g := by simp [cmpR]
theorem cmpR_14 (g B : Nat) : cmpR g B 14 = IsN 0 1 := by simp [cmpR]
theorem cmpR_15 (g B : Nat) : cmpR g B 15 = IsN 1 2 := by simp [cmpR]
theorem cmpR_16 (g B : Nat) : cmpR g B 16 = IsN 0 1 := by simp [cmpR]
theorem cmpR_17 (g B : Nat) : cmpR g B 17 = IsCell g := by simp [cmpR]
theorem cmpR_18 (g B : Nat) : cmpR g B 18 = IsN (-1000000) 1000000 := by simp [cmpR]
theorem cmpR_19 (g B : Nat) : cmpR g B 19 = IsPtr g := by simp [cmpR]
theorem cmpR_20 (g B : Nat) : cmpR g B 20 = IsN (-1000000) 1000000 := by simp [cmpR]
theorem cmpR_21 (g B : Nat) : cmpR g B 21 = IsCst := by simp [cmpR]
theorem cmpR_mv {g B : Nat} (d : Nat) (v : Value) (w w' : World) (h : cmpR g B d v w) (m : Mv g w w') : cmpR g B d v w' := by
  unfold cmpR at h ⊢
  repeat' split
  all_goals simp_all only [if_true, if_false]
  · exact h.mv m
  · exact h.mv m
  · exact h
  · exact h.mv m
  · exact h
  · exact h
  · exact h
  · exact h
end Go.Proofs.Ytklldniapombiaa

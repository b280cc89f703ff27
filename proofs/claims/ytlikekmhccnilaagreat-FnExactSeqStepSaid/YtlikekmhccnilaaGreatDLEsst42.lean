/-
  Simulators in rows that lie apart, in one sentence: marks may be written into them, and numbers elsewhere leave them; no condition is made.
  What SeqStep leaves, in one sentence: a simulator whose waiting list has what is sent, each at its place; for every simulator that implSeqStep_any speaks of.
  A region that draws its order and whose effects may come up in some few orders, in one sentence: a tree of walks serves every order, where what only reads may come up while a chosen condition on the world holds.
-/
import Derived.Test.YtlikekmhccnilaaGreatDLEsst07
import Derived.Test.YtlikekmhccnilaaGreatDLEsst14
import Derived.Test.YtlikekmhccnilaaGreatDLEsst16
import Derived.Test.YtlikekmhccnilaaGreatDLEsst17
import Derived.Test.YtlikekmhccnilaaGreatDLEsst18
import Derived.Test.YtlikekmhccnilaaGreatDLEsst34
import Derived.Test.YtlikekmhccnilaaGreatDLEsst36
import Derived.Test.YtlikekmhccnilaaGreatDLEsst41
namespace Go.Proofs.YtlikekmhccnilaaGreat
set_option maxRecDepth 100000
open Go.RowKit
theorem Mkc.row {w : World} {lo e s n c : Nat} {A : Option Addr} {xs : List Value} (h : w.ownsRow lo e s (.slice A n c) n xs) (hi : ∀ x ∈ xs, ∃ z : Int, x = .int .i64 z) : Mkc w lo A n s := fun hn => by
  have h9 := h
  rcases h.2 with ⟨_, h0⟩ | ⟨g, cap, cur, hv, hg, hb, hnc, hm, hs, ht⟩
  · omega
  · injection hv with hA _ _
    subst hA; refine ⟨g, rfl, hg, (Array.getElem?_eq_some_iff.1 hb).1, fun j hj => ⟨?_, h9.frozenAt j⟩⟩
    have hj2 : j < xs.length := by rw [h.1]; exact hj
    obtain ⟨z, hz⟩ := hi xs[j] (List.getElem_mem hj2); refine ⟨z, ?_⟩; rw [cell_of_row _ _ j _ _ _ hb, ← hz]
    have h1 : xs[j]? = some xs[j] := List.getElem?_eq_getElem hj2
    rw [← h1]
    have h2 : (cur.toList.take (n * s))[j]? = cur.toList[j]? := List.getElem?_take_of_lt hj
    rw [ht] at h2; rw [h2]; simp
theorem flat3_int : ∀ (es : List Cst) (x : Value), x ∈ flat3 es → ∃ z : Int, x = .int .i64 z
  | [], x, h => by cases h
  | e :: r, x, h => by
    rw [flat3] at h
    rcases List.mem_cons.1 h with rfl | h
    · exact ⟨_, rfl⟩
    rcases List.mem_cons.1 h with rfl | h
    · exact ⟨_, rfl⟩
    rcases List.mem_cons.1 h with rfl | h
    · exact ⟨_, rfl⟩
    exact flat3_int r x h
theorem flat_int : ∀ (es : List Evt) (x : Value), x ∈ flat es → ∃ z : Int, x = .int .i64 z
  | [], x, h => by cases h
  | e :: r, x, h => by
    rw [flat] at h
    iterate 6
      rcases List.mem_cons.1 h with rfl | h
      · exact ⟨_, rfl⟩
    exact flat_int r x h
theorem flat7_int : ∀ (es : List Rec) (x : Value), x ∈ flat7 es → ∃ z : Int, x = .int .i64 z
  | [], x, h => by cases h
  | e :: r, x, h => by
    rw [flat7] at h
    iterate 7
      rcases List.mem_cons.1 h with rfl | h
      · exact ⟨_, rfl⟩
    exact flat7_int r x h
theorem Mkc.ints {lo hi : Nat} {w w' : World} {l : Nat} {A : Option Addr} {n s : Nat} (h : Mkc w l A n s) (m : Ints lo hi w w') (_hb : hi ≤ l) : Mkc w' l A n s := fun hn => by
  obtain ⟨g, hA, hl, ho⟩ := h hn
  exact ⟨g, hA, hl, Nat.lt_of_lt_of_le ho.1 m.size, fun j hj => (ho.2 j hj).ints m ho.1⟩
/-- A simulator in three rows of the call's own that lie apart. -/
structure SqW (w : World) (lo : Nat) (Ac : Option Addr) (nc : Nat) (Aw : Option Addr) (nw : Nat) (Al : Option Addr) (nl : Nat) (s : Sq) : Prop where
  v : SqV w Ac nc Aw nw Al nl s
  m1 : Mkc w lo Ac nc 3
  m2 : Mkc w lo Aw nw 6
  m3 : Mkc w lo Al nl 7
  p12 : Ap Ac nc Aw nw
  p13 : Ap Ac nc Al nl
  p23 : Ap Aw nw Al nl
theorem SqW.up {w w' : World} {lo : Nat} {Ac Aw Al : Option Addr} {nc nw nl : Nat} {s : Sq} (h : SqW w lo Ac nc Aw nw Al nl s) (u : Up w w') : SqW w' lo Ac nc Aw nw Al nl s := ⟨h.v.up u, h.m1.up u, h.m2.up u, h.m3.up u, h.p12, h.p13, h.p23⟩
theorem SqW.ints {lo hi : Nat} {w w' : World} {l : Nat} {Ac Aw Al : Option Addr} {nc nw nl : Nat} {s : Sq} (h : SqW w l Ac nc Aw nw Al nl s) (m : Ints lo hi w w') (hb : hi ≤ l) : SqW w' l Ac nc Aw nw Al nl s := by
  refine ⟨⟨⟨h.v.comps.1, fun hn => ?_⟩, ⟨h.v.wait.1, fun hn => ?_⟩, ⟨h.v.log.1, fun hn => ?_⟩⟩, h.m1.ints m hb, h.m2.ints m hb, h.m3.ints m hb, h.p12, h.p13, h.p23⟩
  · obtain ⟨b, off, hA, hlt, hc⟩ := h.v.comps.2 hn
    obtain ⟨g, hA', hl, _⟩ := h.m1 hn
    have : b = g := by rw [hA] at hA'; injection hA' with e; injection e
    subst this
    exact ⟨b, off, hA, Nat.lt_of_lt_of_le hlt m.size, fun i hi => (hc i hi).keep fun j => m.cells b j hlt (.inr (by omega))⟩
  · obtain ⟨b, off, hA, hlt, hc⟩ := h.v.wait.2 hn
    obtain ⟨g, hA', hl, _⟩ := h.m2 hn
    have : b = g := by rw [hA] at hA'; injection hA' with e; injection e
    subst this; refine ⟨b, off, hA, Nat.lt_of_lt_of_le hlt m.size, fun i hi => ?_⟩; obtain ⟨c0, c1, c2, c3, c4, c5⟩ := hc i hi
    have kc : ∀ j, w'.cell? ⟨b, j, none⟩ = w.cell? ⟨b, j, none⟩ := fun j => m.cells b j hlt (.inr (by omega))
    exact ⟨(kc _).trans c0, (kc _).trans c1, (kc _).trans c2, (kc _).trans c3, (kc _).trans c4, (kc _).trans c5⟩
  · obtain ⟨b, off, hA, hlt, hc⟩ := h.v.log.2 hn
    obtain ⟨g, hA', hl, _⟩ := h.m3 hn
    have : b = g := by rw [hA] at hA'; injection hA' with e; injection e
    subst this
    exact ⟨b, off, hA, Nat.lt_of_lt_of_le hlt m.size, fun i hi => (hc i hi).keep fun j => m.cells b j hlt (.inr (by omega))⟩
theorem SqW.none_ (w : World) (lo : Nat) : SqW w lo none 0 none 0 none 0 ⟨[], [], []⟩ :=
  ⟨⟨⟨rfl, fun h => absurd h (by omega)⟩, ⟨rfl, fun h => absurd h (by omega)⟩, ⟨rfl, fun h => absurd h (by omega)⟩⟩, fun h => absurd h (by omega), fun h => absurd h (by omega), fun h => absurd h (by omega), fun h => absurd h (by omega), fun h => absurd h (by omega), fun h => absurd h (by omega)⟩
theorem ap_of {A A' : Option Addr} {n n' c c' : Nat} (h : ∀ x, (Value.slice A n c).ownBlock = some x → (Value.slice A' n' c').ownBlock ≠ some x) : Ap A n A' n' := fun _ _ b o b' o' hA hA' e => by
  subst hA hA' e
  exact h b rfl rfl
end Go.Proofs.YtlikekmhccnilaaGreat

namespace Go.Proofs.YtlikekmhccnilaaGreat
set_option maxRecDepth 100000
open Go.RowKit
def stpR (m : Mdl) (n nc : Nat) (s : Sq) : Sq × Bool := if sqS m n nc s = true then stpS m s else (⟨[], [], []⟩, false)
/-- Two results: a simulator in rows of the call's own, and a truth value. -/
def StR (lo : Nat) (R : Sq × Bool) (x : Ending) (w' : World) : Prop :=
  ∃ Ac cc Aw cw Al cl, x = .returned (.tuple #[.agg #[.slice Ac R.1.comps.length cc, .slice Aw R.1.wait.length cw, .slice Al R.1.log.length cl], .bool R.2]) ∧ SqW w' lo Ac R.1.comps.length Aw R.1.wait.length Al R.1.log.length R.1
theorem sqS_rise {m : Mdl} {n nc : Nat} {s : Sq} (h : sqS m n nc s = true) : riseB s.wait = true := by
  unfold sqS at h; simp only [Bool.and_eq_true] at h
  exact h.2.2.1
theorem ISPost.str {m : Mdl} {n nc : Nat} {s : Sq} {w : World} {x : Ending} {w' : World} (h : ISPost m n nc s w x w') : StR w.heap.size (stpR m n nc s) x w' ∧ Up w w' := by
  obtain ⟨u, h⟩ := h; refine ⟨?_, u⟩
  rcases h with ⟨hf, rfl⟩ | ⟨ht, s', b, nw, nl, vc, A, c, vl, hs, rfl, oc, ow, ol, hap⟩
  · unfold stpR
    rw [if_neg (by rw [hf]; exact Bool.false_ne_true)]
    exact ⟨none, 0, none, 0, none, 0, rfl, SqW.none_ _ _⟩
  · have hr := rise_pairwise _ (sqS_rise ht)
    have e : stpR m n nc s = (s', b) := by
      unfold stpR stpS; rw [if_pos ht]; obtain ⟨c0, w0, l0⟩ := s; obtain ⟨c1, w1, l1⟩ := s'
      rcases hs with ⟨k0, k1, k2, k3, k4⟩ | ⟨e, r, k0, k1, k2, k3, k4, k5⟩
      · dsimp only at k0 k2 k3 k4
        subst k0 k1 k2 k3 k4
        rfl
      · dsimp only at k0 k2 k3 k4 k5 hr
        subst k0 k1 k2 k3; dsimp only; rw [perm_sorted _ _ ((insAll_perm _ _).trans k4.symm) (insAll_pair _ _ (List.pairwise_cons.1 hr).2) k5]
    rw [e]; obtain ⟨n1, Ac, cc, rfl, -, -⟩ := own3_slice oc; obtain ⟨n3, Al, cl, rfl, -, -⟩ := own7_slice ol
    have n2 := ow.2.2.2.2.1.1
    unfold StR; dsimp only; rw [n2, ← n1, ← n3]; refine ⟨Ac, cc, A, c, Al, cl, rfl, ⟨own3_csts oc, ow.2.2.2.2.1, own7_recs ol⟩, Mkc.row oc (flat3_int _), fun hn => ?_, Mkc.row ol (flat7_int _), fun _ hn b o b' o' e1 e2 e3 => ?_, ap_of (own_apart oc ol (by decide)), fun hn _ b o b' o' e1 e2 e3 => ?_⟩
    · obtain ⟨g, h1, h2, h3⟩ := ow.2.2.2.2.2 hn
      exact ⟨g, h1, h2, h3.ints6⟩
    · obtain ⟨g, h1, h2, h3⟩ := ow.2.2.2.2.2 hn
      subst e1; rw [h1] at e2
      injection e2 with e2
      injection e2 with e2 _ _
      exact hap g hn h1 b (.inl rfl) (e3.trans e2.symm)
    · obtain ⟨g, h1, h2, h3⟩ := ow.2.2.2.2.2 hn
      subst e2; rw [h1] at e1
      injection e1 with e1
      injection e1 with e1 _ _
      exact hap g hn h1 b' (.inr rfl) (e3.symm.trans e1.symm)
end Go.Proofs.YtlikekmhccnilaaGreat

namespace Go.Proofs.YtlikekmhccnilaaGreat
set_option maxRecDepth 100000
open Go.RowKit
inductive Plan where
  | nil : Plan
  | take (k : Nat) (p : Plan) : Plan
  | one (k : Nat) (p : Plan) : Plan
  | two (k : Nat) (p : Plan) (k' : Nat) (p' : Plan) : Plan
def planB (ops : Array Oper) : Plan → Nat → Array Bool → Bool
  | .nil, n, listed => decide (n = 0) && (Region.ready .any ops listed).isEmpty
  | .take k p, n + 1, listed => decide (k < ops.size) && (Region.ready .any ops listed).contains k && Region.free .any ops listed k && planB ops p n (listed.setIfInBounds k true)
  | .one k p, n + 1, listed => decide (k < ops.size) && decide (Region.ready .any ops listed = [k]) && planB ops p n (listed.setIfInBounds k true)
  | .two k p k' p', n + 1, listed => decide (Region.ready .any ops listed = [k, k']) && planB ops p n (listed.setIfInBounds k true) && planB ops p' n (listed.setIfInBounds k' true)
  | _, _, _ => false
def effW (P : Program) (ops : Array Oper) (Q : Exit → Act → World → Prop) (S : World → Prop) (k : Nat) (rest : Act → World → Prop) (a : Act) (w : World) : Prop :=
  ∃ o, ops[k]? = some o ∧ if Region.wanted o (yielded ops a.tmps) = true then o.wp P a w (fun a' w' => S w' ∧ rest a' w') Q else rest (a.put o.dst undef) w
def wpPlan (P : Program) (ops : Array Oper) (Q : Exit → Act → World → Prop) (S : World → Prop) : Plan → Act → World → Prop
  | .nil, a, w => Q .normal a w
  | .take k p, a, w => ∃ o v, ops[k]? = some o ∧ YieldsIf P ops S o v a ∧ wpPlan P ops Q S p (a.put o.dst v) w
  | .one k p, a, w => effW P ops Q S k (wpPlan P ops Q S p) a w
  | .two k p k' p', a, w => effW P ops Q S k (wpPlan P ops Q S p) a w ∧ effW P ops Q S k' (wpPlan P ops Q S p') a w
theorem wpAnyH_of_plan {P : Program} {ops : Array Oper} {Q : Exit → Act → World → Prop} {S : World → Prop} (hsel : Region.noSelect ops = true) (hQ : ∀ c (a : Act) d v w, Q (.panic c) (a.put d v) w → Q (.panic c) a w) :
    ∀ (p : Plan) (n : Nat) (listed : Array Bool) (a : Act) (w : World), planB ops p n listed = true → S w → wpPlan P ops Q S p a w → wpAnyH P .any ops Q S n listed a w
  | .nil, n, _, _, _, hB, _, h => by
    simp only [planB, Bool.and_eq_true, decide_eq_true_eq] at hB; obtain ⟨rfl, hB⟩ := hB
    exact ⟨by simpa using hB, h⟩
  | .take k p, 0, _, _, _, hB, _, _ => by simp [planB] at hB
  | .take k p, n + 1, listed, a, w, hB, hS, h => by
    simp only [planB, Bool.and_eq_true] at hB; obtain ⟨o, v, h0, hy, hn⟩ := h
    exact wpAnyH_take h0 hsel hB.1.2 hB.1.1.2 (fun c a w => hQ c a _ _ w) hy hS (wpAnyH_of_plan hsel hQ p n _ _ _ hB.2 hS hn)
  | .one k p, 0, _, _, _, hB, _, _ => by simp [planB] at hB
  | .one k p, n + 1, listed, a, w, hB, hS, h => by
    simp only [planB, Bool.and_eq_true, decide_eq_true_eq] at hB; obtain ⟨o, h0, h⟩ := h
    refine wpAnyH_all hB.1.2 (by simp) fun i hi => ?_
    obtain rfl : i = k := by simpa using hi
    refine wpOp_mono (K := fun a' w' => S w' ∧ wpPlan P ops Q S p a' w') (fun a' w' h' => ⟨h'.1, wpAnyH_of_plan hsel hQ p n _ _ _ hB.2 h'.1 h'.2⟩) ?_; unfold wpOp; simp only [h0]
    split
    · rename_i hw
      rw [if_pos hw] at h
      exact .inl h
    · rename_i hw
      rw [if_neg hw] at h
      exact ⟨hS, h⟩
  | .two k p k' p', 0, _, _, _, hB, _, _ => by simp [planB] at hB
  | .two k p k' p', n + 1, listed, a, w, hB, hS, h => by
    simp only [planB, Bool.and_eq_true, decide_eq_true_eq] at hB; obtain ⟨⟨o, h0, h⟩, ⟨o', h0', h'⟩⟩ := h
    refine wpAnyH_all hB.1.1 (by simp) fun i hi => ?_
    have hi : i = k ∨ i = k' := by simpa using hi
    rcases hi with rfl | rfl
    · refine wpOp_mono (K := fun a' w' => S w' ∧ wpPlan P ops Q S p a' w') (fun a' w' h' => ⟨h'.1, wpAnyH_of_plan hsel hQ p n _ _ _ hB.1.2 h'.1 h'.2⟩) ?_
      unfold wpOp; simp only [h0]
      split
      · rename_i hw
        rw [if_pos hw] at h
        exact .inl h
      · rename_i hw
        rw [if_neg hw] at h
        exact ⟨hS, h⟩
    · refine wpOp_mono (K := fun a' w' => S w' ∧ wpPlan P ops Q S p' a' w') (fun a' w' h' => ⟨h'.1, wpAnyH_of_plan hsel hQ p' n _ _ _ hB.2 h'.1 h'.2⟩) ?_
      unfold wpOp; simp only [h0']
      split
      · rename_i hw
        rw [if_pos hw] at h'
        exact .inl h'
      · rename_i hw
        rw [if_neg hw] at h'
        exact ⟨hS, h'⟩
/-- What is left to walk, kept shut. -/
@[irreducible] def pWalk (P : Program) (ops : Array Oper) (Q : Exit → Act → World → Prop) (S : World → Prop) (p : Plan) (a : Act) (w : World) : Prop := wpPlan P ops Q S p a w
theorem region_plan {P : Program} {id : Nat} {Q : Exit → Act → World → Prop} {a : Act} {w : World} {l : List Oper} (S : World → Prop) (p : Plan) (hm : P.follows .mixedOrders = true)
    (hB : (Region.noSelect l.toArray && planB l.toArray p l.length (Array.replicate l.toArray.size false)) = true) (hS : S w.drew)
    (h : pWalk P l.toArray (NoPanic Q) S p a w.drew) : (Code.region id l.toArray true).wp P Q a w := by
  unfold pWalk at h; simp only [Bool.and_eq_true] at hB; refine wp_region_noPanic (wp_region_held (S := S) hm ?_)
  have := wpAnyH_of_plan (P := P) (Q := NoPanic Q) hB.1 (fun _ _ _ _ _ h => h) p l.length _ a w.drew hB.2 hS h
  simpa using this
section
variable {P : Program} {ops : Array Oper} {Q : Exit → Act → World → Prop} {S : World → Prop} {p p' : Plan} {k k' : Nat} {o : Oper} {a : Act} {w : World}
theorem plan_take (h0 : ops[k]? = some o) (hw : Region.wanted o (yielded ops a.tmps) = true) (h : ∃ v, (∀ w1, S w1 → (execOp a.eval o).run P w1 = .ok (.value v) w1) ∧ pWalk P ops Q S p (a.put o.dst v) w) : pWalk P ops Q S (.take k p) a w := by
  unfold pWalk at h ⊢; obtain ⟨v, hv, hn⟩ := h
  exact ⟨o, v, h0, .inl ⟨hw, hv⟩, hn⟩
theorem plan_go (h0 : ops[k]? = some o) (hw : Region.wanted o (yielded ops a.tmps) = true) (h : ∀ K : Act → World → Prop, (∀ a w, S w → pWalk P ops Q S p a w → K a w) → o.wp P a w K Q) : pWalk P ops Q S (.one k p) a w := by
  unfold pWalk at h ⊢; refine ⟨o, h0, ?_⟩; rw [if_pos hw]
  exact h _ fun _ _ hs h => ⟨hs, h⟩
theorem plan_two (h : pWalk P ops Q S (.one k p) a w) (h' : pWalk P ops Q S (.one k' p') a w) : pWalk P ops Q S (.two k p k' p') a w := by
  unfold pWalk at h h' ⊢
  exact ⟨h, h'⟩
theorem plan_nil (h : Q .normal a w) : pWalk P ops (NoPanic Q) S .nil a w := by
  unfold pWalk
  exact h
end
end Go.Proofs.YtlikekmhccnilaaGreat

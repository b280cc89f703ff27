/-
  What a step of the sequential simulator does, in one sentence: the first event is taken, the component's state is replaced, what it sends joins the heap, and the log has one record more; for every simulator with pending events.
-/
import Derived.Test.YtjdoealcmokakaaDLSeqAll31
import Derived.Test.YtjdoealcmokakaaDLSeqAll36
namespace Go.Proofs.Ytjdoealcmokakaa
set_option maxRecDepth 100000
open Go.RowKit
def IsTup (lo : Nat) (D : Cst × List Evt) (v : Value) (w : World) : Prop := ∃ u, v = .tuple #[D.1.v, u] ∧ w.ownsRow lo 39 6 u D.2.length (flat D.2)
theorem IsTup.up {lo : Nat} {D : Cst × List Evt} {v : Value} {w w' : World} (h : IsTup lo D v w) (u : Up w w') : IsTup lo D v w' := by
  obtain ⟨x, h0, h1⟩ := h
  exact ⟨x, h0, own_up h1 u⟩
def IsB3 (lo : Nat) (v : Value) (w : World) : Prop := ∃ b, v = .pointer (some ⟨b, 0, none⟩) ∧ lo ≤ b ∧ BoxF w b (.int .i64 0) (.int .i64 0) (.int .i64 0) ∧ ∃ cur fz, w.heap[b]? = some (.cells cur 46 fz)
theorem IsB3.up {lo : Nat} {v : Value} {w w' : World} (h : IsB3 lo v w) (u : Up w w') : IsB3 lo v w' := by
  obtain ⟨x, h0, h1, h2, cur, fz, h3⟩ := h
  exact ⟨x, h0, h1, h2.up u, cur, fz, (u.below.block x h2.k.lt).trans h3⟩
theorem HS2.of_up {p o g : Nat} {w w' : World} (u : Up w w') (hl : p < w.heap.size) : HS2 p o g w w' :=
  ⟨u.below.os, u.below.tape, u.below.output, u.size, fun k hk _ _ => u.below.block k hk, fun _ _ => u.cells _ _ hl, fun _ => u.frozens _ _ hl⟩
theorem HS2.trans {p o g g' : Nat} {a b c : World} (h : HS2 p o g a b) (hg : g' = g ∨ a.heap.size ≤ g') (k : HS2 p o g' b c) : HS2 p o g a c :=
  ⟨k.os.trans h.os, k.tape.trans h.tape, k.output.trans h.output, Nat.le_trans h.size k.size, fun x hx h1 h2 => (k.block x (Nat.lt_of_lt_of_le hx h.size) h1 (by omega)).trans (h.block x hx h1 h2), fun j hj => (k.pcell j hj).trans (h.pcell j hj), fun j => (k.pfz j).trans (h.pfz j)⟩
theorem own_ge {w : World} {b e size n : Nat} {v : Value} {xs : List Value} (h : w.ownsRow b e size v n xs) : ∀ x, v.ownBlock = some x → b ≤ x ∧ x < w.heap.size := fun x hx => by
  rcases h.2 with ⟨rfl, _⟩ | ⟨g, cap, cur, rfl, hg, hb, _⟩
  · cases hx
  injection hx with hx
  have hx : g = x := hx
  subst hx
  exact ⟨hg, (Array.getElem?_eq_some_iff.1 hb).1⟩
theorem cst_at {w : World} {b e n k g c : Nat} {es : List Cst} (h : w.ownsRow b e 3 (.slice (some ⟨g, 0, none⟩) n c) n (flat3 es)) (hk : k < n) : CstAt w g (k * 3) (es.getD k default) := by
  obtain ⟨b, off, hA, hb, hc⟩ := (own3_csts h).2 (by omega)
  injection hA with hA
  injection hA with h1 h2 _
  subst h1 h2
  have := hc k hk
  rwa [Nat.zero_add] at this
theorem perm_join {n i : Nat} {F F' F6 : Nat → Evt} {ds : List Evt} {e : Evt} (h6 : ((List.range (n + i + 1)).map F6).Perm (e :: (List.range (n + i)).map F')) (h : ((List.range (n + i)).map F').Perm (ds.take i ++ (List.range n).map F)) (he : ds.getD i default = e) (hi : i < ds.length) :
    ((List.range (n + (i + 1))).map F6).Perm (ds.take (i + 1) ++ (List.range n).map F) := by
  have e1 : ds.take (i + 1) = ds.take i ++ [e] := by
    rw [List.take_add_one, ← he]; simp [List.getD, hi]
  rw [e1, List.append_assoc]
  exact (h6.trans (h.cons e)).trans List.perm_middle.symm
theorem own_setCell {w : World} {b e size n g cap j : Nat} {xs : List Value} (h : w.ownsRow b e size (.slice (some ⟨g, 0, none⟩) n cap) n xs) (u : Value) : (w.setCell ⟨g, j, none⟩ u).ownsRow b e size (.slice (some ⟨g, 0, none⟩) n cap) n (xs.set j u) := by
  refine ⟨by simp [h.1], ?_⟩
  rcases h.2 with ⟨h0, _⟩ | ⟨g', cap', cur, hv, hg, hb, hnc, hm, hs, ht⟩
  · cases h0
  injection hv with h1 _ h2
  injection h1 with h1
  injection h1 with h1 _ _
  subst h1; subst h2; refine .inr ⟨g, cap, cur.setIfInBounds j u, rfl, hg, heap_setC _ _ _ _ hb, hnc, hm, by simpa using hs, ?_⟩; rw [Array.toList_setIfInBounds, List.take_set, ht]
theorem flat3_set : ∀ (es : List Cst) (k : Nat) (t : Cst), k < es.length → (((flat3 es).set (k * 3) (.int .i64 t.s)).set (k * 3 + 1) (.int .i64 t.sq)).set (k * 3 + 2) (.int .i64 t.ct) = flat3 (es.set k t)
  | [], _, _, h => absurd h (by simp)
  | _ :: _, 0, _, _ => rfl
  | e :: r, k + 1, t, h => by
    have ih := flat3_set r k t (by simpa using h)
    rw [Nat.succ_mul, List.set_cons_succ, flat3, flat3, ← ih]
    rfl
/-- After a component's state is stored. -/
theorem Sim.set {lo mb : Nat} {many til : Int} {nc nl : Nat} {cs : List Cst} {ls : List Rec} {p : Nat} {vl : Value} {gc cc g n c k : Nat} {f : Nat → Evt} {w : World} (h : Sim lo mb many til nc nl cs ls p (.slice (some ⟨gc, 0, none⟩) nc cc) vl g n c f w) (t : Cst) (hk : k < nc) :
    Sim lo mb many til nc nl (cs.set k t) ls p (.slice (some ⟨gc, 0, none⟩) nc cc) vl g n c f (((w.setCell ⟨gc, k * 3, none⟩ (.int .i64 t.s)).setCell ⟨gc, k * 3 + 1, none⟩ (.int .i64 t.sq)).setCell ⟨gc, k * 3 + 2, none⟩ (.int .i64 t.ct)) := by
  have M := ((((Up.refl w).mv gc).setCell (o := k * 3) (.int .i64 t.s)).setCell (o := k * 3 + 1) (.int .i64 t.sq) |>.setCell (o := k * 3 + 2) (.int .i64 t.ct))
  have hl : k < cs.length := by have := h.rc.1; rw [flat3_len] at this; omega
  have O := own_setCell (j := k * 3 + 2) (own_setCell (j := k * 3 + 1) (own_setCell (j := k * 3) h.rc (.int .i64 t.s)) (.int .i64 t.sq)) (.int .i64 t.ct)
  rw [flat3_set cs k t hl] at O
  have hne : p ≠ gc := (h.apc gc rfl).symm
  have hq : g ≠ gc := (h.agc gc rfl).symm
  exact ⟨Nat.lt_of_lt_of_le h.pl M.size, h.pge, (M.cells _ _ h.pl hne).trans h.c0, (M.cells _ _ h.pl hne).trans h.c1, (M.cells _ _ h.pl hne).trans h.c2, (M.cells _ _ h.pl hne).trans h.c3, (M.cells _ _ h.pl hne).trans h.c4, (M.cells _ _ h.pl hne).trans h.c5, fun j => (M.frozens _ _ h.pl hne).trans (h.fz j),
    O, own_keep h.rl (fun x hx hl => M.block x hl (fun e => h.acl gc rfl (e ▸ hx))), h.hp.mv M hq, h.hf, h.apc, h.apl, h.apq⟩
/-- After a record joins the log. -/
theorem Sim.log {lo mb : Nat} {many til : Int} {nc nl : Nat} {cs : List Cst} {ls : List Rec} {p : Nat} {vc vl v6 : Value} {g n c : Nat} {f : Nat → Evt} {X w6 : World} {r : Rec} (h : Sim lo mb many til nc nl cs ls p vc vl g n c f X)
    (hg : X.grownBy w6 vl.ownBlock) (ho : w6.ownsRow lo 41 7 v6 (nl + 1) (flat7 ls ++ flat7 [r])) (hv : v6.ownBlock = vl.ownBlock ∨ v6.ownBlock = some X.heap.size) :
    Sim lo mb many til nc (nl + 1) cs (ls ++ [r]) p vc v6 g n c f (w6.setCell ⟨p, 5, none⟩ v6) := by
  have B : ∀ x, x < X.heap.size → vl.ownBlock ≠ some x → w6.heap[x]? = X.heap[x]? := fun x hx hne => hg.block x hx (fun e => hne e.symm)
  have bp := B p h.pl (fun e => h.apl p e rfl)
  have M6 := fun j => World.cell?_of_block (a := ⟨p, j, none⟩) bp
  have pl6 := Nat.lt_of_lt_of_le h.pl hg.size
  have ne : ∀ j, j ≠ 5 → (⟨p, 5, none⟩ : Addr) ≠ ⟨p, j, none⟩ := fun j hj => addr_ne (by omega)
  have C : ∀ j u, j ≠ 5 → X.cell? ⟨p, j, none⟩ = some u → (w6.setCell ⟨p, 5, none⟩ v6).cell? ⟨p, j, none⟩ = some u := fun j u hj hu => (World.cell?_setCell_other _ _ _ _ (ne j hj)).trans ((M6 j).trans hu)
  have M : Mv p w6 (w6.setCell ⟨p, 5, none⟩ v6) := ((Up.refl w6).mv p).setCell _
  have ap6 : ∀ x, v6.ownBlock = some x → x ≠ p := fun x hx => by
    rcases hv with h1 | h1
    · exact h.apl x (h1 ▸ hx)
    · rw [h1] at hx
      injection hx with hx
      have := h.pl
      omega
  have ho' : w6.ownsRow lo 41 7 v6 (nl + 1) (flat7 (ls ++ [r])) := by rw [flat7_app]; exact ho
  have HQ : Hp w6 lo g n c f := by
    have hl := h.hp.row.1
    have hb := B g hl (fun e => h.agl g e rfl)
    have Mq : ∀ j, w6.cell? ⟨g, j, none⟩ = X.cell? ⟨g, j, none⟩ := fun j => World.cell?_of_block (a := ⟨g, j, none⟩) hb
    obtain ⟨cur, h1, h2⟩ := h.hp.blk; refine ⟨⟨Nat.lt_of_lt_of_le hl hg.size, fun i hi => ?_, fun j hj => ?_⟩, h.hp.lo, h.hp.len, h.hp.max, cur, hb.trans h1, h2⟩
    · obtain ⟨a0, a1, a2, a3, a4, a5⟩ := h.hp.row.2.1 i hi
      exact ⟨(Mq _).trans a0, (Mq _).trans a1, (Mq _).trans a2, (Mq _).trans a3, (Mq _).trans a4, (Mq _).trans a5⟩
    · unfold World.frozen?
      rw [hb]
      exact h.hp.row.2.2 j hj
  exact ⟨Nat.lt_of_lt_of_le pl6 M.size, h.pge, C 0 _ (by omega) h.c0, C 1 _ (by omega) h.c1, C 2 _ (by omega) h.c2, C 3 _ (by omega) h.c3, C 4 _ (by omega) h.c4, World.cell?_setCell_same _ _ _ ((M6 5).trans h.c5), fun j => by
      have : (w6.setCell ⟨p, 5, none⟩ v6).frozen? ⟨p, j, none⟩ = w6.frozen? ⟨p, j, none⟩ := by simp [go_sem]
      rw [this]; unfold World.frozen?; rw [bp]
      exact h.fz j,
    own_keep (own_keep h.rc (fun x hx hl => B x hl (fun e => h.acl x hx e))) (fun x hx hl => M.block x hl (h.apc x hx)), own_keep ho' (fun x hx hl => M.block x hl (ap6 x hx)), HQ.mv M h.apq.symm, h.hf, h.apc, ap6, h.apq⟩
theorem Sim.logUp {lo mb : Nat} {many til : Int} {nc nl : Nat} {cs : List Cst} {ls : List Rec} {p : Nat} {vc vl v6 : Value} {g n c : Nat} {f : Nat → Evt} {w0 X w6 : World} (h : Sim lo mb many til nc nl cs ls p vc vl g n c f X)
    (hg : X.grownBy w6 vl.ownBlock) (u : Up w0 X) (hlo : w0.heap.size ≤ lo) : Up w0 (w6.setCell ⟨p, 5, none⟩ v6) := by
  have M : Mv p w6 (w6.setCell ⟨p, 5, none⟩ v6) := ((Up.refl w6).mv p).setCell _
  have u6 : Up w0 w6 := ⟨hg.os.trans u.below.os, hg.tape.trans u.below.tape, hg.output.trans u.below.output, Nat.le_trans u.size hg.size, fun k hk => (hg.block k (Nat.lt_of_lt_of_le hk u.size) (fun e => by have := own_ge h.rl k e.symm; omega)).trans (u.below.block k hk)⟩
  exact M.up u6 (by have := h.pge; omega)
theorem rec1_new (w : World) (z0 z1 z2 z3 z4 z5 z6 : Int) (t : TypeId) : Reads (w.alloc (.cells #[.int .i64 z0, .int .i64 z1, .int .i64 z2, .int .i64 z3, .int .i64 z4, .int .i64 z5, .int .i64 z6] t)) (w.alloc (.cells #[.int .i64 z0, .int .i64 z1, .int .i64 z2, .int .i64 z3, .int .i64 z4, .int .i64 z5, .int .i64 z6] t)).heap.size 7 (some ⟨w.heap.size, 0, none⟩) 1 (flat7 [⟨⟨z0, z1, z2, z3, z4, z5⟩, z6⟩]) := by
  have hh := heap_alloc_new w (.cells #[.int .i64 z0, .int .i64 z1, .int .i64 z2, .int .i64 z3, .int .i64 z4, .int .i64 z5, .int .i64 z6] t)
  refine ⟨by rw [flat7_len]; simp, fun _ => ⟨_, rfl, by simp, fun j u hu => ?_⟩⟩; rw [Addr.add_lit, Nat.zero_add, cell_of_row _ _ j _ _ _ hh]
  have hu : [Value.int .i64 z0, .int .i64 z1, .int .i64 z2, .int .i64 z3, .int .i64 z4, .int .i64 z5, .int .i64 z6][j]? = some u := hu
  have hj : j < 7 := (List.getElem?_eq_some_iff.1 hu).1
  have h7 : j = 0 ∨ j = 1 ∨ j = 2 ∨ j = 3 ∨ j = 4 ∨ j = 5 ∨ j = 6 := by omega
  rcases h7 with rfl | rfl | rfl | rfl | rfl | rfl | rfl <;> exact hu
/-- What a step leaves. -/
def StepPost (lo mb : Nat) (many : Int) (nc nl : Nat) (cs : List Cst) (ls : List Rec) (p n : Nat) (f : Nat → Evt) (m : Mdl) (e : Evt) (w0 : World) (x : Ending) (w' : World) : Prop :=
  x = .returned (.bool true) ∧ Up w0 w' ∧ ∃ R vc vl g c F, (e :: R).Perm ((List.range (n + 1)).map f) ∧ ((List.range (n + (doE m (cs.getD e.to.toNat default) e).2.length)).map F).Perm ((doE m (cs.getD e.to.toNat default) e).2 ++ R) ∧
    Sim lo mb many m.til nc (nl + 1) (cs.set e.to.toNat (doE m (cs.getD e.to.toNat default) e).1) (ls ++ [⟨e, (doE m (cs.getD e.to.toNat default) e).1.s⟩]) p vc vl g (n + (doE m (cs.getD e.to.toNat default) e).2.length) c F w'
/-- One event's six cells. -/
def Ev6 (w : World) (b : Nat) (z0 z1 z2 z3 z4 z5 : Int) : Prop := b < w.heap.size ∧ w.cell? ⟨b, 0, none⟩ = some (.int .i64 z0) ∧ w.cell? ⟨b, 1, none⟩ = some (.int .i64 z1) ∧ w.cell? ⟨b, 2, none⟩ = some (.int .i64 z2) ∧ w.cell? ⟨b, 3, none⟩ = some (.int .i64 z3) ∧ w.cell? ⟨b, 4, none⟩ = some (.int .i64 z4) ∧ w.cell? ⟨b, 5, none⟩ = some (.int .i64 z5)
theorem Ev6.keep {w w' : World} {b : Nat} {z0 z1 z2 z3 z4 z5 : Int} (h : Ev6 w b z0 z1 z2 z3 z4 z5) (hs : w.heap.size ≤ w'.heap.size) (k : w'.heap[b]? = w.heap[b]?) : Ev6 w' b z0 z1 z2 z3 z4 z5 := by
  have M := fun j => World.cell?_of_block (a := ⟨b, j, none⟩) k
  obtain ⟨h, a0, a1, a2, a3, a4, a5⟩ := h
  exact ⟨Nat.lt_of_lt_of_le h hs, (M 0).trans a0, (M 1).trans a1, (M 2).trans a2, (M 3).trans a3, (M 4).trans a4, (M 5).trans a5⟩
theorem Ev6.up {w w' : World} {b : Nat} {z0 z1 z2 z3 z4 z5 : Int} (h : Ev6 w b z0 z1 z2 z3 z4 z5) (u : Up w w') : Ev6 w' b z0 z1 z2 z3 z4 z5 := h.keep u.size (u.below.block b h.1)
theorem Box.ev6 {w : World} {b : Nat} {z0 z1 z2 z3 z4 z5 : Int} (h : Box w b ⟨z0, z1, z2, z3, z4, z5⟩) : Ev6 w b z0 z1 z2 z3 z4 z5 := ⟨h.lt, h.mk6.1⟩
theorem Box3.keepB {w w' : World} {b : Nat} {x y z : Value} (h : Box3 w b x y z) (hs : w.heap.size ≤ w'.heap.size) (k : w'.heap[b]? = w.heap[b]?) : Box3 w' b x y z := by
  have M := fun j => World.cell?_of_block (a := ⟨b, j, none⟩) k
  exact ⟨Nat.lt_of_lt_of_le h.lt hs, (M 0).trans h.c0, (M 1).trans h.c1, (M 2).trans h.c2⟩
/-- On the way through the sent events: i of them have joined. -/
def LpR (lo mb : Nat) (many til : Int) (nc nl : Nat) (cs : List Cst) (ls : List Rec) (p : Nat) (vc vl : Value) (g n : Nat) (F0 : Nat → Evt) (ds : List Evt) (W : World) (v : Value) (wr : World) : Prop :=
  ∃ (i : Nat) (g' c' : Nat) (F : Nat → Evt), v = .int .i64 (i : Int) ∧ i ≤ ds.length ∧ Sim lo mb many til nc nl cs ls p vc vl g' (n + i) c' F wr ∧ HS2 p 4 g W wr ∧ (g' = g ∨ W.heap.size ≤ g') ∧ ((List.range (n + i)).map F).Perm (ds.take i ++ (List.range n).map F0)
def resC (p b1 mb : Nat) (many til : Int) (gc nc cc k lo : Nat) (s0 s1 s2 et efr esq ekd edt : Int) (D : Cst × List Evt) (d : Nat) (v : Value) (w : World) : Prop :=
  if d = 21 then v = .pointer (some ⟨p, 0, none⟩) else if d = 22 then v = .pointer (some ⟨p, 0, none⟩) else if d = 23 then v = .pointer (some ⟨p, 0, none⟩) else if d = 24 then v = .agg #[.map (some mb), .int .i64 many, .int .i64 til] else if d = 25 then v = .pointer (some ⟨p, 0, none⟩) else if d = 26 then v = .pointer (some ⟨p, 0, none⟩) else if d = 27 then v = .pointer (some ⟨p, 3, none⟩) else if d = 28 then v = .slice (some ⟨gc, 0, none⟩) nc cc else if d = 29 then v = .pointer (some ⟨b1, 1, none⟩) else if d = 30 then v = .int .i64 (k : Int) else if d = 31 then v = .pointer (some ⟨gc, k * 3, none⟩) else if d = 32 then v = .agg #[.int .i64 s0, .int .i64 s1, .int .i64 s2] else if d = 33 then v = .agg #[.int .i64 et, .int .i64 (k : Int), .int .i64 efr, .int .i64 esq, .int .i64 ekd, .int .i64 edt] else if d = 34 then IsTup lo D v w else if d = 20 then IsTup lo D v w else if d = 35 then v = D.1.v else if d = 36 then w.ownsRow lo 39 6 v D.2.length (flat D.2) else if d = 4 then IsB3 lo v w else True
theorem resC_21 (p b1 mb : Nat) (many til : Int) (gc nc cc k lo : Nat) (s0 s1 s2 et efr esq ekd edt : Int) (D : Cst × List Evt) (v : Value) (w : World) : resC p b1 mb many til gc nc cc k lo s0 s1 s2 et efr esq ekd edt D 21 v w = (v = .pointer (some ⟨p, 0, none⟩)) := by simp [resC]
theorem resC_22 (p b1 mb : Nat) (many til : Int) (gc nc cc k lo : Nat) (s0 s1 s2 et efr esq ekd edt : Int) (D : Cst × List Evt) (v : Value) (w : World) : resC p b1 mb many til gc nc cc k lo s0 s1 s2 et efr esq ekd edt D 22 v w = (v = .pointer (some ⟨p, 0, none⟩)) := by simp [resC]
theorem resC_23 (p b1 mb : Nat) (many til : Int) (gc nc cc k lo : Nat) (s0 s1 s2 et efr esq ekd edt : Int) (D : Cst × List Evt) (v : Value) (w : World) : resC p b1 mb many til gc nc cc k lo s0 s1 s2 et efr esq ekd edt D 23 v w = (v = .pointer (some ⟨p, 0, none⟩)) := by simp [resC]
theorem resC_24 (p b1 mb : Nat) (many til : Int) (gc nc cc k lo : Nat) (s0 s1 s2 et efr esq ekd edt : Int) (D : Cst × List Evt) (v : Value) (w : World) : resC p b1 mb many til gc nc cc k lo s0 s1 s2 et efr esq ekd edt D 24 v w = (v = .agg #[.map (some mb), .int .i64 many, .int .i64 til]) := by simp [resC]
theorem resC_25 (p b1 mb : Nat) (many til : Int) (gc nc cc k lo : Nat) (s0 s1 s2 et efr esq ekd edt : Int) (D : Cst × List Evt) (v : Value) (w : World) : resC p b1 mb many til gc nc cc k lo s0 s1 s2 et efr esq ekd edt D 25 v w = (v = .pointer (some ⟨p, 0, none⟩)) := by simp [resC]
theorem resC_26 (p b1 mb : Nat) (many til : Int) (gc nc cc k lo : Nat) (s0 s1 s2 et efr esq ekd edt : Int) (D : Cst × List Evt) (v : Value) (w : World) : resC p b1 mb many til gc nc cc k lo s0 s1 s2 et efr esq ekd edt D 26 v w = (v = .pointer (some ⟨p, 0, none⟩)) := by simp [resC]
theorem resC_27 (p b1 mb : Nat) (many til : Int) (gc nc cc k lo : Nat) (s0 s1 s2 et efr esq ekd edt : Int) (D : Cst × List Evt) (v : Value) (w : World) : resC p b1 mb many til gc nc cc k lo s0 s1 s2 et efr esq ekd edt D 27 v w = (v = .pointer (some ⟨p, 3, none⟩)) := by simp [resC]
theorem resC_28 (p b1 mb : Nat) (many til : Int) (gc nc cc k lo : Nat) (s0 s1 s2 et efr esq ekd edt : Int) (D : Cst × List Evt) (v : Value) (w : World) : resC p b1 mb many til gc nc cc k lo s0 s1 s2 et efr esq ekd edt D 28 v w = (v = .slice (some ⟨gc, 0, none⟩) nc cc) := by simp [resC]
theorem resC_29 (p b1 mb : Nat) (many til : Int) (gc nc cc k lo : Nat) (s0 s1 s2 et efr esq ekd edt : Int) (D : Cst × List Evt) (v : Value) (w : World) : resC p b1 mb many til gc nc cc k lo s0 s1 s2 et efr esq ekd edt D 29 v w = (v = .pointer (some ⟨b1, 1, none⟩)) := by simp [resC]
theorem resC_30 (p b1 mb : Nat) (many til : Int) (gc nc cc k lo : Nat) (s0 s1 s2 et efr esq ekd edt : Int) (D : Cst × List Evt) (v : Value) (w : World) : resC p b1 mb many til gc nc cc k lo s0 s1 s2 et efr esq ekd edt D 30 v w = (v = .int .i64 (k : Int)) := by simp [resC]
theorem resC_31 (p b1 mb : Nat) (many til : Int) (gc nc cc k lo : Nat) (s0 s1 s2 et efr esq ekd edt : Int) (D : Cst × List Evt) (v : Value) (w : World) : resC p b1 mb many til gc nc cc k lo s0 s1 s2 et efr esq ekd edt D 31 v w = (v = .pointer (some ⟨gc, k * 3, none⟩)) := by simp [resC]
theorem resC_32 (p b1 mb : Nat) (many til : Int) (gc nc cc k lo : Nat) (s0 s1 s2 et efr esq ekd edt : Int) (D : Cst × List Evt) (v : Value) (w : World) : resC p b1 mb many til gc nc cc k lo s0 s1 s2 et efr esq ekd edt D 32 v w = (v = .agg #[.int .i64 s0, .int .i64 s1, .int .i64 s2]) := by simp [resC]
theorem resC_33 (p b1 mb : Nat) (many til : Int) (gc nc cc k lo : Nat) (s0 s1 s2 et efr esq ekd edt : Int) (D : Cst × List Evt) (v : Value) (w : World) : resC p b1 mb many til gc nc cc k lo s0 s1 s2 et efr esq ekd edt D 33 v w = (v = .agg #[.int .i64 et, .int .i64 (k : Int), .int .i64 efr, .int .i64 esq, .int .i64 ekd, .int .i64 edt]) := by simp [resC]
theorem resC_34 (p b1 mb : Nat) (many til : Int) (gc nc cc k lo : Nat) (s0 s1 s2 et efr esq ekd edt : Int) (D : Cst × List Evt) (v : Value) (w : World) : resC p b1 mb many til gc nc cc k lo s0 s1 s2 et efr esq ekd edt D 34 v w = (IsTup lo D v w) := by simp [resC]
theorem resC_20 (p b1 mb : Nat) (many til : Int) (gc nc cc k lo : Nat) (s0 s1 s2 et efr esq ekd edt : Int) (D : Cst × List Evt) (v : Value) (w : World) : resC p b1 mb many til gc nc cc k lo s0 s1 s2 et efr esq ekd edt D 20 v w = (IsTup lo D v w) := by simp [resC]
theorem resC_35 (p b1 mb : Nat) (many til : Int) (gc nc cc k lo : Nat) (s0 s1 s2 et efr esq ekd edt : Int) (D : Cst × List Evt) (v : Value) (w : World) : resC p b1 mb many til gc nc cc k lo s0 s1 s2 et efr esq ekd edt D 35 v w = (v = D.1.v) := by simp [resC]
theorem resC_36 (p b1 mb : Nat) (many til : Int) (gc nc cc k lo : Nat) (s0 s1 s2 et efr esq ekd edt : Int) (D : Cst × List Evt) (v : Value) (w : World) : resC p b1 mb many til gc nc cc k lo s0 s1 s2 et efr esq ekd edt D 36 v w = (w.ownsRow lo 39 6 v D.2.length (flat D.2)) := by simp [resC]
theorem resC_4 (p b1 mb : Nat) (many til : Int) (gc nc cc k lo : Nat) (s0 s1 s2 et efr esq ekd edt : Int) (D : Cst × List Evt) (v : Value) (w : World) : resC p b1 mb many til gc nc cc k lo s0 s1 s2 et efr esq ekd edt D 4 v w = (IsB3 lo v w) := by simp [resC]
theorem resC_up (p b1 mb : Nat) (many til : Int) (gc nc cc k lo : Nat) (s0 s1 s2 et efr esq ekd edt : Int) (D : Cst × List Evt) (d : Nat) {v : Value} {w w' : World} (h : resC p b1 mb many til gc nc cc k lo s0 s1 s2 et efr esq ekd edt D d v w) (u : Up w w') : resC p b1 mb many til gc nc cc k lo s0 s1 s2 et efr esq ekd edt D d v w' := by
  unfold resC at h ⊢
  by_cases h21 : d = 21
  · rw [if_pos h21] at h ⊢
    exact h
  rw [if_neg h21] at h ⊢
  by_cases h22 : d = 22
  · rw [if_pos h22] at h ⊢
    exact h
  rw [if_neg h22] at h ⊢
  by_cases h23 : d = 23
  · rw [if_pos h23] at h ⊢
    exact h
  rw [if_neg h23] at h ⊢
  by_cases h24 : d = 24
  · rw [if_pos h24] at h ⊢
    exact h
  rw [if_neg h24] at h ⊢
  by_cases h25 : d = 25
  · rw [if_pos h25] at h ⊢
    exact h
  rw [if_neg h25] at h ⊢
  by_cases h26 : d = 26
  · rw [if_pos h26] at h ⊢
    exact h
  rw [if_neg h26] at h ⊢
  by_cases h27 : d = 27
  · rw [if_pos h27] at h ⊢
    exact h
  rw [if_neg h27] at h ⊢
  by_cases h28 : d = 28
  · rw [if_pos h28] at h ⊢
    exact h
  rw [if_neg h28] at h ⊢
  by_cases h29 : d = 29
  · rw [if_pos h29] at h ⊢
    exact h
  rw [if_neg h29] at h ⊢
  by_cases h30 : d = 30
  · rw [if_pos h30] at h ⊢
    exact h
  rw [if_neg h30] at h ⊢
  by_cases h31 : d = 31
  · rw [if_pos h31] at h ⊢
    exact h
  rw [if_neg h31] at h ⊢
  by_cases h32 : d = 32
  · rw [if_pos h32] at h ⊢
    exact h
  rw [if_neg h32] at h ⊢
  by_cases h33 : d = 33
  · rw [if_pos h33] at h ⊢
    exact h
  rw [if_neg h33] at h ⊢
  by_cases h34 : d = 34
  · rw [if_pos h34] at h ⊢
    exact h.up u
  rw [if_neg h34] at h ⊢
  by_cases h20 : d = 20
  · rw [if_pos h20] at h ⊢
    exact h.up u
  rw [if_neg h20] at h ⊢
  by_cases h35 : d = 35
  · rw [if_pos h35] at h ⊢
    exact h
  rw [if_neg h35] at h ⊢
  by_cases h36 : d = 36
  · rw [if_pos h36] at h ⊢
    exact own_up h u
  rw [if_neg h36] at h ⊢
  by_cases h4 : d = 4
  · rw [if_pos h4] at h ⊢
    exact h.up u
  rw [if_neg h4] at h ⊢
  exact trivial
set_option maxHeartbeats 8000000 in
theorem step_any (lo mb : Nat) (many : Int) (nc nl : Nat) (cs : List Cst) (ls : List Rec) (p : Nat) (vc vl : Value) (g n c : Nat) (f : Nat → Evt) (m : Mdl) (e : Evt) (w0 w : World) (hS : Sim lo mb many m.til nc nl cs ls p vc vl g (n + 1) c f w)
    (hU : Up w0 w) (hlo : w0.heap.size ≤ lo) (hM : Mach w0 mb m) (he : f 0 = e) (hto : 0 ≤ e.to ∧ e.to < nc) (hok : mayB m (cs.getD e.to.toNat default) e = true) (hn : n + 1 ≤ 1049000) (hd : (doE m (cs.getD e.to.toNat default) e).2.length ≤ 100000) (hnl : nl + 1 ≤ 2000000) :
    Calls Try.prog 43 #[.pointer (some ⟨p, 0, none⟩)] w (StepPost lo mb many nc nl cs ls p n f m e w0) := by
  obtain ⟨i0, hi0, hz0, hz1, hz2⟩ := info_parts info41
  have INF := Lib.hid (And.intro hi0 (And.intro hz0 (And.intro hz1 hz2)))
  have SEV := Lib.hid (show 0 < 7 by omega)
  clear hi0 hz0 hz1 hz2; obtain ⟨Al, cl, rfl, -, -⟩ := (own7_slice hS.rl).2; unfold StepPost; obtain ⟨et, eto, efr, esq, ekd, edt⟩ := e; obtain ⟨k, hk⟩ : ∃ k : Nat, eto = (k : Int) := ⟨eto.toNat, by simp only at hto; omega⟩; subst hk; simp only [Int.toNat_natCast] at hok hd ⊢
  have hkn : k < nc := by simp only at hto; omega
  obtain ⟨gc, cc, hvc, hgc, hgl⟩ := hS.rc.form (by omega); subst hvc
  have CA := Lib.hid (show CstAt w gc (k * 3) (cs.getD k default) from by
    obtain ⟨b, off, hA, hb, hc⟩ := (own3_csts hS.rc).2 (by omega)
    injection hA with hA
    injection hA with h1 h2 _
    subst h1 h2
    have := hc k hkn
    rwa [Nat.zero_add] at this)
  generalize hst : cs.getD k default = stt at *
  obtain ⟨s0, s1, s2⟩ := stt
  have c4 := hS.c4
  have pl := hS.pl
  have HS := Lib.hid hS
  have HST := Lib.hid hst
  have HU := Lib.hid hU
  have HLO := Lib.hid hlo
  have HE := Lib.hid he
  have HK := Lib.hid hkn
  have kn1 : (k : Int) < (nc : Int) := by omega
  have kn0 : (0 : Int) ≤ (k : Int) := by omega
  have nz : ¬ (((n + 1 : Nat) : Int) = 0) := by omega
  have HN := Lib.hid hn
  have PO := Lib.hid (hpPop_any lo p 4 g n c f w hS.hp hS.hf hS.apq hS.c4 (hS.fz 4) hS.pl (by omega))
  unfold PopPost at PO; rw [he] at PO
  have PR := Lib.hid (fun W (u : Up w0 W) => process_any mb many m ⟨s0, s1, s2⟩ ⟨et, k, efr, esq, ekd, edt⟩ W (hM.up u) hok)
  have AC := Lib.hid (And.intro (hS.apc gc rfl) (hS.agc gc rfl))
  have HDL := Lib.hid hd
  have HMX := Lib.hid (show nl + 1 ≤ maxLen by simp only [maxLen]; omega)
  have HBY := Lib.hid (show (nl + 1) * 56 ≤ 140737488355328 by omega)
  have GL := Lib.hid hgl
  clear hd hnl hS hU hM hlo he hn hok hto hkn hst hgc hgl; unfold ProcPost at PR
  have TA := fun W : World => (show (Instr.typeAssert (.iface 39 (.agg #[.int .i64 et, .int .i64 (k : Int), .int .i64 efr, .int .i64 esq, .int .i64 ekd, .int .i64 edt])) 20 39 false).run Try.prog W = .ok (.agg #[.int .i64 et, .int .i64 (k : Int), .int .i64 efr, .int .i64 esq, .int .i64 ekd, .int .i64 edt]) W from rfl)
  go_enter Try.func43, Try.ntmps43
  go_wp2_with fail
  refine PO.out.mono ?_; rintro x w1 ⟨rfl, F, h1, hf1, hc1, hp1, s1⟩
  have S1 := Lib.hid (HS.out.pop h1 hf1 hc1 s1)
  have UP1 := Lib.hid (s1.up0 HU.out (by have := HS.out.pge; have := HLO.out; omega) (by have := h1.lo; have := HLO.out; omega))
  have P1 := Lib.hid hp1
  have CA := Lib.hid (CA.out.keep (w' := w1) fun j => World.cell?_of_block (s1.block gc GL.out AC.out.1 AC.out.2))
  have GL := Lib.hid (Nat.lt_of_lt_of_le GL.out s1.size)
  clear h1 hf1 hc1 hp1 s1 PO c4 pl HU; unfold Evt.v; dsimp only
  go_wp2_with fail
  clear TA
  have UA := (Up.refl w1).alloc (.cells #[.int .i64 et, .int .i64 (k : Int), .int .i64 efr, .int .i64 esq, .int .i64 ekd, .int .i64 edt] 39)
  have S2 := Lib.hid (S1.out.up UA)
  have UP2 := Lib.hid (UP1.out.trans UA)
  have EB := Lib.hid (Box.new w1 ⟨et, k, efr, esq, ekd, edt⟩ 39)
  have CA := Lib.hid (CA.out.up UA GL.out)
  have CL := Lib.hid (Nat.lt_of_lt_of_le GL.out UA.size)
  have PL := Lib.hid S2.out.pl
  have AP1 := Lib.hid (And.intro S1.out.pl (And.intro S1.out.hp.row.1 GL.out))
  clear UA S1 UP1 GL; dsimp only at EB
  generalize hW2 : w1.alloc (.cells #[.int .i64 et, .int .i64 (k : Int), .int .i64 efr, .int .i64 esq, .int .i64 ekd, .int .i64 edt] 39) = W2 at *
  generalize hb1 : w1.heap.size = b1 at *
  refine region_relyT 18 [(14, 16)] [(18, false), (19, false)] [21, 22, 23, 24, 25, 26, 27, 28, 29, 30, 31, 32, 33, 34, 20, 35, 36, 4] 17 (fun _ w1 => Up W2 w1) Up (fun i v w => resC p b1 mb many m.til gc nc cc k W2.heap.size s0 s1 s2 et efr esq ekd edt (doE m ⟨s0, s1, s2⟩ ⟨et, k, efr, esq, ekd, edt⟩) i v w) (by kernel_rfl) (by kernel_rfl) (by kernel_rfl) (by kernel_rfl) ((Up.refl _).drew) (fun slot_ _ _ _ h u => resC_up p b1 mb many m.til gc nc cc k W2.heap.size s0 s1 s2 et efr esq ekd edt (doE m ⟨s0, s1, s2⟩ ⟨et, k, efr, esq, ekd, edt⟩) slot_ h u) ?_ ?_ ?_
  · simp only [List.take_succ_cons, List.take_zero]
    refine stepsT_op (by kernel_rfl) ?_ ?_
    · intro X w1 k1 hG hdep
      simp only [opW_def, mixT]; go_simp
      exact ⟨⟨.pointer (some ⟨p, 0, none⟩), by first | rfl | simp [Act.put], Up.refl _, hG, (show resC p b1 mb many m.til gc nc cc k W2.heap.size s0 s1 s2 et efr esq ekd edt (doE m ⟨s0, s1, s2⟩ ⟨et, k, efr, esq, ekd, edt⟩) 21 _ _ from by first | (rw [resC_21]; exact rfl) | rw [resC_21])⟩⟩
    refine stepsT_op (by kernel_rfl) ?_ ?_
    · intro X w1 k1 hG hdep
      have e21 : resC p b1 mb many m.til gc nc cc k W2.heap.size s0 s1 s2 et efr esq ekd edt (doE m ⟨s0, s1, s2⟩ ⟨et, k, efr, esq, ekd, edt⟩) 21 (X 21) w1 := hdep 21 (by decide +kernel)
      rw [resC_21] at e21; simp only [opW_def, mixT, e21]; go_simp
      exact ⟨⟨.pointer (some ⟨p, 0, none⟩), by first | rfl | simp [Act.put], Up.refl _, hG, (show resC p b1 mb many m.til gc nc cc k W2.heap.size s0 s1 s2 et efr esq ekd edt (doE m ⟨s0, s1, s2⟩ ⟨et, k, efr, esq, ekd, edt⟩) 22 _ _ from by first | (rw [resC_22]; exact rfl) | rw [resC_22])⟩⟩
    refine stepsT_op (by kernel_rfl) ?_ ?_
    · intro X w1 k1 hG hdep
      have e22 : resC p b1 mb many m.til gc nc cc k W2.heap.size s0 s1 s2 et efr esq ekd edt (doE m ⟨s0, s1, s2⟩ ⟨et, k, efr, esq, ekd, edt⟩) 22 (X 22) w1 := hdep 22 (by decide +kernel)
      rw [resC_22] at e22
      have lp := Nat.lt_of_lt_of_le PL.out hG.size
      simp only [opW_def, mixT, e22]; go_simp
      exact ⟨⟨.pointer (some ⟨p, 0, none⟩), by first | rfl | simp [Act.put], Up.refl _, hG, (show resC p b1 mb many m.til gc nc cc k W2.heap.size s0 s1 s2 et efr esq ekd edt (doE m ⟨s0, s1, s2⟩ ⟨et, k, efr, esq, ekd, edt⟩) 23 _ _ from by first | (rw [resC_23]; exact rfl) | rw [resC_23])⟩⟩
    refine stepsT_op (by kernel_rfl) ?_ ?_
    · intro X w1 k1 hG hdep
      have e23 : resC p b1 mb many m.til gc nc cc k W2.heap.size s0 s1 s2 et efr esq ekd edt (doE m ⟨s0, s1, s2⟩ ⟨et, k, efr, esq, ekd, edt⟩) 23 (X 23) w1 := hdep 23 (by decide +kernel)
      rw [resC_23] at e23; obtain ⟨q0, q1, q2, q3⟩ := And.intro ((hG.cells _ _ PL.out).trans S2.out.c0) (And.intro ((hG.cells _ _ PL.out).trans S2.out.c1) (And.intro ((hG.cells _ _ PL.out).trans S2.out.c2) ((hG.cells _ _ PL.out).trans S2.out.c3)))
      have lp := Nat.lt_of_lt_of_le PL.out hG.size
      simp only [opW_def, mixT, e23]; go_simp
      exact ⟨⟨.agg #[.map (some mb), .int .i64 many, .int .i64 m.til], by first | rfl | simp [Act.put], Up.refl _, hG, (show resC p b1 mb many m.til gc nc cc k W2.heap.size s0 s1 s2 et efr esq ekd edt (doE m ⟨s0, s1, s2⟩ ⟨et, k, efr, esq, ekd, edt⟩) 24 _ _ from by first | (rw [resC_24]; exact rfl) | rw [resC_24])⟩⟩
    refine stepsT_op (by kernel_rfl) ?_ ?_
    · intro X w1 k1 hG hdep
      simp only [opW_def, mixT]; go_simp
      exact ⟨⟨.pointer (some ⟨p, 0, none⟩), by first | rfl | simp [Act.put], Up.refl _, hG, (show resC p b1 mb many m.til gc nc cc k W2.heap.size s0 s1 s2 et efr esq ekd edt (doE m ⟨s0, s1, s2⟩ ⟨et, k, efr, esq, ekd, edt⟩) 25 _ _ from by first | (rw [resC_25]; exact rfl) | rw [resC_25])⟩⟩
    refine stepsT_op (by kernel_rfl) ?_ ?_
    · intro X w1 k1 hG hdep
      have e25 : resC p b1 mb many m.til gc nc cc k W2.heap.size s0 s1 s2 et efr esq ekd edt (doE m ⟨s0, s1, s2⟩ ⟨et, k, efr, esq, ekd, edt⟩) 25 (X 25) w1 := hdep 25 (by decide +kernel)
      rw [resC_25] at e25; simp only [opW_def, mixT, e25]; go_simp
      exact ⟨⟨.pointer (some ⟨p, 0, none⟩), by first | rfl | simp [Act.put], Up.refl _, hG, (show resC p b1 mb many m.til gc nc cc k W2.heap.size s0 s1 s2 et efr esq ekd edt (doE m ⟨s0, s1, s2⟩ ⟨et, k, efr, esq, ekd, edt⟩) 26 _ _ from by first | (rw [resC_26]; exact rfl) | rw [resC_26])⟩⟩
    refine stepsT_op (by kernel_rfl) ?_ ?_
    · intro X w1 k1 hG hdep
      have e26 : resC p b1 mb many m.til gc nc cc k W2.heap.size s0 s1 s2 et efr esq ekd edt (doE m ⟨s0, s1, s2⟩ ⟨et, k, efr, esq, ekd, edt⟩) 26 (X 26) w1 := hdep 26 (by decide +kernel)
      rw [resC_26] at e26
      have lp := Nat.lt_of_lt_of_le PL.out hG.size
      simp only [opW_def, mixT, e26]; go_simp
      exact ⟨⟨.pointer (some ⟨p, 3, none⟩), by first | rfl | simp [Act.put], Up.refl _, hG, (show resC p b1 mb many m.til gc nc cc k W2.heap.size s0 s1 s2 et efr esq ekd edt (doE m ⟨s0, s1, s2⟩ ⟨et, k, efr, esq, ekd, edt⟩) 27 _ _ from by first | (rw [resC_27]; exact rfl) | rw [resC_27])⟩⟩
    refine stepsT_op (by kernel_rfl) ?_ ?_
    · intro X w1 k1 hG hdep
      have e27 : resC p b1 mb many m.til gc nc cc k W2.heap.size s0 s1 s2 et efr esq ekd edt (doE m ⟨s0, s1, s2⟩ ⟨et, k, efr, esq, ekd, edt⟩) 27 (X 27) w1 := hdep 27 (by decide +kernel)
      rw [resC_27] at e27; obtain ⟨q0, q1, q2, q3⟩ := And.intro ((hG.cells _ _ PL.out).trans S2.out.c0) (And.intro ((hG.cells _ _ PL.out).trans S2.out.c1) (And.intro ((hG.cells _ _ PL.out).trans S2.out.c2) ((hG.cells _ _ PL.out).trans S2.out.c3)))
      have lp := Nat.lt_of_lt_of_le PL.out hG.size
      simp only [opW_def, mixT, e27]; go_simp
      exact ⟨⟨.slice (some ⟨gc, 0, none⟩) nc cc, by first | rfl | simp [Act.put], Up.refl _, hG, (show resC p b1 mb many m.til gc nc cc k W2.heap.size s0 s1 s2 et efr esq ekd edt (doE m ⟨s0, s1, s2⟩ ⟨et, k, efr, esq, ekd, edt⟩) 28 _ _ from by first | (rw [resC_28]; exact rfl) | rw [resC_28])⟩⟩
    refine stepsT_op (by kernel_rfl) ?_ ?_
    · intro X w1 k1 hG hdep
      have eb := EB.out.up hG
      have lb := eb.lt
      obtain ⟨⟨g0, g1, g2, g3, g4, g5⟩, _⟩ := eb.mk6; simp only [opW_def, mixT]; go_simp
      exact ⟨⟨.pointer (some ⟨b1, 1, none⟩), by first | rfl | simp [Act.put], Up.refl _, hG, (show resC p b1 mb many m.til gc nc cc k W2.heap.size s0 s1 s2 et efr esq ekd edt (doE m ⟨s0, s1, s2⟩ ⟨et, k, efr, esq, ekd, edt⟩) 29 _ _ from by first | (rw [resC_29]; exact rfl) | rw [resC_29])⟩⟩
    refine stepsT_op (by kernel_rfl) ?_ ?_
    · intro X w1 k1 hG hdep
      have e29 : resC p b1 mb many m.til gc nc cc k W2.heap.size s0 s1 s2 et efr esq ekd edt (doE m ⟨s0, s1, s2⟩ ⟨et, k, efr, esq, ekd, edt⟩) 29 (X 29) w1 := hdep 29 (by decide +kernel)
      rw [resC_29] at e29
      have eb := EB.out.up hG
      have lb := eb.lt
      obtain ⟨⟨g0, g1, g2, g3, g4, g5⟩, _⟩ := eb.mk6; simp only [opW_def, mixT, e29]; go_simp
      exact ⟨⟨.int .i64 (k : Int), by first | rfl | simp [Act.put], Up.refl _, hG, (show resC p b1 mb many m.til gc nc cc k W2.heap.size s0 s1 s2 et efr esq ekd edt (doE m ⟨s0, s1, s2⟩ ⟨et, k, efr, esq, ekd, edt⟩) 30 _ _ from by first | (rw [resC_30]; exact rfl) | rw [resC_30])⟩⟩
    refine stepsT_op (by kernel_rfl) ?_ ?_
    · intro X w1 k1 hG hdep
      have e28 : resC p b1 mb many m.til gc nc cc k W2.heap.size s0 s1 s2 et efr esq ekd edt (doE m ⟨s0, s1, s2⟩ ⟨et, k, efr, esq, ekd, edt⟩) 28 (X 28) w1 := hdep 28 (by decide +kernel)
      rw [resC_28] at e28
      have e30 : resC p b1 mb many m.til gc nc cc k W2.heap.size s0 s1 s2 et efr esq ekd edt (doE m ⟨s0, s1, s2⟩ ⟨et, k, efr, esq, ekd, edt⟩) 30 (X 30) w1 := hdep 30 (by decide +kernel)
      rw [resC_30] at e30; obtain ⟨r0, r1, r2⟩ := CA.out.up hG CL.out
      have lc := Nat.lt_of_lt_of_le CL.out hG.size
      simp only [opW_def, mixT, e28, e30]; go_simp
      exact ⟨⟨.pointer (some ⟨gc, k * 3, none⟩), by first | rfl | simp [Act.put], Up.refl _, hG, (show resC p b1 mb many m.til gc nc cc k W2.heap.size s0 s1 s2 et efr esq ekd edt (doE m ⟨s0, s1, s2⟩ ⟨et, k, efr, esq, ekd, edt⟩) 31 _ _ from by first | (rw [resC_31]; exact rfl) | rw [resC_31])⟩⟩
    refine stepsT_op (by kernel_rfl) ?_ ?_
    · intro X w1 k1 hG hdep
      have e31 : resC p b1 mb many m.til gc nc cc k W2.heap.size s0 s1 s2 et efr esq ekd edt (doE m ⟨s0, s1, s2⟩ ⟨et, k, efr, esq, ekd, edt⟩) 31 (X 31) w1 := hdep 31 (by decide +kernel)
      rw [resC_31] at e31; obtain ⟨r0, r1, r2⟩ := CA.out.up hG CL.out
      have lc := Nat.lt_of_lt_of_le CL.out hG.size
      simp only [opW_def, mixT, e31]; go_simp
      exact ⟨⟨.agg #[.int .i64 s0, .int .i64 s1, .int .i64 s2], by first | rfl | simp [Act.put], Up.refl _, hG, (show resC p b1 mb many m.til gc nc cc k W2.heap.size s0 s1 s2 et efr esq ekd edt (doE m ⟨s0, s1, s2⟩ ⟨et, k, efr, esq, ekd, edt⟩) 32 _ _ from by first | (rw [resC_32]; exact rfl) | rw [resC_32])⟩⟩
    refine stepsT_op (by kernel_rfl) ?_ ?_
    · intro X w1 k1 hG hdep
      have eb := EB.out.up hG
      have lb := eb.lt
      obtain ⟨⟨g0, g1, g2, g3, g4, g5⟩, _⟩ := eb.mk6; simp only [opW_def, mixT]; go_simp
      exact ⟨⟨.agg #[.int .i64 et, .int .i64 (k : Int), .int .i64 efr, .int .i64 esq, .int .i64 ekd, .int .i64 edt], by first | rfl | simp [Act.put], Up.refl _, hG, (show resC p b1 mb many m.til gc nc cc k W2.heap.size s0 s1 s2 et efr esq ekd edt (doE m ⟨s0, s1, s2⟩ ⟨et, k, efr, esq, ekd, edt⟩) 33 _ _ from by first | (rw [resC_33]; exact rfl) | rw [resC_33])⟩⟩
    refine stepsT_op (by kernel_rfl) ?_ ?_
    · intro X w1 k1 hG hdep
      have e24 : resC p b1 mb many m.til gc nc cc k W2.heap.size s0 s1 s2 et efr esq ekd edt (doE m ⟨s0, s1, s2⟩ ⟨et, k, efr, esq, ekd, edt⟩) 24 (X 24) w1 := hdep 24 (by decide +kernel)
      rw [resC_24] at e24
      have e32 : resC p b1 mb many m.til gc nc cc k W2.heap.size s0 s1 s2 et efr esq ekd edt (doE m ⟨s0, s1, s2⟩ ⟨et, k, efr, esq, ekd, edt⟩) 32 (X 32) w1 := hdep 32 (by decide +kernel)
      rw [resC_32] at e32
      have e33 : resC p b1 mb many m.til gc nc cc k W2.heap.size s0 s1 s2 et efr esq ekd edt (doE m ⟨s0, s1, s2⟩ ⟨et, k, efr, esq, ekd, edt⟩) 33 (X 33) w1 := hdep 33 (by decide +kernel)
      rw [resC_33] at e33; simp only [opW_def, mixT, e24, e32, e33]; go_simp; refine (PR.out w1 (UP2.out.trans hG)).mono ?_; rintro x w2 ⟨v, rfl, ho, u⟩
      exact ⟨⟨_, by first | rfl | simp [Act.put], u, hG.trans u, (show resC p b1 mb many m.til gc nc cc k W2.heap.size s0 s1 s2 et efr esq ekd edt (doE m ⟨s0, s1, s2⟩ ⟨et, k, efr, esq, ekd, edt⟩) 34 _ _ from by first | (rw [resC_34]; exact ⟨v, rfl, own_mono ho hG.size⟩) | rw [resC_34])⟩⟩
    refine stepsT_op (by kernel_rfl) ?_ ?_
    · intro X w1 k1 hG hdep
      have e34 : resC p b1 mb many m.til gc nc cc k W2.heap.size s0 s1 s2 et efr esq ekd edt (doE m ⟨s0, s1, s2⟩ ⟨et, k, efr, esq, ekd, edt⟩) 34 (X 34) w1 := hdep 34 (by decide +kernel)
      rw [resC_34] at e34; obtain ⟨v, e34, ho⟩ := e34; simp only [opW_def, mixT, e34]; go_simp
      exact ⟨⟨_, by first | rfl | simp [Act.put], Up.refl _, hG, (show resC p b1 mb many m.til gc nc cc k W2.heap.size s0 s1 s2 et efr esq ekd edt (doE m ⟨s0, s1, s2⟩ ⟨et, k, efr, esq, ekd, edt⟩) 20 _ _ from by first | (rw [resC_20]; exact ⟨v, rfl, ho⟩) | rw [resC_20])⟩⟩
    refine stepsT_op (by kernel_rfl) ?_ ?_
    · intro X w1 k1 hG hdep
      have e20 : resC p b1 mb many m.til gc nc cc k W2.heap.size s0 s1 s2 et efr esq ekd edt (doE m ⟨s0, s1, s2⟩ ⟨et, k, efr, esq, ekd, edt⟩) 20 (X 20) w1 := hdep 20 (by decide +kernel)
      rw [resC_20] at e20; obtain ⟨v, e20, ho⟩ := e20; simp only [opW_def, mixT, e20]; go_simp
      exact ⟨⟨_, by first | rfl | simp [Act.put], Up.refl _, hG, (show resC p b1 mb many m.til gc nc cc k W2.heap.size s0 s1 s2 et efr esq ekd edt (doE m ⟨s0, s1, s2⟩ ⟨et, k, efr, esq, ekd, edt⟩) 35 _ _ from by first | (rw [resC_35]; exact rfl) | rw [resC_35])⟩⟩
    refine stepsT_guest (by kernel_rfl) ?_; refine stepsT_op (by kernel_rfl) ?_ ?_
    · intro X w1 k1 hG hdep
      have hlo := hG.size
      simp only [opW_def, mixT]; go_simp
      exact ⟨⟨_, by first | rfl | simp [Act.put], (Up.refl _).alloc _, hG.alloc _, (show resC p b1 mb many m.til gc nc cc k W2.heap.size s0 s1 s2 et efr esq ekd edt (doE m ⟨s0, s1, s2⟩ ⟨et, k, efr, esq, ekd, edt⟩) 4 _ _ from by first | (rw [resC_4]; exact ⟨w1.heap.size, rfl, hlo, BoxF.new w1 _ _ _ _, _, _, heap_alloc_new w1 _⟩) | rw [resC_4])⟩⟩
    exact trivial
  · intro h p _ hp
    obtain ⟨rfl, rfl⟩ := gOf_one hp; intro X w1 o ho hr
    have ho2 : some _ = some o := ho
    injection ho2 with ho2
    subst ho2
    have e20 : resC p b1 mb many m.til gc nc cc k W2.heap.size s0 s1 s2 et efr esq ekd edt (doE m ⟨s0, s1, s2⟩ ⟨et, k, efr, esq, ekd, edt⟩) 20 (X 20) w1 := hr
    rw [resC_20] at e20; obtain ⟨v, e20, ho⟩ := e20; refine ⟨v, fun w2 => ?_, (show resC p b1 mb many m.til gc nc cc k W2.heap.size s0 s1 s2 et efr esq ekd edt (doE m ⟨s0, s1, s2⟩ ⟨et, k, efr, esq, ekd, edt⟩) 36 _ _ from by first | (rw [resC_36]; exact ho) | rw [resC_36])⟩; simp only [mixT, e20]; go_simp
  · intro X w3 hG hR
    have e35 : resC p b1 mb many m.til gc nc cc k W2.heap.size s0 s1 s2 et efr esq ekd edt (doE m ⟨s0, s1, s2⟩ ⟨et, k, efr, esq, ekd, edt⟩) 35 (X 35) w3 := hR 15 (by omega)
    rw [resC_35] at e35
    have e36 : resC p b1 mb many m.til gc nc cc k W2.heap.size s0 s1 s2 et efr esq ekd edt (doE m ⟨s0, s1, s2⟩ ⟨et, k, efr, esq, ekd, edt⟩) 36 (X 36) w3 := hR 16 (by omega)
    rw [resC_36] at e36
    have e4 : resC p b1 mb many m.til gc nc cc k W2.heap.size s0 s1 s2 et efr esq ekd edt (doE m ⟨s0, s1, s2⟩ ⟨et, k, efr, esq, ekd, edt⟩) 4 (X 4) w3 := hR 17 (by omega)
    rw [resC_4] at e4; obtain ⟨b4, e4, lb4, xb, cur4, fz4, hb4⟩ := e4; clear hR PR CA CL HST
    generalize hD : doE m ⟨s0, s1, s2⟩ ⟨et, k, efr, esq, ekd, edt⟩ = D at *
    obtain ⟨⟨t0, t1, t2⟩, ds⟩ := D; obtain ⟨hds, As, csp, hXs, -, hcm⟩ := own_slice e36; rw [hXs] at e36
    have e35 : X 35 = .agg #[.int .i64 t0, .int .i64 t1, .int .i64 t2] := e35
    have HD := Lib.hid hD
    have XB := Lib.hid xb
    obtain ⟨b0, bb1, bb2⟩ := And.intro XB.out.k.c0 (And.intro XB.out.k.c1 XB.out.k.c2)
    have bl := XB.out.k.lt
    have bf := XB.out.f
    have OFF := Lib.hid (own_off e36 hb4 (by decide))
    clear hD xb hds; simp only [mixT, e35, hXs, e4]; refine mix_go rfl (by rfl) (fun K hK => ?_); go_simp; refine hK _ _ ?_; clear hK K; refine mix_go rfl (by rfl) (fun K hK => ?_); go_simp; refine hK _ _ ?_; clear hK K; refine mix_nil ?_
    have LB := Lib.hid (XB.out.laid (.int .i64 t0) (.int .i64 t1) (.int .i64 t2))
    have MX := ((((Up.refl w3).mv b4).setCell (o := 0) (.int .i64 t0)).setCell (o := 1) (.int .i64 t1) |>.setCell (o := 2) (.int .i64 t2))
    have UX := MX.up hG lb4
    have S4 := Lib.hid (S2.out.up UX)
    have UP4 := Lib.hid (UP2.out.trans UX)
    have EB4 := Lib.hid ((EB.out.up UX).ev6)
    have OW4 := Lib.hid (own_keep e36 (fun x hx hl => MX.block x hl (OFF.out x hx)))
    have APT := Lib.hid (And.intro (show p < W2.heap.size from PL.out) (And.intro S2.out.hp.row.1 (And.intro EB.out.lt lb4)))
    clear hG e35 e36 e4 lb4 b0 bb1 bb2 bf XB hb4 MX UX S2 UP2 EB PL OFF
    generalize ((w3.setCell ⟨b4, 0, none⟩ (.int .i64 t0)).setCell ⟨b4, 1, none⟩ (.int .i64 t1)).setCell ⟨b4, 2, none⟩ (.int .i64 t2) = W4 at *
    clear bl
    go_wp2_with fail
    go_loopw [39] (fun v wr => LpR lo mb many m.til nc nl cs ls p (.slice (some ⟨gc, 0, none⟩) nc cc) (.slice Al nl cl) g n F ds W4 v wr) (fun v _ => ds.length - (intOf v).toNat)
    case atStart => exact ⟨0, g, c, F, rfl, Nat.zero_le _, S4.out, HS2.of_up (Up.refl _) S4.out.pl, .inl rfl, by simp⟩
    case round =>
      obtain ⟨i, g', c', F', rfl, hi, hs, h2, hg', hp'⟩ := hrel
      have SI := Lib.hid hs
      have H2 := Lib.hid h2
      have HG := Lib.hid hg'
      have HP := Lib.hid hp'
      have HI := Lib.hid hi
      clear hs h2 hg' hp' hi
      by_cases hil : i < ds.length
      · have OWi := own_keep OW4.out (fun x hx hl => H2.out.block x hl (by have := own_ge OW4.out x hx; have := APT.out; omega) (by have := own_ge OW4.out x hx; have := APT.out; omega))
        obtain ⟨gs, csp', hv, hge, hgsl⟩ := OWi.form (by omega)
        injection hv with hA _ hcs
        subst hA; subst hcs
        have hev : EvAt wr gs (i * 6) (ds.getD i default) := (Row.of_own OWi (by omega)).2.1 i hil
        generalize hei : ds.getD i default = ei at hev
        have HEI := Lib.hid hei
        obtain ⟨zt, zto, zfr, zsq, zkd, zdt⟩ := ei; obtain ⟨a0, a1, a2, a3, a4, a5⟩ := hev; dsimp only at a0 a1 a2 a3 a4 a5
        have j1 : (i : Int) < (ds.length : Int) := by omega
        have j2 : (0 : Int) ≤ (i : Int) := by omega
        have j3 : IntKind.i64.wrap ((i : Int) + 1) = (i : Int) + 1 := IntWalk.i64_in _ (by have := HDL.out; omega)
        have J3 := Lib.hid j3
        have GE := Lib.hid hge
        clear OWi hei hge j3
        go_wp2_with fail
        clear a0 a1 a2 a3 a4 a5
        have UB := ((Up.refl wr).alloc (.cells #[.int .i64 zt, .int .i64 zto, .int .i64 zfr, .int .i64 zsq, .int .i64 zkd, .int .i64 zdt] 39)).drew
        have S5 := Lib.hid (SI.out.up UB)
        have E7 := Lib.hid ((show Ev6 ((wr.alloc (.cells #[.int .i64 zt, .int .i64 zto, .int .i64 zfr, .int .i64 zsq, .int .i64 zkd, .int .i64 zdt] 39)).drew) wr.heap.size zt zto zfr zsq zkd zdt from ((Box.new wr ⟨zt, zto, zfr, zsq, zkd, zdt⟩ 39).up ((Up.refl _).drew)).ev6))
        have PU := Lib.hid (hpPush_any lo p 4 g' (n + i) c' F' ⟨zt, zto, zfr, zsq, zkd, zdt⟩ _ S5.out.hp S5.out.hf S5.out.apq S5.out.pl S5.out.c4 (S5.out.fz 4) (by have := S5.out.pge; have := S5.out.pl; omega) (by have := HN.out; have := HDL.out; omega))
        unfold PushPost at PU
        have HSB := Lib.hid (HS2.of_up (p := p) (o := 4) (g := g') UB SI.out.pl)
        clear UB; refine region_mixH (fun w1 => p < w1.heap.size ∧ Ev6 w1 wr.heap.size zt zto zfr zsq zkd zdt) [(0, true), (1, true), (2, true), (3, true), (4, true), (5, true), (6, false)] (by kernel_rfl) (by kernel_rfl) ⟨S5.out.pl, E7.out⟩ ?_; refine mixH_take rfl (by rfl) ?_; apply Exists.intro; refine ⟨fun w1 hS1 => ?_, ?_⟩
        · clear hS1
          go_simp
          try rfl
        go_simp; refine mixH_take rfl (by rfl) ?_; apply Exists.intro; refine ⟨fun w1 hS1 => ?_, ?_⟩
        · clear hS1
          go_simp
          try rfl
        go_simp; refine mixH_take rfl (by rfl) ?_; apply Exists.intro; refine ⟨fun w1 hS1 => ?_, ?_⟩
        · obtain ⟨sp, sb, t0_, t1_, t2_, t3_, t4_, t5_⟩ := hS1
          go_simp
          try rfl
        go_simp; refine mixH_take rfl (by rfl) ?_; apply Exists.intro; refine ⟨fun w1 hS1 => ?_, ?_⟩
        · clear hS1
          go_simp
          try rfl
        go_simp; refine mixH_take rfl (by rfl) ?_; apply Exists.intro; refine ⟨fun w1 hS1 => ?_, ?_⟩
        · obtain ⟨sp, sb, t0_, t1_, t2_, t3_, t4_, t5_⟩ := hS1
          go_simp
          try rfl
        go_simp; refine mixH_take rfl (by rfl) ?_; apply Exists.intro; refine ⟨fun w1 hS1 => ?_, ?_⟩
        · clear hS1
          go_simp
          try rfl
        go_simp; refine mixH_go rfl (by rfl) (fun K hK => ?_); go_simp; refine (PU.out).mono ?_; rintro x w6 ⟨rfl, g6, c6, F6, h6, hf6, hc6, hg6, hp6, s6⟩; refine hK _ _ (⟨Nat.lt_of_lt_of_le S5.out.pl s6.size, E7.out.keep s6.size (s6.block _ E7.out.1 (by have := SI.out.pl; omega) (by have := SI.out.hp.row.1; omega))⟩) ?_; clear hK K; go_simp; refine mixH_nil ?_
        have RES := Lib.hid (show LpR lo mb many m.til nc nl cs ls p (.slice (some ⟨gc, 0, none⟩) nc cc) (.slice Al nl cl) g n F ds W4 (.int .i64 ((i : Int) + 1)) w6 from
          ⟨i + 1, g6, c6, F6, by first | rfl | go_num, by omega, S5.out.push h6 hf6 hc6 hg6 s6, (H2.out.trans HG.out HSB.out).trans HG.out s6, by have h1 := H2.out.size; have h2 := HSB.out.size; have h3 := HG.out; omega, perm_join hp6 HP.out HEI.out hil⟩)
        clear h6 hf6 hc6 hg6 hp6 s6 PU S5 E7 HSB
        have j3 := J3.out
        go_wp2
        go_roundw
        case rel => exact RES.out
        case measure => (simp [intOf]; try omega)
      · have j1 : ¬ ((i : Int) < (ds.length : Int)) := by omega
        have hie : i = ds.length := by have := HI.out; omega
        subst hie
        have EV := Lib.hid (EB4.out.keep H2.out.size (H2.out.block b1 EB4.out.1 (by have := AP1.out; omega) (by have := AP1.out; omega)))
        have BX := Lib.hid (LB.out.keepB H2.out.size (H2.out.block b4 LB.out.lt (by have := APT.out; omega) (by have := APT.out; omega)))
        have c3 := SI.out.c3
        have pl := SI.out.pl
        obtain ⟨hb1l, v0, v1, v2, v3, v4, v5⟩ := EV.out; obtain ⟨u0, u1, u2⟩ := And.intro BX.out.c0 (And.intro BX.out.c1 BX.out.c2)
        have CAr := Lib.hid (cst_at SI.out.rc HK.out)
        obtain ⟨g0, g1, g2⟩ := CAr.out
        have gl := (own_ge SI.out.rc gc rfl).2
        have gf : ∀ j, wr.frozen? ⟨gc, j, none⟩ = false := fun j => SI.out.rc.frozenAt j
        go_wp2_with fail
        go_region
        have MX6 := ((((Up.refl wr).mv gc).setCell (o := k * 3) (.int .i64 t0)).setCell (o := k * 3 + 1) (.int .i64 t1) |>.setCell (o := k * 3 + 2) (.int .i64 t2))
        have S6 := Lib.hid ((SI.out.set ⟨t0, t1, t2⟩ HK.out).up ((Up.refl _).drew))
        have UPr := H2.out.up0 UP4.out (by have := SI.out.pge; have := HLO.out; omega) (by have := S4.out.hp.lo; have := HLO.out; omega)
        have UP6 := Lib.hid ((MX6.up UPr (by have := (own_ge SI.out.rc gc rfl).1; have := HLO.out; omega)).drew)
        have EV6 := Lib.hid ((EV.out.keep MX6.size (MX6.block b1 hb1l (by have := AP1.out; omega))).up ((Up.refl _).drew))
        have BX6 := Lib.hid ((BX.out.keepB MX6.size (MX6.block b4 BX.out.lt (by have := AP1.out; have := APT.out; have := EB4.out.1; omega))).up ((Up.refl _).drew))
        have HR := Lib.hid (show ((List.range (n + ds.length)).map F').Perm (ds ++ (List.range n).map F) from by have := HP.out; rwa [List.take_length] at this)
        clear MX6 UPr c3 pl hb1l v0 v1 v2 v3 v4 v5 u0 u1 u2 g0 g1 g2 gl gf CAr EV BX SI H2 HG HP HI j1 LB EB4 OW4 S4 UP4; dsimp only at S6 EV6 BX6
        generalize (((wr.setCell ⟨gc, k * 3, none⟩ (.int .i64 t0)).setCell ⟨gc, k * 3 + 1, none⟩ (.int .i64 t1)).setCell ⟨gc, k * 3 + 2, none⟩ (.int .i64 t2)).drew = W6 at *
        have c5 := S6.out.c5
        have pl := S6.out.pl
        have pf := S6.out.fz
        obtain ⟨hb1l, v0, v1, v2, v3, v4, v5⟩ := EV6.out; obtain ⟨u0, u1, u2⟩ := And.intro BX6.out.c0 (And.intro BX6.out.c1 BX6.out.c2)
        have bl4 := BX6.out.lt
        have S7 := Lib.hid (S6.out.up (((Up.refl W6).alloc (.cells #[.int .i64 et, .int .i64 (k : Int), .int .i64 efr, .int .i64 esq, .int .i64 ekd, .int .i64 edt, .int .i64 t0] 41)).drew))
        have UP7 := Lib.hid (UP6.out.trans (((Up.refl W6).alloc (.cells #[.int .i64 et, .int .i64 (k : Int), .int .i64 efr, .int .i64 esq, .int .i64 ekd, .int .i64 edt, .int .i64 t0] 41)).drew))
        have RDX := Lib.hid (rec1_new W6 et k efr esq ekd edt t0 41)
        have HBS := Lib.hid (show lo ≤ (W6.alloc (.cells #[.int .i64 et, .int .i64 (k : Int), .int .i64 efr, .int .i64 esq, .int .i64 ekd, .int .i64 edt, .int .i64 t0] 41)).heap.size by have := S6.out.pge; simp; omega)
        go_wp2_with fail
        go_region_law (refine wp_append_any _ (.tmp 63) (.tmp 68) 29 rfl lo 41 i0 _ 7 56 Try.underlying29 INF.out.1 INF.out.2.1 INF.out.2.2.1 INF.out.2.2.2 rfl SEV.out (.slice Al nl cl) nl (flat7 ls) (by go_simp) S7.out.rl _ (some ⟨W6.heap.size, 0, none⟩) 1 1 (flat7 [⟨⟨et, k, efr, esq, ekd, edt⟩, t0⟩]) (by go_simp) RDX.out (flat7_one _) HMX.out HBY.out HBS.out ?_; intro v6 w6 ho6 hg6 hv6; obtain ⟨g6, c6, rfl, hgb6, hlt6⟩ := ho6.form (by omega); have SZ := Lib.hid (S7.out.log hg6 ho6 hv6); have UZ := Lib.hid (S7.out.logUp (v6 := .slice (some ⟨g6, 0, none⟩) (nl + 1) c6) hg6 UP7.out HLO.out); have bp6 := hg6.block p S7.out.pl (fun e => S7.out.apl p e.symm rfl); have hc6 := (World.cell?_of_block (a := ⟨p, 5, none⟩) bp6).trans S7.out.c5; have hf6 := (World.frozen?_of_block (a := ⟨p, 5, none⟩) bp6).trans (S7.out.fz 5); have hl6 := Nat.lt_of_lt_of_le S7.out.pl hg6.size)
        all_goals
          clear c5 pl pf hb1l v0 v1 v2 v3 v4 v5 u0 u1 u2 bl4 bp6 hc6 hf6 hl6; go_wp2; go_ret; refine ⟨rfl, UZ.out, ?_⟩; rw [HD.out]
          exact ⟨(List.range n).map F, _, _, g', c', F', P1.out, HR.out, SZ.out⟩
end Go.Proofs.Ytjdoealcmokakaa

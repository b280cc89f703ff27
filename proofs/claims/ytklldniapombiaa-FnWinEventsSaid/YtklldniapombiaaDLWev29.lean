/-
  What spec.l3Step does, in one sentence: the first event is taken, the component's state is replaced, what it sends is put in, and the log has one record more; for every simulator of the call's own.
-/
import Derived.Deep.Cut
import Derived.Test.YtklldniapombiaaDLWev04
import Derived.Test.YtklldniapombiaaDLWev25
import Derived.Test.YtklldniapombiaaDLWev28
namespace Go.Proofs.Ytklldniapombiaa
set_option maxRecDepth 100000
open Go.RowKit
section
variable {P : Program} (w : World)
theorem wpList_append_lit9 {ops : Array Oper} {rest : List Oper} {o : Oper} {a : Act} {Q : Exit → Act → World → Prop} (hgd : o.guard = none) (s x : Operand) (t : TypeId)
    (ho : o.op = .call { callee := .builtin .append, args := #[s, x], argTypes := #[t, t] })
    (base : Nat) (e : TypeId) (i : TypeInfo) (z : Value) (size bytes : Nat) (ht : P.underlying t = some (.slice e)) (hi : P.info? e = some i) (hz : i.zero = some z)
    (hsize : i.size = size) (hby : i.bytes = bytes) (hzs : z.cells.size = size) (hsz : 0 < size)
    (g : Nat) (hs : a.eval s = .slice (some ⟨g, 0, none⟩) 0 0) (hown : w.ownsRow base e size (.slice (some ⟨g, 0, none⟩) 0 0) 0 [])
    (B : Nat) (A : Option Addr) (m c : Nat) (news : List Value) (hx : a.eval x = .slice A m c) (hr : Reads w B size A m news) (h1 : ∀ u ∈ news, u.oneCell' = true)
    (h63 : m ≤ maxLen) (hbytes : m * bytes ≤ 140737488355328) (hbase : base ≤ w.heap.size)
    (h : ∀ v' w', w'.ownsRow base e size v' m news → Up w w' → wpList P ops Q rest (a.put o.dst v') w') : wpList P ops Q (o :: rest) a w :=
  wpList_plain hgd fun _ hK => wp_append_lit w s x t ho base e i z size bytes ht hi hz hsize hby hzs hsz g hs hown B A m c news hx hr h1 h63 hbytes hbase fun v' w' h2 h3 => hK _ _ (h v' w' h2 h3)
end
theorem lit_new9 (w : World) (e size : Nat) {lo : Nat} (h : lo ≤ w.heap.size) : (w.alloc (.cells #[] e)).ownsRow lo e size (.slice (some ⟨w.heap.size, 0, none⟩) 0 0) 0 [] :=
  ⟨by simp, .inr ⟨_, 0, #[], rfl, h, heap_alloc_new _ _, by omega, by simp only [maxLen]; omega, by simp, by simp⟩⟩
theorem own_tail {w : World} {base e' n c g : Nat} {e : Evt} {r : List Evt} (h : w.ownsRow base e' 6 (.slice (some ⟨g, 0, none⟩) (n + 1) c) (n + 1) (flat (e :: r))) : Reads w w.heap.size 6 (some ⟨g, 6, none⟩) n (flat r) := by
  have h1 := own_evs h
  obtain ⟨b, off, hA, hb, hc⟩ := h1.2 (by omega)
  injection hA with hA
  injection hA with h2 h3 _
  subst h2; subst h3
  have hl : r.length = n := by have := h1.1; simpa using this
  refine Evs.reads ⟨hl, fun hn => ⟨g, 6, rfl, hb, fun i hi => ?_⟩⟩
  have := hc (i + 1) (by omega)
  rw [show 0 + (i + 1) * 6 = 6 + i * 6 by omega] at this
  simpa [List.getD] using this
def IsTp (lo : Nat) (D : Cst × List Evt) (v : Value) (w : World) : Prop := ∃ A c, v = .tuple #[D.1.v, .slice A D.2.length c] ∧ c ≤ 9223372036854775807 ∧ Evs w A D.2.length D.2 ∧ ∀ b o, A = some ⟨b, o, none⟩ → lo ≤ b
theorem IsTp.up {lo : Nat} {D : Cst × List Evt} {v : Value} {w w' : World} (h : IsTp lo D v w) (u : Up w w') : IsTp lo D v w' := by
  obtain ⟨A, c, h0, h1, h2, h3⟩ := h
  exact ⟨A, c, h0, h1, h2.up u, h3⟩
def IsEl (lo : Nat) (D : Cst × List Evt) (v : Value) (w : World) : Prop := ∃ A c, v = .slice A D.2.length c ∧ c ≤ 9223372036854775807 ∧ Evs w A D.2.length D.2 ∧ ∀ b o, A = some ⟨b, o, none⟩ → lo ≤ b
theorem IsEl.up {lo : Nat} {D : Cst × List Evt} {v : Value} {w w' : World} (h : IsEl lo D v w) (u : Up w w') : IsEl lo D v w' := by
  obtain ⟨A, c, h0, h1, h2, h3⟩ := h
  exact ⟨A, c, h0, h1, h2.up u, h3⟩
def IsN3 (lo : Nat) (v : Value) (w : World) : Prop := ∃ b, v = .pointer (some ⟨b, 0, none⟩) ∧ lo ≤ b ∧ BoxF w b (.int .i64 0) (.int .i64 0) (.int .i64 0) ∧ ∀ j, 3 ≤ j → w.cell? ⟨b, j, none⟩ = none
theorem IsN3.up {lo : Nat} {v : Value} {w w' : World} (h : IsN3 lo v w) (u : Up w w') : IsN3 lo v w' := by
  obtain ⟨x, h0, h1, h2, h3⟩ := h
  exact ⟨x, h0, h1, h2.up u, fun j hj => (u.cells _ _ h2.k.lt).trans (h3 j hj)⟩
theorem n3_none (w : World) (t : TypeId) (j : Nat) (hj : 3 ≤ j) : (w.alloc (.cells #[.int .i64 0, .int .i64 0, .int .i64 0] t)).cell? ⟨w.heap.size, j, none⟩ = none := by
  rw [cell_of_row _ _ j _ _ _ (heap_alloc_new _ _)]
  exact Array.getElem?_eq_none (by simpa using hj)
def IsNw (lo n : Nat) (es : List Evt) (v : Value) (w : World) : Prop := ∃ A c, v = .slice A (n + 1) c ∧ w.ownsRow lo 74 6 (.slice A (n + 1) c) (n + 1) (flat es)
theorem IsNw.up {lo n : Nat} {es : List Evt} {v : Value} {w w' : World} (h : IsNw lo n es v w) (u : Up w w') : IsNw lo n es v w' := by
  obtain ⟨A, c, h0, h1⟩ := h
  exact ⟨A, c, h0, own_up h1 u⟩
theorem BoxF.keepB {w w' : World} {b : Nat} {x y z : Value} (h : BoxF w b x y z) (hs : w.heap.size ≤ w'.heap.size) (k : w'.heap[b]? = w.heap[b]?) : BoxF w' b x y z :=
  ⟨h.k.keepB hs k, fun j => (World.frozen?_of_block (a := ⟨b, j, none⟩) k).trans (h.f j)⟩
/-- A list of events lies elsewhere than in a block of three cells. -/
theorem evs_off {w : World} {A : Option Addr} {n b : Nat} {es : List Evt} (h : Evs w A n es) (hn : ∀ j, 3 ≤ j → w.cell? ⟨b, j, none⟩ = none) (h0 : 0 < n) : ∀ b' o, A = some ⟨b', o, none⟩ → b' ≠ b := fun b' o hA e => by
  obtain ⟨b1, o1, hA1, _, hc⟩ := h.2 h0; rw [hA1] at hA
  injection hA with hA
  injection hA with e1 e2 _
  have h5 := (hc 0 h0).2.2.2.2.2
  rw [e1, e, hn _ (by omega)] at h5
  cases h5
theorem Sp.logUp {lo b nc nl nw : Nat} {cs : List Cst} {es : List Evt} {ls : List Rec} {vc vw vl : Value} {w0 X w6 : World} {v6 : Value} (h : Sp lo b nc nl nw cs es ls vc vw vl X) (hg : X.grownBy w6 vl.ownBlock) (u : Up w0 X) (hlo : w0.heap.size ≤ lo) (hb : w0.heap.size ≤ b) : Up w0 (w6.setCell ⟨b, 2, none⟩ v6) := by
  have M : Mv b w6 (w6.setCell ⟨b, 2, none⟩ v6) := ((Up.refl w6).mv b).setCell _
  have u6 : Up w0 w6 := ⟨hg.os.trans u.below.os, hg.tape.trans u.below.tape, hg.output.trans u.below.output, Nat.le_trans u.size hg.size, fun k hk => (hg.block k (Nat.lt_of_lt_of_le hk u.size) (fun e => by have := own_ge h.rl k e.symm; omega)).trans (u.below.block k hk)⟩
  exact M.up u6 hb
theorem insAll_take (ds r : List Evt) (i : Nat) (h : i < ds.length) : insAll (ds.take (i + 1)) r = ins (ds.getD i default) (insAll (ds.take i) r) := by
  have e : ds.take (i + 1) = ds.take i ++ [ds.getD i default] := by
    rw [List.take_add_one]; simp [List.getD, h]
  rw [e, insAll_snoc]
theorem Evs.mv0 {w w' : World} {A : Option Addr} {n g : Nat} {es : List Evt} (h : Evs w A n es) (m : Mv g w w') (hne : 0 < n → ∀ b off, A = some ⟨b, off, none⟩ → b ≠ g) : Evs w' A n es := by
  rcases Nat.eq_zero_or_pos n with h0 | h0
  · subst h0
    exact ⟨h.1, fun h => absurd h (by omega)⟩
  · exact h.mv m (hne h0)
/-- On the way through what is sent: i of them are put in. -/
def LpS (lo b3 b4 nc nl n : Nat) (cs : List Cst) (r : List Evt) (ls : List Rec) (vc vl : Value) (ds : List Evt) (W : World) (v : Value) (wr : World) : Prop :=
  ∃ (i : Nat) (A : Option Addr) (c : Nat), v = .int .i64 (i : Int) ∧ i ≤ ds.length ∧ Sp lo b3 nc nl (n + i) cs (insAll (ds.take i) r) ls vc (.slice A (n + i) c) vl wr ∧ Mv b3 W wr ∧ ∀ x, (Value.slice A (n + i) c).ownBlock = some x → b4 < x
def resP (A : Option Addr) (an ac : Nat) (B : Option Addr) (bk bd : Nat) (til : Int) (b3 b6 gc nc cc k lo : Nat) (s0 s1 s2 et efr esq ekd edt : Int) (D : Cst × List Evt) (d : Nat) (v : Value) (w : World) : Prop :=
  if d = 26 then v = .agg #[.slice A an ac, .slice B bk bd, .int .i64 til] else if d = 27 then v = .pointer (some ⟨b3, 0, none⟩) else if d = 28 then v = .slice (some ⟨gc, 0, none⟩) nc cc else if d = 29 then v = .pointer (some ⟨b6, 1, none⟩) else if d = 30 then v = .int .i64 (k : Int) else if d = 31 then v = .pointer (some ⟨gc, k * 3, none⟩) else if d = 32 then v = .agg #[.int .i64 s0, .int .i64 s1, .int .i64 s2] else if d = 33 then v = .agg #[.int .i64 et, .int .i64 (k : Int), .int .i64 efr, .int .i64 esq, .int .i64 ekd, .int .i64 edt] else if d = 34 then IsTp lo D v w else if d = 25 then IsTp lo D v w else if d = 35 then v = D.1.v else if d = 36 then IsEl lo D v w else if d = 7 then IsN3 lo v w else True
theorem resP_26 (A : Option Addr) (an ac : Nat) (B : Option Addr) (bk bd : Nat) (til : Int) (b3 b6 gc nc cc k lo : Nat) (s0 s1 s2 et efr esq ekd edt : Int) (D : Cst × List Evt) (v : Value) (w : World) : resP A an ac B bk bd til b3 b6 gc nc cc k lo s0 s1 s2 et efr esq ekd edt D 26 v w = (v = .agg #[.slice A an ac, .slice B bk bd, .int .i64 til]) := by simp [resP]
theorem resP_27 (A : Option Addr) (an ac : Nat) (B : Option Addr) (bk bd : Nat) (til : Int) (b3 b6 gc nc cc k lo : Nat) (s0 s1 s2 et efr esq ekd edt : Int) (D : Cst × List Evt) (v : Value) (w : World) : resP A an ac B bk bd til b3 b6 gc nc cc k lo s0 s1 s2 et efr esq ekd edt D 27 v w = (v = .pointer (some ⟨b3, 0, none⟩)) := by simp [resP]
theorem resP_28 (A : Option Addr) (an ac : Nat) (B : Option Addr) (bk bd : Nat) (til : Int) (b3 b6 gc nc cc k lo : Nat) (s0 s1 s2 et efr esq ekd edt : Int) (D : Cst × List Evt) (v : Value) (w : World) : resP A an ac B bk bd til b3 b6 gc nc cc k lo s0 s1 s2 et efr esq ekd edt D 28 v w = (v = .slice (some ⟨gc, 0, none⟩) nc cc) := by simp [resP]
theorem resP_29 (A : Option Addr) (an ac : Nat) (B : Option Addr) (bk bd : Nat) (til : Int) (b3 b6 gc nc cc k lo : Nat) (s0 s1 s2 et efr esq ekd edt : Int) (D : Cst × List Evt) (v : Value) (w : World) : resP A an ac B bk bd til b3 b6 gc nc cc k lo s0 s1 s2 et efr esq ekd edt D 29 v w = (v = .pointer (some ⟨b6, 1, none⟩)) := by simp [resP]
theorem resP_30 (A : Option Addr) (an ac : Nat) (B : Option Addr) (bk bd : Nat) (til : Int) (b3 b6 gc nc cc k lo : Nat) (s0 s1 s2 et efr esq ekd edt : Int) (D : Cst × List Evt) (v : Value) (w : World) : resP A an ac B bk bd til b3 b6 gc nc cc k lo s0 s1 s2 et efr esq ekd edt D 30 v w = (v = .int .i64 (k : Int)) := by simp [resP]
theorem resP_31 (A : Option Addr) (an ac : Nat) (B : Option Addr) (bk bd : Nat) (til : Int) (b3 b6 gc nc cc k lo : Nat) (s0 s1 s2 et efr esq ekd edt : Int) (D : Cst × List Evt) (v : Value) (w : World) : resP A an ac B bk bd til b3 b6 gc nc cc k lo s0 s1 s2 et efr esq ekd edt D 31 v w = (v = .pointer (some ⟨gc, k * 3, none⟩)) := by simp [resP]
theorem resP_32 (A : Option Addr) (an ac : Nat) (B : Option Addr) (bk bd : Nat) (til : Int) (b3 b6 gc nc cc k lo : Nat) (s0 s1 s2 et efr esq ekd edt : Int) (D : Cst × List Evt) (v : Value) (w : World) : resP A an ac B bk bd til b3 b6 gc nc cc k lo s0 s1 s2 et efr esq ekd edt D 32 v w = (v = .agg #[.int .i64 s0, .int .i64 s1, .int .i64 s2]) := by simp [resP]
theorem resP_33 (A : Option Addr) (an ac : Nat) (B : Option Addr) (bk bd : Nat) (til : Int) (b3 b6 gc nc cc k lo : Nat) (s0 s1 s2 et efr esq ekd edt : Int) (D : Cst × List Evt) (v : Value) (w : World) : resP A an ac B bk bd til b3 b6 gc nc cc k lo s0 s1 s2 et efr esq ekd edt D 33 v w = (v = .agg #[.int .i64 et, .int .i64 (k : Int), .int .i64 efr, .int .i64 esq, .int .i64 ekd, .int .i64 edt]) := by simp [resP]
theorem resP_34 (A : Option Addr) (an ac : Nat) (B : Option Addr) (bk bd : Nat) (til : Int) (b3 b6 gc nc cc k lo : Nat) (s0 s1 s2 et efr esq ekd edt : Int) (D : Cst × List Evt) (v : Value) (w : World) : resP A an ac B bk bd til b3 b6 gc nc cc k lo s0 s1 s2 et efr esq ekd edt D 34 v w = (IsTp lo D v w) := by simp [resP]
theorem resP_25 (A : Option Addr) (an ac : Nat) (B : Option Addr) (bk bd : Nat) (til : Int) (b3 b6 gc nc cc k lo : Nat) (s0 s1 s2 et efr esq ekd edt : Int) (D : Cst × List Evt) (v : Value) (w : World) : resP A an ac B bk bd til b3 b6 gc nc cc k lo s0 s1 s2 et efr esq ekd edt D 25 v w = (IsTp lo D v w) := by simp [resP]
theorem resP_35 (A : Option Addr) (an ac : Nat) (B : Option Addr) (bk bd : Nat) (til : Int) (b3 b6 gc nc cc k lo : Nat) (s0 s1 s2 et efr esq ekd edt : Int) (D : Cst × List Evt) (v : Value) (w : World) : resP A an ac B bk bd til b3 b6 gc nc cc k lo s0 s1 s2 et efr esq ekd edt D 35 v w = (v = D.1.v) := by simp [resP]
theorem resP_36 (A : Option Addr) (an ac : Nat) (B : Option Addr) (bk bd : Nat) (til : Int) (b3 b6 gc nc cc k lo : Nat) (s0 s1 s2 et efr esq ekd edt : Int) (D : Cst × List Evt) (v : Value) (w : World) : resP A an ac B bk bd til b3 b6 gc nc cc k lo s0 s1 s2 et efr esq ekd edt D 36 v w = (IsEl lo D v w) := by simp [resP]
theorem resP_7 (A : Option Addr) (an ac : Nat) (B : Option Addr) (bk bd : Nat) (til : Int) (b3 b6 gc nc cc k lo : Nat) (s0 s1 s2 et efr esq ekd edt : Int) (D : Cst × List Evt) (v : Value) (w : World) : resP A an ac B bk bd til b3 b6 gc nc cc k lo s0 s1 s2 et efr esq ekd edt D 7 v w = (IsN3 lo v w) := by simp [resP]
theorem resP_up (A : Option Addr) (an ac : Nat) (B : Option Addr) (bk bd : Nat) (til : Int) (b3 b6 gc nc cc k lo : Nat) (s0 s1 s2 et efr esq ekd edt : Int) (D : Cst × List Evt) (d : Nat) {v : Value} {w w' : World} (h : resP A an ac B bk bd til b3 b6 gc nc cc k lo s0 s1 s2 et efr esq ekd edt D d v w) (u : Up w w') : resP A an ac B bk bd til b3 b6 gc nc cc k lo s0 s1 s2 et efr esq ekd edt D d v w' := by
  unfold resP at h ⊢
  by_cases h26 : d = 26
  · rw [if_pos h26] at h ⊢
    exact h
  rw [if_neg h26] at h ⊢
  by_cases h27 : d = 27
  · rw [if_pos h27] at h ⊢
    exact h
  rw [if_neg h27] at h ⊢
  by_cases h28 : d = 28
  · rw [if_pos h28] at h ⊢
    exact h
  rw [if_neg h28] at h ⊢
  by_cases h29 : d = 29
  · rw [if_pos h29] at h ⊢
    exact h
  rw [if_neg h29] at h ⊢
  by_cases h30 : d = 30
  · rw [if_pos h30] at h ⊢
    exact h
  rw [if_neg h30] at h ⊢
  by_cases h31 : d = 31
  · rw [if_pos h31] at h ⊢
    exact h
  rw [if_neg h31] at h ⊢
  by_cases h32 : d = 32
  · rw [if_pos h32] at h ⊢
    exact h
  rw [if_neg h32] at h ⊢
  by_cases h33 : d = 33
  · rw [if_pos h33] at h ⊢
    exact h
  rw [if_neg h33] at h ⊢
  by_cases h34 : d = 34
  · rw [if_pos h34] at h ⊢
    exact h.up u
  rw [if_neg h34] at h ⊢
  by_cases h25 : d = 25
  · rw [if_pos h25] at h ⊢
    exact h.up u
  rw [if_neg h25] at h ⊢
  by_cases h35 : d = 35
  · rw [if_pos h35] at h ⊢
    exact h
  rw [if_neg h35] at h ⊢
  by_cases h36 : d = 36
  · rw [if_pos h36] at h ⊢
    exact h.up u
  rw [if_neg h36] at h ⊢
  by_cases h7 : d = 7
  · rw [if_pos h7] at h ⊢
    exact h.up u
  rw [if_neg h7] at h ⊢
  exact trivial
def resQ (b3 lo i n : Nat) (vw : Value) (As : Option Addr) (ln cs7 bs os : Nat) (zt zto zfr zsq zkd zdt : Int) (es : List Evt) (d : Nat) (v : Value) (w : World) : Prop :=
  if d = 49 then v = .pointer (some ⟨b3, 1, none⟩) else if d = 50 then v = vw else if d = 51 then v = .slice As ln cs7 else if d = 52 then v = .int .i64 (i : Int) else if d = 53 then v = .pointer (some ⟨bs, os + i * 6, none⟩) else if d = 54 then v = .agg #[.int .i64 zt, .int .i64 zto, .int .i64 zfr, .int .i64 zsq, .int .i64 zkd, .int .i64 zdt] else if d = 55 then IsNw lo n (ins ⟨zt, zto, zfr, zsq, zkd, zdt⟩ es) v w else if d = 56 then v = .pointer (some ⟨b3, 1, none⟩) else True
theorem resQ_49 (b3 lo i n : Nat) (vw : Value) (As : Option Addr) (ln cs7 bs os : Nat) (zt zto zfr zsq zkd zdt : Int) (es : List Evt) (v : Value) (w : World) : resQ b3 lo i n vw As ln cs7 bs os zt zto zfr zsq zkd zdt es 49 v w = (v = .pointer (some ⟨b3, 1, none⟩)) := by simp [resQ]
theorem resQ_50 (b3 lo i n : Nat) (vw : Value) (As : Option Addr) (ln cs7 bs os : Nat) (zt zto zfr zsq zkd zdt : Int) (es : List Evt) (v : Value) (w : World) : resQ b3 lo i n vw As ln cs7 bs os zt zto zfr zsq zkd zdt es 50 v w = (v = vw) := by simp [resQ]
theorem resQ_51 (b3 lo i n : Nat) (vw : Value) (As : Option Addr) (ln cs7 bs os : Nat) (zt zto zfr zsq zkd zdt : Int) (es : List Evt) (v : Value) (w : World) : resQ b3 lo i n vw As ln cs7 bs os zt zto zfr zsq zkd zdt es 51 v w = (v = .slice As ln cs7) := by simp [resQ]
theorem resQ_52 (b3 lo i n : Nat) (vw : Value) (As : Option Addr) (ln cs7 bs os : Nat) (zt zto zfr zsq zkd zdt : Int) (es : List Evt) (v : Value) (w : World) : resQ b3 lo i n vw As ln cs7 bs os zt zto zfr zsq zkd zdt es 52 v w = (v = .int .i64 (i : Int)) := by simp [resQ]
theorem resQ_53 (b3 lo i n : Nat) (vw : Value) (As : Option Addr) (ln cs7 bs os : Nat) (zt zto zfr zsq zkd zdt : Int) (es : List Evt) (v : Value) (w : World) : resQ b3 lo i n vw As ln cs7 bs os zt zto zfr zsq zkd zdt es 53 v w = (v = .pointer (some ⟨bs, os + i * 6, none⟩)) := by simp [resQ]
theorem resQ_54 (b3 lo i n : Nat) (vw : Value) (As : Option Addr) (ln cs7 bs os : Nat) (zt zto zfr zsq zkd zdt : Int) (es : List Evt) (v : Value) (w : World) : resQ b3 lo i n vw As ln cs7 bs os zt zto zfr zsq zkd zdt es 54 v w = (v = .agg #[.int .i64 zt, .int .i64 zto, .int .i64 zfr, .int .i64 zsq, .int .i64 zkd, .int .i64 zdt]) := by simp [resQ]
theorem resQ_55 (b3 lo i n : Nat) (vw : Value) (As : Option Addr) (ln cs7 bs os : Nat) (zt zto zfr zsq zkd zdt : Int) (es : List Evt) (v : Value) (w : World) : resQ b3 lo i n vw As ln cs7 bs os zt zto zfr zsq zkd zdt es 55 v w = (IsNw lo n (ins ⟨zt, zto, zfr, zsq, zkd, zdt⟩ es) v w) := by simp [resQ]
theorem resQ_56 (b3 lo i n : Nat) (vw : Value) (As : Option Addr) (ln cs7 bs os : Nat) (zt zto zfr zsq zkd zdt : Int) (es : List Evt) (v : Value) (w : World) : resQ b3 lo i n vw As ln cs7 bs os zt zto zfr zsq zkd zdt es 56 v w = (v = .pointer (some ⟨b3, 1, none⟩)) := by simp [resQ]
theorem resQ_up (b3 lo i n : Nat) (vw : Value) (As : Option Addr) (ln cs7 bs os : Nat) (zt zto zfr zsq zkd zdt : Int) (es : List Evt) (d : Nat) {v : Value} {w w' : World} (h : resQ b3 lo i n vw As ln cs7 bs os zt zto zfr zsq zkd zdt es d v w) (u : Up w w') : resQ b3 lo i n vw As ln cs7 bs os zt zto zfr zsq zkd zdt es d v w' := by
  unfold resQ at h ⊢
  by_cases h49 : d = 49
  · rw [if_pos h49] at h ⊢
    exact h
  rw [if_neg h49] at h ⊢
  by_cases h50 : d = 50
  · rw [if_pos h50] at h ⊢
    exact h
  rw [if_neg h50] at h ⊢
  by_cases h51 : d = 51
  · rw [if_pos h51] at h ⊢
    exact h
  rw [if_neg h51] at h ⊢
  by_cases h52 : d = 52
  · rw [if_pos h52] at h ⊢
    exact h
  rw [if_neg h52] at h ⊢
  by_cases h53 : d = 53
  · rw [if_pos h53] at h ⊢
    exact h
  rw [if_neg h53] at h ⊢
  by_cases h54 : d = 54
  · rw [if_pos h54] at h ⊢
    exact h
  rw [if_neg h54] at h ⊢
  by_cases h55 : d = 55
  · rw [if_pos h55] at h ⊢
    exact h.up u
  rw [if_neg h55] at h ⊢
  by_cases h56 : d = 56
  · rw [if_pos h56] at h ⊢
    exact h
  rw [if_neg h56] at h ⊢
  exact trivial
/-- All blocks but g and the one of vl are as they were. -/
def KpS (g : Nat) (vl : Value) (w w' : World) : Prop := w.heap.size ≤ w'.heap.size ∧ ∀ b, b < w.heap.size → b ≠ g → (∀ x, vl.ownBlock = some x → x ≠ b) → w'.heap[b]? = w.heap[b]?
theorem KpS.up {g : Nat} {vl : Value} {w a b : World} (h : KpS g vl w a) (u : Up a b) : KpS g vl w b := ⟨Nat.le_trans h.1 u.size, fun x h1 h2 h3 => (u.below.block x (Nat.lt_of_lt_of_le h1 h.1)).trans (h.2 x h1 h2 h3)⟩
theorem KpS.mv {g g' : Nat} {vl : Value} {w a b : World} (h : KpS g vl w a) (m : Mv g' a b) (hg : g' = g ∨ w.heap.size ≤ g') : KpS g vl w b := ⟨Nat.le_trans h.1 m.size, fun x h1 h2 h3 => (m.block x (Nat.lt_of_lt_of_le h1 h.1) (by omega)).trans (h.2 x h1 h2 h3)⟩
theorem KpS.grow {g : Nat} {vl : Value} {w a b : World} (h : KpS g vl w a) (m : a.grownBy b vl.ownBlock) : KpS g vl w b := ⟨Nat.le_trans h.1 m.size, fun x h1 h2 h3 => (m.block x (Nat.lt_of_lt_of_le h1 h.1) (fun e => h3 x e.symm rfl)).trans (h.2 x h1 h2 h3)⟩
/-- What a step of the reference leaves. -/
def L3Post (lo nc nl n : Nat) (m : Mdl) (cs : List Cst) (e : Evt) (r : List Evt) (ls : List Rec) (z w : World) (vc0 vl0 : Value) (x : Ending) (w' : World) : Prop :=
  Up z w' ∧ (∀ b, b < w.heap.size → (∀ x, vc0.ownBlock = some x → x ≠ b) → (∀ x, vl0.ownBlock = some x → x ≠ b) → w'.heap[b]? = w.heap[b]?) ∧ w.heap.size ≤ w'.heap.size ∧ ∃ vc vw vl, x = .returned (.tuple #[.agg #[vc, vw, vl], .bool true]) ∧ w'.ownsRow lo 76 3 vc nc (flat3 (cs.set e.to.toNat (doE m (cs.getD e.to.toNat default) e).1)) ∧
    w'.ownsRow lo 74 6 vw (n + (doE m (cs.getD e.to.toNat default) e).2.length) (flat (insAll (doE m (cs.getD e.to.toNat default) e).2 r)) ∧ w'.ownsRow lo 180 7 vl (nl + 1) (flat7 (ls ++ [⟨e, (doE m (cs.getD e.to.toNat default) e).1.s⟩]))
set_option maxHeartbeats 8000000 in
theorem specL3_any (A : Option Addr) (an ac : Nat) (B : Option Addr) (bk bd : Nat) (m : Mdl) (lo nc nl n : Nat) (cs : List Cst) (e : Evt) (r : List Evt) (ls : List Rec) (vc vw vl : Value) (z w : World) (hM : MdlV z A an B bk m) (hU : Up z w) (hz : z.heap.size ≤ lo)
    (hc : w.ownsRow lo 76 3 vc nc (flat3 cs)) (hw : w.ownsRow lo 74 6 vw (n + 1) (flat (e :: r))) (hl : w.ownsRow lo 180 7 vl nl (flat7 ls)) (hlo : lo ≤ w.heap.size)
    (hto : 0 ≤ e.to ∧ e.to < nc) (hok : mayB m (cs.getD e.to.toNat default) e = true) (hn : n + 1 ≤ 1049000) (hd : (doE m (cs.getD e.to.toNat default) e).2.length ≤ 100000) (hnl : nl + 1 ≤ 2000000) :
    Calls Try.prog 191 #[.agg #[.slice A an ac, .slice B bk bd, .int .i64 m.til], .agg #[vc, vw, vl]] w (L3Post lo nc nl n m cs e r ls z w vc vl) := by
  unfold L3Post; obtain ⟨i6, hb0, hb1, hb2, hb3⟩ := info_parts info74
  have INF6 := Lib.hid (And.intro hb0 (And.intro hb1 (And.intro hb2 hb3)))
  clear hb0 hb1 hb2 hb3; obtain ⟨et, eto, efr, esq, ekd, edt⟩ := e; obtain ⟨k, hk⟩ : ∃ k : Nat, eto = (k : Int) := ⟨eto.toNat, by simp only at hto; omega⟩; subst hk; simp only [Int.toNat_natCast] at hok hd ⊢
  have hkn : k < nc := by simp only at hto; omega
  generalize hst : cs.getD k default = stt at *
  obtain ⟨s0, s1, s2⟩ := stt
  have HST := Lib.hid hst
  clear hst; obtain ⟨i0, hi0, hz0, hz1, hz2⟩ := info_parts info180
  have INF := Lib.hid (And.intro hi0 (And.intro hz0 (And.intro hz1 hz2)))
  have SEV := Lib.hid (show 0 < 7 by omega)
  clear hi0 hz0 hz1 hz2; obtain ⟨gc, cc, rfl, hgc, hgl⟩ := hc.form (by omega); obtain ⟨gw, cw, rfl, hgw, hwl⟩ := hw.form (by omega); obtain ⟨Al, cl, rfl, -, -⟩ := (own7_slice hl).2
  have BM := Box3.new w (.slice A an ac) (.slice B bk bd) (.int .i64 m.til) 36
  have XS := BoxF.new (w.alloc (.cells #[.slice A an ac, .slice B bk bd, .int .i64 m.til] 36)) (.slice (some ⟨gc, 0, none⟩) nc cc) (.slice (some ⟨gw, 0, none⟩) (n + 1) cw) (.slice Al nl cl) 62
  have XR := BoxF.new ((w.alloc (.cells #[.slice A an ac, .slice B bk bd, .int .i64 m.til] 36)).alloc (.cells #[.slice (some ⟨gc, 0, none⟩) nc cc, .slice (some ⟨gw, 0, none⟩) (n + 1) cw, .slice Al nl cl] 62)) (.slice none 0 0) (.slice none 0 0) (.slice none 0 0) 62
  simp only [World.size_alloc] at XS XR
  have UW := Lib.hid (((hU.alloc (.cells #[.slice A an ac, .slice B bk bd, .int .i64 m.til] 36)).alloc (.cells #[.slice (some ⟨gc, 0, none⟩) nc cc, .slice (some ⟨gw, 0, none⟩) (n + 1) cw, .slice Al nl cl] 62)).alloc (.cells #[.slice none 0 0, .slice none 0 0, .slice none 0 0] 62))
  have XS := XS.up ((Up.refl _).alloc (.cells #[.slice none 0 0, .slice none 0 0, .slice none 0 0] 62))
  have UA3 := ((((Up.refl w).alloc (.cells #[.slice A an ac, .slice B bk bd, .int .i64 m.til] 36)).alloc (.cells #[.slice (some ⟨gc, 0, none⟩) nc cc, .slice (some ⟨gw, 0, none⟩) (n + 1) cw, .slice Al nl cl] 62)).alloc (.cells #[.slice none 0 0, .slice none 0 0, .slice none 0 0] 62))
  have KP := Lib.hid ((show KpS gc (.slice Al nl cl) w w from ⟨Nat.le_refl _, fun _ _ _ _ => rfl⟩).up UA3)
  have SP := Lib.hid (show Sp lo (w.heap.size + 1) nc nl (n + 1) cs (⟨et, k, efr, esq, ekd, edt⟩ :: r) ls (.slice (some ⟨gc, 0, none⟩) nc cc) (.slice (some ⟨gw, 0, none⟩) (n + 1) cw) (.slice Al nl cl) _ from
    ⟨XS.k.lt, XS.k.c0, XS.k.c1, XS.k.c2, XS.f, own_up hc UA3, own_up hw UA3, own_up hl UA3, fun x hx => by have := own_ge hc x hx; omega, fun x hx => by have := own_ge hw x hx; omega, fun x hx => by have := own_ge hl x hx; omega⟩)
  have BM := Lib.hid (BM.up (((Up.refl _).alloc (.cells #[.slice (some ⟨gc, 0, none⟩) nc cc, .slice (some ⟨gw, 0, none⟩) (n + 1) cw, .slice Al nl cl] 62)).alloc (.cells #[.slice none 0 0, .slice none 0 0, .slice none 0 0] 62)))
  have XR := Lib.hid XR
  have DO := Lib.hid (fun W (u : Up z W) => l2Do_any A an ac B bk bd m ⟨s0, s1, s2⟩ ⟨et, k, efr, esq, ekd, edt⟩ W (hM.up u) hok)
  have HLO := Lib.hid hlo
  have nz : ¬ (((n + 1 : Nat) : Int) = 0) := by omega
  have n1 : (0 : Int) < ((n + 1 : Nat) : Int) := by omega
  have HCW := Lib.hid (show n + 1 ≤ cw from by obtain ⟨_, _, _, hv, h1, _⟩ := own_slice hw; injection hv with _ _ hv; omega)
  have HRL := Lib.hid (show r.length = n from by have := (own_evs hw).1; simpa using this)
  have GLT := Lib.hid (And.intro (own_ge hc gc rfl) (fun x (hx : (Value.slice Al nl cl).ownBlock = some x) => own_ge hl x hx))
  have HZ := Lib.hid hz
  have HN := Lib.hid hn
  have HDL := Lib.hid hd
  have HKN := Lib.hid hkn
  have HMX := Lib.hid (show nl + 1 ≤ maxLen by simp only [maxLen]; omega)
  have HBY := Lib.hid (show (nl + 1) * 56 ≤ 140737488355328 by omega)
  have HW0 := Lib.hid (show lo ≤ w.heap.size from hlo)
  clear hM hc hw hl hlo hok hto XS UA3 hU hz hn hd hnl hkn
  go_enter Try.func191, Try.ntmps191
  go_upto_region 1 with fail
  generalize hW0 : ((w.alloc (.cells #[.slice A an ac, .slice B bk bd, .int .i64 m.til] 36)).alloc (.cells #[.slice (some ⟨gc, 0, none⟩) nc cc, .slice (some ⟨gw, 0, none⟩) (n + 1) cw, .slice Al nl cl] 62)).alloc (.cells #[.slice none 0 0, .slice none 0 0, .slice none 0 0] 62) = W0 at *
  generalize hb2 : w.heap.size = b2 at *
  generalize hb3 : b2 + 1 = b3 at *
  generalize hb4 : b3 + 1 = b4 at *
  have HB := Lib.hid (And.intro hb2 (And.intro hb3 hb4))
  clear hW0 hb2 hb3 hb4
  have UE := (Up.refl W0).alloc (.cells #[.int .i64 et, .int .i64 (k : Int), .int .i64 efr, .int .i64 esq, .int .i64 ekd, .int .i64 edt] 74)
  have EB := Lib.hid (Box.new W0 ⟨et, k, efr, esq, ekd, edt⟩ 74)
  have SP9 := Lib.hid (SP.out.up UE)
  have TL := Lib.hid ((own_tail SP9.out.rq))
  have LO9 := Lib.hid (show lo ≤ (W0.alloc (.cells #[.int .i64 et, .int .i64 (k : Int), .int .i64 efr, .int .i64 esq, .int .i64 ekd, .int .i64 edt] 74)).heap.size by have h1 := HLO.out; have h2 := SP.out.lt; have h3 := UE.size; have h4 := HB.out; omega)
  have hev : EvAt W0 gw (0 * 6) ⟨et, k, efr, esq, ekd, edt⟩ := (Row.of_own SP.out.rq (by omega)).2.1 0 (by omega)
  obtain ⟨a0, a1, a2, a3, a4, a5⟩ := hev; simp only [Nat.zero_mul, Nat.zero_add] at a0 a1 a2 a3 a4 a5; obtain ⟨c0, c1, c2⟩ := And.intro SP.out.c0 (And.intro SP.out.c1 SP.out.c2)
  have sl := SP.out.lt
  have sf := SP.out.fz
  go_upto_region 4 with fail
  clear a0 a1 a2 a3 a4 a5 c0 c1 c2 sl sf UE
  have EL6 := Lib.hid (show W0.heap.size < (W0.alloc (.cells #[.int .i64 et, .int .i64 (k : Int), .int .i64 efr, .int .i64 esq, .int .i64 ekd, .int .i64 edt] 74)).heap.size by simp)
  generalize hW9 : W0.alloc (.cells #[.int .i64 et, .int .i64 (k : Int), .int .i64 efr, .int .i64 esq, .int .i64 ekd, .int .i64 edt] 74) = W9 at *
  generalize hb6 : W0.heap.size = b6 at *
  have U9 := Lib.hid (show Up W0 W9 from by rw [← hW9]; exact (Up.refl W0).alloc _)
  have H6 := Lib.hid hb6
  have SPL := Lib.hid (show b4 < b6 by have := XR.out.k.lt; omega)
  clear hW9 hb6
  have LIT := Lib.hid (lit_new9 W9 74 6 (Nat.le_refl W9.heap.size))
  have UL := Lib.hid ((Up.refl W9).alloc (.cells #[] 74))
  have LOL := Lib.hid (Nat.le_trans LO9.out UL.out.size)
  obtain ⟨c0, c1, c2⟩ := And.intro SP9.out.c0 (And.intro SP9.out.c1 SP9.out.c2)
  have sl := SP9.out.lt
  have sf := SP9.out.fz
  have n1s : (1 : Int) ≤ ((n + 1 : Nat) : Int) := by omega
  have HN2 := Lib.hid (And.intro (show n ≤ maxLen by have := HN.out; simp only [maxLen]; omega) (show n * 48 ≤ 140737488355328 by have := HN.out; omega))
  obtain ⟨As, hAs, RDs⟩ : ∃ As, (if cw = 1 then (some ⟨gw, 0, none⟩ : Option Addr) else some ⟨gw, 6, none⟩) = As ∧ Reads W9 W9.heap.size 6 As n (flat r) := by
    by_cases h1 : cw = 1
    · rw [if_pos h1]
      have h0 : n = 0 := by have := HCW.out; omega
      have hr : r = [] := List.eq_nil_of_length_eq_zero (by rw [HRL.out]; exact h0)
      subst hr
      exact ⟨_, rfl, by rw [h0]; exact ⟨rfl, fun h => absurd h (by omega)⟩⟩
    · rw [if_neg h1]
      exact ⟨_, rfl, TL.out⟩
  have RDS := Lib.hid RDs
  clear RDs TL
  go_upto_region 5 with (at_builtin; refine wpList_append_lit9 (P := Try.prog) _ rfl (.tmp 19) (.tmp 22) 34 rfl W9.heap.size 74 i6 _ 6 48 Try.underlying34 INF6.out.1 INF6.out.2.1 INF6.out.2.2.1 INF6.out.2.2.2 rfl (by omega) W9.heap.size rfl LIT.out _ As n (cw - 1) (flat r) rfl (RDS.out.alloc (Nat.le_refl _) _) (flat_one _) HN2.out.1 HN2.out.2 UL.out.size ?_; intro v6 w6 ho6 u6; clear c0 c1 c2 sl sf; obtain ⟨A6, c6, hv6, -, -⟩ := (own_slice ho6).2; subst hv6; have UL6 := Lib.hid (UL.out.trans u6); have SP6 := Lib.hid (SP9.out.up UL6.out); obtain ⟨c0, c1, c2⟩ := And.intro SP6.out.c0 (And.intro SP6.out.c1 SP6.out.c2); have sl := SP6.out.lt; have sf := SP6.out.fz)
  clear c0 c1 c2 sl sf hAs
  have BG6 := Lib.hid (show ∀ x, (Value.slice A6 n c6).ownBlock = some x → x ≠ b3 from fun x hx => by have := (own_ge ho6 x hx).1; have := SP9.out.lt; omega)
  have BH6 := Lib.hid (show ∀ x, (Value.slice A6 n c6).ownBlock = some x → b4 < x from fun x hx => by have := (own_ge ho6 x hx).1; have := EL6.out; have := SPL.out; have := H6.out; omega)
  have SP7 := Lib.hid (SP6.out.wait (own_mono ho6 LO9.out) BG6.out)
  have MX := ((Up.refl w6).mv b3).setCell (o := 1) (.slice A6 n c6)
  have UA7 := Lib.hid (U9.out.trans UL6.out)
  have KP7 := Lib.hid ((KP.out.up UA7.out).mv MX (.inr (by have := HB.out; omega)))
  have UP7 := Lib.hid (MX.up (UW.out.trans UA7.out) (by have := HZ.out; have := HLO.out; have := HB.out; omega))
  have BM7 := Lib.hid ((BM.out.up UA7.out).keepB MX.size (MX.block b2 (BM.out.up UA7.out).lt (by have := HB.out; omega)))
  have XR7 := Lib.hid ((XR.out.up UA7.out).keepB MX.size (MX.block b4 (XR.out.up UA7.out).k.lt (by have := HB.out; omega)))
  have EB7 := Lib.hid ((EB.out.up UL6.out).ev6.keep MX.size (MX.block b6 (EB.out.up UL6.out).lt (by have := SP.out.lt; have := H6.out; omega)))
  have CA := Lib.hid (HST.out ▸ cst_at SP7.out.rc HKN.out)
  have CL := Lib.hid (own_ge SP7.out.rc gc rfl).2
  have SZ7 := Lib.hid (show b6 < (w6.setCell ⟨b3, 1, none⟩ (.slice A6 n c6)).heap.size from EB7.out.1)
  clear MX UA7 KP BM XR EB BG6 SP6 SP9 SP UL6 ho6 u6 UL LIT LOL RDS HN2 UW U9 LO9
  generalize w6.setCell ⟨b3, 1, none⟩ (.slice A6 n c6) = W7 at *
  refine region_relyT 13 [(9, 11)] [(13, false), (14, false)] [26, 27, 28, 29, 30, 31, 32, 33, 34, 25, 35, 36, 7] 12 (fun _ w1 => Up W7 w1) Up (fun i v w => resP A an ac B bk bd m.til b3 b6 gc nc cc k W7.heap.size s0 s1 s2 et efr esq ekd edt (doE m ⟨s0, s1, s2⟩ ⟨et, k, efr, esq, ekd, edt⟩) i v w) (by kernel_rfl) (by kernel_rfl) (by kernel_rfl) (by kernel_rfl) ((Up.refl _).drew) (fun slot_ _ _ _ h u => resP_up A an ac B bk bd m.til b3 b6 gc nc cc k W7.heap.size s0 s1 s2 et efr esq ekd edt (doE m ⟨s0, s1, s2⟩ ⟨et, k, efr, esq, ekd, edt⟩) slot_ h u) ?_ ?_ ?_
  · simp only [List.take_succ_cons, List.take_zero]
    refine stepsT_op (by kernel_rfl) ?_ ?_
    · intro X w1 k1 hG hdep
      obtain ⟨q0, q1, q2⟩ := And.intro (BM7.out.up hG).c0 (And.intro (BM7.out.up hG).c1 (BM7.out.up hG).c2)
      have lm := (BM7.out.up hG).lt
      simp only [opW_def, mixT]; go_simp
      exact ⟨⟨.agg #[.slice A an ac, .slice B bk bd, .int .i64 m.til], by first | rfl | simp [Act.put], Up.refl _, hG, (show resP A an ac B bk bd m.til b3 b6 gc nc cc k W7.heap.size s0 s1 s2 et efr esq ekd edt (doE m ⟨s0, s1, s2⟩ ⟨et, k, efr, esq, ekd, edt⟩) 26 _ _ from by first | (rw [resP_26]; exact rfl) | rw [resP_26])⟩⟩
    refine stepsT_op (by kernel_rfl) ?_ ?_
    · intro X w1 k1 hG hdep
      simp only [opW_def, mixT]; go_simp
      exact ⟨⟨.pointer (some ⟨b3, 0, none⟩), by first | rfl | simp [Act.put], Up.refl _, hG, (show resP A an ac B bk bd m.til b3 b6 gc nc cc k W7.heap.size s0 s1 s2 et efr esq ekd edt (doE m ⟨s0, s1, s2⟩ ⟨et, k, efr, esq, ekd, edt⟩) 27 _ _ from by first | (rw [resP_27]; exact rfl) | rw [resP_27])⟩⟩
    refine stepsT_op (by kernel_rfl) ?_ ?_
    · intro X w1 k1 hG hdep
      have e27 : resP A an ac B bk bd m.til b3 b6 gc nc cc k W7.heap.size s0 s1 s2 et efr esq ekd edt (doE m ⟨s0, s1, s2⟩ ⟨et, k, efr, esq, ekd, edt⟩) 27 (X 27) w1 := hdep 27 (by decide +kernel)
      rw [resP_27] at e27
      have sp := SP7.out.up hG
      obtain ⟨q0, q1, q2⟩ := And.intro sp.c0 (And.intro sp.c1 sp.c2)
      have lp := sp.lt
      simp only [opW_def, mixT, e27]; go_simp
      exact ⟨⟨.slice (some ⟨gc, 0, none⟩) nc cc, by first | rfl | simp [Act.put], Up.refl _, hG, (show resP A an ac B bk bd m.til b3 b6 gc nc cc k W7.heap.size s0 s1 s2 et efr esq ekd edt (doE m ⟨s0, s1, s2⟩ ⟨et, k, efr, esq, ekd, edt⟩) 28 _ _ from by first | (rw [resP_28]; exact rfl) | rw [resP_28])⟩⟩
    refine stepsT_op (by kernel_rfl) ?_ ?_
    · intro X w1 k1 hG hdep
      simp only [opW_def, mixT]; go_simp
      exact ⟨⟨.pointer (some ⟨b6, 1, none⟩), by first | rfl | simp [Act.put], Up.refl _, hG, (show resP A an ac B bk bd m.til b3 b6 gc nc cc k W7.heap.size s0 s1 s2 et efr esq ekd edt (doE m ⟨s0, s1, s2⟩ ⟨et, k, efr, esq, ekd, edt⟩) 29 _ _ from by first | (rw [resP_29]; exact rfl) | rw [resP_29])⟩⟩
    refine stepsT_op (by kernel_rfl) ?_ ?_
    · intro X w1 k1 hG hdep
      have e29 : resP A an ac B bk bd m.til b3 b6 gc nc cc k W7.heap.size s0 s1 s2 et efr esq ekd edt (doE m ⟨s0, s1, s2⟩ ⟨et, k, efr, esq, ekd, edt⟩) 29 (X 29) w1 := hdep 29 (by decide +kernel)
      rw [resP_29] at e29; obtain ⟨lb, g0, g1, g2, g3, g4, g5⟩ := EB7.out.keep hG.size (hG.below.block _ EB7.out.1); simp only [opW_def, mixT, e29]; go_simp
      exact ⟨⟨.int .i64 (k : Int), by first | rfl | simp [Act.put], Up.refl _, hG, (show resP A an ac B bk bd m.til b3 b6 gc nc cc k W7.heap.size s0 s1 s2 et efr esq ekd edt (doE m ⟨s0, s1, s2⟩ ⟨et, k, efr, esq, ekd, edt⟩) 30 _ _ from by first | (rw [resP_30]; exact rfl) | rw [resP_30])⟩⟩
    refine stepsT_op (by kernel_rfl) ?_ ?_
    · intro X w1 k1 hG hdep
      have e28 : resP A an ac B bk bd m.til b3 b6 gc nc cc k W7.heap.size s0 s1 s2 et efr esq ekd edt (doE m ⟨s0, s1, s2⟩ ⟨et, k, efr, esq, ekd, edt⟩) 28 (X 28) w1 := hdep 28 (by decide +kernel)
      rw [resP_28] at e28
      have e30 : resP A an ac B bk bd m.til b3 b6 gc nc cc k W7.heap.size s0 s1 s2 et efr esq ekd edt (doE m ⟨s0, s1, s2⟩ ⟨et, k, efr, esq, ekd, edt⟩) 30 (X 30) w1 := hdep 30 (by decide +kernel)
      rw [resP_30] at e30
      have hk1 := HKN.out
      have hk2 : (k : Int) < (nc : Int) := by omega
      simp only [opW_def, mixT, e28, e30]; go_simp
      exact ⟨⟨.pointer (some ⟨gc, k * 3, none⟩), by first | rfl | simp [Act.put], Up.refl _, hG, (show resP A an ac B bk bd m.til b3 b6 gc nc cc k W7.heap.size s0 s1 s2 et efr esq ekd edt (doE m ⟨s0, s1, s2⟩ ⟨et, k, efr, esq, ekd, edt⟩) 31 _ _ from by first | (rw [resP_31]; exact rfl) | rw [resP_31])⟩⟩
    refine stepsT_op (by kernel_rfl) ?_ ?_
    · intro X w1 k1 hG hdep
      have e31 : resP A an ac B bk bd m.til b3 b6 gc nc cc k W7.heap.size s0 s1 s2 et efr esq ekd edt (doE m ⟨s0, s1, s2⟩ ⟨et, k, efr, esq, ekd, edt⟩) 31 (X 31) w1 := hdep 31 (by decide +kernel)
      rw [resP_31] at e31; obtain ⟨r0, r1, r2⟩ := CA.out.up hG CL.out
      have lc := Nat.lt_of_lt_of_le CL.out hG.size
      simp only [opW_def, mixT, e31]; go_simp
      exact ⟨⟨.agg #[.int .i64 s0, .int .i64 s1, .int .i64 s2], by first | rfl | simp [Act.put], Up.refl _, hG, (show resP A an ac B bk bd m.til b3 b6 gc nc cc k W7.heap.size s0 s1 s2 et efr esq ekd edt (doE m ⟨s0, s1, s2⟩ ⟨et, k, efr, esq, ekd, edt⟩) 32 _ _ from by first | (rw [resP_32]; exact rfl) | rw [resP_32])⟩⟩
    refine stepsT_op (by kernel_rfl) ?_ ?_
    · intro X w1 k1 hG hdep
      obtain ⟨lb, g0, g1, g2, g3, g4, g5⟩ := EB7.out.keep hG.size (hG.below.block _ EB7.out.1); simp only [opW_def, mixT]; go_simp
      exact ⟨⟨.agg #[.int .i64 et, .int .i64 (k : Int), .int .i64 efr, .int .i64 esq, .int .i64 ekd, .int .i64 edt], by first | rfl | simp [Act.put], Up.refl _, hG, (show resP A an ac B bk bd m.til b3 b6 gc nc cc k W7.heap.size s0 s1 s2 et efr esq ekd edt (doE m ⟨s0, s1, s2⟩ ⟨et, k, efr, esq, ekd, edt⟩) 33 _ _ from by first | (rw [resP_33]; exact rfl) | rw [resP_33])⟩⟩
    refine stepsT_op (by kernel_rfl) ?_ ?_
    · intro X w1 k1 hG hdep
      have e26 : resP A an ac B bk bd m.til b3 b6 gc nc cc k W7.heap.size s0 s1 s2 et efr esq ekd edt (doE m ⟨s0, s1, s2⟩ ⟨et, k, efr, esq, ekd, edt⟩) 26 (X 26) w1 := hdep 26 (by decide +kernel)
      rw [resP_26] at e26
      have e32 : resP A an ac B bk bd m.til b3 b6 gc nc cc k W7.heap.size s0 s1 s2 et efr esq ekd edt (doE m ⟨s0, s1, s2⟩ ⟨et, k, efr, esq, ekd, edt⟩) 32 (X 32) w1 := hdep 32 (by decide +kernel)
      rw [resP_32] at e32
      have e33 : resP A an ac B bk bd m.til b3 b6 gc nc cc k W7.heap.size s0 s1 s2 et efr esq ekd edt (doE m ⟨s0, s1, s2⟩ ⟨et, k, efr, esq, ekd, edt⟩) 33 (X 33) w1 := hdep 33 (by decide +kernel)
      rw [resP_33] at e33; simp only [opW_def, mixT, e26, e32, e33]; go_simp; refine (DO.out w1 (UP7.out.trans hG)).mono ?_; rintro x w2 ⟨A1, c1, rfl, _, cmax, ev, hb, u⟩
      exact ⟨⟨_, by first | rfl | simp [Act.put], u, hG.trans u, (show resP A an ac B bk bd m.til b3 b6 gc nc cc k W7.heap.size s0 s1 s2 et efr esq ekd edt (doE m ⟨s0, s1, s2⟩ ⟨et, k, efr, esq, ekd, edt⟩) 34 _ _ from by first | (rw [resP_34]; exact ⟨_, _, rfl, cmax, ev, fun b o e => Nat.le_trans hG.size (hb b o e)⟩) | rw [resP_34])⟩⟩
    refine stepsT_op (by kernel_rfl) ?_ ?_
    · intro X w1 k1 hG hdep
      have e34 : resP A an ac B bk bd m.til b3 b6 gc nc cc k W7.heap.size s0 s1 s2 et efr esq ekd edt (doE m ⟨s0, s1, s2⟩ ⟨et, k, efr, esq, ekd, edt⟩) 34 (X 34) w1 := hdep 34 (by decide +kernel)
      rw [resP_34] at e34; obtain ⟨A1, c1, e34, ho⟩ := e34; simp only [opW_def, mixT, e34]; go_simp
      exact ⟨⟨_, by first | rfl | simp [Act.put], Up.refl _, hG, (show resP A an ac B bk bd m.til b3 b6 gc nc cc k W7.heap.size s0 s1 s2 et efr esq ekd edt (doE m ⟨s0, s1, s2⟩ ⟨et, k, efr, esq, ekd, edt⟩) 25 _ _ from by first | (rw [resP_25]; exact ⟨A1, c1, rfl, ho⟩) | rw [resP_25])⟩⟩
    refine stepsT_op (by kernel_rfl) ?_ ?_
    · intro X w1 k1 hG hdep
      have e25 : resP A an ac B bk bd m.til b3 b6 gc nc cc k W7.heap.size s0 s1 s2 et efr esq ekd edt (doE m ⟨s0, s1, s2⟩ ⟨et, k, efr, esq, ekd, edt⟩) 25 (X 25) w1 := hdep 25 (by decide +kernel)
      rw [resP_25] at e25; obtain ⟨A1, c1, e25, ho⟩ := e25; simp only [opW_def, mixT, e25]; go_simp
      exact ⟨⟨_, by first | rfl | simp [Act.put], Up.refl _, hG, (show resP A an ac B bk bd m.til b3 b6 gc nc cc k W7.heap.size s0 s1 s2 et efr esq ekd edt (doE m ⟨s0, s1, s2⟩ ⟨et, k, efr, esq, ekd, edt⟩) 35 _ _ from by first | (rw [resP_35]; exact rfl) | rw [resP_35])⟩⟩
    refine stepsT_guest (by kernel_rfl) ?_; refine stepsT_op (by kernel_rfl) ?_ ?_
    · intro X w1 k1 hG hdep
      simp only [opW_def, mixT]; go_simp
      exact ⟨⟨_, by first | rfl | simp [Act.put], (Up.refl _).alloc _, hG.alloc _, (show resP A an ac B bk bd m.til b3 b6 gc nc cc k W7.heap.size s0 s1 s2 et efr esq ekd edt (doE m ⟨s0, s1, s2⟩ ⟨et, k, efr, esq, ekd, edt⟩) 7 _ _ from by first | (rw [resP_7]; exact ⟨w1.heap.size, rfl, hG.size, BoxF.new w1 _ _ _ _, fun j hj => n3_none w1 _ j hj⟩) | rw [resP_7])⟩⟩
    exact trivial
  · intro h p _ hp
    obtain ⟨rfl, rfl⟩ := gOf_one hp; intro X w1 o ho hr
    have ho2 : some _ = some o := ho
    injection ho2 with ho2
    subst ho2
    have e25 : resP A an ac B bk bd m.til b3 b6 gc nc cc k W7.heap.size s0 s1 s2 et efr esq ekd edt (doE m ⟨s0, s1, s2⟩ ⟨et, k, efr, esq, ekd, edt⟩) 25 (X 25) w1 := hr
    rw [resP_25] at e25; obtain ⟨A1, c1, e25, ho⟩ := e25; refine ⟨.slice A1 (doE m ⟨s0, s1, s2⟩ ⟨et, k, efr, esq, ekd, edt⟩).2.length c1, fun w2 => ?_, (show resP A an ac B bk bd m.til b3 b6 gc nc cc k W7.heap.size s0 s1 s2 et efr esq ekd edt (doE m ⟨s0, s1, s2⟩ ⟨et, k, efr, esq, ekd, edt⟩) 36 _ _ from by first | (rw [resP_36]; exact ⟨A1, c1, rfl, ho⟩) | rw [resP_36])⟩; simp only [mixT, e25]; go_simp
  · intro X w3 hG hR
    have e35 : resP A an ac B bk bd m.til b3 b6 gc nc cc k W7.heap.size s0 s1 s2 et efr esq ekd edt (doE m ⟨s0, s1, s2⟩ ⟨et, k, efr, esq, ekd, edt⟩) 35 (X 35) w3 := hR 10 (by omega)
    rw [resP_35] at e35
    have e36 : resP A an ac B bk bd m.til b3 b6 gc nc cc k W7.heap.size s0 s1 s2 et efr esq ekd edt (doE m ⟨s0, s1, s2⟩ ⟨et, k, efr, esq, ekd, edt⟩) 36 (X 36) w3 := hR 11 (by omega)
    rw [resP_36] at e36; obtain ⟨As, cs7, hXs, cmax, ev7, lo7⟩ := e36
    have e7 : resP A an ac B bk bd m.til b3 b6 gc nc cc k W7.heap.size s0 s1 s2 et efr esq ekd edt (doE m ⟨s0, s1, s2⟩ ⟨et, k, efr, esq, ekd, edt⟩) 7 (X 7) w3 := hR 12 (by omega)
    rw [resP_7] at e7; obtain ⟨b7, e7, lb7, xb, no7⟩ := e7; clear hR DO CA CL
    generalize hD : doE m ⟨s0, s1, s2⟩ ⟨et, k, efr, esq, ekd, edt⟩ = D at *
    obtain ⟨⟨t0, t1, t2⟩, ds⟩ := D; dsimp only at hXs ev7
    have e35 : X 35 = .agg #[.int .i64 t0, .int .i64 t1, .int .i64 t2] := e35
    have XB := Lib.hid xb
    obtain ⟨b0, bb1, bb2⟩ := And.intro XB.out.k.c0 (And.intro XB.out.k.c1 XB.out.k.c2)
    have bl := XB.out.k.lt
    have bf := XB.out.f
    have OFF := Lib.hid (evs_off ev7 no7)
    have HD := Lib.hid hD
    clear hD xb no7; simp only [mixT, e35, hXs, e7]; refine mix_go rfl (by rfl) (fun K hK => ?_); go_simp; refine hK _ _ ?_; clear hK K; refine mix_go rfl (by rfl) (fun K hK => ?_); go_simp; refine hK _ _ ?_; clear hK K; refine mix_nil ?_
    have LB := Lib.hid (XB.out.laid (.int .i64 t0) (.int .i64 t1) (.int .i64 t2))
    have MX := ((((Up.refl w3).mv b7).setCell (o := 0) (.int .i64 t0)).setCell (o := 1) (.int .i64 t1) |>.setCell (o := 2) (.int .i64 t2))
    have UX := MX.up hG lb7
    have SP8 := Lib.hid (SP7.out.up UX)
    have KP8 := Lib.hid (KP7.out.up UX)
    have UP8 := Lib.hid (UP7.out.trans UX)
    have EB8 := Lib.hid (EB7.out.keep UX.size (UX.below.block b6 EB7.out.1))
    have XR8 := Lib.hid (XR7.out.up UX)
    have EV8 := Lib.hid (ev7.mv0 MX OFF.out)
    have LO7 := Lib.hid lo7
    have LB7 := Lib.hid (show W7.heap.size ≤ b7 from lb7)
    clear hG e35 hXs e7 b0 bb1 bb2 bf XB MX UX SP7 KP7 UP7 EB7 XR7 BM7 OFF ev7 lo7 lb7
    generalize ((w3.setCell ⟨b7, 0, none⟩ (.int .i64 t0)).setCell ⟨b7, 1, none⟩ (.int .i64 t1)).setCell ⟨b7, 2, none⟩ (.int .i64 t2) = W8 at *
    clear bl; obtain ⟨c0, c1, c2⟩ := And.intro SP8.out.c0 (And.intro SP8.out.c1 SP8.out.c2)
    have sl := SP8.out.lt
    obtain ⟨eb0, v0, v1, v2, v3, v4, v5⟩ := EB8.out; obtain ⟨u0, u1, u2⟩ := And.intro LB.out.c0 (And.intro LB.out.c1 LB.out.c2)
    have bl := LB.out.lt
    obtain ⟨g0, g1, g2⟩ := cst_at SP8.out.rc HKN.out
    have gl := (own_ge SP8.out.rc gc rfl).2
    have gf : ∀ j, W8.frozen? ⟨gc, j, none⟩ = false := fun j => SP8.out.rc.frozenAt j
    have kn1 : (k : Int) < (nc : Int) := by have := HKN.out; omega
    have kn0 : (0 : Int) ≤ (k : Int) := by omega
    go_wp2_with fail
    have MXC := ((((Up.refl W8).mv gc).setCell (o := k * 3) (.int .i64 t0)).setCell (o := k * 3 + 1) (.int .i64 t1) |>.setCell (o := k * 3 + 2) (.int .i64 t2))
    have SPC := Lib.hid (SP8.out.set ⟨t0, t1, t2⟩ HKN.out)
    have KPC := Lib.hid (KP8.out.mv MXC (.inl rfl))
    have UPC := Lib.hid (MXC.up UP8.out (by have := GLT.out.1; have := HZ.out; omega))
    have NGC := Lib.hid (show b6 ≠ gc ∧ b7 ≠ gc ∧ b4 ≠ gc ∧ gc < W7.heap.size by have := GLT.out.1; have := HB.out; have := SZ7.out; have := LB7.out; have := H6.out; have := SPL.out; omega)
    have EBC := Lib.hid (EB8.out.keep MXC.size (MXC.block b6 eb0 NGC.out.1))
    have LBC := Lib.hid (LB.out.keepB MXC.size (MXC.block b7 bl NGC.out.2.1))
    have XRC := Lib.hid (XR8.out.keepB MXC.size (MXC.block b4 XR8.out.k.lt NGC.out.2.2.1))
    have EVC := Lib.hid (EV8.out.mv0 MXC (fun _ b o hA => by have := LO7.out b o hA; have := NGC.out.2.2.2; omega))
    clear MXC c0 c1 c2 sl eb0 v0 v1 v2 v3 v4 v5 u0 u1 u2 bl g0 g1 g2 gl gf kn1 kn0 SP8 KP8 UP8 EB8 LB XR8 EV8; dsimp only at SPC
    generalize ((W8.setCell ⟨gc, k * 3, none⟩ (.int .i64 t0)).setCell ⟨gc, k * 3 + 1, none⟩ (.int .i64 t1)).setCell ⟨gc, k * 3 + 2, none⟩ (.int .i64 t2) = WC at *
    go_loopw [9] (fun v wr => LpS lo b3 b4 nc nl n (cs.set k ⟨t0, t1, t2⟩) r ls (.slice (some ⟨gc, 0, none⟩) nc cc) (.slice Al nl cl) ds WC v wr) (fun v _ => ds.length - (intOf v).toNat)
    case atStart => exact ⟨0, A6, c6, rfl, Nat.zero_le _, SPC.out, Mv.refl _ _, BH6.out⟩
    case round =>
      obtain ⟨ix, Aw, cwi, rfl, hi, hs, hm, hbw⟩ := hrel
      have BW := Lib.hid hbw
      clear hbw
      have SI := Lib.hid hs
      have HM := Lib.hid hm
      have HI := Lib.hid hi
      clear hs hm hi
      by_cases hil : ix < ds.length
      · have EVi := EVC.out.mv0 HM.out (fun _ b o hA => by have := LO7.out b o hA; have := SZ7.out; have := H6.out; have := SPL.out; have := HB.out; omega)
        obtain ⟨bs, os, hA, hbl, hc⟩ := EVi.2 (by omega); subst hA
        have hev := hc ix hil
        generalize hei : ds.getD ix default = ei at hev
        have HEI := Lib.hid hei
        obtain ⟨zt, zto, zfr, zsq, zkd, zdt⟩ := ei
        have EA := Lib.hid hev
        have BSL := Lib.hid hbl
        have j1 : (ix : Int) < (ds.length : Int) := by omega
        have j2 : (0 : Int) ≤ (ix : Int) := by omega
        have j3 : IntKind.i64.wrap ((ix : Int) + 1) = (ix : Int) + 1 := IntWalk.i64_in _ (by have := HDL.out; omega)
        have J3 := Lib.hid j3
        have hlen : (ins ⟨zt, zto, zfr, zsq, zkd, zdt⟩ (insAll (ds.take ix) r)).length = n + ix + 1 := by
          rw [ins_len, insAll_len, List.length_take, HRL.out]
          omega
        have pl := fun W (u : Up wr W) => l1Put_any Aw (n + ix) cwi (insAll (ds.take ix) r) ⟨zt, zto, zfr, zsq, zkd, zdt⟩ W (by have := HN.out; have := HDL.out; omega) ((own_evs SI.out.rq).up u)
        unfold NewSl at pl; simp only [hlen] at pl
        have PL := Lib.hid pl
        have LOR := Lib.hid (show lo ≤ wr.heap.size by have := SI.out.lt; have := HB.out; have := HLO.out; omega)
        have LB3 := Lib.hid (show b3 < wr.heap.size from SI.out.lt)
        have LB4 := Lib.hid (show b4 < wr.heap.size by have := HM.out.size; have := XRC.out.k.lt; omega)
        clear hc hev hei hbl EVi pl hlen j3
        go_wp2_with fail
        refine region_relyT 8 [] [(8, false)] [49, 50, 51, 52, 53, 54, 55, 56] 8 (fun _ w1 => Up wr w1) Up (fun i v w => resQ b3 wr.heap.size ix (n + ix) (.slice Aw (n + ix) cwi) (some ⟨bs, os, none⟩) ds.length cs7 bs os zt zto zfr zsq zkd zdt (insAll (ds.take ix) r) i v w) (by kernel_rfl) (by kernel_rfl) (by kernel_rfl) (by kernel_rfl) ((Up.refl _).drew) (fun slot_ _ _ _ h u => resQ_up b3 wr.heap.size ix (n + ix) (.slice Aw (n + ix) cwi) (some ⟨bs, os, none⟩) ds.length cs7 bs os zt zto zfr zsq zkd zdt (insAll (ds.take ix) r) slot_ h u) ?_ ?_ ?_
        · simp only [List.take_succ_cons, List.take_zero]
          refine stepsT_op (by kernel_rfl) ?_ ?_
          · intro X w1 k1 hG hdep
            simp only [opW_def, mixT]; go_simp
            exact ⟨⟨.pointer (some ⟨b3, 1, none⟩), by first | rfl | simp [Act.put], Up.refl _, hG, (show resQ b3 wr.heap.size ix (n + ix) (.slice Aw (n + ix) cwi) (some ⟨bs, os, none⟩) ds.length cs7 bs os zt zto zfr zsq zkd zdt (insAll (ds.take ix) r) 49 _ _ from by first | (rw [resQ_49]; exact rfl) | rw [resQ_49])⟩⟩
          refine stepsT_op (by kernel_rfl) ?_ ?_
          · intro X w1 k1 hG hdep
            have e49 : resQ b3 wr.heap.size ix (n + ix) (.slice Aw (n + ix) cwi) (some ⟨bs, os, none⟩) ds.length cs7 bs os zt zto zfr zsq zkd zdt (insAll (ds.take ix) r) 49 (X 49) w1 := hdep 49 (by decide +kernel)
            rw [resQ_49] at e49
            have sp := SI.out.up hG
            obtain ⟨q0, q1, q2⟩ := And.intro sp.c0 (And.intro sp.c1 sp.c2)
            have lp := sp.lt
            simp only [opW_def, mixT, e49]; go_simp
            exact ⟨⟨.slice Aw (n + ix) cwi, by first | rfl | simp [Act.put], Up.refl _, hG, (show resQ b3 wr.heap.size ix (n + ix) (.slice Aw (n + ix) cwi) (some ⟨bs, os, none⟩) ds.length cs7 bs os zt zto zfr zsq zkd zdt (insAll (ds.take ix) r) 50 _ _ from by first | (rw [resQ_50]; exact rfl) | rw [resQ_50])⟩⟩
          refine stepsT_op (by kernel_rfl) ?_ ?_
          · intro X w1 k1 hG hdep
            simp only [opW_def, mixT]; go_simp
            exact ⟨⟨.slice (some ⟨bs, os, none⟩) ds.length cs7, by first | rfl | simp [Act.put], Up.refl _, hG, (show resQ b3 wr.heap.size ix (n + ix) (.slice Aw (n + ix) cwi) (some ⟨bs, os, none⟩) ds.length cs7 bs os zt zto zfr zsq zkd zdt (insAll (ds.take ix) r) 51 _ _ from by first | (rw [resQ_51]; exact rfl) | rw [resQ_51])⟩⟩
          refine stepsT_op (by kernel_rfl) ?_ ?_
          · intro X w1 k1 hG hdep
            simp only [opW_def, mixT]; go_simp
            exact ⟨⟨.int .i64 (ix : Int), by first | rfl | simp [Act.put], Up.refl _, hG, (show resQ b3 wr.heap.size ix (n + ix) (.slice Aw (n + ix) cwi) (some ⟨bs, os, none⟩) ds.length cs7 bs os zt zto zfr zsq zkd zdt (insAll (ds.take ix) r) 52 _ _ from by first | (rw [resQ_52]; exact rfl) | rw [resQ_52])⟩⟩
          refine stepsT_op (by kernel_rfl) ?_ ?_
          · intro X w1 k1 hG hdep
            have e51 : resQ b3 wr.heap.size ix (n + ix) (.slice Aw (n + ix) cwi) (some ⟨bs, os, none⟩) ds.length cs7 bs os zt zto zfr zsq zkd zdt (insAll (ds.take ix) r) 51 (X 51) w1 := hdep 51 (by decide +kernel)
            rw [resQ_51] at e51
            have e52 : resQ b3 wr.heap.size ix (n + ix) (.slice Aw (n + ix) cwi) (some ⟨bs, os, none⟩) ds.length cs7 bs os zt zto zfr zsq zkd zdt (insAll (ds.take ix) r) 52 (X 52) w1 := hdep 52 (by decide +kernel)
            rw [resQ_52] at e52; simp only [opW_def, mixT, e51, e52]; go_simp
            exact ⟨⟨.pointer (some ⟨bs, os + ix * 6, none⟩), by first | rfl | simp [Act.put], Up.refl _, hG, (show resQ b3 wr.heap.size ix (n + ix) (.slice Aw (n + ix) cwi) (some ⟨bs, os, none⟩) ds.length cs7 bs os zt zto zfr zsq zkd zdt (insAll (ds.take ix) r) 53 _ _ from by first | (rw [resQ_53]; exact rfl) | rw [resQ_53])⟩⟩
          refine stepsT_op (by kernel_rfl) ?_ ?_
          · intro X w1 k1 hG hdep
            have e53 : resQ b3 wr.heap.size ix (n + ix) (.slice Aw (n + ix) cwi) (some ⟨bs, os, none⟩) ds.length cs7 bs os zt zto zfr zsq zkd zdt (insAll (ds.take ix) r) 53 (X 53) w1 := hdep 53 (by decide +kernel)
            rw [resQ_53] at e53; obtain ⟨a0, a1, a2, a3, a4, a5⟩ := EA.out.up hG BSL.out
            have lb := Nat.lt_of_lt_of_le BSL.out hG.size
            dsimp only at a0 a1 a2 a3 a4 a5; simp only [opW_def, mixT, e53]; go_simp
            exact ⟨⟨.agg #[.int .i64 zt, .int .i64 zto, .int .i64 zfr, .int .i64 zsq, .int .i64 zkd, .int .i64 zdt], by first | rfl | simp [Act.put], Up.refl _, hG, (show resQ b3 wr.heap.size ix (n + ix) (.slice Aw (n + ix) cwi) (some ⟨bs, os, none⟩) ds.length cs7 bs os zt zto zfr zsq zkd zdt (insAll (ds.take ix) r) 54 _ _ from by first | (rw [resQ_54]; exact rfl) | rw [resQ_54])⟩⟩
          refine stepsT_op (by kernel_rfl) ?_ ?_
          · intro X w1 k1 hG hdep
            have e50 : resQ b3 wr.heap.size ix (n + ix) (.slice Aw (n + ix) cwi) (some ⟨bs, os, none⟩) ds.length cs7 bs os zt zto zfr zsq zkd zdt (insAll (ds.take ix) r) 50 (X 50) w1 := hdep 50 (by decide +kernel)
            rw [resQ_50] at e50
            have e54 : resQ b3 wr.heap.size ix (n + ix) (.slice Aw (n + ix) cwi) (some ⟨bs, os, none⟩) ds.length cs7 bs os zt zto zfr zsq zkd zdt (insAll (ds.take ix) r) 54 (X 54) w1 := hdep 54 (by decide +kernel)
            rw [resQ_54] at e54; simp only [opW_def, mixT, e50, e54]; go_simp; refine (PL.out w1 hG).mono ?_; rintro x w2 ⟨A9, c9, rfl, _, _, _, o9, u⟩
            exact ⟨⟨_, by first | rfl | simp [Act.put], u, hG.trans u, (show resQ b3 wr.heap.size ix (n + ix) (.slice Aw (n + ix) cwi) (some ⟨bs, os, none⟩) ds.length cs7 bs os zt zto zfr zsq zkd zdt (insAll (ds.take ix) r) 55 _ _ from by first | (rw [resQ_55]; exact ⟨A9, c9, rfl, own_mono o9 hG.size⟩) | rw [resQ_55])⟩⟩
          refine stepsT_op (by kernel_rfl) ?_ ?_
          · intro X w1 k1 hG hdep
            simp only [opW_def, mixT]; go_simp
            exact ⟨⟨.pointer (some ⟨b3, 1, none⟩), by first | rfl | simp [Act.put], Up.refl _, hG, (show resQ b3 wr.heap.size ix (n + ix) (.slice Aw (n + ix) cwi) (some ⟨bs, os, none⟩) ds.length cs7 bs os zt zto zfr zsq zkd zdt (insAll (ds.take ix) r) 56 _ _ from by first | (rw [resQ_56]; exact rfl) | rw [resQ_56])⟩⟩
          exact trivial
        · intro h p _ hp
          cases hp
        · intro X w3 hG hR
          have e55 : resQ b3 wr.heap.size ix (n + ix) (.slice Aw (n + ix) cwi) (some ⟨bs, os, none⟩) ds.length cs7 bs os zt zto zfr zsq zkd zdt (insAll (ds.take ix) r) 55 (X 55) w3 := hR 6 (by omega)
          rw [resQ_55] at e55; obtain ⟨A9, c9, e55, o9⟩ := e55
          have e56 : resQ b3 wr.heap.size ix (n + ix) (.slice Aw (n + ix) cwi) (some ⟨bs, os, none⟩) ds.length cs7 bs os zt zto zfr zsq zkd zdt (insAll (ds.take ix) r) 56 (X 56) w3 := hR 7 (by omega)
          rw [resQ_56] at e56; clear hR PL EA
          have SQ := Lib.hid (SI.out.up hG)
          obtain ⟨c0, c1, c2⟩ := And.intro SQ.out.c0 (And.intro SQ.out.c1 SQ.out.c2)
          have sl := SQ.out.lt
          have sf := SQ.out.fz
          simp only [mixT, e55, e56]; refine mix_go rfl (by rfl) (fun K hK => ?_); go_simp; refine hK _ _ ?_; clear hK K; refine mix_nil ?_
          have RES := Lib.hid (show LpS lo b3 b4 nc nl n (cs.set k ⟨t0, t1, t2⟩) r ls (.slice (some ⟨gc, 0, none⟩) nc cc) (.slice Al nl cl) ds WC (.int .i64 ((ix : Int) + 1)) (w3.setCell ⟨b3, 1, none⟩ (.slice A9 (n + ix + 1) c9)) from
            ⟨ix + 1, A9, c9, by first | rfl | go_num, by omega, by
              rw [insAll_take ds r ix hil, HEI.out]
              exact SQ.out.wait (own_mono o9 LOR.out) (fun x hx => by have := (own_ge o9 x hx).1; have := LB3.out; omega), HM.out.trans ((hG.mv b3).setCell _), fun x hx => by have := (own_ge o9 x hx).1; have := LB4.out; omega⟩)
          clear c0 c1 c2 sl sf SQ o9 e55 e56 hG
          have j3 := J3.out
          go_wp2
          go_roundw
          case rel => exact RES.out
          case measure => (simp [intOf]; try omega)
      · have j1 : ¬ ((ix : Int) < (ds.length : Int)) := by omega
        have hie : ix = ds.length := by have := HI.out; omega
        subst hie
        have NB3 := Lib.hid (show b6 ≠ b3 ∧ b7 ≠ b3 ∧ b4 ≠ b3 by have := HB.out; have := SZ7.out; have := LB7.out; have := H6.out; have := SPL.out; omega)
        have EBr := Lib.hid (EBC.out.keep HM.out.size (HM.out.block b6 EBC.out.1 NB3.out.1))
        have LBr := Lib.hid (LBC.out.keepB HM.out.size (HM.out.block b7 LBC.out.lt NB3.out.2.1))
        have XRr := Lib.hid (XRC.out.keepB HM.out.size (HM.out.block b4 XRC.out.k.lt NB3.out.2.2))
        have KPr := Lib.hid (KPC.out.mv HM.out (.inr (by have := HB.out; omega)))
        have UPr := Lib.hid (HM.out.up UPC.out (by have := HZ.out; have := HB.out; have := HLO.out; omega))
        have SPr := Lib.hid (show Sp lo b3 nc nl (n + ds.length) (cs.set k ⟨t0, t1, t2⟩) (insAll ds r) ls (.slice (some ⟨gc, 0, none⟩) nc cc) (.slice Aw (n + ds.length) cwi) (.slice Al nl cl) wr from by have := SI.out; rwa [List.take_length] at this)
        clear SI HM HI EBC LBC XRC UPC EVC SPC; obtain ⟨c0, c1, c2⟩ := And.intro SPr.out.c0 (And.intro SPr.out.c1 SPr.out.c2)
        have sl := SPr.out.lt
        have sf := SPr.out.fz
        obtain ⟨eb0, v0, v1, v2, v3, v4, v5⟩ := EBr.out; obtain ⟨u0, u1, u2⟩ := And.intro LBr.out.c0 (And.intro LBr.out.c1 LBr.out.c2)
        have bl := LBr.out.lt
        have UL := Lib.hid ((Up.refl wr).alloc (.cells #[.int .i64 et, .int .i64 (k : Int), .int .i64 efr, .int .i64 esq, .int .i64 ekd, .int .i64 edt, .int .i64 t0] 180))
        have SPl := Lib.hid (SPr.out.up UL.out)
        have KPl := Lib.hid (KPr.out.up UL.out)
        have UPl := Lib.hid (UPr.out.trans UL.out)
        have XRl := Lib.hid (XRr.out.up UL.out)
        have RDX := Lib.hid (rec1_new wr et k efr esq ekd edt t0 180)
        have HBS := Lib.hid (show lo ≤ (wr.alloc (.cells #[.int .i64 et, .int .i64 (k : Int), .int .i64 efr, .int .i64 esq, .int .i64 ekd, .int .i64 edt, .int .i64 t0] 180)).heap.size by have := SPl.out.lt; have := HB.out; have := HLO.out; omega)
        have ne34 : ¬ b3 = b4 := by have := HB.out; omega
        have ne43 : ¬ b4 = b3 := by have := HB.out; omega
        go_wp2_with (at_builtin; refine wpList_append_any (P := Try.prog) _ rfl (.tmp 58) (.tmp 63) 60 rfl lo 180 i0 _ 7 56 Try.underlying60 INF.out.1 INF.out.2.1 INF.out.2.2.1 INF.out.2.2.2 rfl SEV.out (.slice Al nl cl) nl (flat7 ls) rfl SPl.out.rl _ (some ⟨wr.heap.size, 0, none⟩) 1 1 (flat7 [⟨⟨et, k, efr, esq, ekd, edt⟩, t0⟩]) rfl RDX.out (flat7_one _) HMX.out HBY.out HBS.out ?_; intro v6 w6 ho6 hg6 hv6; clear c0 c1 c2 sl sf eb0 v0 v1 v2 v3 v4 v5 u0 u1 u2 bl; obtain ⟨g6, c6', rfl, hgb6, hlt6⟩ := ho6.form (by omega); have bp6 := hg6.block b3 SPl.out.lt (fun e => SPl.out.apl b3 e.symm rfl); have hc0 := (World.cell?_of_block (a := ⟨b3, 0, none⟩) bp6).trans SPl.out.c0; have hc1 := (World.cell?_of_block (a := ⟨b3, 1, none⟩) bp6).trans SPl.out.c1; have hc2 := (World.cell?_of_block (a := ⟨b3, 2, none⟩) bp6).trans SPl.out.c2; have hf6 := (World.frozen?_of_block (a := ⟨b3, 2, none⟩) bp6).trans (SPl.out.fz 2); have hl6 := Nat.lt_of_lt_of_le SPl.out.lt hg6.size; have XR6 := Lib.hid (XRl.out.keepB hg6.size (hg6.block b4 XRl.out.k.lt (fun e => by have := GLT.out.2 b4 e.symm; have := HB.out; omega))); obtain ⟨y0, y1, y2⟩ := And.intro XR6.out.k.c0 (And.intro XR6.out.k.c1 XR6.out.k.c2); have yl := XR6.out.k.lt; have yf := XR6.out.f)
        have SZ := Lib.hid (SPl.out.log hg6 ho6 hv6)
        have UZ := Lib.hid (SPl.out.logUp (v6 := .slice (some ⟨g6, 0, none⟩) (nl + 1) c6') hg6 UPl.out HZ.out (by have := HZ.out; have := HB.out; have := HLO.out; omega))
        have MB := ((Up.refl w6).mv b3).setCell (o := 2) (.slice (some ⟨g6, 0, none⟩) (nl + 1) c6')
        have XR7 := XR6.out.keepB MB.size (MB.block b4 yl ne43)
        have LB7 := XR7.laid (.slice (some ⟨gc, 0, none⟩) nc cc) (.slice Aw (n + ds.length) cwi) (.slice (some ⟨g6, 0, none⟩) (nl + 1) c6')
        obtain ⟨k0, k1, k2⟩ := And.intro LB7.c0 (And.intro LB7.c1 LB7.c2)
        have N6 : g6 ≠ b4 := by
          rcases hv6 with h6 | h6
          · have := GLT.out.2 g6 h6.symm
            have := HB.out
            omega
          · have h6 : some g6 = some _ := h6
            injection h6 with h6
            have := XRl.out.k.lt
            omega
        have M4 := ((((Up.refl (w6.setCell ⟨b3, 2, none⟩ (.slice (some ⟨g6, 0, none⟩) (nl + 1) c6'))).mv b4).setCell (o := 0) (.slice (some ⟨gc, 0, none⟩) nc cc)).setCell (o := 1) (.slice Aw (n + ds.length) cwi) |>.setCell (o := 2) (.slice (some ⟨g6, 0, none⟩) (nl + 1) c6'))
        have KE := Lib.hid (((KPl.out.grow hg6).mv MB (.inr (by have := HB.out; omega))).mv M4 (.inr (by have := HB.out; omega)))
        have UE := Lib.hid (M4.up UZ.out (by have := HZ.out; have := HB.out; have := HLO.out; omega))
        have O1 := Lib.hid (own_keep SZ.out.rc (fun x hx hl => M4.block x hl (by injection hx with hx; have := GLT.out.1; have := HB.out; have hx : gc = x := hx; omega)))
        have O2 := Lib.hid (own_keep SZ.out.rq (fun x hx hl => M4.block x hl (by have := BW.out x hx; omega)))
        have O3 := Lib.hid (own_keep SZ.out.rl (fun x hx hl => M4.block x hl (by injection hx with hx; have hx : g6 = x := hx; omega)))
        have TO := Lib.hid (show (k : Int).toNat = k from Int.toNat_natCast k)
        clear SZ UZ MB XR7 LB7 M4 XR6 SPl UPl XRl ho6 hg6 hv6 SPr UPr XRr EBr LBr; go_wp2
        exact bodyPost_ret (v := .tuple #[.agg #[.slice (some ⟨gc, 0, none⟩) nc cc, .slice Aw (n + ds.length) cwi, .slice (some ⟨g6, 0, none⟩) (nl + 1) c6'], .bool true]) (by simp [results, Try.results191, go_sem, k0, k1, k2]) rfl ⟨UE.out, fun b h1 h2 h3 => KE.out.2 b (by have := HB.out; omega) (fun e => h2 gc rfl e.symm) h3, by have := KE.out.1; have := HB.out; omega, _, _, _, rfl, by rw [HD.out]; exact O1.out, by rw [HD.out]; exact O2.out, by rw [HD.out]; exact O3.out⟩
end Go.Proofs.Ytklldniapombiaa

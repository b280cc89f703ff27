/-
  What impl.EvtPut returns, in one sentence: the rising list with the event put in, in a block of the call's own, nothing for another list; for every list that lies in memory.
-/
import Derived.Test.YtkfjemgelmbcfaaKStableAll
import Derived.Test.YtkfjemgelmbcfaaKI
namespace Go.Proofs.Ytkfjemgelmbcfaa
set_option maxRecDepth 100000
open Go.RowKit

theorem ins_perm (e : Evt) : ∀ l : List Evt, (ins e l).Perm (e :: l)
  | [] => List.Perm.refl _
  | x :: r => by
    rw [ins]
    split
    · exact List.Perm.refl _
    · exact ((ins_perm e r).cons x).trans (List.Perm.swap e x r)
theorem rise_pairwise : ∀ l : List Evt, riseB l = true → l.Pairwise leE
  | [], _ => List.Pairwise.nil
  | [a], _ => List.pairwise_singleton _ _
  | a :: b :: r, h => by
    rw [riseB, Bool.and_eq_true] at h
    have ih := rise_pairwise (b :: r) h.2
    refine List.Pairwise.cons (fun x hx => ?_) ih
    rcases List.mem_cons.1 hx with rfl | hx
    · exact ltE_le h.1
    · exact leE_trans (ltE_le h.1) ((List.pairwise_cons.1 ih).1 x hx)
theorem ins_pairwise (e : Evt) : ∀ l : List Evt, l.Pairwise leE → (ins e l).Pairwise leE
  | [], _ => List.pairwise_singleton _ _
  | x :: r, h => by
    have h2 := List.pairwise_cons.1 h
    rw [ins]
    split
    · rename_i hl
      refine List.Pairwise.cons (fun y hy => ?_) h
      rcases List.mem_cons.1 hy with rfl | hy
      · exact ltE_le hl
      · exact leE_trans (ltE_le hl) (h2.1 y hy)
    · rename_i hl
      refine List.Pairwise.cons (fun y hy => ?_) (ins_pairwise e r h2.2)
      rcases List.mem_cons.1 ((ins_perm e r).mem_iff.1 hy) with rfl | hy
      · exact Bool.eq_false_iff.2 hl
      · exact h2.1 y hy
theorem perm_sorted : ∀ (l l' : List Evt), l.Perm l' → l.Pairwise leE → l'.Pairwise leE → l = l'
  | [], l', h, _, _ => (List.Perm.nil_eq h)
  | x :: xs, [], h, _, _ => by
    have := h.length_eq
    simp at this
  | x :: xs, y :: ys, h, h1, h2 => by
    have k1 := List.pairwise_cons.1 h1
    have k2 := List.pairwise_cons.1 h2
    have e : x = y := by
      have m1 := List.mem_cons.1 (h.mem_iff.1 (List.mem_cons_self (a := x) (l := xs)))
      have m2 := List.mem_cons.1 (h.mem_iff.2 (List.mem_cons_self (a := y) (l := ys)))
      rcases m1 with m1 | m1
      · exact m1
      · rcases m2 with m2 | m2
        · exact m2.symm
        · exact leE_antisymm (k1.1 y m2) (k2.1 x m1)
    subst e
    rw [perm_sorted xs ys (List.Perm.cons_inv h) k1.2 k2.2]
theorem sortF_pairwise {F : Nat → Evt} {N : Nat} (h : SortF F 0 N) : ((List.range N).map F).Pairwise leE := by
  rw [List.pairwise_iff_getElem]
  intro i j hi hj hij
  simp only [List.length_map, List.length_range] at hi hj
  simp only [List.getElem_map, List.getElem_range]
  exact h.le' (Nat.zero_le _) (by omega) hj
theorem range_getD (es : List Evt) : (List.range es.length).map (fun i => es.getD i default) = es := by
  apply List.ext_getElem
  · simp
  · intro i h1 h2
    simp [h2]
theorem sort_ins {F : Nat → Evt} {es : List Evt} {e : Evt} {N : Nat} (hl : es.length + 1 = N) (hr : riseB es = true) (ha : Arr (fun i => (es ++ [e]).getD i default) F 0 N N) (hs : SortF F 0 N) (i : Nat) (hi : i < N) : F i = (ins e es).getD i default := by
  have p := ha.perm
  have e1 : (List.range N).map (fun i => (es ++ [e]).getD i default) = es ++ [e] := by
    have := range_getD (es ++ [e])
    rwa [show (es ++ [e]).length = N by simp [hl]] at this
  rw [e1] at p
  have p2 : ((List.range N).map F).Perm (ins e es) := p.symm.trans ((List.perm_append_comm (l₁ := es) (l₂ := [e])).trans (ins_perm e es).symm)
  have := perm_sorted _ _ p2 (sortF_pairwise hs) (ins_pairwise e es (rise_pairwise es hr))
  rw [← this]
  simp [hi]

/-- A slice of these events, in a block of the call's own. -/
def GivesO (fs : List Evt) (n : Nat) (w : World) (x : Ending) (w' : World) : Prop :=
  ∃ g c, x = .returned (.slice (some ⟨g, 0, none⟩) n c) ∧ w.heap.size ≤ g ∧ Own w' g n fs ∧ Up w w'

set_option maxHeartbeats 2000000 in
theorem sortBy_all (A1 : Option Addr) (p c1 : Nat) (es : List Evt) (A2 : Option Addr) (c2 : Nat) (e : Evt) (W : World) (h1 : Evs W A1 p es) (h2 : Evs W A2 1 [e]) (hp : p ≤ 1048576) (hr : riseB es = true) :
    Calls Try.prog 79 #[.func (.func 73) #[] #[], .slice (some ⟨W.heap.size, 0, none⟩) 2 2] (W.alloc (.cells #[.slice A1 p c1, .slice A2 1 c2] 24))
      (GivesO (ins e es) (p + 1) (W.alloc (.cells #[.slice A1 p c1, .slice A2 1 c2] 24))) := by
  obtain hl := h1.1
  have C := Lib.hid (concat2 A1 p c1 es A2 1 c2 [e] W h1 h2 (by omega))
  have SI := Lib.hid (fun F ha hs i hi => sort_ins (F := F) (es := es) (e := e) (N := p + 1) (by omega) hr ha hs i hi)
  have IL := Lib.hid (show (ins e es).length = p + 1 by rw [ins_len, hl])
  have FL := Lib.hid (show (es ++ [e]).length = p + 1 by simp [hl])
  clear h1 h2 hr hl
  go_enter Try.func79, Try.ntmps79
  go_wp2_with fail
  refine C.out.mono ?_
  rintro x w2 ⟨A, c, rfl, hc, hm, -, ow, up⟩
  rw [FL.out] at hc ow ⊢
  obtain ⟨g, cap, hv, hg, hlt⟩ := ow.form (by omega)
  injection hv with hA _ hcp
  subst hA
  subst hcp
  have RO := Lib.hid (Row.of_own ow (by omega))
  have OW := Lib.hid hg
  have U2 := Lib.hid up
  clear ow up hg C
  go_wp2_with fail
  have SA := sortStable_all g (p + 1) c _ _ (by omega) RO.out
  refine SA.mono ?_
  rintro x w3 ⟨rfl, ⟨F, row, arr, srt⟩, mv⟩
  have OE := Lib.hid (show Own w3 g (p + 1) (ins e es) from ⟨IL.out, row.1, fun i hi => by rw [← SI.out F arr srt i hi]; exact row.2.1 i hi, row.2.2⟩)
  have U3 := Lib.hid (mv.up U2.out OW.out)
  clear row arr srt mv U2 RO SA
  go_wp2
  go_ret
  exact ⟨g, c, rfl, OW.out, OE.out, U3.out⟩

/-- What impl.EvtPut gives. -/
def PutO (b : Bool) (fs : List Evt) (n : Nat) (w : World) (x : Ending) (w' : World) : Prop :=
  (b = true → GivesO fs n w x w') ∧ (b = false → x = .returned (.slice none 0 0) ∧ Up w w')

set_option maxHeartbeats 2000000 in
theorem implPut_all (A : Option Addr) (n cap : Nat) (es : List Evt) (e : Evt) (w : World) (hn : n ≤ 1048576) (hE : Evs w A n es) :
    Calls Try.prog 29 #[.slice A n cap, e.v] w (PutO (riseB es) (ins e es) (n + 1) w) := by
  have RI := Lib.hid (fun W h => implRise_any A n cap es W (by omega) h)
  have HE := Lib.hid hE
  have SB := Lib.hid (fun A2 c2 W h1 h2 hr => sortBy_all A n cap es A2 c2 e W h1 h2 hn hr)
  obtain ⟨et, eto, efr, esq, ekd, edt⟩ := e
  have B0 := Lib.hid (Box.new w ⟨et, eto, efr, esq, ekd, edt⟩ 50)
  generalize hr : riseB es = r at RI SB ⊢
  clear hr hE
  unfold Evt.v
  dsimp only
  go_enter Try.func29, Try.ntmps29
  go_wp2_with fail
  refine (RI.out _ (HE.out.up ((Up.refl w).alloc _))).mono ?_
  rintro x w1 ⟨rfl, u1⟩
  have U1 := Lib.hid (((Up.refl w).alloc _).trans u1)
  have B1 := Lib.hid (B0.out.up u1)
  have E1 := Lib.hid (HE.out.up U1.out)
  clear u1 RI HE B0
  cases r
  · go_wp2
    go_ret
    exact ⟨(fun h => by cases h), fun _ => ⟨rfl, U1.out⟩⟩
  · obtain ⟨⟨k0, k1, k2, k3, k4, k5⟩, -⟩ := B1.out.mk6
    have E2 := Lib.hid (Evs.new w1 ⟨et, eto, efr, esq, ekd, edt⟩ 50)
    have E3 := Lib.hid (E1.out.up ((Up.refl w1).alloc (.cells #[.int .i64 et, .int .i64 eto, .int .i64 efr, .int .i64 esq, .int .i64 ekd, .int .i64 edt] 50)))
    go_wp2_with fail
    have G := SB.out (some ⟨w1.heap.size, 0, none⟩) 1 _ E3.out E2.out (by first | trivial | rfl)
    simp only [World.size_alloc] at G
    refine G.mono ?_
    rintro x w2 ⟨g, c2, rfl, hg, ow, up⟩
    have OW := Lib.hid ow
    have UP := Lib.hid (((U1.out.alloc _).alloc _).trans up)
    have HG := Lib.hid (show w.heap.size ≤ g by have := U1.out.size; simp at hg; omega)
    clear ow up G k0 k1 k2 k3 k4 k5
    go_wp2
    go_ret
    exact ⟨fun _ => ⟨g, c2, rfl, HG.out, OW.out, UP.out⟩, fun h => by cases h⟩

end Go.Proofs.Ytkfjemgelmbcfaa

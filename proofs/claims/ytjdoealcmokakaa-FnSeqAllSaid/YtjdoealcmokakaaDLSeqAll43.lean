/-
  What a component does, where it may, in one sentence: it stays valid and sends later, valid events; for every valid model, component and event.
  A run of steps, in one sentence: it ends, and all its simulators are valid; for every simulator of a valid model whose parts are valid.
  The simulator that has done nothing, in one sentence: what it is, that it is one of its model, and that both SeqNew give it; for every model.
  A run of a whole model, in one sentence: from its beginning on its simulators are valid, and it ends; for every model.
  A step of the program's simulator on its way, in one sentence: it does what a step of the lists does; for every simulator whose parts are valid.
  What impl.SeqAll returns, in one sentence: the last simulator of the model, or zero values; for every model that lies in memory.
-/
import Derived.Test.YtjdoealcmokakaaDLSeqAll18
import Derived.Test.YtjdoealcmokakaaDLSeqAll25
import Derived.Test.YtjdoealcmokakaaDLSeqAll38
import Derived.Test.YtjdoealcmokakaaDLSeqAll40
import Derived.Test.YtjdoealcmokakaaDLSeqAll42
namespace Go.Proofs.Ytjdoealcmokakaa
set_option maxRecDepth 100000
open Go.RowKit
/-- What a component does, where it may. -/
structure MayF (m : Mdl) (s : Cst) (e : Evt) (x : Cst) (L : List Evt) : Prop where
  to_ : 0 ≤ e.to ∧ e.to < m.rules.length
  many : 1 ≤ m.rules.length ∧ m.rules.length ≤ 4
  cst : cstB x = true
  old : (0 ≤ s.sq ∧ s.sq ≤ 12) ∧ 0 ≤ s.ct
  ct : x.ct = s.ct + 1
  sends : SendsF m.til m.rules.length e s.sq x.sq 2 L
  til : m.til ≤ 99 ∧ 0 ≤ e.t
  none_ : ruleOf e.kd (m.rules.getD e.to.toNat []) = none → x.s = s.s ∧ L = []
theorem inRule {kd : Int} : ∀ {rs : List Rule} {r : Rule}, ruleOf kd rs = some r → r ∈ rs
  | [], _, h => by cases h
  | x :: rs, r, h => by
    rw [ruleOf] at h
    split at h
    · injection h with h
      exact h ▸ List.mem_cons_self
    · exact List.mem_cons_of_mem _ (inRule h)
theorem okRule {many bf : Int} : ∀ {rs : List Rule} {r : Rule}, rulesB many bf rs = true → r ∈ rs → ruleB r many = true
  | [], _, _, h => by cases h
  | x :: rs, r, hb, h => by
    rw [rulesB] at hb; simp only [Bool.and_eq_true] at hb
    rcases List.mem_cons.1 h with rfl | h
    · exact hb.1.2
    · exact okRule hb.2 h
theorem may_facts (m : Mdl) (s : Cst) (e : Evt) (hc : s.ct ≤ 1000000000000) (h : mayB m s e = true) : MayF m s e (doM m s e).1 (doM m s e).2 := by
  have h0 := h
  unfold mayB at h0; simp only [Bool.and_eq_true, decide_eq_true_eq] at h0; obtain ⟨⟨⟨hm, hs⟩, ho⟩, ht⟩ := h0
  have hs' := hs
  unfold cstB at hs'; simp only [Bool.and_eq_true, inB_iff, decide_eq_true_eq] at hs'
  have ho' := ho
  unfold okB at ho'; simp only [Bool.and_eq_true, inB_iff] at ho'
  have hm' := hm
  unfold mdlB at hm'; simp only [Bool.and_eq_true, inB_iff] at hm'
  have hl : e.to.toNat < m.rules.length := by omega
  have hrow : rulesB m.rules.length (-1) (m.rules.getD e.to.toNat []) = true := by
    have : m.rules.getD e.to.toNat [] = m.rules[e.to.toNat] := by simp [List.getD, hl]
    rw [this]
    exact List.all_eq_true.1 hm'.2 _ (List.getElem_mem hl)
  have hw : IntKind.i64.wrap (s.ct + 1) = s.ct + 1 := IntWalk.i64_in _ (by omega)
  rw [doM, if_pos h]
  cases hr : ruleOf e.kd (m.rules.getD e.to.toNat []) with
  | none =>
    have e1 : doE m s e = (⟨s.s, s.sq, s.ct + 1⟩, []) := by simp only [doE, hr, hw]
    rw [e1]
    exact ⟨by omega, by omega, by unfold cstB; simp only [Bool.and_eq_true, inB_iff, decide_eq_true_eq]; omega, by omega, rfl, ⟨by simp, by dsimp only; omega, by dsimp only; omega, fun i hi => by simp at hi, fun i j _ hi => by simp at hi⟩, by omega, fun _ => ⟨rfl, rfl⟩⟩
  | some r =>
    have hrb := okRule hrow (inRule hr)
    unfold ruleB at hrb; simp only [Bool.and_eq_true, inB_iff, decide_eq_true_eq] at hrb
    have hall : ∀ x ∈ r.sends, sndB x m.rules.length = true := List.all_eq_true.1 hrb.1.1.1.1.1
    have S := sendsE_facts m.til ((r.a * s.s + r.b * e.dt + r.c) % 97) m.rules.length e r.sends s.sq hall (by omega) (by omega)
    have e1 : doE m s e = (⟨(r.a * s.s + r.b * e.dt + r.c) % 97, (sendsE m.til ((r.a * s.s + r.b * e.dt + r.c) % 97) e r.sends s.sq).2, s.ct + 1⟩, (sendsE m.til ((r.a * s.s + r.b * e.dt + r.c) % 97) e r.sends s.sq).1) := by simp only [doE, hr, hw]
    rw [e1]
    have g1 := S.len
    have g2 := S.top
    have g3 := S.few
    refine ⟨by omega, by omega, ?_, by omega, rfl, ⟨g1, g2, by dsimp only; omega, S.each, S.rise⟩, by omega, fun hn => by rw [hr] at hn; cases hn⟩; unfold cstB; simp only [Bool.and_eq_true, inB_iff, decide_eq_true_eq]
    omega
end Go.Proofs.Ytjdoealcmokakaa

namespace Go.Proofs.Ytjdoealcmokakaa
set_option maxRecDepth 100000
open Go.RowKit
/-- What can still be sent. -/
def leftS : List Cst → Nat
  | [] => 0
  | c :: r => (12 - c.sq).toNat + leftS r
theorem leftS_set : ∀ (cs : List Cst) (k : Nat) (c : Cst), k < cs.length → leftS (cs.set k c) + (12 - (cs.getD k default).sq).toNat = leftS cs + (12 - c.sq).toNat
  | [], _, _, h => absurd h (by simp)
  | x :: r, 0, c, _ => by
    simp only [List.set_cons_zero, leftS, List.getD_cons_zero]
    omega
  | x :: r, k + 1, c, h => by
    have ih := leftS_set r k c (by simpa using h)
    simp only [List.set_cons_succ, leftS, List.getD_cons_succ]
    omega
/-- A simulator on its way: i steps are done, and at most N events come up. -/
structure Going (m : Mdl) (N i : Nat) (s : Sq) : Prop where
  md : mdlB m = true
  len : s.comps.length = m.rules.length
  cst : ∀ c ∈ s.comps, cstB c = true ∧ c.ct ≤ (i : Int)
  tak : ∀ e ∈ s.wait, takB m.rules.length m.til e = true
  ord : s.wait.Pairwise leE
  few : s.wait.length + s.log.length + leftS s.comps ≤ N
theorem Going.may {m : Mdl} {N i : Nat} {s : Sq} {e : Evt} {r : List Evt} (h : Going m N i s) (hw : s.wait = e :: r) : mayB m (s.comps.getD e.to.toNat default) e = true ∧ (0 ≤ e.to ∧ e.to < m.rules.length) ∧ (s.comps.getD e.to.toNat default).ct ≤ (i : Int) := by
  have ht := h.tak e (by rw [hw]; exact List.mem_cons_self)
  unfold takB at ht; simp only [Bool.and_eq_true, decide_eq_true_eq] at ht
  have ho := ht.1
  unfold okB at ho; simp only [Bool.and_eq_true, inB_iff] at ho
  have hto : 0 ≤ e.to ∧ e.to < m.rules.length := by omega
  have hl : e.to.toNat < s.comps.length := by rw [h.len]; omega
  have hc := h.cst (s.comps.getD e.to.toNat default) (by simp [List.getD, hl])
  refine ⟨?_, hto, hc.2⟩; unfold mayB; simp only [Bool.and_eq_true, decide_eq_true_eq]
  exact ⟨⟨⟨h.md, hc.1⟩, ht.1⟩, ht.2⟩
theorem sent_tak {til many : Int} {e x : Evt} {lo hi : Int} (h : SentF til many e lo hi x) (h0 : 0 ≤ lo) (h1 : hi ≤ 12) (hm : 1 ≤ many ∧ many ≤ 4) (ht : til ≤ 99 ∧ 0 ≤ e.t) (hto : 0 ≤ e.to ∧ e.to < many) : takB many til x = true := by
  have a1 := h.sq
  have a2 := h.fr
  have a3 := h.t
  have a4 := h.to_
  have a5 := h.kd
  have a6 := h.dt
  unfold takB okB; simp only [Bool.and_eq_true, inB_iff, decide_eq_true_eq]
  omega
theorem Going.facts {m : Mdl} {N i : Nat} {s : Sq} {e : Evt} {r : List Evt} (h : Going m N i s) (hw : s.wait = e :: r) (hi : i ≤ 100000000) : MayF m (s.comps.getD e.to.toNat default) e (doE m (s.comps.getD e.to.toNat default) e).1 (doE m (s.comps.getD e.to.toNat default) e).2 := by
  obtain ⟨hm, _, hct⟩ := h.may hw
  have F := may_facts m _ e (by omega) hm
  rwa [doM, if_pos hm] at F
theorem Going.step {m : Mdl} {N i : Nat} {s : Sq} {e : Evt} {r : List Evt} (h : Going m N i s) (hw : s.wait = e :: r) (hi : i ≤ 100000000) : Going m N (i + 1) (stpS m s).1 := by
  have F := h.facts hw hi
  obtain ⟨hm, hto, hct⟩ := h.may hw
  have hl : e.to.toNat < s.comps.length := by rw [h.len]; omega
  unfold stpS; rw [hw]; dsimp only
  generalize hD : doE m (s.comps.getD e.to.toNat default) e = D at *
  obtain ⟨c', ds⟩ := D; dsimp only at F ⊢
  have hord : r.Pairwise leE := by have := h.ord; rw [hw] at this; exact (List.pairwise_cons.1 this).2
  have S := F.sends
  have hlen := S.len
  have htop := S.top
  have hold := F.old
  refine ⟨h.md, by rw [List.length_set]; exact h.len, fun c hc => ?_, fun x hx => ?_, insAll_pair _ _ hord, ?_⟩
  · rcases List.mem_or_eq_of_mem_set hc with hc | rfl
    · have := h.cst c hc
      exact ⟨this.1, by have := this.2; omega⟩
    · have := F.ct
      exact ⟨F.cst, by omega⟩
  · have hx := (insAll_perm ds r).mem_iff.1 hx
    rcases List.mem_append.1 hx with hx | hx
    · obtain ⟨j, hj, rfl⟩ := List.getElem_of_mem hx
      have E := S.each j hj
      have e1 : ds.getD j default = ds[j] := by simp [List.getD, hj]
      rw [e1] at E
      exact sent_tak E (by omega) htop (by have := F.many; omega) F.til hto
    · exact h.tak x (by rw [hw]; exact List.mem_cons_of_mem _ hx)
  · have hf := h.few
    rw [hw] at hf
    have hs := leftS_set s.comps e.to.toNat c' hl
    rw [insAll_len, List.length_append]; simp only [List.length_cons, List.length_nil] at hf ⊢
    omega
theorem Going.phi {m : Mdl} {N i : Nat} {s : Sq} {e : Evt} {r : List Evt} (h : Going m N i s) (hw : s.wait = e :: r) (hi : i ≤ 100000000) : (stpS m s).1.wait.length + leftS (stpS m s).1.comps + 1 ≤ s.wait.length + leftS s.comps := by
  have F := h.facts hw hi
  obtain ⟨hm, hto, hct⟩ := h.may hw
  have hl : e.to.toNat < s.comps.length := by rw [h.len]; omega
  unfold stpS; rw [hw]; dsimp only
  generalize hD : doE m (s.comps.getD e.to.toNat default) e = D at *
  obtain ⟨c', ds⟩ := D; dsimp only at F ⊢
  have S := F.sends
  have hlen := S.len
  have htop := S.top
  have hold := F.old
  have hs := leftS_set s.comps e.to.toNat c' hl
  rw [insAll_len]; simp only [List.length_cons]
  omega
/-- At most k steps. -/
def runS (m : Mdl) : Nat → Sq → Sq
  | 0, s => s
  | k + 1, s => match s.wait with
    | [] => s
    | _ :: _ => runS m k (stpS m s).1
/-- A simulator on its way to the last one. -/
structure Run (m : Mdl) (N : Nat) (Z s : Sq) : Prop where
  go : Going m N s.log.length s
  few : N ≤ 1048700
  last : ∃ k, s.wait.length + leftS s.comps ≤ k ∧ runS m k s = Z
theorem Run.done {m : Mdl} {N : Nat} {Z s : Sq} (h : Run m N Z s) (hw : s.wait = []) : s = Z := by
  obtain ⟨k, _, hk⟩ := h.last
  cases k with
  | zero => exact hk
  | succ k =>
    unfold runS at hk; rw [hw] at hk
    exact hk
theorem stpS_log {m : Mdl} {s : Sq} {e : Evt} {r : List Evt} (hw : s.wait = e :: r) : (stpS m s).1.log.length = s.log.length + 1 := by
  unfold stpS; rw [hw]; simp
theorem Run.len {m : Mdl} {N : Nat} {Z s : Sq} (h : Run m N Z s) : s.wait.length ≤ 1048700 ∧ s.log.length ≤ 1048700 := by
  have := h.go.few
  have := h.few
  omega
theorem Run.step {m : Mdl} {N : Nat} {Z s : Sq} {e : Evt} {r : List Evt} (h : Run m N Z s) (hw : s.wait = e :: r) : Run m N Z (stpS m s).1 := by
  have hi : s.log.length ≤ 100000000 := by have := h.len; omega
  have hg := h.go.step hw hi
  have hp := h.go.phi hw hi
  rw [← stpS_log (m := m) hw] at hg; refine ⟨hg, h.few, ?_⟩; obtain ⟨k, h1, h2⟩ := h.last
  cases k with
  | zero => omega
  | succ k =>
    refine ⟨k, by omega, ?_⟩; unfold runS at h2; rw [hw] at h2
    exact h2
end Go.Proofs.Ytjdoealcmokakaa

namespace Go.Proofs.Ytjdoealcmokakaa
set_option maxRecDepth 100000
open Go.RowKit
theorem zero_get (N j : Nat) (hj : j < N) : (madeCells #[.int .i64 0, .int .i64 0, .int .i64 0] N)[j]? = some (.int .i64 0) := by
  unfold madeCells; rw [Array.getElem?_map, Array.getElem?_range, if_pos hj]
  have h3 : j % 3 = 0 ∨ j % 3 = 1 ∨ j % 3 = 2 := by omega
  rcases h3 with h | h | h
  · simp [h]
  · simp [h]
  · simp [h]
/-- The simulator that has done nothing. -/
def sq0 (m : Mdl) : Sq := ⟨List.replicate (if mdlB m = true then m.rules.length else 0) ⟨0, 0, 0⟩, if mdlB m = true then m.starts else [], []⟩
theorem sq0_few (m : Mdl) : (sq0 m).comps.length ≤ 4 ∧ (sq0 m).wait.length ≤ 6 := by
  unfold sq0
  by_cases h : mdlB m = true
  · have h1 := mdlB_few h
    have h2 := mdlB_starts h
    simp only [if_pos h, List.length_replicate]
    omega
  · simp [if_neg h]
/-- What SeqNew gives is that. -/
theorem SqRes.val {lo : Nat} {m : Mdl} {v : Value} {w : World} (h : SqRes lo m v w) :
    ∃ Ac cc Aw cw, v = .agg #[.slice Ac (sq0 m).comps.length cc, .slice Aw (sq0 m).wait.length cw, .slice none 0 0] ∧ SqV w Ac (sq0 m).comps.length Aw (sq0 m).wait.length none 0 (sq0 m) := by
  obtain ⟨vc, vw, rfl, hc, hw⟩ := h; obtain ⟨_, Aw, cw, rfl, _, _⟩ := own_slice hw
  have hE := own_evs hw
  have hl : (sq0 m).comps.length = (if mdlB m = true then m.rules.length else 0) := by simp [sq0]
  rcases hc with ⟨hk, rfl⟩ | ⟨g, rfl, hg, hh⟩
  · have hl0 : (sq0 m).comps.length = 0 := by rw [hl, hk]
    rw [hl0]
    exact ⟨none, 0, Aw, cw, rfl, ⟨by rw [← hl0]; exact ⟨rfl, fun h => absurd h (by omega)⟩, hE, ⟨rfl, fun h => absurd h (by omega)⟩⟩⟩
  · rw [hl]
    refine ⟨some ⟨g, 0, none⟩, _, Aw, cw, rfl, ⟨⟨hl, fun _ => ⟨g, 0, rfl, (Array.getElem?_eq_some_iff.1 hh).1, fun i hi => ?_⟩⟩, hE, ⟨rfl, fun h => absurd h (by omega)⟩⟩⟩
    have e : (sq0 m).comps.getD i default = ⟨0, 0, 0⟩ := by simp [sq0, List.getD, hi]
    rw [e]; refine ⟨?_, ?_, ?_⟩
    · rw [cell_of_row _ _ _ _ _ _ hh]; exact zero_get _ _ (by omega)
    · rw [cell_of_row _ _ _ _ _ _ hh]; exact zero_get _ _ (by omega)
    · rw [cell_of_row _ _ _ _ _ _ hh]; exact zero_get _ _ (by omega)
end Go.Proofs.Ytjdoealcmokakaa

namespace Go.Proofs.Ytjdoealcmokakaa
set_option maxRecDepth 100000
open Go.RowKit
/-- The last simulator of a model. -/
def allR (m : Mdl) : Sq := if mdlB m = true then runS m ((sq0 m).wait.length + leftS (sq0 m).comps) (sq0 m) else ⟨[], [], []⟩
theorem leftS_zero : ∀ n : Nat, leftS (List.replicate n ⟨0, 0, 0⟩) = 12 * n
  | 0 => rfl
  | n + 1 => by
    rw [List.replicate_succ, leftS, leftS_zero n]; simp only
    omega
theorem sq0_yes {m : Mdl} (h : mdlB m = true) : sq0 m = ⟨List.replicate m.rules.length ⟨0, 0, 0⟩, m.starts, []⟩ := by unfold sq0; rw [if_pos h, if_pos h]
theorem run0 {m : Mdl} (h : mdlB m = true) : Run m 54 (allR m) (sq0 m) := by
  have e : allR m = runS m ((sq0 m).wait.length + leftS (sq0 m).comps) (sq0 m) := by unfold allR; rw [if_pos h]
  refine ⟨?_, by omega, _, Nat.le_refl _, e.symm⟩
  have hf := mdlB_few h
  rw [sq0_yes h]
  have h' := h
  unfold mdlB startsB at h'; simp only [Bool.and_eq_true, decide_eq_true_eq] at h'; obtain ⟨⟨⟨_, _⟩, ⟨hs, hr⟩, ha⟩, _⟩ := h'; refine ⟨h, by simp, fun c hc => ?_, fun e he => ?_, rise_pairwise _ hr, ?_⟩
  · obtain ⟨_, rfl⟩ := List.mem_replicate.1 hc
    exact ⟨by decide, by simp⟩
  · have := List.all_eq_true.1 ha e he
    unfold startB at this; unfold takB; simp only [Bool.and_eq_true, decide_eq_true_eq] at this ⊢
    exact ⟨this.2, this.1.2⟩
  · simp only [leftS_zero, List.length_nil]
    omega
theorem starts_rise {m : Mdl} (h : mdlB m = true) : riseB (sq0 m).wait = true := by
  rw [sq0_yes h]; unfold mdlB startsB at h; simp only [Bool.and_eq_true] at h
  exact h.1.2.1.2
theorem Run.ends {m : Mdl} {N : Nat} {Z s : Sq} (h : Run m N Z s) : ∃ s', Run m N Z s' ∧ s' = Z := by
  obtain ⟨j, hj, hz⟩ := h.last; clear hj
  induction j generalizing s with
  | zero => exact ⟨s, h, hz⟩
  | succ j ih =>
    unfold runS at hz
    rcases hw : s.wait with _ | ⟨e, r⟩
    · rw [hw] at hz
      exact ⟨s, h, hz⟩
    · rw [hw] at hz
      exact ih (h.step hw) hz
/-- Nothing waits in the end. -/
theorem Run.none_ {m : Mdl} {N : Nat} {Z s : Sq} (h : Run m N Z s) : Z.wait = [] := by
  obtain ⟨j, hj, hz⟩ := h.last
  induction j generalizing s with
  | zero =>
    have h0 : s.wait.length = 0 := by omega
    have h1 : s = Z := hz
    rw [← h1]
    exact List.eq_nil_of_length_eq_zero h0
  | succ j ih =>
    unfold runS at hz
    rcases hw : s.wait with _ | ⟨e, r⟩
    · rw [hw] at hz
      exact hz ▸ hw
    · rw [hw] at hz
      have hp := h.go.phi hw (by have := h.len; omega)
      exact ih (h.step hw) (by omega) hz
theorem Run.all {m : Mdl} {N : Nat} {Z s : Sq} (h : Run m N Z s) : s.comps.length = m.rules.length := h.go.len
end Go.Proofs.Ytjdoealcmokakaa

namespace Go.Proofs.Ytjdoealcmokakaa
set_option maxRecDepth 100000
open Go.RowKit
/-- The program's simulator on its way: as resume has made it, or its pending events in a heap. -/
def AlR (lo b : Nat) (many til : Int) (nc : Nat) (s : Sq) (p : Nat) (w : World) : Prop :=
  (Alone lo b many til nc s.wait.length s.log.length s p w ∧ riseB s.wait = true) ∨
  ∃ vc vl g c F, Sim lo b many til nc s.log.length s.comps s.log p vc vl g s.wait.length c F w ∧ ((List.range s.wait.length).map F).Perm s.wait
theorem heap_first {F : Nat → Evt} {e : Evt} {r es : List Evt} (hf : HeapF F es.length) (hp : ((List.range es.length).map F).Perm es) (ho : es.Pairwise leE) (hw : es = e :: r) : F 0 = e := by
  have hl : 0 < es.length := by rw [hw]; simp
  have h1 : F 0 ∈ es := hp.mem_iff.1 (List.mem_map.2 ⟨0, List.mem_range.2 hl, rfl⟩)
  have h2 : e ∈ (List.range es.length).map F := hp.mem_iff.2 (by rw [hw]; exact List.mem_cons_self)
  obtain ⟨j, hj, hje⟩ := List.mem_map.1 h2
  have h3 : leE (F 0) e := hje ▸ hf.min j j (Nat.le_refl _) (List.mem_range.1 hj)
  rw [hw] at h1 ho
  rcases List.mem_cons.1 h1 with h4 | h4
  · exact h4
  · exact leE_antisymm h3 ((List.pairwise_cons.1 ho).1 _ h4)
theorem stepR_any (lo b : Nat) (many : Int) (nc p N : Nat) (m : Mdl) (Z s : Sq) (e : Evt) (r : List Evt) (z w : World) (hA : AlR lo b many m.til nc s p w) (hU : Up z w) (hz : z.heap.size ≤ lo) (hM : Mach z b m) (hR : Run m N Z s) (hc : s.comps.length = nc) (hw : s.wait = e :: r) :
    Calls Try.prog 43 #[.pointer (some ⟨p, 0, none⟩)] w fun x w' => x = .returned (.bool true) ∧ Up z w' ∧ AlR lo b many m.til nc (stpS m s).1 p w' := by
  have hl := hR.len
  have hn : s.wait.length = r.length + 1 := by rw [hw]; rfl
  obtain ⟨hm, hto, _⟩ := hR.go.may hw
  have hd := (hR.go.facts hw (by omega)).sends.few
  have hd2 := (hR.go.facts hw (by omega)).sends.len
  have hsim : ∃ vc vl g c F, Sim lo b many m.til nc s.log.length s.comps s.log p vc vl g s.wait.length c F w ∧ ((List.range s.wait.length).map F).Perm s.wait := by
    rcases hA with ⟨hA, hr⟩ | h
    · obtain ⟨vc, vl, g, c, hs⟩ := hA.sim (by omega) (rise_heap s.wait hr)
      exact ⟨vc, vl, g, c, _, hs, by rw [range_getD]⟩
    · exact h
  obtain ⟨vc, vl, g, c, F, hs, hp⟩ := hsim
  have he := heap_first hs.hf hp hR.go.ord hw
  rw [hn] at hs hp; refine (step_any lo b many nc s.log.length s.comps s.log p vc vl g r.length c F m e z w hs hU hz hM he (by rw [← hc, hR.go.len]; exact hto) hm (by omega) (by omega) (by omega)).mono ?_; rintro x w5 ⟨rfl, u5, R, vc5, vl5, g5, c5, F5, hp1, hp2, h5⟩
  have hRr : R.Perm r := by
    have := hp1.trans hp
    rw [hw] at this
    exact List.Perm.cons_inv this
  refine ⟨rfl, u5, .inr ⟨vc5, vl5, g5, c5, F5, ?_, ?_⟩⟩
  · unfold stpS
    rw [hw]; dsimp only; rw [insAll_len, List.length_append, Nat.add_comm (doE m (s.comps.getD e.to.toNat default) e).2.length r.length]
    exact h5
  · unfold stpS
    rw [hw]; dsimp only; rw [insAll_len, Nat.add_comm (doE m (s.comps.getD e.to.toNat default) e).2.length r.length]
    exact hp2.trans ((hRr.append_left _).trans (insAll_perm _ _).symm)
theorem stepR_none (lo b : Nat) (many til : Int) (nc p : Nat) (s : Sq) (w : World) (hA : AlR lo b many til nc s p w) (hw : s.wait = []) :
    Calls Try.prog 43 #[.pointer (some ⟨p, 0, none⟩)] w fun x w' => x = .returned (.bool false) ∧ w' = w := by
  have h0 : s.wait.length = 0 := by rw [hw]; rfl
  rcases hA with ⟨hA, -⟩ | ⟨vc, vl, g, c, F, hs, -⟩
  · rw [h0] at hA
    obtain ⟨-, vc, vw, vl, hb, ⟨oc, ow, ol⟩⟩ := hA; rw [hw] at ow; obtain ⟨Aw, cw, rfl, -, -⟩ := (own_slice ow).2
    have hlt := (Array.getElem?_eq_some_iff.1 hb).1
    exact step_none p Aw cw w hlt (by rw [cell_of_row _ _ 4 _ _ _ hb]; rfl)
  · rw [h0] at hs
    exact step_none p _ c w hs.pl hs.c4
/-- What is read of a simulator at its end. -/
theorem AlR.end_ {lo b : Nat} {many til : Int} {nc p : Nat} {s : Sq} {w : World} (hA : AlR lo b many til nc s p w) (hw : s.wait = []) :
    ∃ vc vw vl, p < w.heap.size ∧ w.cell? ⟨p, 3, none⟩ = some vc ∧ w.cell? ⟨p, 4, none⟩ = some vw ∧ w.cell? ⟨p, 5, none⟩ = some vl ∧ w.ownsRow lo 46 3 vc nc (flat3 s.comps) ∧ w.ownsRow lo 39 6 vw 0 (flat []) ∧ w.ownsRow lo 41 7 vl s.log.length (flat7 s.log) := by
  have h0 : s.wait.length = 0 := by rw [hw]; rfl
  rcases hA with ⟨hA, -⟩ | ⟨vc, vl, g, c, F, hs, -⟩
  · rw [h0] at hA
    obtain ⟨-, vc, vw, vl, hb, ⟨oc, ow, ol⟩⟩ := hA; rw [hw] at ow
    exact ⟨vc, vw, vl, (Array.getElem?_eq_some_iff.1 hb).1, by rw [cell_of_row _ _ 3 _ _ _ hb]; rfl, by rw [cell_of_row _ _ 4 _ _ _ hb]; rfl, by rw [cell_of_row _ _ 5 _ _ _ hb]; rfl, oc, ow, ol⟩
  · rw [h0] at hs
    refine ⟨vc, _, vl, hs.pl, hs.c3, hs.c4, hs.c5, hs.rc, ?_, hs.rl⟩
    exact hs.hp.own
end Go.Proofs.Ytjdoealcmokakaa

namespace Go.Proofs.Ytjdoealcmokakaa
set_option maxRecDepth 100000
open Go.RowKit
/-- A result: a simulator in rows of the call's own. -/
def AllP (lo : Nat) (S : Sq) (x : Ending) (w' : World) : Prop :=
  ∃ Ac cc Aw cw Al cl, x = .returned (.agg #[.slice Ac S.comps.length cc, .slice Aw S.wait.length cw, .slice Al S.log.length cl]) ∧ SqW w' lo Ac S.comps.length Aw S.wait.length Al S.log.length S ∧ S.log.length ≤ cl ∧ cl ≤ 9223372036854775807
theorem cap7 {w : World} {b e n c : Nat} {A : Option Addr} {es : List Rec} (h : w.ownsRow b e 7 (.slice A n c) n (flat7 es)) : n ≤ c ∧ c ≤ 9223372036854775807 := by
  obtain ⟨-, A', c', hv, h1, h2⟩ := own7_slice h
  injection hv with _ _ hv
  subst hv
  exact ⟨h1, h2⟩
/-- How long the log is. -/
def logN (w : World) (p : Nat) : Nat := match w.cell? ⟨p, 5, none⟩ with | some (.slice _ n _) => n | _ => 0
theorem AlR.logN {lo b : Nat} {many til : Int} {nc p : Nat} {s : Sq} {w : World} (hA : AlR lo b many til nc s p w) : Go.Proofs.Ytjdoealcmokakaa.logN w p = s.log.length := by
  rcases hA with ⟨hA, -⟩ | ⟨vc, vl, g, c, F, hs, -⟩
  · obtain ⟨-, vc, vw, vl, hb, ⟨oc, ow, ol⟩⟩ := hA
    obtain ⟨-, Al, cl, rfl, -, -⟩ := own7_slice ol; unfold Go.Proofs.Ytjdoealcmokakaa.logN; rw [cell_of_row _ _ 5 _ _ _ hb]
    rfl
  · obtain ⟨-, Al, cl, rfl, -, -⟩ := own7_slice hs.rl
    unfold Go.Proofs.Ytjdoealcmokakaa.logN; rw [hs.c5]
set_option maxHeartbeats 8000000 in
theorem implSeqAll_any (A : Option Addr) (n c : Nat) (B : Option Addr) (k d : Nat) (m : Mdl) (w : World) (hM : MdlV w A n B k m) :
    Calls Try.prog 14 #[.agg #[.slice A n c, .slice B k d, .int .i64 m.til]] w fun x w' => AllP w.heap.size (allR m) x w' ∧ Up w w' := by
  have CM := Lib.hid (fun W (u : Up w W) => newMachine_any A n c B k d m W (hM.up u))
  have CN := Lib.hid (fun W (u : Up w W) => implSeqNew_any A n c B k d m W (hM.up u))
  have B1 := Box3.new w (.slice A n c) (.slice B k d) (.int .i64 m.til) 26
  have B2 := BoxF.new (w.alloc (.cells #[.slice A n c, .slice B k d, .int .i64 m.til] 26)) (.slice none 0 0) (.slice none 0 0) (.slice none 0 0) 36
  simp only [World.size_alloc] at B2
  have U0 := Lib.hid (((Up.refl w).alloc (.cells #[.slice A n c, .slice B k d, .int .i64 m.til] 26)).alloc (.cells #[.slice none 0 0, .slice none 0 0, .slice none 0 0] 36))
  have B1 := Lib.hid (B1.up ((Up.refl _).alloc (.cells #[.slice none 0 0, .slice none 0 0, .slice none 0 0] 36)))
  have B2 := Lib.hid B2
  clear hM; unfold MachPost at CM
  go_enter Try.func14, Try.ntmps14
  go_wp2_with fail
  generalize (w.alloc (.cells #[.slice A n c, .slice B k d, .int .i64 m.til] 26)).alloc (.cells #[.slice none 0 0, .slice none 0 0, .slice none 0 0] 36) = W at *
  generalize hb2 : w.heap.size + 1 = b2 at *
  have HB2 := Lib.hid (show w.heap.size ≤ b2 by omega)
  clear hb2; refine (CM.out _ U0.out).mono ?_; rintro x w1 ⟨u1, h⟩
  have U1 := Lib.hid (U0.out.trans u1)
  have B1 := Lib.hid (B1.out.up u1)
  have B2 := Lib.hid (B2.out.up u1)
  clear u1 CM
  rcases h with ⟨hm, rfl⟩ | ⟨hm, b, rfl, hbl, hmach⟩
  · have RE := Lib.hid (show allR m = ⟨[], [], []⟩ by unfold allR; rw [if_neg (by rw [hm]; exact Bool.false_ne_true)])
    have ua := (Up.refl w1).alloc (.cells #[.map none, .int .i64 0, .int .i64 0] 71)
    have B2 := Lib.hid (B2.out.up ua)
    have U1 := Lib.hid (U1.out.trans ua)
    obtain ⟨q0, q1, q2⟩ := And.intro B2.out.k.c0 (And.intro B2.out.k.c1 B2.out.k.c2)
    have bl := B2.out.k.lt
    have bf := B2.out.f
    have LB := B2.out.laid (.slice none 0 0) (.slice none 0 0) (.slice none 0 0)
    obtain ⟨k0, k1, k2⟩ := And.intro LB.c0 (And.intro LB.c1 LB.c2)
    have UE := Lib.hid (((U1.out.setCell (p := ⟨b2, 0, none⟩) HB2.out (.slice none 0 0)).setCell (p := ⟨b2, 1, none⟩) HB2.out (.slice none 0 0)).setCell (p := ⟨b2, 2, none⟩) HB2.out (.slice none 0 0))
    clear hm ua LB; go_wp2
    exact bodyPost_ret (v := .agg #[.slice none 0 0, .slice none 0 0, .slice none 0 0]) (by simp [results, Try.results14, go_sem, k0, k1, k2]) rfl ⟨by rw [RE.out]; exact ⟨none, 0, none, 0, none, 0, rfl, SqW.none_ _ _, Nat.le_refl _, by omega⟩, UE.out⟩
  · have HR := Lib.hid (run0 hm)
    have HS := Lib.hid (starts_rise hm)
    have FW := Lib.hid (sq0_few m)
    have L0 := Lib.hid (show (sq0 m).log = [] from rfl)
    have ua := (Up.refl w1).alloc (.cells #[.map (some b), .int .i64 m.rules.length, .int .i64 m.til] 71)
    have HC := Lib.hid (hmach.up ua)
    have B1 := Lib.hid (B1.out.up ua)
    have B2 := Lib.hid (B2.out.up ua)
    have U1 := Lib.hid (U1.out.trans ua)
    have BK := Lib.hid (Box3.new w1 (.map (some b)) (.int .i64 m.rules.length) (.int .i64 m.til) 71)
    have OPV := Lib.hid (fun lo v w (h : SqRes lo m v w) => h.val)
    generalize sq0 m = s0 at *
    generalize hZ : allR m = Z at *
    have HZ := Lib.hid hZ
    clear hm ua hmach hbl hZ
    go_wp2_with fail
    generalize hw2 : w1.alloc (.cells #[.map (some b), .int .i64 m.rules.length, .int .i64 m.til] 71) = w3 at *
    generalize hb6 : w1.heap.size = b6 at *
    clear hw2 hb6; refine region_mixH (fun W' => Up w3 W') [(0, true), (1, true), (2, false), (3, false), (4, false)] (by kernel_rfl) (by kernel_rfl) ((Up.refl _).drew) ?_; refine mixH_take rfl (by rfl) ?_; apply Exists.intro; refine ⟨fun w1 hS1 => ?_, ?_⟩
    · obtain ⟨q0, q1, q2⟩ := And.intro (BK.out.up hS1).c0 (And.intro (BK.out.up hS1).c1 (BK.out.up hS1).c2)
      clear hS1; go_simp
      try rfl
    go_simp; refine mixH_take rfl (by rfl) ?_; apply Exists.intro; refine ⟨fun w1 hS1 => ?_, ?_⟩
    · obtain ⟨q0, q1, q2⟩ := And.intro (B1.out.up hS1).c0 (And.intro (B1.out.up hS1).c1 (B1.out.up hS1).c2)
      clear hS1; go_simp
      try rfl
    go_simp; refine mixH_go rfl (by rfl) (fun K hK => ?_); go_simp; refine (CN.out _ (U1.out.trans (Up.refl w3).drew)).mono ?_; rintro x wa ⟨v, rfl, hres, ua⟩; obtain ⟨Bc, dc, Bw, dw, rfl, sv⟩ := OPV.out _ _ _ hres
    have Sa : Up w3 wa := (Up.refl w3).drew.trans ua
    refine hK _ _ Sa ?_; clear hK K hres ua; go_simp; refine mixH_go rfl (by rfl) (fun K hK => ?_); go_simp; refine (resume_any b m.rules.length m.til Bc _ dc Bw _ dw none 0 0 s0 wa (by have := FW.out; omega) sv.comps sv.wait sv.log).mono ?_; rintro x wb ⟨p, rfl, hal, ub⟩
    have Sb := Sa.trans ub
    refine hK _ _ Sb ?_; clear hK K; go_simp; refine mixH_go rfl (by rfl) (fun K hK => ?_); go_simp; refine hK _ _ Sb ?_; clear hK K; refine mixH_nil ?_
    have HL0 := Lib.hid (show s0.log.length = 0 by rw [L0.out]; rfl)
    have A0 := Lib.hid (show AlR wa.heap.size b m.rules.length m.til s0.comps.length s0 p wb from .inl ⟨by rw [HL0.out]; exact hal, HS.out⟩)
    have ZA := Lib.hid Sa.size
    have SB := Lib.hid Sb
    have B20 := Lib.hid B2.out.k.lt
    clear hal ub Sb Sa sv CN OPV B1 BK
    go_wp2_with fail
    go_loopw [] (fun wr => ∃ s, AlR wa.heap.size b m.rules.length m.til s0.comps.length s p wr ∧ Run m 54 Z s ∧ s.comps.length = s0.comps.length ∧ Up w3 wr) (fun wr => 2000000 - logN wr p)
    case atStart => exact ⟨s0, A0.out, HR.out, rfl, SB.out⟩
    case round =>
      obtain ⟨s, hA, hR, hc, hu⟩ := hrel
      have HA := Lib.hid hA
      have HRs := Lib.hid hR
      have HCs := Lib.hid hc
      have HU := Lib.hid hu
      clear hA hR hc hu
      rcases hw : s.wait with _ | ⟨e, r⟩
      · have HW := Lib.hid hw
        have hz := HRs.out.done hw
        obtain ⟨vc, vw, vl, hlt, e3, e4, e5, oc, ow, ol⟩ := HA.out.end_ hw; obtain ⟨-, Ac, cc, rfl, -, -⟩ := own3_slice oc; obtain ⟨-, Al, cl, rfl, -, -⟩ := own7_slice ol
        have CSt := Lib.hid (state_any p wa.heap.size s0.comps.length 0 s.log.length s.comps [] s.log _ vw _ wr hlt e3 e4 e5 oc ow ol (by omega))
        have OC := Lib.hid oc
        have OL := Lib.hid ol
        have CN0 := Lib.hid (stepR_none wa.heap.size b m.rules.length m.til s0.comps.length p s wr HA.out hw)
        clear hw hlt e3 e4 e5 oc ow ol
        go_wp2_with fail
        refine CN0.out.mono ?_; rintro x w5 ⟨rfl, rfl⟩
        go_wp2_with fail
        refine CSt.out.mono ?_; rintro x w6 ⟨fs, A6, c6, rfl, h6, u6⟩
        have U6 := HU.out.trans u6
        have B2 := Lib.hid (B2.out.up U6)
        have BLT := Lib.hid (show b2 < w3.heap.size from B20.out)
        have OC := own_up OC.out u6
        have OL := own_up OL.out u6
        obtain ⟨q0, q1, q2⟩ := And.intro B2.out.k.c0 (And.intro B2.out.k.c1 B2.out.k.c2)
        have bl := B2.out.k.lt
        have bf := B2.out.f
        have LB := B2.out.laid (.slice Ac s0.comps.length cc) (.slice A6 0 c6) (.slice Al s.log.length cl)
        obtain ⟨k0, k1, k2⟩ := And.intro LB.c0 (And.intro LB.c1 LB.c2)
        have MX := ((((Up.refl w6).mv b2).setCell (o := 0) (.slice Ac s0.comps.length cc)).setCell (o := 1) (.slice A6 0 c6) |>.setCell (o := 2) (.slice Al s.log.length cl))
        have UE := Lib.hid (MX.up (U1.out.trans U6) HB2.out)
        have WL := Lib.hid (show w.heap.size ≤ wa.heap.size from Nat.le_trans U1.out.size ZA.out)
        have O1 := own_mono (own_keep OC (fun x hx hl => MX.block x hl (by have := (own_ge OC x hx).1; have := BLT.out; have := ZA.out; omega))) WL.out
        have O3 := own_mono (own_keep OL (fun x hx hl => MX.block x hl (by have := (own_ge OL x hx).1; have := BLT.out; have := ZA.out; omega))) WL.out
        have W0 := Lib.hid (show s.wait.length = 0 by rw [HW.out]; rfl)
        have HZ2 := Lib.hid hz
        have CAP := Lib.hid (cap7 O3)
        have RES := Lib.hid (show SqW (((w6.setCell ⟨b2, 0, none⟩ (.slice Ac s0.comps.length cc)).setCell ⟨b2, 1, none⟩ (.slice A6 0 c6)).setCell ⟨b2, 2, none⟩ (.slice Al s.log.length cl)) w.heap.size Ac s0.comps.length A6 0 Al s.log.length s from
          ⟨⟨own3_csts O1, ⟨W0.out, fun h => absurd h (by omega)⟩, own7_recs O3⟩, Mkc.row O1 (flat3_int _), fun h => absurd h (by omega), Mkc.row O3 (flat7_int _), fun _ h => absurd h (by omega), ap_of (own_apart O1 O3 (by decide)), fun h => absurd h (by omega)⟩)
        clear LB MX OC OL U6 u6 h6 hz O1 O3 CSt CN0; go_wp2
        exact bodyPost_ret (v := .agg #[(.slice Ac s0.comps.length cc), (.slice A6 0 c6), (.slice Al s.log.length cl)]) (by simp [results, Try.results14, go_sem, k0, k1, k2]) rfl ⟨by
          first | rw [HZ.out, ← HZ2.out] | rw [← HZ2.out]
          unfold AllP; rw [HCs.out, W0.out]
          exact ⟨Ac, cc, A6, c6, Al, cl, rfl, RES.out, CAP.out⟩, UE.out⟩
      · have CS := Lib.hid (stepR_any wa.heap.size b m.rules.length s0.comps.length p 54 m Z s e r w3 wr HA.out HU.out ZA.out HC.out HRs.out HCs.out hw)
        have HN := Lib.hid (HRs.out.step hw)
        have HLg := Lib.hid (stpS_log (m := m) hw)
        have HNc := Lib.hid (show (stpS m s).1.comps.length = s0.comps.length by rw [HN.out.all, ← HCs.out, HRs.out.all])
        clear hw
        go_wp2_with fail
        refine CS.out.mono ?_; rintro x w5 ⟨rfl, u5, hA5⟩
        have RES := Lib.hid (And.intro hA5 u5)
        clear hA5 u5; go_wp2
        go_roundw
        case rel => exact ⟨_, RES.out.1, HN.out, HNc.out, RES.out.2⟩
        case measure =>
          have h1 := RES.out.1.logN
          have h2 := HA.out.logN
          have h3 := HN.out.len
          rw [h1, h2, HLg.out]; rw [HLg.out] at h3
          omega
end Go.Proofs.Ytjdoealcmokakaa

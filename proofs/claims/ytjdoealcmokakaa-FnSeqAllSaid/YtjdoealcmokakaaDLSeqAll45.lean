/-
  What holds of a whole run, in one sentence: the log is ascending, each event that was sent has its cause ahead of it, the counts add up, the external events are all there; for every valid model.
  The counts, the causes and the order in a whole run, place by place, in one sentence: as the loops of FnSeqAll meet them; for every valid model.
-/
import Derived.Test.YtjdoealcmokakaaDLSeqAll42
import Derived.Test.YtjdoealcmokakaaDLSeqAll43
namespace Go.Proofs.Ytjdoealcmokakaa
set_option maxRecDepth 100000
open Go.RowKit
def sumC : List Cst → Int
  | [] => 0
  | c :: r => c.ct + sumC r
theorem sumC_set : ∀ (cs : List Cst) (k : Nat) (c : Cst), k < cs.length → sumC (cs.set k c) + (cs.getD k default).ct = sumC cs + c.ct
  | [], _, _, h => absurd h (by simp)
  | x :: r, 0, c, _ => by
    simp only [List.set_cons_zero, sumC, List.getD_cons_zero]
    omega
  | x :: r, k + 1, c, h => by
    have ih := sumC_set r k c (by simpa using h)
    simp only [List.set_cons_succ, sumC, List.getD_cons_succ]
    omega
theorem sumC_zero : ∀ n : Nat, sumC (List.replicate n ⟨0, 0, 0⟩) = 0
  | 0 => rfl
  | n + 1 => by rw [List.replicate_succ, sumC, sumC_zero n]; rfl
def ltP (a b : Evt) : Prop := ltE a b = true
theorem lt_of_ne {a b : Evt} (h : leE a b) (hn : a ≠ b) : ltP a b := by
  cases hb : ltE a b with
  | true => exact hb
  | false => exact absurd (leE_antisymm h hb) hn
def extE (x : Evt) : Bool := decide (x.fr < 0)
/-- What holds on the way. -/
structure Inv (m : Mdl) (s : Sq) : Prop where
  uq : ∀ x ∈ s.wait, x.fr < 0 ∨ (x.fr.toNat < s.comps.length ∧ x.sq < (s.comps.getD x.fr.toNat default).sq)
  nd : s.wait.Nodup
  lg : (s.log.map (·.ev)).Pairwise ltP
  lw : ∀ r ∈ s.log, ∀ x ∈ s.wait, ltP r.ev x
  cw : ∀ x ∈ s.wait, x.fr < 0 ∨ ∃ r ∈ s.log, r.ev.to = x.fr ∧ r.ev.t < x.t
  cl : ∀ l1 r l2, s.log = l1 ++ r :: l2 → r.ev.fr < 0 ∨ ∃ q ∈ l1, q.ev.to = r.ev.fr ∧ q.ev.t < r.ev.t
  ct : sumC s.comps = s.log.length
  st : ((s.log.map (·.ev)).filter extE).length + (s.wait.filter extE).length = m.starts.length
theorem rise_strict : ∀ es : List Evt, riseB es = true → es.Pairwise ltP
  | [], _ => List.Pairwise.nil
  | [_], _ => List.pairwise_singleton _ _
  | a :: b :: r, h => by
    rw [riseB, Bool.and_eq_true] at h
    have ih := rise_strict (b :: r) h.2
    refine List.Pairwise.cons (fun x hx => ?_) ih
    rcases List.mem_cons.1 hx with rfl | hx
    · exact h.1
    · exact ltE_trans _ _ _ h.1 ((List.pairwise_cons.1 ih).1 x hx)
theorem rise_nodup (es : List Evt) (h : riseB es = true) : es.Nodup := (rise_strict es h).imp (fun hab he => by subst he; have := ltE_irr; unfold ltP at hab; rw [this] at hab; cases hab)
theorem pair_rise : ∀ es : List Evt, es.Pairwise ltP → riseB es = true
  | [], _ => rfl
  | [_], _ => rfl
  | a :: b :: r, h => by
    have h1 := List.pairwise_cons.1 h
    rw [riseB, Bool.and_eq_true]
    exact ⟨h1.1 b List.mem_cons_self, pair_rise (b :: r) h1.2⟩
theorem snoc_split {α : Type} {l l1 l2 : List α} {a r : α} (h : l ++ [a] = l1 ++ r :: l2) : (l2 = [] ∧ l = l1 ∧ a = r) ∨ ∃ l3, l2 = l3 ++ [a] ∧ l = l1 ++ r :: l3 := by
  rcases List.eq_nil_or_concat l2 with rfl | ⟨l3, b, rfl⟩
  · have h1 : l ++ [a] = l1 ++ [r] := h
    obtain ⟨h2, h3⟩ := List.append_inj' h1 rfl
    exact .inl ⟨rfl, h2, by injection h3⟩
  · have h1 : l ++ [a] = (l1 ++ r :: l3) ++ [b] := by rw [h]; simp
    obtain ⟨h2, h3⟩ := List.append_inj' h1 rfl
    injection h3 with h3 _
    subst h3
    exact .inr ⟨l3, by simp, h2⟩
theorem Inv.step {m : Mdl} {N i : Nat} {s : Sq} {e : Evt} {r : List Evt} (h : Inv m s) (g : Going m N i s) (hw : s.wait = e :: r) (hi : i ≤ 100000000) : Inv m (stpS m s).1 := by
  have F := g.facts hw hi
  obtain ⟨hm, hto, hct⟩ := g.may hw
  have hl : e.to.toNat < s.comps.length := by rw [g.len]; omega
  have ho := g.ord
  have hnd := h.nd
  have hst := h.st
  rw [hw] at ho hnd hst
  have ho2 := List.pairwise_cons.1 ho
  have hnd2 := List.nodup_cons.1 hnd
  have her : ∀ x ∈ r, ltP e x := fun x hx => lt_of_ne (ho2.1 x hx) (fun he => hnd2.1 (he ▸ hx))
  unfold stpS; rw [hw]; dsimp only
  generalize hD : doE m (s.comps.getD e.to.toNat default) e = D at *
  obtain ⟨c', ds⟩ := D; dsimp only at F ⊢
  have S := F.sends
  have hold := F.old
  have htop := S.top
  have each : ∀ x ∈ ds, SentF m.til m.rules.length e (s.comps.getD e.to.toNat default).sq c'.sq x := fun x hx => by
    obtain ⟨j, hj, rfl⟩ := List.getElem_of_mem hx
    have E := S.each j hj
    have e1 : ds.getD j default = ds[j] := by simp [List.getD, hj]
    rw [e1] at E; refine ⟨⟨by have := E.sq; omega, E.sq.2⟩, E.fr, E.t, E.to_, E.kd, E.dt⟩
  have hds : ds.Nodup := by
    rw [List.nodup_iff_pairwise_ne]; rw [List.pairwise_iff_getElem]; intro a b ha hb hab he
    have h1 := S.rise b a hab hb
    have e1 : ds.getD a default = ds[a] := by simp [List.getD, ha]
    have e2 : ds.getD b default = ds[b] := by simp [List.getD, hb]
    rw [e1, e2, he] at h1
    omega
  have hdis : ∀ x ∈ ds, x ∉ r := fun x hx hr => by
    have E := each x hx
    have h1 := E.fr
    have h2 := E.sq
    rcases h.uq x (by rw [hw]; exact List.mem_cons_of_mem _ hr) with h3 | ⟨_, h3⟩
    · omega
    · rw [h1] at h3
      omega
  have hfr : ∀ x ∈ ds, extE x = false := fun x hx => by
    have := (each x hx).fr
    unfold extE
    exact decide_eq_false (by omega)
  have hlt : ∀ x ∈ ds, ltP e x := fun x hx => by
    have := (each x hx).t
    show ltE e x = true
    rw [ltE_iff]
    exact .inl this.1
  refine ⟨fun x hx => ?_, ?_, ?_, fun q hq x hx => ?_, fun x hx => ?_, fun l1 q l2 hq => ?_, ?_, ?_⟩
  · rcases List.mem_append.1 ((insAll_perm ds r).mem_iff.1 hx) with hx | hx
    · have E := each x hx
      have h1 := E.fr
      have h2 := E.sq
      right
      rw [List.length_set, h1]; refine ⟨hl, ?_⟩
      have : (s.comps.set e.to.toNat c').getD e.to.toNat default = c' := by simp [List.getD, hl]
      rw [this]
      exact h2.2
    · rcases h.uq x (by rw [hw]; exact List.mem_cons_of_mem _ hx) with h3 | ⟨h3, h4⟩
      · exact .inl h3
      · right
        rw [List.length_set]; refine ⟨h3, ?_⟩
        by_cases hk : x.fr.toNat = e.to.toNat
        · rw [hk] at h4 ⊢
          have : (s.comps.set e.to.toNat c').getD e.to.toNat default = c' := by simp [List.getD, hl]
          rw [this]
          have := S.len
          omega
        · have : (s.comps.set e.to.toNat c').getD x.fr.toNat default = s.comps.getD x.fr.toNat default := by
            rw [List.getD, List.getD, List.getElem?_set_ne (Ne.symm hk)]
          rw [this]
          exact h4
  · rw [(insAll_perm ds r).nodup_iff]
    exact List.nodup_append.2 ⟨hds, hnd2.2, fun a ha b hb he => hdis a ha (he ▸ hb)⟩
  · rw [List.map_append]
    refine List.pairwise_append.2 ⟨h.lg, List.pairwise_singleton _ _, fun a ha b hb => ?_⟩; obtain ⟨q, hq, rfl⟩ := List.mem_map.1 ha
    obtain rfl : b = e := by simpa using hb
    exact h.lw q hq b (by rw [hw]; exact List.mem_cons_self)
  · have hex : ltP e x := by
      rcases List.mem_append.1 ((insAll_perm ds r).mem_iff.1 hx) with hx | hx
      · exact hlt x hx
      · exact her x hx
    rcases List.mem_append.1 hq with hq | hq
    · exact ltE_trans _ _ _ (h.lw q hq e (by rw [hw]; exact List.mem_cons_self)) hex
    · obtain rfl : q = ⟨e, c'.s⟩ := by simpa using hq
      exact hex
  · rcases List.mem_append.1 ((insAll_perm ds r).mem_iff.1 hx) with hx | hx
    · have E := each x hx
      exact .inr ⟨⟨e, c'.s⟩, List.mem_append.2 (.inr List.mem_cons_self), E.fr.symm, E.t.1⟩
    · rcases h.cw x (by rw [hw]; exact List.mem_cons_of_mem _ hx) with h3 | ⟨q, hq, h3⟩
      · exact .inl h3
      · exact .inr ⟨q, List.mem_append.2 (.inl hq), h3⟩
  · rcases snoc_split hq with ⟨_, rfl, rfl⟩ | ⟨l3, _, h3⟩
    · exact h.cw e (by rw [hw]; exact List.mem_cons_self)
    · exact h.cl l1 q l3 h3
  · have h1 := sumC_set s.comps e.to.toNat c' hl
    have h2 := F.ct
    have h3 := h.ct
    rw [List.length_append]; simp only [List.length_cons, List.length_nil]
    omega
  · rw [List.map_append, List.filter_append, List.length_append]
    have hp := ((insAll_perm ds r).filter extE).length_eq
    rw [hp, List.filter_append, List.length_append]
    have hz : (ds.filter extE) = [] := List.filter_eq_nil_iff.2 (fun x hx => by rw [hfr x hx]; exact Bool.false_ne_true)
    rw [hz]; rw [List.filter_cons] at hst; simp only [List.map_cons, List.map_nil, List.filter_cons, List.filter_nil, List.length_nil]
    split at hst
    · rename_i hx
      rw [if_pos hx]; simp only [List.length_cons, List.length_nil] at hst ⊢
      omega
    · rename_i hx
      rw [if_neg hx]; simp only [List.length_nil]
      omega
theorem run_inv {m : Mdl} {N : Nat} {Z s : Sq} (h : Run m N Z s) (ht : Inv m s) : Inv m Z := by
  obtain ⟨j, hj, hz⟩ := h.last; clear hj
  induction j generalizing s with
  | zero => exact hz ▸ ht
  | succ j ih =>
    unfold runS at hz
    rcases hw : s.wait with _ | ⟨e, r⟩
    · rw [hw] at hz
      exact hz ▸ ht
    · rw [hw] at hz
      exact ih (h.step hw) (ht.step h.go hw (by have := h.len; omega)) hz
theorem inv0 {m : Mdl} (h : mdlB m = true) : Inv m (sq0 m) := by
  have hr := starts_rise h
  rw [sq0_yes h] at hr ⊢
  have h' := h
  unfold mdlB startsB at h'; simp only [Bool.and_eq_true, decide_eq_true_eq] at h'; obtain ⟨⟨⟨_, _⟩, ⟨hs, _⟩, ha⟩, _⟩ := h'
  have hx : ∀ x ∈ m.starts, x.fr < 0 := fun x hx => by
    have := List.all_eq_true.1 ha x hx
    unfold startB at this; simp only [Bool.and_eq_true, decide_eq_true_eq] at this
    omega
  refine ⟨fun x h1 => .inl (hx x h1), ?_, List.Pairwise.nil, (fun r hr => by cases hr), fun x h1 => .inl (hx x h1), (fun l1 r l2 hl => by simp at hl), sumC_zero _, ?_⟩
  · exact rise_nodup _ hr
  · have : m.starts.filter extE = m.starts := List.filter_eq_self.2 (fun x h1 => by unfold extE; exact decide_eq_true (hx x h1))
    simp [this]
/-- The records done are valid. -/
def RecI (m : Mdl) (s : Sq) : Prop := ∀ r ∈ s.log, recB m.rules.length r = true
theorem RecI.step {m : Mdl} {N i : Nat} {s : Sq} {e : Evt} {r : List Evt} (h : RecI m s) (g : Going m N i s) (hw : s.wait = e :: r) (hi : i ≤ 100000000) : RecI m (stpS m s).1 := by
  have F := g.facts hw hi
  have ht := g.tak e (by rw [hw]; exact List.mem_cons_self)
  intro q hq; unfold stpS at hq; rw [hw] at hq
  rcases List.mem_append.1 hq with hq | hq
  · exact h q hq
  · obtain rfl : q = ⟨e, (doE m (s.comps.getD e.to.toNat default) e).1.s⟩ := by simpa using hq
    have hc := F.cst
    unfold cstB at hc; unfold takB at ht; unfold recB; simp only [Bool.and_eq_true] at hc ht ⊢
    exact ⟨ht.1, hc.1.1⟩
theorem run_rec {m : Mdl} {N : Nat} {Z s : Sq} (h : Run m N Z s) (ht : RecI m s) : RecI m Z := by
  obtain ⟨j, hj, hz⟩ := h.last; clear hj
  induction j generalizing s with
  | zero => exact hz ▸ ht
  | succ j ih =>
    unfold runS at hz
    rcases hw : s.wait with _ | ⟨e, r⟩
    · rw [hw] at hz
      exact hz ▸ ht
    · rw [hw] at hz
      exact ih (h.step hw) (ht.step h.go hw (by have := h.len; omega)) hz
/-- All that FnSeqAll asks of the lists. -/
structure AllFacts (m : Mdl) (Z : Sq) : Prop where
  wait : Z.wait = []
  rise : riseB (Z.log.map (·.ev)) = true
  cause : ∀ l1 r l2, Z.log = l1 ++ r :: l2 → r.ev.fr < 0 ∨ ∃ q ∈ l1, q.ev.to = r.ev.fr ∧ q.ev.t < r.ev.t
  count : sumC Z.comps = Z.log.length
  starts : ((Z.log.map (·.ev)).filter extE).length = m.starts.length
  len : Z.comps.length = m.rules.length
  cst : Z.comps.all cstB = true
  recs : Z.log.all (recB m.rules.length) = true
theorem all_facts {m : Mdl} (h : mdlB m = true) : AllFacts m (allR m) := by
  have R := run0 h
  have I := run_inv R (inv0 h)
  have W := R.none_
  have RI := run_rec R (fun r hr => by rw [sq0_yes h] at hr; cases hr)
  obtain ⟨s', hs', he⟩ := R.ends; rw [he] at hs'
  have hst := I.st
  rw [W] at hst
  exact ⟨W, pair_rise _ I.lg, I.cl, I.ct, by simpa using hst, hs'.all, List.all_eq_true.2 (fun c hc => (hs'.go.cst c hc).1), List.all_eq_true.2 RI⟩
end Go.Proofs.Ytjdoealcmokakaa

namespace Go.Proofs.Ytjdoealcmokakaa
set_option maxRecDepth 100000
open Go.RowKit
theorem sumC_app : ∀ a b : List Cst, sumC (a ++ b) = sumC a + sumC b
  | [], b => by simp [sumC]
  | x :: r, b => by
    rw [List.cons_append, sumC, sumC_app r b, sumC]
    omega
theorem take_getD {α : Type} [Inhabited α] (xs : List α) (k : Nat) (h : k < xs.length) : xs.take (k + 1) = xs.take k ++ [xs.getD k default] := by
  have : xs.getD k default = xs[k] := by simp [List.getD, h]
  rw [this, List.take_add_one, List.getElem?_eq_getElem h]
  rfl
theorem sumC_take (cs : List Cst) (k : Nat) (h : k < cs.length) : sumC (cs.take (k + 1)) = sumC (cs.take k) + (cs.getD k default).ct := by
  rw [take_getD cs k h, sumC_app, sumC, sumC]
  omega
theorem sumC_nn : ∀ cs : List Cst, cs.all cstB = true → 0 ≤ sumC cs
  | [], _ => by simp [sumC]
  | c :: r, h => by
    rw [List.all_cons, Bool.and_eq_true] at h
    have h1 := sumC_nn r h.2
    have h2 := h.1
    unfold cstB at h2; simp only [Bool.and_eq_true, decide_eq_true_eq] at h2; rw [sumC]
    omega
theorem all_take {α : Type} {f : α → Bool} {xs : List α} (k : Nat) (h : xs.all f = true) : (xs.take k).all f = true ∧ (xs.drop k).all f = true := by
  rw [← List.take_append_drop k xs, List.all_append, Bool.and_eq_true] at h
  exact h
theorem sumC_in {cs : List Cst} (h : cs.all cstB = true) (k : Nat) : 0 ≤ sumC (cs.take k) ∧ sumC (cs.take k) ≤ sumC cs := by
  obtain ⟨h1, h2⟩ := all_take k h
  have h3 := sumC_nn _ h1
  have h4 := sumC_nn _ h2
  have h5 : sumC cs = sumC (cs.take k) + sumC (cs.drop k) := by rw [← sumC_app, List.take_append_drop]
  omega
/-- How many of the first k records are of external events. -/
def extN (log : List Rec) (k : Nat) : Nat := (((log.take k).map (·.ev)).filter extE).length
theorem extN_zero (log : List Rec) : extN log 0 = 0 := rfl
theorem extN_succ (log : List Rec) (k : Nat) (h : k < log.length) : extN log (k + 1) = extN log k + if extE (log.getD k default).ev = true then 1 else 0 := by
  unfold extN; rw [take_getD log k h, List.map_append, List.filter_append, List.length_append]
  congr 1
  rw [List.map_cons, List.map_nil, List.filter_cons]
  split <;> simp
theorem extN_le (log : List Rec) (k : Nat) : extN log k ≤ k := by
  unfold extN; refine Nat.le_trans (List.length_filter_le _ _) ?_; rw [List.length_map, List.length_take]
  omega
theorem extN_all (log : List Rec) : extN log log.length = ((log.map (·.ev)).filter extE).length := by
  unfold extN; rw [List.take_length]
/-- Has the event, among the first j records, a cause, or is it external? -/
def causB (log : List Rec) (e : Evt) (j : Nat) : Bool := extE e || (log.take j).any (fun q => decide (q.ev.to = e.fr) && decide (q.ev.t < e.t))
theorem causB_zero (log : List Rec) (e : Evt) : causB log e 0 = extE e := by simp [causB]
theorem causB_succ (log : List Rec) (e : Evt) (j : Nat) (h : j < log.length) : causB log e (j + 1) = (causB log e j || (decide ((log.getD j default).ev.to = e.fr) && decide ((log.getD j default).ev.t < e.t))) := by
  unfold causB; rw [take_getD log j h, List.any_append, Bool.or_assoc]; simp
theorem causB_all {log : List Rec} (h : ∀ l1 r l2, log = l1 ++ r :: l2 → r.ev.fr < 0 ∨ ∃ q ∈ l1, q.ev.to = r.ev.fr ∧ q.ev.t < r.ev.t) (k : Nat) (hk : k < log.length) : causB log (log.getD k default).ev k = true := by
  have e1 : log.getD k default = log[k] := by simp [List.getD, hk]
  have e2 : log = log.take k ++ log.getD k default :: log.drop (k + 1) := by
    rw [e1, ← List.drop_eq_getElem_cons hk, List.take_append_drop]
  unfold causB extE; rw [Bool.or_eq_true]
  rcases h _ _ _ e2 with h | ⟨q, hq, h1, h2⟩
  · exact .inl (decide_eq_true h)
  · refine .inr (List.any_eq_true.2 ⟨q, hq, ?_⟩)
    rw [Bool.and_eq_true]
    exact ⟨decide_eq_true h1, decide_eq_true h2⟩
theorem rise_at : ∀ (es : List Evt) (k : Nat), riseB es = true → k + 1 < es.length → ltE (es.getD k default) (es.getD (k + 1) default) = true
  | [], _, _, h => absurd h (by simp)
  | [_], _, _, h => absurd h (by simp)
  | a :: b :: r, 0, h, _ => by
    rw [riseB, Bool.and_eq_true] at h
    simpa using h.1
  | a :: b :: r, k + 1, h, hk => by
    rw [riseB, Bool.and_eq_true] at h
    have := rise_at (b :: r) k h.2 (by simpa using hk)
    simpa using this
theorem log_rise {log : List Rec} (h : riseB (log.map (·.ev)) = true) (k : Nat) (hk : k + 1 < log.length) : ltE (log.getD k default).ev (log.getD (k + 1) default).ev = true := by
  have := rise_at (log.map (·.ev)) k h (by rw [List.length_map]; exact hk)
  have e : ∀ j, j < log.length → (log.map (·.ev)).getD j default = (log.getD j default).ev := fun j hj => by simp [List.getD, hj]
  rwa [e k (by omega), e (k + 1) hk] at this
theorem allR_ok {m : Mdl} (h : mdlB m = true) {n : Nat} (hn : m.rules.length = n) : sqS m n (allR m).comps.length (allR m) = true := by
  have F := all_facts h
  rw [sqS_fit, h, Bool.true_and]
  have h1 := F.len
  have h2 := F.rise
  have h3 := F.cst
  have h4 := F.recs
  rw [hn] at h1 h4; unfold fitB; rw [F.wait, List.append_nil, h2, h3, h4, h1]; simp
theorem allR_bad {m : Mdl} (h : mdlB m = false) : allR m = ⟨[], [], []⟩ := by
  unfold allR; rw [if_neg (by rw [h]; exact Bool.false_ne_true)]
end Go.Proofs.Ytjdoealcmokakaa

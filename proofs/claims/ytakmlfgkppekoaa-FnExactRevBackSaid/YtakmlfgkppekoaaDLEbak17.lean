/-
  Regions walked by relations, with guests, in one sentence: as region_rely, and a pure operation that hangs on one operation alone comes up at once behind it.
  Values in new blocks, in one sentence: models, lists, results, new blocks that may be written, each kept as memory grows; no condition is made.
  What stands in the slots of FnExactCmpDo's regions, in one sentence: copies in new blocks, results, new blocks; no condition is made.
  A model of memory as a value, in one sentence: some slices that hold it; no condition is made.
  What FnExactRevOk returns, in one sentence: true, with new blocks alone; for every model and number.
  What FnExactEvtRise returns, in one sentence: true, with new blocks alone; for every list of events.
-/
import Derived.Deep.AppendLies
import Derived.Deep.Draws
import Derived.Deep.RegionHeld3
import Derived.Laws.OwnMore
import Derived.Maps.AppendAt
import Derived.OwnWalk
import Derived.RegionTactic
import Derived.Test.YtakmlfgkppekoaaDLEbak02
import Derived.Test.YtakmlfgkppekoaaDLEbak03
import Derived.Test.YtakmlfgkppekoaaDLEbak04
import Derived.Test.YtakmlfgkppekoaaDLEbak05
import Derived.Test.YtakmlfgkppekoaaDLEbak08
import Derived.Test.YtakmlfgkppekoaaDLEbak09
import Derived.Test.YtakmlfgkppekoaaDLEbak10
import Derived.Test.YtakmlfgkppekoaaDLEbak11
import Derived.Test.YtakmlfgkppekoaaDLEbak12
import Derived.Test.YtakmlfgkppekoaaDLEbak16
namespace Go.Proofs.Ytakmlfgkppekoaa
set_option maxRecDepth 100000
open Go.RowKit
def gOf (gs : List (Nat × Nat)) (h : Nat) : Option Nat := (gs.find? (fun x => x.1 == h)).map (·.2)
def isG (gs : List (Nat × Nat)) (p : Nat) : Bool := gs.any (fun x => x.2 == p)
def relyT (ops : Array Oper) (n : Nat) (gs : List (Nat × Nat)) (fs : List (Nat × Bool)) : Bool :=
  decide (((List.range n).filter (fun i => !isG gs i)).length + (((List.range n).filter (fun i => !isG gs i)).filter (fun i => (gOf gs i).isSome)).length + fs.length = ops.size) &&
  decide (n ≤ ops.size) &&
  (List.range n).all (fun i => match ops[i]? with
    | some o => o.guard.isNone && o.dst.isSome && o.after.toList.all (fun e => !Region.binds .any e || decide (e.on < i))
    | none => false) &&
  (List.range n).all (fun h => match gOf gs h with
    | none => true
    | some p => decide (h < p) && decide (p < n) && isG gs p && !isG gs h && (List.range n).all (fun h' => h' == h || gOf gs h' != some p) && (match ops[p]? with
      | some o => o.after.toList.all (fun e => !Region.binds .any e || e.on == h) && o.after.toList.any (fun e => Region.binds .any e && e.on == h) && Region.free .any ops ((Array.range ops.size).map fun i => i == h) p
      | none => false)) &&
  (List.range n).all (fun p => !isG gs p || (List.range n).any (fun h => gOf gs h == some p)) &&
  decide ((dsts ops n).Nodup) &&
  (List.range ops.size).all (fun i => decide (i < n) || match ops[i]? with
    | some o => (List.range n).all (fun j => isG gs j || o.after.toList.any fun e => Region.binds .any e && e.on == j)
    | none => false) &&
  Region.noSelect ops && mixB ops fs (frontArr ops n)
theorem free_mono {ops : Array Oper} {l l' : Array Bool} {i : Nat} (h : Region.free .any ops l i = true) (hl : ∀ j, l.getD j true = true → l'.getD j true = true) : Region.free .any ops l' i = true := by
  unfold Region.free at h ⊢
  cases ho : ops[i]? with
  | none => rw [ho] at h; simp at h
  | some oi =>
    rw [ho] at h; simp only [List.all_eq_true, List.mem_range] at h ⊢; intro j hj
    have := h j hj
    simp only [Bool.or_eq_true] at this ⊢
    rcases this with (h1 | h1) | h1
    · exact .inl (.inl h1)
    · exact .inl (.inr (hl j h1))
    · exact .inr h1
/-- What is asked of a guest. -/
def GuestR (P : Program) (ops : Array Oper) (ds : List Nat) (a0 : Act) (R : Nat → Value → World → Prop) (h p : Nat) : Prop :=
  ∀ X w o, ops[p]? = some o → R (dstAt ops h) (X (dstAt ops h)) w → ∃ v, (∀ w1, (execOp (⟨mixT a0.tmps ds X, a0.defers⟩ : Act).eval o).run P w1 = .ok (.value v) w1) ∧ R (dstAt ops p) v w
theorem wpAny_relyT {P : Program} {ops : Array Oper} {n : Nat} {gs : List (Nat × Nat)} {fs : List (Nat × Bool)} {a0 : Act} {G : Nat → World → Prop} {M : World → World → Prop} {R : Nat → Value → World → Prop} {Q : Exit → Act → World → Prop}
    (hB : relyT ops n gs fs = true) (hQ : ∀ c (a : Act) d v w, Q (.panic c) (a.put d v) w → Q (.panic c) a w) (hst : ∀ d v w w', R d v w → M w w' → R d v w')
    (hstep : ∀ i o, i < n → ops[i]? = some o → isG gs i = false → StepR P ops (dsts ops n) a0 G M R Q o)
    (hguest : ∀ h p, h < n → gOf gs h = some p → GuestR P ops (dsts ops n) a0 R h p)
    (hend : ∀ X w, G 0 w → (∀ i, i < n → R (dstAt ops i) (X (dstAt ops i)) w) → wpMix P ops Q fs ⟨mixT a0.tmps (dsts ops n) X, a0.defers⟩ w) :
    ∀ (us : List Nat) (listed : Array Bool) (X : Nat → Value) (w : World), us.Nodup → listed.size = ops.size → (∀ i, i ∈ us ↔ i < n ∧ isG gs i = false ∧ listed.getD i true = false) → (∀ i, n ≤ i → i < ops.size → listed.getD i true = false) →
      (∀ h p, h < n → gOf gs h = some p → listed.getD p true = listed.getD h true) →
      (∀ i, i < n → listed.getD i true = true → R (dstAt ops i) (X (dstAt ops i)) w) → G us.length w → wpAny P .any ops Q (us.length + (us.filter (fun i => (gOf gs i).isSome)).length + fs.length) listed ⟨mixT a0.tmps (dsts ops n) X, a0.defers⟩ w := by
  simp only [relyT, Bool.and_eq_true, decide_eq_true_eq] at hB; obtain ⟨⟨⟨⟨⟨⟨⟨⟨_, hns⟩, hfront⟩, hgs⟩, hgs2⟩, hnd⟩, hback⟩, hsel⟩, hmix⟩ := hB
  have front : ∀ i, i < n → ∃ o d, ops[i]? = some o ∧ o.guard = none ∧ o.dst = some d ∧ ∀ e ∈ o.after.toList, Region.binds .any e = true → e.on < i := by
    intro i hi
    have h := List.all_eq_true.1 hfront i (List.mem_range.2 hi)
    cases ho : ops[i]? with
    | none => rw [ho] at h; simp at h
    | some o =>
      rw [ho] at h; simp only [Bool.and_eq_true, List.all_eq_true, Bool.or_eq_true, Bool.not_eq_true', decide_eq_true_eq] at h; obtain ⟨⟨hg, hd⟩, he⟩ := h; obtain ⟨d, hd⟩ := Option.isSome_iff_exists.1 hd
      exact ⟨o, d, rfl, by simpa using hg, hd, fun e hm hb => by rcases he e hm with h | h; (rw [hb] at h; cases h); exact h⟩
  have guest : ∀ h p, h < n → gOf gs h = some p → h < p ∧ p < n ∧ isG gs p = true ∧ isG gs h = false ∧ (∀ h', h' < n → gOf gs h' = some p → h' = h) ∧ ∃ o, ops[p]? = some o ∧ (∀ e ∈ o.after.toList, Region.binds .any e = true → e.on = h) ∧ (∃ e ∈ o.after.toList, Region.binds .any e = true ∧ e.on = h) ∧ Region.free .any ops ((Array.range ops.size).map fun i => i == h) p = true := by
    intro h p hh hp
    have k := List.all_eq_true.1 hgs h (List.mem_range.2 hh)
    rw [hp] at k; simp only [Bool.and_eq_true, decide_eq_true_eq, Bool.not_eq_true', List.all_eq_true, List.mem_range, Bool.or_eq_true, beq_iff_eq, bne_iff_ne] at k; obtain ⟨⟨⟨⟨⟨k1, k2⟩, k3⟩, k4⟩, k5⟩, k6⟩ := k; refine ⟨k1, k2, k3, k4, fun h' hh' e => ?_, ?_⟩
    · rcases k5 h' hh' with h0 | h0
      · exact h0
      · exact absurd e h0
    · cases ho : ops[p]? with
      | none => rw [ho] at k6; simp at k6
      | some o =>
        rw [ho] at k6; simp only [Bool.and_eq_true, List.all_eq_true, Bool.or_eq_true, Bool.not_eq_true', beq_iff_eq, List.any_eq_true] at k6; obtain ⟨⟨k7, e, hem, he1, he2⟩, k8⟩ := k6
        exact ⟨o, rfl, fun e hm hb => by rcases k7 e hm with h | h; (rw [hb] at h; cases h); exact h, ⟨e, hem, he1, he2⟩, k8⟩
  have dinj : ∀ i j, i < n → j < n → dstAt ops i = dstAt ops j → i = j := by
    intro i j hi hj e; obtain ⟨o1, d1, ho1, _, hd1, _⟩ := front i hi; obtain ⟨o2, d2, ho2, _, hd2, _⟩ := front j hj
    have e1 : dstAt ops i = d1 := by simp [dstAt, ho1, hd1]
    have e2 : dstAt ops j = d2 := by simp [dstAt, ho2, hd2]
    rw [e1, e2] at e; subst e
    have key : ∀ (l : List Nat), l.Nodup → (l.filterMap fun i => (ops[i]?).bind (·.dst)).Nodup → ∀ a b, a ∈ l → b ∈ l → ((ops[a]?).bind (·.dst)) = some d1 → ((ops[b]?).bind (·.dst)) = some d1 → a = b := by
      intro l
      induction l with
      | nil => intro _ _ a b ha; cases ha
      | cons x r ihr =>
        intro h1 h2 a b ha hb hxa hxb; rw [List.nodup_cons] at h1
        rcases List.mem_cons.1 ha with e1 | ha'
        · rcases List.mem_cons.1 hb with e2 | hb'
          · exact e1.trans e2.symm
          · rw [← e1, List.filterMap_cons, hxa] at h2
            simp only [List.nodup_cons] at h2
            exact absurd (List.mem_filterMap.2 ⟨b, hb', hxb⟩) h2.1
        · rcases List.mem_cons.1 hb with e2 | hb'
          · rw [← e2, List.filterMap_cons, hxb] at h2
            simp only [List.nodup_cons] at h2
            exact absurd (List.mem_filterMap.2 ⟨a, ha', hxa⟩) h2.1
          · refine ihr h1.2 ?_ a b ha' hb' hxa hxb
            rw [List.filterMap_cons] at h2
            split at h2
            · exact h2
            · exact (List.nodup_cons.1 h2).2
    exact key (List.range n) List.nodup_range hnd i j (List.mem_range.2 hi) (List.mem_range.2 hj) (by simp [ho1, hd1]) (by simp [ho2, hd2])
  have dmem : ∀ i, i < n → dstAt ops i ∈ dsts ops n := by
    intro i hi; obtain ⟨o, d, ho, _, hd, _⟩ := front i hi
    have e1 : dstAt ops i = d := by simp [dstAt, ho, hd]
    rw [e1]; simp only [dsts, List.mem_filterMap, List.mem_range]
    exact ⟨i, hi, by simp [ho, hd]⟩
  have hosted : ∀ p, p < n → isG gs p = true → ∃ h, h < n ∧ gOf gs h = some p := by
    intro p hp hg
    have := List.all_eq_true.1 hgs2 p (List.mem_range.2 hp)
    rw [hg] at this; simp only [Bool.not_true, Bool.false_or, List.any_eq_true, List.mem_range, beq_iff_eq] at this
    exact this
  intro us
  induction hk : us.length generalizing us with
  | zero =>
    intro listed X w _ hsz hus hlate hgl hR hG
    have hnil : us = [] := List.eq_nil_of_length_eq_zero hk
    subst hnil
    have hall : ∀ i, i < n → listed.getD i true = true := by
      intro i hi
      cases hg : isG gs i
      · cases hc : listed.getD i true
        · exact absurd ((hus i).2 ⟨hi, hg, hc⟩) (by simp)
        · rfl
      · obtain ⟨h, hh, hp⟩ := hosted i hi hg
        rw [hgl h i hh hp]; obtain ⟨_, _, _, hgh, _⟩ := guest h i hh hp
        cases hc : listed.getD h true
        · exact absurd ((hus h).2 ⟨hh, hgh, hc⟩) (by simp)
        · rfl
    have hl : listed = frontArr ops n := by
      apply Array.ext
      · simp [frontArr, hsz]
      · intro i h1 h2
        have h1' : i < ops.size := by omega
        have hg : listed.getD i true = listed[i] := by simp [Array.getD, h1]
        by_cases hin : i < n
        · rw [← hg, hall i hin]
          simp [frontArr, hin]
        · have := hlate i (by omega) h1'
          rw [← hg, this]; simp [frontArr, hin]
    subst hl; simp only [List.filter_nil, List.length_nil, Nat.zero_add]
    exact wpAny_of_mix hsel hQ fs _ _ _ hmix (hend X w hG fun i hi => hR i hi (hall i hi))
  | succ k ih =>
    intro listed X w hnodup hsz hus hlate hgl hR hG
    have hex : ∃ m, m ∈ us := by
      cases us with
      | nil => simp at hk
      | cons x r => exact ⟨x, by simp⟩
    have gd : ∀ j, j < ops.size → listed.getD j true = (listed[j]?).getD true := fun j hj => by simp [Array.getD_eq_getD_getElem?]
    have hfuel : k + 1 + (us.filter (fun i => (gOf gs i).isSome)).length + fs.length = (k + (us.filter (fun i => (gOf gs i).isSome)).length + fs.length) + 1 := by omega
    rw [hfuel]; refine ⟨fun hr => ?_, fun i hi => ?_⟩
    · exfalso
      have least : ∀ b, ∀ m, m ≤ b → m ∈ us → ∃ m0, m0 ∈ us ∧ ∀ j, j < m0 → j ∉ us := by
        intro b
        induction b with
        | zero => intro m hm h; obtain rfl : m = 0 := by omega
                  exact ⟨0, h, fun j hj => absurd hj (by omega)⟩
        | succ b ihb =>
          intro m hm h
          by_cases hex2 : ∃ j, j < m ∧ j ∈ us
          · obtain ⟨j, hj, hju⟩ := hex2
            exact ihb j (by omega) hju
          · exact ⟨m, h, fun j hj hju => hex2 ⟨j, hj, hju⟩⟩
      obtain ⟨m, hm⟩ := hex; obtain ⟨m0, h0, hmin⟩ := least m m (Nat.le_refl _) hm; obtain ⟨hmn, _, hml⟩ := (hus m0).1 h0; obtain ⟨o, d, ho, _, _, he⟩ := front m0 hmn
      have low : ∀ j, j < m0 → listed.getD j true = true := by
        intro j hj
        cases hc : listed.getD j true
        · exfalso
          cases hg : isG gs j
          · exact hmin j hj ((hus j).2 ⟨by omega, hg, hc⟩)
          · obtain ⟨h, hh, hp⟩ := hosted j (by omega) hg
            obtain ⟨hlt, _, _, hgh, _⟩ := guest h j hh hp
            have := hgl h j hh hp
            rw [hc] at this
            exact hmin h (by omega) ((hus h).2 ⟨hh, hgh, this.symm⟩)
        · rfl
      have : m0 ∈ Region.ready .any ops listed := by
        simp only [Region.ready, List.mem_filter, List.mem_range, Bool.and_eq_true, Bool.not_eq_true']; refine ⟨by omega, hml, ?_⟩; rw [ho]; simp only [Option.map_some, Option.getD_some]; rw [Array.all_eq_true']; intro e hem
        cases hb : Region.binds .any e
        · rfl
        · have hlt := he e (by simpa using hem) hb
          have hl := low e.on hlt
          have hin : e.on < listed.size := by omega
          simp only [Array.getD, hin, dif_pos] at hl ⊢
          simpa using hl
      rw [hr] at this
      cases this
    · have hi' := hi
      simp only [Region.ready, List.mem_filter, List.mem_range, Bool.and_eq_true, Bool.not_eq_true'] at hi'; obtain ⟨his, hil, hia⟩ := hi'
      have bound : ∀ o, ops[i]? = some o → ∀ e ∈ o.after.toList, Region.binds .any e = true → listed.getD e.on true = true ∨ listed.size ≤ e.on := by
        intro o ho e hem hb; rw [ho] at hia; simp only [Option.map_some, Option.getD_some] at hia
        have h2 := (Array.all_eq_true'.1 hia) e (by simpa using hem)
        rw [hb] at h2
        by_cases hs : e.on < listed.size
        · left
          simp only [Array.getD, hs, dif_pos] at h2 ⊢
          simpa using h2
        · exact .inr (by omega)
      have hin : i < n := by
        rcases Nat.lt_or_ge i n with h | h
        · exact h
        · exfalso
          have hb := List.all_eq_true.1 hback i (List.mem_range.2 his)
          rw [decide_eq_false (by omega : ¬ i < n), Bool.false_or] at hb; obtain ⟨m, hm⟩ := hex; obtain ⟨hmn, hmg, hml⟩ := (hus m).1 hm
          cases ho : ops[i]? with
          | none => rw [ho] at hb; simp at hb
          | some o =>
            rw [ho] at hb
            have h1 := List.all_eq_true.1 hb m (List.mem_range.2 hmn)
            rw [hmg, Bool.false_or] at h1; obtain ⟨e, hem, heb⟩ := List.any_eq_true.1 h1; simp only [Bool.and_eq_true, beq_iff_eq] at heb
            rcases bound o ho e hem heb.1 with h2 | h2
            · rw [heb.2, hml] at h2; cases h2
            · omega
      have hig : isG gs i = false := by
        cases hg : isG gs i
        · rfl
        · exfalso
          obtain ⟨h, hh, hp⟩ := hosted i hin hg; obtain ⟨_, _, _, _, _, o, ho, _, ⟨e, hem, he1, he2⟩, _⟩ := guest h i hh hp
          rcases bound o ho e hem he1 with h2 | h2
          · rw [he2, ← hgl h i hh hp, hil] at h2; cases h2
          · omega
      obtain ⟨o, d, ho, hg, hd, he⟩ := front i hin
      have hdep : ∀ x ∈ deps ops o, R x (X x) w := by
        intro x hx; simp only [deps, List.mem_map, List.mem_filter] at hx; obtain ⟨e, ⟨hem, heb⟩, rfl⟩ := hx
        have hlt := he e hem heb
        rcases bound o ho e hem heb with h2 | h2
        · exact hR e.on (by omega) h2
        · omega
      have hstp := hstep i o hin ho hig X w k (hk ▸ hG) hdep
      have hdi : dstAt ops i = d := by simp [dstAt, ho, hd]
      have hmem : d ∈ dsts ops n := hdi ▸ dmem i hin
      have hui : i ∈ us := (hus i).2 ⟨hin, hig, hil⟩
      have hlen' : (us.erase i).length = k := by rw [List.length_erase_of_mem hui, hk]; rfl
      have hfil : (us.filter (fun i => (gOf gs i).isSome)).length = ((i :: us.erase i).filter (fun i => (gOf gs i).isSome)).length := ((List.perm_cons_erase hui).filter _).length_eq
      refine wpOp_mono (K := DoneR ⟨mixT a0.tmps (dsts ops n) X, a0.defers⟩ o.dst M (G k) (R (o.dst.getD 0)) w) (fun a' w' h' => ?_) ?_
      · obtain ⟨⟨v, rfl, hM, hG', hRv⟩⟩ := h'
        rw [hd] at hRv ⊢; simp only [Option.getD_some] at hRv
        have hput : (⟨mixT a0.tmps (dsts ops n) X, a0.defers⟩ : Act).put (some d) v = ⟨mixT a0.tmps (dsts ops n) (updX X d v), a0.defers⟩ := by
          simp only [Act.put, mixT_put _ _ _ _ _ hmem]
        rw [hput]
        have hR1 : ∀ j, j < n → j ≠ i → listed.getD j true = true → R (dstAt ops j) (updX X d v (dstAt ops j)) w' := by
          intro j hj hji hjl
          have hne : dstAt ops j ≠ d := fun e => hji (dinj j i hj hin (by rw [hdi]; exact e))
          have hX : updX X d v (dstAt ops j) = X (dstAt ops j) := if_neg hne
          rw [hX]
          exact hst _ _ _ _ (hR j hj hjl) hM
        have hRi : R (dstAt ops i) (updX X d v (dstAt ops i)) w' := by rw [hdi]; simpa [updX] using hRv
        cases hgi : gOf gs i with
        | none =>
          have hf2 : (us.filter (fun i => (gOf gs i).isSome)).length = ((us.erase i).filter (fun i => (gOf gs i).isSome)).length := by rw [hfil, List.filter_cons]; simp [hgi]
          rw [hf2]; refine ih (us.erase i) hlen' (listed.setIfInBounds i true) (updX X d v) w' (hnodup.erase i) (by simpa using hsz) (fun j => ?_) (fun j hj hjs => ?_) (fun h p hh hp => ?_) (fun j hj hjl => ?_) hG'
          · rw [List.Nodup.mem_erase_iff hnodup, hus j]
            simp only [Array.getD_eq_getD_getElem?, Array.getElem?_setIfInBounds]
            by_cases hji : i = j
            · subst hji
              have : i < listed.size := by omega
              simp [this]
            · simp [hji, show j ≠ i from fun e => hji e.symm]
          · have := hlate j hj hjs
            simp only [Array.getD_eq_getD_getElem?, Array.getElem?_setIfInBounds] at this ⊢; rw [if_neg (by omega)]
            exact this
          · have := hgl h p hh hp
            have h1 : i ≠ h := fun e => by subst e; rw [hgi] at hp; cases hp
            have h2 : i ≠ p := fun e => by subst e; have := (guest h i hh hp).2.2.1; rw [hig] at this; cases this
            simp only [Array.getD_eq_getD_getElem?, Array.getElem?_setIfInBounds] at this ⊢; rw [if_neg h1, if_neg h2]
            exact this
          · by_cases hji : j = i
            · subst hji; exact hRi
            · simp only [Array.getD_eq_getD_getElem?, Array.getElem?_setIfInBounds] at hjl
              rw [if_neg (fun e => hji e.symm)] at hjl
              exact hR1 j hj hji (by simpa [Array.getD_eq_getD_getElem?] using hjl)
        | some p =>
          obtain ⟨hip, hpn, hpg, _, huniq, o2, ho2, ho2e, _, hfree⟩ := guest i p hin hgi
          have hf2 : (us.filter (fun i => (gOf gs i).isSome)).length = ((us.erase i).filter (fun i => (gOf gs i).isSome)).length + 1 := by rw [hfil, List.filter_cons]; simp [hgi]
          rw [hf2, show k + (((us.erase i).filter (fun i => (gOf gs i).isSome)).length + 1) + fs.length = (k + ((us.erase i).filter (fun i => (gOf gs i).isSome)).length + fs.length) + 1 by omega]; obtain ⟨v2, hrun, hRv2⟩ := hguest i p hin hgi (updX X d v) w' o2 ho2 hRi
          have hpl : listed.getD p true = false := by rw [hgl i p hin hgi]; exact hil
          obtain ⟨o2', d2, ho2', hg2, hd2, _⟩ := front p hpn
          obtain rfl : o2 = o2' := by rw [ho2] at ho2'; injection ho2'
          have hdp : dstAt ops p = d2 := by simp [dstAt, ho2, hd2]
          have hmem2 : d2 ∈ dsts ops n := hdp ▸ dmem p hpn
          refine wpAny_take (v := v2) ho2 hsel (free_mono hfree fun j hj => ?_) ?_ (fun c a w => hQ c a _ _ w) (.inl ⟨by simp [Region.wanted, hg2], hrun⟩) ?_
          · simp only [Array.getD_eq_getD_getElem?, Array.getElem?_map, Array.getElem?_setIfInBounds] at hj ⊢
            by_cases hji : i = j
            · subst hji
              have : i < listed.size := by omega
              simp [this]
            · rw [if_neg hji]
              by_cases hjs : j < ops.size
              · simp [hjs, show j ≠ i from fun e => hji e.symm] at hj
              · have : listed[j]? = none := by simp; omega
                simp [this]
          · simp only [List.contains_eq_mem, decide_eq_true_eq, Region.ready, List.mem_filter, List.mem_range, Bool.and_eq_true, Bool.not_eq_true']
            refine ⟨by omega, ?_, ?_⟩
            · simp only [Array.getD_eq_getD_getElem?, Array.getElem?_setIfInBounds] at hpl ⊢
              rw [if_neg (by omega)]
              exact hpl
            · rw [ho2]
              simp only [Option.map_some, Option.getD_some]; rw [Array.all_eq_true']; intro e hem
              cases hb : Region.binds .any e
              · rfl
              · have hon := ho2e e (by simpa using hem) hb
                rw [hon]
                have : i < listed.size := by omega
                simp [Array.getD_eq_getD_getElem?, this]
          · rw [hd2]
            have hput2 : (⟨mixT a0.tmps (dsts ops n) (updX X d v), a0.defers⟩ : Act).put (some d2) v2 = ⟨mixT a0.tmps (dsts ops n) (updX (updX X d v) d2 v2), a0.defers⟩ := by
              simp only [Act.put, mixT_put _ _ _ _ _ hmem2]
            rw [hput2]
            have hpi : p ≠ i := by omega
            refine ih (us.erase i) hlen' ((listed.setIfInBounds i true).setIfInBounds p true) (updX (updX X d v) d2 v2) w' (hnodup.erase i) (by simpa using hsz) (fun j => ?_) (fun j hj hjs => ?_) (fun h q hh hq => ?_) (fun j hj hjl => ?_) hG'
            · rw [List.Nodup.mem_erase_iff hnodup, hus j]
              simp only [Array.getD_eq_getD_getElem?, Array.getElem?_setIfInBounds, Array.size_setIfInBounds]
              by_cases hjp : p = j
              · subst hjp
                have : p < listed.size := by omega
                simp [this, hpg]
              · rw [if_neg hjp]
                by_cases hji : i = j
                · subst hji
                  have : i < listed.size := by omega
                  simp [this]
                · simp [hji, show j ≠ i from fun e => hji e.symm]
            · have := hlate j hj hjs
              simp only [Array.getD_eq_getD_getElem?, Array.getElem?_setIfInBounds] at this ⊢; rw [if_neg (by omega), if_neg (by omega)]
              exact this
            · have hsp : p < listed.size := by omega
              have hsi : i < listed.size := by omega
              by_cases hhi : h = i
              · subst hhi
                rw [hgi] at hq
                injection hq with hq
                subst hq; simp only [Array.getD_eq_getD_getElem?, Array.getElem?_setIfInBounds, Array.size_setIfInBounds]; simp [hsp, hsi, hpi]
              · have h2 : q ≠ p := fun e => hhi (huniq h hh (e ▸ hq))
                have h3 : q ≠ i := fun e => by subst e; have := (guest h q hh hq).2.2.1; rw [hig] at this; cases this
                have h4 : h ≠ p := fun e => by subst e; have := (guest h q hh hq).2.2.2.1; rw [hpg] at this; cases this
                have := hgl h q hh hq
                simp only [Array.getD_eq_getD_getElem?, Array.getElem?_setIfInBounds] at this ⊢; rw [if_neg (fun e => h2 e.symm), if_neg (fun e => h3 e.symm), if_neg (fun e => h4 e.symm), if_neg (fun e => hhi e.symm)]
                exact this
            · by_cases hjp : j = p
              · subst hjp
                rw [hdp]; rw [hdp] at hRv2
                simpa [updX] using hRv2
              · have hne2 : dstAt ops j ≠ d2 := fun e => hjp (dinj j p hj hpn (by rw [hdp]; exact e))
                have hX2 : updX (updX X d v) d2 v2 (dstAt ops j) = updX X d v (dstAt ops j) := if_neg hne2
                rw [hX2]
                by_cases hji : j = i
                · subst hji; exact hRi
                · simp only [Array.getD_eq_getD_getElem?, Array.getElem?_setIfInBounds] at hjl
                  rw [if_neg (fun e => hjp e.symm), if_neg (fun e => hji e.symm)] at hjl
                  exact hR1 j hj hji (by simpa [Array.getD_eq_getD_getElem?] using hjl)
      · unfold wpOp
        simp only [ho]; rw [if_pos (by simp [Region.wanted, hg])]; rw [opW_def] at hstp
        exact .inl hstp
/-- Of the first n operations those that are no guests. -/
def StepsT (P : Program) (ops : Array Oper) (gs : List (Nat × Nat)) (ds : List Nat) (a0 : Act) (G : Nat → World → Prop) (M : World → World → Prop) (R : Nat → Value → World → Prop) (Q : Exit → Act → World → Prop) : Nat → List Oper → Prop
  | _, [] => True
  | i, o :: r => (match isG gs i with | true => True | false => StepR P ops ds a0 G M R Q o) ∧ StepsT P ops gs ds a0 G M R Q (i + 1) r
theorem StepsT.get {P : Program} {ops : Array Oper} {gs : List (Nat × Nat)} {ds : List Nat} {a0 : Act} {G : Nat → World → Prop} {M : World → World → Prop} {R : Nat → Value → World → Prop} {Q : Exit → Act → World → Prop} :
    ∀ {l : List Oper} {s i : Nat} {o : Oper}, StepsT P ops gs ds a0 G M R Q s l → l[i]? = some o → isG gs (s + i) = false → StepR P ops ds a0 G M R Q o
  | [], _, _, _, _, h, _ => by simp at h
  | x :: r, s, 0, o, hs, h, hg => by
    obtain rfl : x = o := by simpa using h
    have := hs.1
    rw [Nat.add_zero] at hg; rw [hg] at this
    exact this
  | x :: r, s, i + 1, o, hs, h, hg => StepsT.get (s := s + 1) (i := i) hs.2 (by simpa using h) (by rwa [show s + 1 + i = s + (i + 1) by omega])
section
variable {P : Program} {ops : Array Oper} {gs : List (Nat × Nat)} {ds : List Nat} {a0 : Act} {G : Nat → World → Prop} {M : World → World → Prop} {R : Nat → Value → World → Prop} {Q : Exit → Act → World → Prop}
theorem stepsT_op {i : Nat} {o : Oper} {r : List Oper} (hg : isG gs i = false) (h1 : StepR P ops ds a0 G M R Q o) (h2 : StepsT P ops gs ds a0 G M R Q (i + 1) r) : StepsT P ops gs ds a0 G M R Q i (o :: r) :=
  ⟨by rw [hg]; exact h1, h2⟩
theorem stepsT_guest {i : Nat} {o : Oper} {r : List Oper} (hg : isG gs i = true) (h2 : StepsT P ops gs ds a0 G M R Q (i + 1) r) : StepsT P ops gs ds a0 G M R Q i (o :: r) :=
  ⟨by rw [hg]; trivial, h2⟩
end
theorem gOf_one {a b h p : Nat} (e : gOf [(a, b)] h = some p) : h = a ∧ p = b := by
  unfold gOf at e
  by_cases hh : a = h
  · subst hh
    simp at e
    exact ⟨rfl, e.symm⟩
  · have : ((a, b).1 == h) = false := by simp [hh]
    rw [List.find?_cons, this] at e; simp at e
theorem region_relyT {P : Program} {id : Nat} {Q : Exit → Act → World → Prop} {a : Act} {w : World} {l : List Oper} (n : Nat) (gs : List (Nat × Nat)) (fs : List (Nat × Bool)) (ds : List Nat) (m : Nat) (G : Nat → World → Prop) (M : World → World → Prop) (R : Nat → Value → World → Prop)
    (hm : P.follows .mixedOrders = true) (hB : relyT l.toArray n gs fs = true) (hds : dsts l.toArray n = ds) (hmm : ((List.range n).filter (fun i => !isG gs i)).length = m) (hG : G m w.drew) (hst : ∀ d v w w', R d v w → M w w' → R d v w')
    (hsteps : StepsT P l.toArray gs ds a G M R (NoPanic Q) 0 (l.take n))
    (hguest : ∀ h p, h < n → gOf gs h = some p → GuestR P l.toArray ds a R h p)
    (hend : ∀ X w, G 0 w → (∀ i, i < n → R (dstAt l.toArray i) (X (dstAt l.toArray i)) w) → wpMix P l.toArray (NoPanic Q) fs ⟨mixT a.tmps ds X, a.defers⟩ w) :
    (Code.region id l.toArray true).wp P Q a w := by
  subst hds hmm; refine wp_region_noPanic (wp_region_any hm ?_)
  have hlen := hB
  simp only [relyT, Bool.and_eq_true, decide_eq_true_eq] at hlen
  have hns : n ≤ l.toArray.size := hlen.1.1.1.1.1.1.1.2
  have hlen := hlen.1.1.1.1.1.1.1.1
  have gf : ∀ i, i < l.length → (Array.replicate l.toArray.size false).getD i true = false := fun i hi => by simp [Array.getD_eq_getD_getElem?, hi]
  have hnl : n ≤ l.length := by simpa using hns
  have := wpAny_relyT (P := P) (Q := NoPanic Q) (a0 := a) hB (fun _ _ _ _ _ h => h) hst
    (fun i o hi ho hg => StepsT.get (s := 0) (i := i) hsteps (by rw [List.getElem?_take_of_lt hi]; simpa using ho) (by rwa [Nat.zero_add])) hguest hend
    ((List.range n).filter (fun i => !isG gs i)) (Array.replicate l.toArray.size false) (fun d => a.tmps.getD d undef) w.drew (List.nodup_range.filter _) (by simp)
    (fun i => by
      simp only [List.mem_filter, List.mem_range, Bool.not_eq_true']
      constructor
      · intro h
        exact ⟨h.1, h.2, gf i (by omega)⟩
      · exact fun h => ⟨h.1, h.2.1⟩)
    (fun i _ hs => gf i (by simpa using hs))
    (fun h p hh hp => by
      have hpn : p < n := by
        have hB2 := hB
        simp only [relyT, Bool.and_eq_true, decide_eq_true_eq] at hB2
        have k := List.all_eq_true.1 hB2.1.1.1.1.1.2 h (List.mem_range.2 hh)
        rw [hp] at k; simp only [Bool.and_eq_true, decide_eq_true_eq] at k
        exact k.1.1.1.1.2
      rw [gf p (by omega), gf h (by omega)])
    (fun i hi hl => by rw [gf i (by omega)] at hl; cases hl) (by simpa using hG)
  rw [hlen, mixT_self] at this
  exact this
end Go.Proofs.Ytakmlfgkppekoaa

namespace Go.Proofs.Ytakmlfgkppekoaa
set_option maxRecDepth 100000
open Go.RowKit
/-- A new block of n cells of this type that may be written. -/
def NewB (n t lo : Nat) (v : Value) (w : World) : Prop :=
  ∃ (b : Nat) (xs : Array Value), v = .pointer (some ⟨b, 0, none⟩) ∧ lo ≤ b ∧ w.heap[b]? = some (.cells xs t) ∧ xs.size = n
theorem NewB.up {n t lo : Nat} {v : Value} {w w' : World} (h : NewB n t lo v w) (u : Up w w') : NewB n t lo v w' := by
  obtain ⟨b, xs, hv, h2, h3, h4⟩ := h
  exact ⟨b, xs, hv, h2, (u.below.block b (Array.getElem?_eq_some_iff.1 h3).1).trans h3, h4⟩
theorem NewB.new {lo : Nat} (w : World) (xs : Array Value) (t : TypeId) (n : Nat) (hn : xs.size = n) (hB : lo ≤ w.heap.size) : NewB n t lo (.pointer (some ⟨w.heap.size, 0, none⟩)) (w.alloc (.cells xs t)) :=
  ⟨w.heap.size, xs, rfl, hB, heap_alloc_new w (.cells xs t), hn⟩
theorem NewB.parts {n t lo : Nat} {v : Value} {w : World} (h : NewB n t lo v w) :
    ∃ b : Nat, v = .pointer (some ⟨b, 0, none⟩) ∧ lo ≤ b ∧ b < w.heap.size ∧ (∀ j, j < n → ∃ u, w.cell? ⟨b, j, none⟩ = some u) ∧ (∀ j, w.frozen? ⟨b, j, none⟩ = false) ∧ (∀ j, n ≤ j → w.cell? ⟨b, j, none⟩ = none) ∧ ∃ xs, w.heap[b]? = some (.cells xs t) := by
  obtain ⟨b, xs, hv, h2, h3, h4⟩ := h; refine ⟨b, hv, h2, (Array.getElem?_eq_some_iff.1 h3).1, fun j hj => ?_, fun j => ?_, fun j hj => ?_, xs, h3⟩
  · exact ⟨_, by rw [cell_of_row _ _ j _ _ _ h3]; exact Array.getElem?_eq_getElem (by omega)⟩
  · unfold World.frozen?
    rw [h3]; simp
  · rw [cell_of_row _ _ j _ _ _ h3]
    exact Array.getElem?_eq_none (by omega)
end Go.Proofs.Ytakmlfgkppekoaa

namespace Go.Proofs.Ytakmlfgkppekoaa
set_option maxRecDepth 100000
open Go.RowKit
theorem eqCst_any (a b : Cst) (w : World) : Calls Try.prog 27 #[a.v, b.v] w fun x w' => x = .returned (.bool (decide (a = b))) ∧ Up w w' := by
  obtain ⟨a0, a1, a2⟩ := a; obtain ⟨b0, b1, b2⟩ := b
  have hf := Lib.hid (show decide ((⟨a0, a1, a2⟩ : Cst) = ⟨b0, b1, b2⟩) = (decide (a0 = b0) && (decide (a1 = b1) && decide (a2 = b2))) by rw [Bool.eq_iff_iff]; simp)
  generalize decide ((⟨a0, a1, a2⟩ : Cst) = ⟨b0, b1, b2⟩) = r at hf ⊢
  unfold Cst.v; dsimp only
  by_cases h0 : a0 = b0
  · by_cases h1 : a1 = b1
    · by_cases h2 : a2 = b2
      · have HR := Lib.hid (show r = true by rw [hf.out]; simp [h0, h1, h2])
        subst h0 h1 h2; clear hf
        go_enter Try.func27, Try.ntmps27
        go_wp2; go_ret
        exact ⟨ret_bool HR.out.symm, ((Up.refl _).alloc _).alloc _⟩
      · have HR := Lib.hid (show r = false by rw [hf.out]; simp [h2])
        have h2' : (a2 != b2) = true := by simp [h2]
        subst h0 h1; clear hf
        go_enter Try.func27, Try.ntmps27
        go_wp2; go_ret
        exact ⟨ret_bool HR.out.symm, ((Up.refl _).alloc _).alloc _⟩
    · have HR := Lib.hid (show r = false by rw [hf.out]; simp [h1])
      have h1' : (a1 != b1) = true := by simp [h1]
      subst h0; clear hf
      go_enter Try.func27, Try.ntmps27
      go_wp2; go_ret
      exact ⟨ret_bool HR.out.symm, ((Up.refl _).alloc _).alloc _⟩
  · have HR := Lib.hid (show r = false by rw [hf.out]; simp [h0])
    have h0' : (a0 != b0) = true := by simp [h0]
    clear hf
    go_enter Try.func27, Try.ntmps27
    go_wp2; go_ret
    exact ⟨ret_bool HR.out.symm, ((Up.refl _).alloc _).alloc _⟩
end Go.Proofs.Ytakmlfgkppekoaa

namespace Go.Proofs.Ytakmlfgkppekoaa
set_option maxRecDepth 100000
open Go.RowKit
def IsMv (m : Mdl) (til : Int) (n k : Nat) (v : Value) (w : World) : Prop := ∃ A B, v = .agg #[.slice A n n, .slice B k k, .int .i64 til] ∧ MdlV w A n B k m
theorem IsMv.up {m : Mdl} {til : Int} {n k : Nat} {v : Value} {w w' : World} (h : IsMv m til n k v w) (u : Up w w') : IsMv m til n k v w' := by
  obtain ⟨A, B, h0, h1⟩ := h
  exact ⟨A, B, h0, h1.up u⟩
end Go.Proofs.Ytakmlfgkppekoaa

namespace Go.Proofs.Ytakmlfgkppekoaa
set_option maxRecDepth 100000
open Go.RowKit
theorem two_upr {w w' : World} {b0 b1 : Nat} {x0 x1 x2 y0 y1 y2 : Value} (u : Up w w')
    (h : b0 < w.heap.size ∧ b1 < w.heap.size ∧ w.cell? ⟨b0, 0, none⟩ = some x0 ∧ w.cell? ⟨b0, 1, none⟩ = some x1 ∧ w.cell? ⟨b0, 2, none⟩ = some x2 ∧ w.cell? ⟨b1, 0, none⟩ = some y0 ∧ w.cell? ⟨b1, 1, none⟩ = some y1 ∧ w.cell? ⟨b1, 2, none⟩ = some y2) :
    b0 < w'.heap.size ∧ b1 < w'.heap.size ∧ w'.cell? ⟨b0, 0, none⟩ = some x0 ∧ w'.cell? ⟨b0, 1, none⟩ = some x1 ∧ w'.cell? ⟨b0, 2, none⟩ = some x2 ∧ w'.cell? ⟨b1, 0, none⟩ = some y0 ∧ w'.cell? ⟨b1, 1, none⟩ = some y1 ∧ w'.cell? ⟨b1, 2, none⟩ = some y2 := by
  obtain ⟨h0, h1, k0, k1, k2, l0, l1, l2⟩ := h
  have := u.size
  exact ⟨by omega, by omega, (u.cells _ _ h0).trans k0, (u.cells _ _ h0).trans k1, (u.cells _ _ h0).trans k2, (u.cells _ _ h1).trans l0, (u.cells _ _ h1).trans l1, (u.cells _ _ h1).trans l2⟩
end Go.Proofs.Ytakmlfgkppekoaa

namespace Go.Proofs.Ytakmlfgkppekoaa
set_option maxRecDepth 100000
open Go.RowKit
theorem Own.evs {w : World} {g n : Nat} {es : List Evt} (h : Own w g n es) : Evs w (some ⟨g, 0, none⟩) n es :=
  ⟨h.1, fun _ => ⟨g, 0, rfl, h.2.1, fun i hi => by rw [Nat.zero_add]; exact h.2.2.1 i hi⟩⟩
end Go.Proofs.Ytakmlfgkppekoaa

/-
  Regions walked by relations, the rest behind the front by chains of dependence, in one sentence: as region_relyC, where an operation of the rest may hang on the front through others.
-/
import Derived.Test.YtakmlfgkppekoaaDLRok09
namespace Go.Proofs.Ytakmlfgkppekoaa
set_option maxRecDepth 100000
open Go.RowKit
def dirB (ops : Array Oper) (i j : Nat) : Bool := match ops[i]? with
  | some o => o.after.toList.any (fun e => Region.binds .any e && e.on == j)
  | none => false
def reachB (ops : Array Oper) (n : Nat) : Nat → Nat → Nat → Bool
  | 0, i, j => dirB ops i j
  | f + 1, i, j => dirB ops i j || (List.range n).any (fun m => dirB ops i m && reachB ops n f m j)
def relyX (ops : Array Oper) (aux : Nat → Nat) (n : Nat) (fs : List (Nat × Bool)) : Bool :=
  decide (fs.length + n = ops.size) &&
  (List.range n).all (fun i => match ops[i]? with
    | some o => o.guard.isNone && o.after.toList.all (fun e => !Region.binds .any e || decide (e.on < i)) && (o.dst.isSome || (decide (aux i < i) && ((ops[aux i]?).bind (·.dst)).isSome && o.after.toList.any (fun e => Region.binds .any e && e.on == aux i)))
    | none => false) &&
  decide ((dsts ops n).Nodup) &&
  (List.range ops.size).all (fun i => decide (i < n) || ((List.range ops.size).any (fun m => decide (n ≤ m) && dirB ops i m) || (List.range n).all (fun j => reachB ops n n i j))) &&
  Region.noSelect ops && mixB ops fs (frontArr ops n)
theorem reach_out {ops : Array Oper} {n : Nat} {us : List Nat} (hdc : ∀ i o, i < n → ops[i]? = some o → i ∉ us → ∀ j ∈ depI o, j ∉ us) :
    ∀ (f i j : Nat), (∀ j, dirB ops i j = true → j < n → j ∉ us) → reachB ops n f i j = true → j < n → j ∉ us
  | 0, _, _, hp, h, hj => hp _ h hj
  | f + 1, i, j, hp, h, hj => by
    rw [reachB, Bool.or_eq_true] at h
    rcases h with h | h
    · exact hp _ h hj
    · obtain ⟨m, hm, h⟩ := List.any_eq_true.1 h
      rw [Bool.and_eq_true] at h
      have hmn := List.mem_range.1 hm
      have hmu := hp m h.1 hmn
      refine reach_out hdc f m j (fun j' hd hj' => ?_) h.2 hj; unfold dirB at hd
      cases ho : ops[m]? with
      | none => rw [ho] at hd; cases hd
      | some o =>
        rw [ho] at hd; obtain ⟨e, hem, heb⟩ := List.any_eq_true.1 hd; simp only [Bool.and_eq_true, beq_iff_eq] at heb; refine hdc m o hmn ho hmu j' ?_; simp only [depI, List.mem_map, List.mem_filter]
        exact ⟨e, ⟨hem, heb.1⟩, heb.2⟩
theorem wpAny_relyX {P : Program} {ops : Array Oper} {aux : Nat → Nat} {n : Nat} {fs : List (Nat × Bool)} {a0 : Act} {G : Nat → World → Prop} {M : World → World → Prop} {R : Nat → Value → World → Prop} {Q : Exit → Act → World → Prop}
    (hB : relyX ops aux n fs = true) (hQ : ∀ c (a : Act) d v w, Q (.panic c) (a.put d v) w → Q (.panic c) a w) (hst : ∀ d v w w', R d v w → M w w' → R d v w')
    (hstep : ∀ i o, i < n → ops[i]? = some o → StepC P ops aux (dsts ops n) a0 G M R Q i o)
    (hend : ∀ X w, G 0 w → (∀ i, i < n → Claim ops aux R i X w) → wpMix P ops Q fs ⟨mixT a0.tmps (dsts ops n) X, a0.defers⟩ w) :
    ∀ (us : List Nat) (listed : Array Bool) (X : Nat → Value) (w : World), us.Nodup → listed.size = ops.size → (∀ i, i ∈ us ↔ i < n ∧ listed.getD i true = false) → (∀ i, n ≤ i → i < ops.size → listed.getD i true = false) →
      (∀ i, i < n → i ∉ us → Claim ops aux R i X w) → (∀ i o, i < n → ops[i]? = some o → i ∉ us → ∀ j ∈ depI o, j ∉ us) → G us.length w → wpAny P .any ops Q (us.length + fs.length) listed ⟨mixT a0.tmps (dsts ops n) X, a0.defers⟩ w := by
  simp only [relyX, Bool.and_eq_true, decide_eq_true_eq] at hB; obtain ⟨⟨⟨⟨⟨hlen, hfront⟩, hnd⟩, hback⟩, hsel⟩, hmix⟩ := hB
  have stab : ∀ i X w w', Claim ops aux R i X w → M w w' → Claim ops aux R i X w' := by
    intro i X w w' h hm; unfold Claim at h ⊢
    split at h
    · exact hst _ _ _ _ h hm
    · exact hst _ _ _ _ h hm
  have front : ∀ i, i < n → ∃ o, ops[i]? = some o ∧ o.guard = none ∧ (∀ e ∈ o.after.toList, Region.binds .any e = true → e.on < i) ∧ (o.dst = none → aux i < i ∧ (∃ d, (ops[aux i]?).bind (·.dst) = some d) ∧ aux i ∈ depI o) := by
    intro i hi
    have h := List.all_eq_true.1 hfront i (List.mem_range.2 hi)
    cases ho : ops[i]? with
    | none => rw [ho] at h; simp at h
    | some o =>
      rw [ho] at h; simp only [Bool.and_eq_true, List.all_eq_true, Bool.or_eq_true, Bool.not_eq_true', decide_eq_true_eq] at h; obtain ⟨⟨hg, he⟩, hx⟩ := h; refine ⟨o, rfl, by simpa using hg, fun e hm hb => by rcases he e hm with h | h; (rw [hb] at h; cases h); exact h, fun hn => ?_⟩
      rcases hx with hx | ⟨⟨h1, h2⟩, h3⟩
      · rw [hn] at hx; cases hx
      · refine ⟨h1, Option.isSome_iff_exists.1 h2, ?_⟩
        obtain ⟨e, hem, heb⟩ := List.any_eq_true.1 h3; simp only [Bool.and_eq_true, beq_iff_eq] at heb; simp only [depI, List.mem_map, List.mem_filter]
        exact ⟨e, ⟨hem, heb.1⟩, heb.2⟩
  intro us
  induction hk : us.length generalizing us with
  | zero =>
    intro listed X w _ hsz hus hlate hR _ hG
    have hnil : us = [] := List.eq_nil_of_length_eq_zero hk
    subst hnil
    have hl : listed = frontArr ops n := by
      apply Array.ext
      · simp [frontArr, hsz]
      · intro i h1 h2
        have h1' : i < ops.size := by omega
        have hg : listed.getD i true = listed[i] := by simp [Array.getD, h1]
        by_cases hin : i < n
        · have : ¬ (i < n ∧ listed.getD i true = false) := fun h => by simpa using (hus i).2 h
          have ht : listed[i] = true := by
            rw [← hg]
            cases hc : listed.getD i true
            · exact absurd ⟨hin, hc⟩ this
            · rfl
          rw [ht]; simp [frontArr, hin]
        · have := hlate i (by omega) h1'
          rw [← hg, this]; simp [frontArr, hin]
    subst hl; rw [Nat.zero_add]
    exact wpAny_of_mix hsel hQ fs _ _ _ hmix (hend X w hG fun i hi => hR i hi (by simp))
  | succ k ih =>
    intro listed X w hnodup hsz hus hlate hR hdc hG; rw [show k + 1 + fs.length = (k + fs.length) + 1 by omega]; refine ⟨fun hr => ?_, fun i hi => ?_⟩
    · -- the least that is left is ready
      exfalso
      have hex : ∃ m, m ∈ us := by
        cases us with
        | nil => simp at hk
        | cons x r => exact ⟨x, by simp⟩
      have least : ∀ b, ∀ m, m ≤ b → m ∈ us → ∃ m0, m0 ∈ us ∧ ∀ j, j < m0 → j ∉ us := by
        intro b
        induction b with
        | zero => intro m hm h; obtain rfl : m = 0 := by omega
                  exact ⟨0, h, fun j hj => absurd hj (by omega)⟩
        | succ b ihb =>
          intro m hm h
          by_cases hex2 : ∃ j, j < m ∧ j ∈ us
          · obtain ⟨j, hj, hju⟩ := hex2
            exact ihb j (by omega) hju
          · exact ⟨m, h, fun j hj hju => hex2 ⟨j, hj, hju⟩⟩
      obtain ⟨m, hm⟩ := hex; obtain ⟨m0, h0, hmin⟩ := least m m (Nat.le_refl _) hm; obtain ⟨hmn, hml⟩ := (hus m0).1 h0; obtain ⟨o, ho, _, he, _⟩ := front m0 hmn
      have : m0 ∈ Region.ready .any ops listed := by
        simp only [Region.ready, List.mem_filter, List.mem_range, Bool.and_eq_true, Bool.not_eq_true']; refine ⟨by omega, hml, ?_⟩; rw [ho]; simp only [Option.map_some, Option.getD_some]; rw [Array.all_eq_true']; intro e hem
        cases hb : Region.binds .any e
        · rfl
        · have hlt := he e (by simpa using hem) hb
          have hnu := hmin e.on hlt
          have hl : listed.getD e.on true ≠ false := fun hc => hnu ((hus e.on).2 ⟨by omega, hc⟩)
          have hin : e.on < listed.size := by omega
          simp only [Array.getD, hin, dif_pos] at hl ⊢
          simpa using hl
      rw [hr] at this
      cases this
    · have hi' := hi
      simp only [Region.ready, List.mem_filter, List.mem_range, Bool.and_eq_true, Bool.not_eq_true'] at hi'; obtain ⟨his, hil, hia⟩ := hi'
      have hin : i < n := by
        rcases Nat.lt_or_ge i n with h | h
        · exact h
        · exfalso
          have hb := List.all_eq_true.1 hback i (List.mem_range.2 his)
          rw [decide_eq_false (by omega : ¬ i < n), Bool.false_or] at hb
          have hex : ∃ m, m ∈ us := by
            cases us with
            | nil => simp at hk
            | cons x r => exact ⟨x, by simp⟩
          obtain ⟨m, hm⟩ := hex; obtain ⟨hmn, hml⟩ := (hus m).1 hm
          have dir : ∀ j, dirB ops i j = true → listed.getD j true = true := fun j hd => by
            unfold dirB at hd
            cases ho : ops[i]? with
            | none => rw [ho] at hd; cases hd
            | some o =>
              rw [ho] at hd hia; obtain ⟨e, hem, heb⟩ := List.any_eq_true.1 hd; simp only [Bool.and_eq_true, beq_iff_eq] at heb; simp only [Option.map_some, Option.getD_some] at hia
              have h2 := (Array.all_eq_true'.1 hia) e (by simpa using hem)
              rw [heb.1, heb.2] at h2; simp only [Array.getD_eq_getD_getElem?] at h2 ⊢
              cases hl : listed[j]? with
              | none => rfl
              | some b => rw [hl] at h2; simpa using h2
          rw [Bool.or_eq_true] at hb
          rcases hb with hb | hb
          · obtain ⟨t, ht, htb⟩ := List.any_eq_true.1 hb
            simp only [Bool.and_eq_true, decide_eq_true_eq] at htb
            have h1 := dir t htb.2
            rw [hlate t htb.1 (List.mem_range.1 ht)] at h1
            cases h1
          · have hrm := List.all_eq_true.1 hb m (List.mem_range.2 hmn)
            refine reach_out hdc n i m (fun j hd hj hu => ?_) hrm hmn hm
            have h1 := dir j hd
            rw [((hus j).1 hu).2] at h1
            cases h1
      obtain ⟨o, ho, hg, he, haux⟩ := front i hin
      have hdepu : ∀ x ∈ depI o, x < n ∧ x ∉ us := by
        intro x hx; simp only [depI, List.mem_map, List.mem_filter] at hx; obtain ⟨e, ⟨hem, heb⟩, rfl⟩ := hx
        have hlt := he e hem heb
        refine ⟨by omega, fun hu => ?_⟩
        have hml := ((hus e.on).1 hu).2
        rw [ho] at hia; simp only [Option.map_some, Option.getD_some] at hia
        have h2 := (Array.all_eq_true'.1 hia) e (by simpa using hem)
        rw [heb] at h2
        have hsm : e.on < listed.size := by omega
        simp only [Array.getD, hsm, dif_pos] at h2 hml; rw [hml] at h2; simp at h2
      have hdep : ∀ x ∈ depI o, Claim ops aux R x X w := fun x hx => hR x (hdepu x hx).1 (hdepu x hx).2
      have hstp := hstep i o hin ho X w k (hk ▸ hG) hdep
      have hui : i ∈ us := (hus i).2 ⟨hin, hil⟩
      have hlen' : (us.erase i).length = k := by rw [List.length_erase_of_mem hui, hk]; rfl
      have go : ∀ X' w', G k w' → (∀ j, j < n → j ∉ us.erase i → Claim ops aux R j X' w') → wpAny P .any ops Q (k + fs.length) (listed.setIfInBounds i true) ⟨mixT a0.tmps (dsts ops n) X', a0.defers⟩ w' := by
        intro X' w' hG' hR'; refine ih (us.erase i) hlen' (listed.setIfInBounds i true) X' w' (hnodup.erase i) (by simpa using hsz) (fun j => ?_) (fun j hj hjs => ?_) hR' (fun j o2 hj ho2 hju x hx hxu => ?_) hG'
        · rw [List.Nodup.mem_erase_iff hnodup, hus j]
          simp only [Array.getD_eq_getD_getElem?, Array.getElem?_setIfInBounds]
          by_cases hji : i = j
          · subst hji
            have : i < listed.size := by omega
            simp [this]
          · simp [hji, show j ≠ i from fun e => hji e.symm]
        · have := hlate j hj hjs
          simp only [Array.getD_eq_getD_getElem?, Array.getElem?_setIfInBounds] at this ⊢; rw [if_neg (by omega)]
          exact this
        · have hxus : x ∈ us := List.mem_of_mem_erase hxu
          by_cases hji : j = i
          · subst hji
            rw [ho] at ho2
            injection ho2 with ho2
            subst ho2
            exact (hdepu x hx).2 hxus
          · exact hdc j o2 hj ho2 (fun hu => hju ((List.Nodup.mem_erase_iff hnodup).2 ⟨hji, hu⟩)) x hx hxus
      refine wpOp_mono (K := DoneR ⟨mixT a0.tmps (dsts ops n) X, a0.defers⟩ o.dst M (G k) (fun v w' => R i (if o.dst.isSome then v else X (dstAt ops (aux i))) w') w) (fun a' w' h' => ?_) ?_
      · obtain ⟨⟨v, rfl, hM, hG', hRv⟩⟩ := h'
        cases hd : o.dst with
        | none =>
          refine go X w' hG' fun j hj hju => ?_
          by_cases hji : j = i
          · subst hji
            unfold Claim; rw [show (ops[j]?).bind (·.dst) = none by simp [ho, hd]]
            simpa [hd] using hRv
          · exact stab _ _ _ _ (hR j hj fun hu => hju ((List.Nodup.mem_erase_iff hnodup).2 ⟨hji, hu⟩)) hM
        | some d =>
          have hmem : d ∈ dsts ops n := by
            simp only [dsts, List.mem_filterMap, List.mem_range]
            exact ⟨i, hin, by simp [ho, hd]⟩
          have hput : (⟨mixT a0.tmps (dsts ops n) X, a0.defers⟩ : Act).put (some d) v = ⟨mixT a0.tmps (dsts ops n) (updX X d v), a0.defers⟩ := by
            simp only [Act.put, mixT_put _ _ _ _ _ hmem]
          rw [hput]
          have hinj : ∀ j, j < n → (ops[j]?).bind (·.dst) = some d → j = i := by
            intro j hj hjd
            have key : ∀ (l : List Nat), l.Nodup → (l.filterMap fun i => (ops[i]?).bind (·.dst)).Nodup → ∀ a b, a ∈ l → b ∈ l → ((ops[a]?).bind (·.dst)) = some d → ((ops[b]?).bind (·.dst)) = some d → a = b := by
              intro l
              induction l with
              | nil => intro _ _ a b ha; cases ha
              | cons x r ihr =>
                intro h1 h2 a b ha hb hxa hxb; rw [List.nodup_cons] at h1
                rcases List.mem_cons.1 ha with e1 | ha'
                · rcases List.mem_cons.1 hb with e2 | hb'
                  · exact e1.trans e2.symm
                  · rw [← e1, List.filterMap_cons, hxa] at h2
                    simp only [List.nodup_cons] at h2
                    exact absurd (List.mem_filterMap.2 ⟨b, hb', hxb⟩) h2.1
                · rcases List.mem_cons.1 hb with e2 | hb'
                  · rw [← e2, List.filterMap_cons, hxb] at h2
                    simp only [List.nodup_cons] at h2
                    exact absurd (List.mem_filterMap.2 ⟨a, ha', hxa⟩) h2.1
                  · refine ihr h1.2 ?_ a b ha' hb' hxa hxb
                    rw [List.filterMap_cons] at h2
                    split at h2
                    · exact h2
                    · exact (List.nodup_cons.1 h2).2
            exact key (List.range n) List.nodup_range hnd j i (List.mem_range.2 hj) (List.mem_range.2 hin) hjd (by simp [ho, hd])
          refine go (updX X d v) w' hG' fun j hj hju => ?_
          by_cases hji : j = i
          · subst hji
            unfold Claim; rw [show (ops[j]?).bind (·.dst) = some d by simp [ho, hd]]
            simpa [updX, hd] using hRv
          · have h1 := stab _ _ _ _ (hR j hj fun hu => hju ((List.Nodup.mem_erase_iff hnodup).2 ⟨hji, hu⟩)) hM
            unfold Claim at h1 ⊢
            split at h1
            · rename_i d' hd'
              have hne : d' ≠ d := fun e => hji (hinj j hj (e ▸ hd'))
              have hX : updX X d v d' = X d' := if_neg hne
              show R j (updX X d v d') w'
              rw [hX]
              exact h1
            · rename_i hd'
              obtain ⟨o2, ho2, _, _, hax⟩ := front j hj
              have hd2 : o2.dst = none := by simpa [ho2] using hd'
              obtain ⟨hlt, ⟨d2, hd2'⟩, hmem2⟩ := hax hd2
              have hju' : j ∉ us := fun hu => hju ((List.Nodup.mem_erase_iff hnodup).2 ⟨hji, hu⟩)
              have hau : aux j ∉ us := hdc j o2 hj ho2 hju' _ hmem2
              have hne : d2 ≠ d := fun e => by
                have := hinj (aux j) (by omega) (e ▸ hd2')
                exact hau (this ▸ (hus i).2 ⟨hin, hil⟩)
              have hda : dstAt ops (aux j) = d2 := by simp only [dstAt, hd2', Option.getD_some]
              have hX : updX X d v (dstAt ops (aux j)) = X (dstAt ops (aux j)) := by rw [hda]; exact if_neg hne
              show R j (updX X d v (dstAt ops (aux j))) w'
              rw [hX]
              exact h1
      · unfold wpOp
        simp only [ho]; rw [if_pos (by simp [Region.wanted, hg])]; rw [opW_def] at hstp
        exact .inl hstp
theorem region_relyX {P : Program} {id : Nat} {Q : Exit → Act → World → Prop} {a : Act} {w : World} {l : List Oper} (n : Nat) (fs : List (Nat × Bool)) (ds : List Nat) (aux : Nat → Nat) (G : Nat → World → Prop) (M : World → World → Prop) (R : Nat → Value → World → Prop)
    (hm : P.follows .mixedOrders = true) (hB : relyX l.toArray aux n fs = true) (hds : dsts l.toArray n = ds) (hG : G n w.drew) (hst : ∀ d v w w', R d v w → M w w' → R d v w')
    (hsteps : StepsC P l.toArray aux ds a G M R (NoPanic Q) 0 (l.take n))
    (hend : ∀ X w, G 0 w → (∀ i, i < n → Claim l.toArray aux R i X w) → wpMix P l.toArray (NoPanic Q) fs ⟨mixT a.tmps ds X, a.defers⟩ w) :
    (Code.region id l.toArray true).wp P Q a w := by
  subst hds; refine wp_region_noPanic (wp_region_any hm ?_)
  have hlen : fs.length + n = l.toArray.size := by
    have := hB
    simp only [relyX, Bool.and_eq_true, decide_eq_true_eq] at this
    exact this.1.1.1.1.1
  have := wpAny_relyX (P := P) (Q := NoPanic Q) (a0 := a) hB (fun _ _ _ _ _ h => h) hst
    (fun i o hi ho => by have := StepsC.get hsteps (i := i) (by rw [List.getElem?_take_of_lt hi]; simpa using ho); rwa [Nat.zero_add] at this) hend
    (List.range n) (Array.replicate l.toArray.size false) (fun d => a.tmps.getD d undef) w.drew List.nodup_range (by simp)
    (fun i => by
      simp only [List.mem_range]
      constructor
      · intro h
        refine ⟨h, ?_⟩
        have : i < l.length := by simp at hlen; omega
        simp [Array.getD_eq_getD_getElem?, this]
      · exact fun h => h.1)
    (fun i _ hs => by
      have : i < l.length := by simpa using hs
      simp [Array.getD_eq_getD_getElem?, this])
    (fun i hi hni => absurd (List.mem_range.2 hi) hni) (fun i _ hi _ hni => absurd (List.mem_range.2 hi) hni) (by simpa using hG)
  rw [List.length_range, show n + fs.length = l.toArray.size by omega, mixT_self] at this
  exact this
end Go.Proofs.Ytakmlfgkppekoaa

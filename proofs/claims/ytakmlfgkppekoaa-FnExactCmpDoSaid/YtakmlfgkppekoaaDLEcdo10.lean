/-
  A region that draws its order, walked by relations, in one sentence: each of the first n operations is shown once, in any frame whose slots bear what its forerunners' relations say; the rest comes up in one order.
-/
import Derived.Test.YtakmlfgkppekoaaDLEcdo09
namespace Go.Proofs.Ytakmlfgkppekoaa
set_option maxRecDepth 100000
open Go.RowKit
/-- A frame's slots, those of a list laid anew. -/
def mixT (t : Array Value) : List Nat → (Nat → Value) → Array Value
  | [], _ => t
  | d :: ds, X => (mixT t ds X).setIfInBounds d (X d)
theorem mixT_size (t : Array Value) (X : Nat → Value) : ∀ ds, (mixT t ds X).size = t.size
  | [] => rfl
  | d :: ds => by rw [mixT, Array.size_setIfInBounds, mixT_size t X ds]
theorem mixT_get (t : Array Value) (X : Nat → Value) (k : Nat) : ∀ ds, (mixT t ds X)[k]? = if k ∈ ds ∧ k < t.size then some (X k) else t[k]?
  | [] => by simp [mixT]
  | d :: ds => by
    rw [mixT, Array.getElem?_setIfInBounds, mixT_size, mixT_get t X k ds]
    by_cases hk : d = k
    · subst hk
      by_cases hs : d < t.size
      · simp [hs]
      · simp [hs]
    · rw [if_neg hk]
      simp [show k ≠ d from fun e => hk e.symm]
def updX (X : Nat → Value) (d : Nat) (v : Value) : Nat → Value := fun k => if k = d then v else X k
theorem mixT_put (t : Array Value) (X : Nat → Value) (ds : List Nat) (d : Nat) (v : Value) (hd : d ∈ ds) : (mixT t ds X).setIfInBounds d v = mixT t ds (updX X d v) := by
  apply Array.ext_getElem?; intro k; rw [Array.getElem?_setIfInBounds, mixT_size, mixT_get, mixT_get]
  by_cases hk : d = k
  · subst hk
    by_cases hs : d < t.size
    · simp [hs, hd, updX]
    · simp [hs]
  · rw [if_neg hk]
    simp [updX, show k ≠ d from fun e => hk e.symm]
theorem mixT_self (t : Array Value) (ds : List Nat) : mixT t ds (fun d => t.getD d undef) = t := by
  apply Array.ext_getElem?; intro k; rw [mixT_get]
  split
  · rename_i h
    simp [h.2]
  · rfl
def dsts (ops : Array Oper) (n : Nat) : List Nat := (List.range n).filterMap fun i => (ops[i]?).bind (·.dst)
def dstAt (ops : Array Oper) (i : Nat) : Nat := ((ops[i]?).bind (·.dst)).getD 0
def deps (ops : Array Oper) (o : Oper) : List Nat := (o.after.toList.filter (Region.binds .any)).map fun e => dstAt ops e.on
def frontArr (ops : Array Oper) (n : Nat) : Array Bool := (Array.range ops.size).map fun i => decide (i < n)
def relyB (ops : Array Oper) (n : Nat) (fs : List (Nat × Bool)) : Bool :=
  decide (fs.length + n = ops.size) &&
  (List.range n).all (fun i => match ops[i]? with
    | some o => o.guard.isNone && o.dst.isSome && o.after.toList.all (fun e => !Region.binds .any e || decide (e.on < i))
    | none => false) &&
  decide ((dsts ops n).Nodup) &&
  (List.range ops.size).all (fun i => decide (i < n) || match ops[i]? with
    | some o => (List.range n).all (fun j => o.after.toList.any fun e => Region.binds .any e && e.on == j)
    | none => false) &&
  Region.noSelect ops && mixB ops fs (frontArr ops n)
/-- What an operation has brought. -/
structure DoneR (a : Act) (dst : Option Tmp) (M : World → World → Prop) (Gk : World → Prop) (Rd : Value → World → Prop) (w : World) (a' : Act) (w' : World) : Prop where
  out : ∃ v, a' = a.put dst v ∧ M w w' ∧ Gk w' ∧ Rd v w'
/-- An operation's walk, kept shut: 'refine', 'obtain' and their like reduce a goal to see whether it is a product. -/
@[irreducible] def opW (P : Program) (o : Oper) (a : Act) (w : World) (K : Act → World → Prop) (Q : Exit → Act → World → Prop) : Prop := o.wp P a w K Q
theorem opW_def (P : Program) (o : Oper) (a : Act) (w : World) (K : Act → World → Prop) (Q : Exit → Act → World → Prop) : opW P o a w K Q = o.wp P a w K Q := by
  unfold opW
  rfl
/-- What is asked of one operation. -/
def StepR (P : Program) (ops : Array Oper) (ds : List Nat) (a0 : Act) (G : Nat → World → Prop) (M : World → World → Prop) (R : Nat → Value → World → Prop) (Q : Exit → Act → World → Prop) (o : Oper) : Prop :=
  ∀ X w k, G (k + 1) w → (∀ d ∈ deps ops o, R d (X d) w) →
    opW P o ⟨mixT a0.tmps ds X, a0.defers⟩ w (DoneR ⟨mixT a0.tmps ds X, a0.defers⟩ o.dst M (G k) (R (o.dst.getD 0)) w) Q
def StepsR (P : Program) (ops : Array Oper) (ds : List Nat) (a0 : Act) (G : Nat → World → Prop) (M : World → World → Prop) (R : Nat → Value → World → Prop) (Q : Exit → Act → World → Prop) : List Oper → Prop
  | [] => True
  | o :: r => StepR P ops ds a0 G M R Q o ∧ StepsR P ops ds a0 G M R Q r
theorem StepsR.get {P : Program} {ops : Array Oper} {ds : List Nat} {a0 : Act} {G : Nat → World → Prop} {M : World → World → Prop} {R : Nat → Value → World → Prop} {Q : Exit → Act → World → Prop} :
    ∀ {l : List Oper} {i : Nat} {o : Oper}, StepsR P ops ds a0 G M R Q l → l[i]? = some o → StepR P ops ds a0 G M R Q o
  | [], _, _, _, h => by simp at h
  | x :: r, 0, o, hs, h => by
    obtain rfl : x = o := by simpa using h
    exact hs.1
  | x :: r, i + 1, o, hs, h => StepsR.get hs.2 (by simpa using h)
theorem wpAny_rely {P : Program} {ops : Array Oper} {n : Nat} {fs : List (Nat × Bool)} {a0 : Act} {G : Nat → World → Prop} {M : World → World → Prop} {R : Nat → Value → World → Prop} {Q : Exit → Act → World → Prop}
    (hB : relyB ops n fs = true) (hQ : ∀ c (a : Act) d v w, Q (.panic c) (a.put d v) w → Q (.panic c) a w) (hst : ∀ d v w w', R d v w → M w w' → R d v w')
    (hstep : ∀ i o, i < n → ops[i]? = some o → StepR P ops (dsts ops n) a0 G M R Q o)
    (hend : ∀ X w, G 0 w → (∀ i, i < n → R (dstAt ops i) (X (dstAt ops i)) w) → wpMix P ops Q fs ⟨mixT a0.tmps (dsts ops n) X, a0.defers⟩ w) :
    ∀ (us : List Nat) (listed : Array Bool) (X : Nat → Value) (w : World), us.Nodup → listed.size = ops.size → (∀ i, i ∈ us ↔ i < n ∧ listed.getD i true = false) → (∀ i, n ≤ i → i < ops.size → listed.getD i true = false) →
      (∀ i, i < n → i ∉ us → R (dstAt ops i) (X (dstAt ops i)) w) → G us.length w → wpAny P .any ops Q (us.length + fs.length) listed ⟨mixT a0.tmps (dsts ops n) X, a0.defers⟩ w := by
  simp only [relyB, Bool.and_eq_true, decide_eq_true_eq] at hB; obtain ⟨⟨⟨⟨⟨hlen, hfront⟩, hnd⟩, hback⟩, hsel⟩, hmix⟩ := hB
  have front : ∀ i, i < n → ∃ o d, ops[i]? = some o ∧ o.guard = none ∧ o.dst = some d ∧ ∀ e ∈ o.after.toList, Region.binds .any e = true → e.on < i := by
    intro i hi
    have h := List.all_eq_true.1 hfront i (List.mem_range.2 hi)
    cases ho : ops[i]? with
    | none => rw [ho] at h; simp at h
    | some o =>
      rw [ho] at h; simp only [Bool.and_eq_true, List.all_eq_true, Bool.or_eq_true, Bool.not_eq_true', decide_eq_true_eq] at h; obtain ⟨⟨hg, hd⟩, he⟩ := h; obtain ⟨d, hd⟩ := Option.isSome_iff_exists.1 hd
      exact ⟨o, d, rfl, by simpa using hg, hd, fun e hm hb => by rcases he e hm with h | h; (rw [hb] at h; cases h); exact h⟩
  intro us
  induction hk : us.length generalizing us with
  | zero =>
    intro listed X w _ hsz hus hlate hR hG
    have hnil : us = [] := List.eq_nil_of_length_eq_zero hk
    subst hnil
    have hl : listed = frontArr ops n := by
      apply Array.ext
      · simp [frontArr, hsz]
      · intro i h1 h2
        have h1' : i < ops.size := by omega
        have hg : listed.getD i true = listed[i] := by simp [Array.getD, h1]
        by_cases hin : i < n
        · have : ¬ (i < n ∧ listed.getD i true = false) := fun h => by simpa using (hus i).2 h
          have ht : listed[i] = true := by
            rw [← hg]
            cases hc : listed.getD i true
            · exact absurd ⟨hin, hc⟩ this
            · rfl
          rw [ht]; simp [frontArr, hin]
        · have := hlate i (by omega) h1'
          rw [← hg, this]; simp [frontArr, hin]
    subst hl; rw [Nat.zero_add]
    exact wpAny_of_mix hsel hQ fs _ _ _ hmix (hend X w hG fun i hi => hR i hi (by simp))
  | succ k ih =>
    intro listed X w hnodup hsz hus hlate hR hG; rw [show k + 1 + fs.length = (k + fs.length) + 1 by omega]; refine ⟨fun hr => ?_, fun i hi => ?_⟩
    · -- the least that is left is ready
      exfalso
      have hex : ∃ m, m ∈ us := by
        cases us with
        | nil => simp at hk
        | cons x r => exact ⟨x, by simp⟩
      have least : ∀ b, ∀ m, m ≤ b → m ∈ us → ∃ m0, m0 ∈ us ∧ ∀ j, j < m0 → j ∉ us := by
        intro b
        induction b with
        | zero => intro m hm h; obtain rfl : m = 0 := by omega
                  exact ⟨0, h, fun j hj => absurd hj (by omega)⟩
        | succ b ihb =>
          intro m hm h
          by_cases hex2 : ∃ j, j < m ∧ j ∈ us
          · obtain ⟨j, hj, hju⟩ := hex2
            exact ihb j (by omega) hju
          · exact ⟨m, h, fun j hj hju => hex2 ⟨j, hj, hju⟩⟩
      obtain ⟨m, hm⟩ := hex; obtain ⟨m0, h0, hmin⟩ := least m m (Nat.le_refl _) hm; obtain ⟨hmn, hml⟩ := (hus m0).1 h0; obtain ⟨o, d, ho, _, _, he⟩ := front m0 hmn
      have : m0 ∈ Region.ready .any ops listed := by
        simp only [Region.ready, List.mem_filter, List.mem_range, Bool.and_eq_true, Bool.not_eq_true']; refine ⟨by omega, hml, ?_⟩; rw [ho]; simp only [Option.map_some, Option.getD_some]; rw [Array.all_eq_true']; intro e hem
        cases hb : Region.binds .any e
        · rfl
        · have hlt := he e (by simpa using hem) hb
          have hnu := hmin e.on hlt
          have hl : listed.getD e.on true ≠ false := fun hc => hnu ((hus e.on).2 ⟨by omega, hc⟩)
          have hin : e.on < listed.size := by omega
          simp only [Array.getD, hin, dif_pos] at hl ⊢
          simpa using hl
      rw [hr] at this
      cases this
    · have hi' := hi
      simp only [Region.ready, List.mem_filter, List.mem_range, Bool.and_eq_true, Bool.not_eq_true'] at hi'; obtain ⟨his, hil, hia⟩ := hi'
      have hin : i < n := by
        rcases Nat.lt_or_ge i n with h | h
        · exact h
        · exfalso
          have hb := List.all_eq_true.1 hback i (List.mem_range.2 his)
          rw [decide_eq_false (by omega : ¬ i < n), Bool.false_or] at hb
          have hex : ∃ m, m ∈ us := by
            cases us with
            | nil => simp at hk
            | cons x r => exact ⟨x, by simp⟩
          obtain ⟨m, hm⟩ := hex; obtain ⟨hmn, hml⟩ := (hus m).1 hm
          cases ho : ops[i]? with
          | none => rw [ho] at hb; simp at hb
          | some o =>
            rw [ho] at hb hia
            have h1 := List.all_eq_true.1 hb m (List.mem_range.2 hmn)
            obtain ⟨e, hem, heb⟩ := List.any_eq_true.1 h1; simp only [Bool.and_eq_true, beq_iff_eq] at heb; simp only [Option.map_some, Option.getD_some] at hia
            have h2 := (Array.all_eq_true'.1 hia) e (by simpa using hem)
            rw [heb.1, heb.2] at h2
            have hsm : m < listed.size := by omega
            simp only [Array.getD, hsm, dif_pos] at h2 hml; rw [hml] at h2; simp at h2
      obtain ⟨o, d, ho, hg, hd, he⟩ := front i hin
      have hdep : ∀ x ∈ deps ops o, R x (X x) w := by
        intro x hx; simp only [deps, List.mem_map, List.mem_filter] at hx; obtain ⟨e, ⟨hem, heb⟩, rfl⟩ := hx
        have hlt := he e hem heb
        refine hR e.on (by omega) fun hu => ?_
        have hml := ((hus e.on).1 hu).2
        rw [ho] at hia; simp only [Option.map_some, Option.getD_some] at hia
        have h2 := (Array.all_eq_true'.1 hia) e (by simpa using hem)
        rw [heb] at h2
        have hsm : e.on < listed.size := by omega
        simp only [Array.getD, hsm, dif_pos] at h2 hml; rw [hml] at h2; simp at h2
      have hstp := hstep i o hin ho X w k (hk ▸ hG) hdep
      have hdi : dstAt ops i = d := by simp [dstAt, ho, hd]
      have hmem : d ∈ dsts ops n := by
        simp only [dsts, List.mem_filterMap, List.mem_range]
        exact ⟨i, hin, by simp [ho, hd]⟩
      have hinj : ∀ j, j < n → dstAt ops j = d → j = i := by
        intro j hj hjd; obtain ⟨o2, d2, ho2, _, hd2, _⟩ := front j hj
        have e2 : d2 = d := by rw [← hjd]; simp [dstAt, ho2, hd2]
        subst e2
        have key : ∀ (l : List Nat), l.Nodup → (l.filterMap fun i => (ops[i]?).bind (·.dst)).Nodup → ∀ a b, a ∈ l → b ∈ l → ((ops[a]?).bind (·.dst)) = some d2 → ((ops[b]?).bind (·.dst)) = some d2 → a = b := by
          intro l
          induction l with
          | nil => intro _ _ a b ha; cases ha
          | cons x r ihr =>
            intro h1 h2 a b ha hb hxa hxb; rw [List.nodup_cons] at h1
            rcases List.mem_cons.1 ha with e1 | ha'
            · rcases List.mem_cons.1 hb with e2 | hb'
              · exact e1.trans e2.symm
              · rw [← e1, List.filterMap_cons, hxa] at h2
                simp only [List.nodup_cons] at h2
                exact absurd (List.mem_filterMap.2 ⟨b, hb', hxb⟩) h2.1
            · rcases List.mem_cons.1 hb with e2 | hb'
              · rw [← e2, List.filterMap_cons, hxb] at h2
                simp only [List.nodup_cons] at h2
                exact absurd (List.mem_filterMap.2 ⟨a, ha', hxa⟩) h2.1
              · refine ihr h1.2 ?_ a b ha' hb' hxa hxb
                rw [List.filterMap_cons] at h2
                split at h2
                · exact h2
                · exact (List.nodup_cons.1 h2).2
        exact key (List.range n) List.nodup_range hnd j i (List.mem_range.2 hj) (List.mem_range.2 hin) (by simp [ho2, hd2]) (by simp [ho, hd])
      refine wpOp_mono (K := DoneR ⟨mixT a0.tmps (dsts ops n) X, a0.defers⟩ o.dst M (G k) (R (o.dst.getD 0)) w) (fun a' w' h' => ?_) ?_
      · obtain ⟨⟨v, rfl, hM, hG', hRv⟩⟩ := h'
        rw [hd] at hRv ⊢; simp only [Option.getD_some] at hRv
        have hput : (⟨mixT a0.tmps (dsts ops n) X, a0.defers⟩ : Act).put (some d) v = ⟨mixT a0.tmps (dsts ops n) (updX X d v), a0.defers⟩ := by
          simp only [Act.put, mixT_put _ _ _ _ _ hmem]
        rw [hput]
        have hui : i ∈ us := (hus i).2 ⟨hin, hil⟩
        have hlen' : (us.erase i).length = k := by rw [List.length_erase_of_mem hui, hk]; rfl
        have := ih (us.erase i) hlen' (listed.setIfInBounds i true) (updX X d v) w' (hnodup.erase i) (by simpa using hsz) (fun j => ?_) (fun j hj hjs => ?_) (fun j hj hju => ?_) hG'
        · exact this
        · rw [List.Nodup.mem_erase_iff hnodup, hus j]
          simp only [Array.getD_eq_getD_getElem?, Array.getElem?_setIfInBounds]
          by_cases hji : i = j
          · subst hji
            have : i < listed.size := by omega
            simp [this]
          · simp [hji, show j ≠ i from fun e => hji e.symm]
        · have := hlate j hj hjs
          simp only [Array.getD_eq_getD_getElem?, Array.getElem?_setIfInBounds] at this ⊢; rw [if_neg (by omega)]
          exact this
        · by_cases hji : j = i
          · subst hji
            rw [hdi]
            simpa [updX] using hRv
          · have hne : dstAt ops j ≠ d := fun e => hji (hinj j hj e)
            have hX : updX X d v (dstAt ops j) = X (dstAt ops j) := if_neg hne
            rw [hX]; refine hst _ _ _ _ (hR j hj fun hu => hju ?_) hM
            exact (List.Nodup.mem_erase_iff hnodup).2 ⟨hji, hu⟩
      · unfold wpOp
        simp only [ho]; rw [if_pos (by simp [Region.wanted, hg])]; rw [opW_def] at hstp
        exact .inl hstp
theorem region_rely {P : Program} {id : Nat} {Q : Exit → Act → World → Prop} {a : Act} {w : World} {l : List Oper} (n : Nat) (fs : List (Nat × Bool)) (ds : List Nat) (G : Nat → World → Prop) (M : World → World → Prop) (R : Nat → Value → World → Prop)
    (hm : P.follows .mixedOrders = true) (hB : relyB l.toArray n fs = true) (hds : dsts l.toArray n = ds) (hG : G n w.drew) (hst : ∀ d v w w', R d v w → M w w' → R d v w')
    (hsteps : StepsR P l.toArray ds a G M R (NoPanic Q) (l.take n))
    (hend : ∀ X w, G 0 w → (∀ i, i < n → R (dstAt l.toArray i) (X (dstAt l.toArray i)) w) → wpMix P l.toArray (NoPanic Q) fs ⟨mixT a.tmps ds X, a.defers⟩ w) :
    (Code.region id l.toArray true).wp P Q a w := by
  subst hds; refine wp_region_noPanic (wp_region_any hm ?_)
  have hlen : fs.length + n = l.toArray.size := by
    have := hB
    simp only [relyB, Bool.and_eq_true, decide_eq_true_eq] at this
    exact this.1.1.1.1.1
  have := wpAny_rely (P := P) (Q := NoPanic Q) (a0 := a) hB (fun _ _ _ _ _ h => h) hst
    (fun i o hi ho => StepsR.get hsteps (i := i) (by rw [List.getElem?_take_of_lt hi]; simpa using ho)) hend
    (List.range n) (Array.replicate l.toArray.size false) (fun d => a.tmps.getD d undef) w.drew List.nodup_range (by simp)
    (fun i => by
      simp only [List.mem_range]
      constructor
      · intro h
        refine ⟨h, ?_⟩
        have : i < l.length := by simp at hlen; omega
        simp [Array.getD_eq_getD_getElem?, this]
      · exact fun h => h.1)
    (fun i _ hs => by
      have : i < l.length := by simpa using hs
      simp [Array.getD_eq_getD_getElem?, this])
    (fun i hi hni => absurd (List.mem_range.2 hi) hni) (by simpa using hG)
  rw [List.length_range, show n + fs.length = l.toArray.size by omega, mixT_self] at this
  exact this
end Go.Proofs.Ytakmlfgkppekoaa

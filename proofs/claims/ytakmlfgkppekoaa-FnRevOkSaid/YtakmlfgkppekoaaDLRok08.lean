/-
  A region that draws its order, walked by relations, in one sentence: each of the first n operations is shown once, in any frame whose slots bear what its forerunners' relations say; the rest comes up in one order.
  What toMdlSendS returns, in one sentence: a new slice of the same sends; for every list that lies in memory.
  What impl.ruleOk returns, in one sentence: the bool that the bounds of the rule and of what it sends give; for every rule that lies in memory.
  What impl.rulesOk returns, in one sentence: whether each component's rules are in order and each is a rule; for every model that lies in memory.
  The walk of a region that draws, kept shut, in one sentence: as region_up, but no tactic looks into what is left to walk.
  What toMdlRuleS, toMdlRuleSS and toMdlModel return, in one sentence: the same, all over new blocks; for all that lie in memory.
-/
import Derived.Test.YtakmlfgkppekoaaDLRok01
import Derived.Test.YtakmlfgkppekoaaDLRok03
import Derived.Test.YtakmlfgkppekoaaDLRok06
import Derived.Test.YtakmlfgkppekoaaDLRok07
namespace Go.Proofs.Ytakmlfgkppekoaa
set_option maxRecDepth 100000
open Go.RowKit
/-- A frame's slots, those of a list laid anew. -/
def mixT (t : Array Value) : List Nat → (Nat → Value) → Array Value
  | [], _ => t
  | d :: ds, X => (mixT t ds X).setIfInBounds d (X d)
theorem mixT_size (t : Array Value) (X : Nat → Value) : ∀ ds, (mixT t ds X).size = t.size
  | [] => rfl
  | d :: ds => by rw [mixT, Array.size_setIfInBounds, mixT_size t X ds]
theorem mixT_get (t : Array Value) (X : Nat → Value) (k : Nat) : ∀ ds, (mixT t ds X)[k]? = if k ∈ ds ∧ k < t.size then some (X k) else t[k]?
  | [] => by simp [mixT]
  | d :: ds => by
    rw [mixT, Array.getElem?_setIfInBounds, mixT_size, mixT_get t X k ds]
    by_cases hk : d = k
    · subst hk
      by_cases hs : d < t.size
      · simp [hs]
      · simp [hs]
    · rw [if_neg hk]
      simp [show k ≠ d from fun e => hk e.symm]
def updX (X : Nat → Value) (d : Nat) (v : Value) : Nat → Value := fun k => if k = d then v else X k
theorem mixT_put (t : Array Value) (X : Nat → Value) (ds : List Nat) (d : Nat) (v : Value) (hd : d ∈ ds) : (mixT t ds X).setIfInBounds d v = mixT t ds (updX X d v) := by
  apply Array.ext_getElem?; intro k; rw [Array.getElem?_setIfInBounds, mixT_size, mixT_get, mixT_get]
  by_cases hk : d = k
  · subst hk
    by_cases hs : d < t.size
    · simp [hs, hd, updX]
    · simp [hs]
  · rw [if_neg hk]
    simp [updX, show k ≠ d from fun e => hk e.symm]
theorem mixT_self (t : Array Value) (ds : List Nat) : mixT t ds (fun d => t.getD d undef) = t := by
  apply Array.ext_getElem?; intro k; rw [mixT_get]
  split
  · rename_i h
    simp [h.2]
  · rfl
def dsts (ops : Array Oper) (n : Nat) : List Nat := (List.range n).filterMap fun i => (ops[i]?).bind (·.dst)
def dstAt (ops : Array Oper) (i : Nat) : Nat := ((ops[i]?).bind (·.dst)).getD 0
def deps (ops : Array Oper) (o : Oper) : List Nat := (o.after.toList.filter (Region.binds .any)).map fun e => dstAt ops e.on
def frontArr (ops : Array Oper) (n : Nat) : Array Bool := (Array.range ops.size).map fun i => decide (i < n)
def relyB (ops : Array Oper) (n : Nat) (fs : List (Nat × Bool)) : Bool :=
  decide (fs.length + n = ops.size) &&
  (List.range n).all (fun i => match ops[i]? with
    | some o => o.guard.isNone && o.dst.isSome && o.after.toList.all (fun e => !Region.binds .any e || decide (e.on < i))
    | none => false) &&
  decide ((dsts ops n).Nodup) &&
  (List.range ops.size).all (fun i => decide (i < n) || match ops[i]? with
    | some o => (List.range n).all (fun j => o.after.toList.any fun e => Region.binds .any e && e.on == j)
    | none => false) &&
  Region.noSelect ops && mixB ops fs (frontArr ops n)
/-- What an operation has brought. -/
structure DoneR (a : Act) (dst : Option Tmp) (M : World → World → Prop) (Gk : World → Prop) (Rd : Value → World → Prop) (w : World) (a' : Act) (w' : World) : Prop where
  out : ∃ v, a' = a.put dst v ∧ M w w' ∧ Gk w' ∧ Rd v w'
/-- An operation's walk, kept shut: 'refine', 'obtain' and their like reduce a goal to see whether it is a product. -/
@[irreducible] def opW (P : Program) (o : Oper) (a : Act) (w : World) (K : Act → World → Prop) (Q : Exit → Act → World → Prop) : Prop := o.wp P a w K Q
theorem opW_def (P : Program) (o : Oper) (a : Act) (w : World) (K : Act → World → Prop) (Q : Exit → Act → World → Prop) : opW P o a w K Q = o.wp P a w K Q := by
  unfold opW
  rfl
/-- What is asked of one operation. -/
def StepR (P : Program) (ops : Array Oper) (ds : List Nat) (a0 : Act) (G : Nat → World → Prop) (M : World → World → Prop) (R : Nat → Value → World → Prop) (Q : Exit → Act → World → Prop) (o : Oper) : Prop :=
  ∀ X w k, G (k + 1) w → (∀ d ∈ deps ops o, R d (X d) w) →
    opW P o ⟨mixT a0.tmps ds X, a0.defers⟩ w (DoneR ⟨mixT a0.tmps ds X, a0.defers⟩ o.dst M (G k) (R (o.dst.getD 0)) w) Q
def StepsR (P : Program) (ops : Array Oper) (ds : List Nat) (a0 : Act) (G : Nat → World → Prop) (M : World → World → Prop) (R : Nat → Value → World → Prop) (Q : Exit → Act → World → Prop) : List Oper → Prop
  | [] => True
  | o :: r => StepR P ops ds a0 G M R Q o ∧ StepsR P ops ds a0 G M R Q r
theorem StepsR.get {P : Program} {ops : Array Oper} {ds : List Nat} {a0 : Act} {G : Nat → World → Prop} {M : World → World → Prop} {R : Nat → Value → World → Prop} {Q : Exit → Act → World → Prop} :
    ∀ {l : List Oper} {i : Nat} {o : Oper}, StepsR P ops ds a0 G M R Q l → l[i]? = some o → StepR P ops ds a0 G M R Q o
  | [], _, _, _, h => by simp at h
  | x :: r, 0, o, hs, h => by
    obtain rfl : x = o := by simpa using h
    exact hs.1
  | x :: r, i + 1, o, hs, h => StepsR.get hs.2 (by simpa using h)
theorem wpAny_rely {P : Program} {ops : Array Oper} {n : Nat} {fs : List (Nat × Bool)} {a0 : Act} {G : Nat → World → Prop} {M : World → World → Prop} {R : Nat → Value → World → Prop} {Q : Exit → Act → World → Prop}
    (hB : relyB ops n fs = true) (hQ : ∀ c (a : Act) d v w, Q (.panic c) (a.put d v) w → Q (.panic c) a w) (hst : ∀ d v w w', R d v w → M w w' → R d v w')
    (hstep : ∀ i o, i < n → ops[i]? = some o → StepR P ops (dsts ops n) a0 G M R Q o)
    (hend : ∀ X w, G 0 w → (∀ i, i < n → R (dstAt ops i) (X (dstAt ops i)) w) → wpMix P ops Q fs ⟨mixT a0.tmps (dsts ops n) X, a0.defers⟩ w) :
    ∀ (us : List Nat) (listed : Array Bool) (X : Nat → Value) (w : World), us.Nodup → listed.size = ops.size → (∀ i, i ∈ us ↔ i < n ∧ listed.getD i true = false) → (∀ i, n ≤ i → i < ops.size → listed.getD i true = false) →
      (∀ i, i < n → i ∉ us → R (dstAt ops i) (X (dstAt ops i)) w) → G us.length w → wpAny P .any ops Q (us.length + fs.length) listed ⟨mixT a0.tmps (dsts ops n) X, a0.defers⟩ w := by
  simp only [relyB, Bool.and_eq_true, decide_eq_true_eq] at hB; obtain ⟨⟨⟨⟨⟨hlen, hfront⟩, hnd⟩, hback⟩, hsel⟩, hmix⟩ := hB
  have front : ∀ i, i < n → ∃ o d, ops[i]? = some o ∧ o.guard = none ∧ o.dst = some d ∧ ∀ e ∈ o.after.toList, Region.binds .any e = true → e.on < i := by
    intro i hi
    have h := List.all_eq_true.1 hfront i (List.mem_range.2 hi)
    cases ho : ops[i]? with
    | none => rw [ho] at h; simp at h
    | some o =>
      rw [ho] at h; simp only [Bool.and_eq_true, List.all_eq_true, Bool.or_eq_true, Bool.not_eq_true', decide_eq_true_eq] at h; obtain ⟨⟨hg, hd⟩, he⟩ := h; obtain ⟨d, hd⟩ := Option.isSome_iff_exists.1 hd
      exact ⟨o, d, rfl, by simpa using hg, hd, fun e hm hb => by rcases he e hm with h | h; (rw [hb] at h; cases h); exact h⟩
  intro us
  induction hk : us.length generalizing us with
  | zero =>
    intro listed X w _ hsz hus hlate hR hG
    have hnil : us = [] := List.eq_nil_of_length_eq_zero hk
    subst hnil
    have hl : listed = frontArr ops n := by
      apply Array.ext
      · simp [frontArr, hsz]
      · intro i h1 h2
        have h1' : i < ops.size := by omega
        have hg : listed.getD i true = listed[i] := by simp [Array.getD, h1]
        by_cases hin : i < n
        · have : ¬ (i < n ∧ listed.getD i true = false) := fun h => by simpa using (hus i).2 h
          have ht : listed[i] = true := by
            rw [← hg]
            cases hc : listed.getD i true
            · exact absurd ⟨hin, hc⟩ this
            · rfl
          rw [ht]; simp [frontArr, hin]
        · have := hlate i (by omega) h1'
          rw [← hg, this]; simp [frontArr, hin]
    subst hl; rw [Nat.zero_add]
    exact wpAny_of_mix hsel hQ fs _ _ _ hmix (hend X w hG fun i hi => hR i hi (by simp))
  | succ k ih =>
    intro listed X w hnodup hsz hus hlate hR hG; rw [show k + 1 + fs.length = (k + fs.length) + 1 by omega]; refine ⟨fun hr => ?_, fun i hi => ?_⟩
    · -- the least that is left is ready
      exfalso
      have hex : ∃ m, m ∈ us := by
        cases us with
        | nil => simp at hk
        | cons x r => exact ⟨x, by simp⟩
      have least : ∀ b, ∀ m, m ≤ b → m ∈ us → ∃ m0, m0 ∈ us ∧ ∀ j, j < m0 → j ∉ us := by
        intro b
        induction b with
        | zero => intro m hm h; obtain rfl : m = 0 := by omega
                  exact ⟨0, h, fun j hj => absurd hj (by omega)⟩
        | succ b ihb =>
          intro m hm h
          by_cases hex2 : ∃ j, j < m ∧ j ∈ us
          · obtain ⟨j, hj, hju⟩ := hex2
            exact ihb j (by omega) hju
          · exact ⟨m, h, fun j hj hju => hex2 ⟨j, hj, hju⟩⟩
      obtain ⟨m, hm⟩ := hex; obtain ⟨m0, h0, hmin⟩ := least m m (Nat.le_refl _) hm; obtain ⟨hmn, hml⟩ := (hus m0).1 h0; obtain ⟨o, d, ho, _, _, he⟩ := front m0 hmn
      have : m0 ∈ Region.ready .any ops listed := by
        simp only [Region.ready, List.mem_filter, List.mem_range, Bool.and_eq_true, Bool.not_eq_true']; refine ⟨by omega, hml, ?_⟩; rw [ho]; simp only [Option.map_some, Option.getD_some]; rw [Array.all_eq_true']; intro e hem
        cases hb : Region.binds .any e
        · rfl
        · have hlt := he e (by simpa using hem) hb
          have hnu := hmin e.on hlt
          have hl : listed.getD e.on true ≠ false := fun hc => hnu ((hus e.on).2 ⟨by omega, hc⟩)
          have hin : e.on < listed.size := by omega
          simp only [Array.getD, hin, dif_pos] at hl ⊢
          simpa using hl
      rw [hr] at this
      cases this
    · have hi' := hi
      simp only [Region.ready, List.mem_filter, List.mem_range, Bool.and_eq_true, Bool.not_eq_true'] at hi'; obtain ⟨his, hil, hia⟩ := hi'
      have hin : i < n := by
        rcases Nat.lt_or_ge i n with h | h
        · exact h
        · exfalso
          have hb := List.all_eq_true.1 hback i (List.mem_range.2 his)
          rw [decide_eq_false (by omega : ¬ i < n), Bool.false_or] at hb
          have hex : ∃ m, m ∈ us := by
            cases us with
            | nil => simp at hk
            | cons x r => exact ⟨x, by simp⟩
          obtain ⟨m, hm⟩ := hex; obtain ⟨hmn, hml⟩ := (hus m).1 hm
          cases ho : ops[i]? with
          | none => rw [ho] at hb; simp at hb
          | some o =>
            rw [ho] at hb hia
            have h1 := List.all_eq_true.1 hb m (List.mem_range.2 hmn)
            obtain ⟨e, hem, heb⟩ := List.any_eq_true.1 h1; simp only [Bool.and_eq_true, beq_iff_eq] at heb; simp only [Option.map_some, Option.getD_some] at hia
            have h2 := (Array.all_eq_true'.1 hia) e (by simpa using hem)
            rw [heb.1, heb.2] at h2
            have hsm : m < listed.size := by omega
            simp only [Array.getD, hsm, dif_pos] at h2 hml; rw [hml] at h2; simp at h2
      obtain ⟨o, d, ho, hg, hd, he⟩ := front i hin
      have hdep : ∀ x ∈ deps ops o, R x (X x) w := by
        intro x hx; simp only [deps, List.mem_map, List.mem_filter] at hx; obtain ⟨e, ⟨hem, heb⟩, rfl⟩ := hx
        have hlt := he e hem heb
        refine hR e.on (by omega) fun hu => ?_
        have hml := ((hus e.on).1 hu).2
        rw [ho] at hia; simp only [Option.map_some, Option.getD_some] at hia
        have h2 := (Array.all_eq_true'.1 hia) e (by simpa using hem)
        rw [heb] at h2
        have hsm : e.on < listed.size := by omega
        simp only [Array.getD, hsm, dif_pos] at h2 hml; rw [hml] at h2; simp at h2
      have hstp := hstep i o hin ho X w k (hk ▸ hG) hdep
      have hdi : dstAt ops i = d := by simp [dstAt, ho, hd]
      have hmem : d ∈ dsts ops n := by
        simp only [dsts, List.mem_filterMap, List.mem_range]
        exact ⟨i, hin, by simp [ho, hd]⟩
      have hinj : ∀ j, j < n → dstAt ops j = d → j = i := by
        intro j hj hjd; obtain ⟨o2, d2, ho2, _, hd2, _⟩ := front j hj
        have e2 : d2 = d := by rw [← hjd]; simp [dstAt, ho2, hd2]
        subst e2
        have key : ∀ (l : List Nat), l.Nodup → (l.filterMap fun i => (ops[i]?).bind (·.dst)).Nodup → ∀ a b, a ∈ l → b ∈ l → ((ops[a]?).bind (·.dst)) = some d2 → ((ops[b]?).bind (·.dst)) = some d2 → a = b := by
          intro l
          induction l with
          | nil => intro _ _ a b ha; cases ha
          | cons x r ihr =>
            intro h1 h2 a b ha hb hxa hxb; rw [List.nodup_cons] at h1
            rcases List.mem_cons.1 ha with e1 | ha'
            · rcases List.mem_cons.1 hb with e2 | hb'
              · exact e1.trans e2.symm
              · rw [← e1, List.filterMap_cons, hxa] at h2
                simp only [List.nodup_cons] at h2
                exact absurd (List.mem_filterMap.2 ⟨b, hb', hxb⟩) h2.1
            · rcases List.mem_cons.1 hb with e2 | hb'
              · rw [← e2, List.filterMap_cons, hxb] at h2
                simp only [List.nodup_cons] at h2
                exact absurd (List.mem_filterMap.2 ⟨a, ha', hxa⟩) h2.1
              · refine ihr h1.2 ?_ a b ha' hb' hxa hxb
                rw [List.filterMap_cons] at h2
                split at h2
                · exact h2
                · exact (List.nodup_cons.1 h2).2
        exact key (List.range n) List.nodup_range hnd j i (List.mem_range.2 hj) (List.mem_range.2 hin) (by simp [ho2, hd2]) (by simp [ho, hd])
      refine wpOp_mono (K := DoneR ⟨mixT a0.tmps (dsts ops n) X, a0.defers⟩ o.dst M (G k) (R (o.dst.getD 0)) w) (fun a' w' h' => ?_) ?_
      · obtain ⟨⟨v, rfl, hM, hG', hRv⟩⟩ := h'
        rw [hd] at hRv ⊢; simp only [Option.getD_some] at hRv
        have hput : (⟨mixT a0.tmps (dsts ops n) X, a0.defers⟩ : Act).put (some d) v = ⟨mixT a0.tmps (dsts ops n) (updX X d v), a0.defers⟩ := by
          simp only [Act.put, mixT_put _ _ _ _ _ hmem]
        rw [hput]
        have hui : i ∈ us := (hus i).2 ⟨hin, hil⟩
        have hlen' : (us.erase i).length = k := by rw [List.length_erase_of_mem hui, hk]; rfl
        have := ih (us.erase i) hlen' (listed.setIfInBounds i true) (updX X d v) w' (hnodup.erase i) (by simpa using hsz) (fun j => ?_) (fun j hj hjs => ?_) (fun j hj hju => ?_) hG'
        · exact this
        · rw [List.Nodup.mem_erase_iff hnodup, hus j]
          simp only [Array.getD_eq_getD_getElem?, Array.getElem?_setIfInBounds]
          by_cases hji : i = j
          · subst hji
            have : i < listed.size := by omega
            simp [this]
          · simp [hji, show j ≠ i from fun e => hji e.symm]
        · have := hlate j hj hjs
          simp only [Array.getD_eq_getD_getElem?, Array.getElem?_setIfInBounds] at this ⊢; rw [if_neg (by omega)]
          exact this
        · by_cases hji : j = i
          · subst hji
            rw [hdi]
            simpa [updX] using hRv
          · have hne : dstAt ops j ≠ d := fun e => hji (hinj j hj e)
            have hX : updX X d v (dstAt ops j) = X (dstAt ops j) := if_neg hne
            rw [hX]; refine hst _ _ _ _ (hR j hj fun hu => hju ?_) hM
            exact (List.Nodup.mem_erase_iff hnodup).2 ⟨hji, hu⟩
      · unfold wpOp
        simp only [ho]; rw [if_pos (by simp [Region.wanted, hg])]; rw [opW_def] at hstp
        exact .inl hstp
theorem region_rely {P : Program} {id : Nat} {Q : Exit → Act → World → Prop} {a : Act} {w : World} {l : List Oper} (n : Nat) (fs : List (Nat × Bool)) (ds : List Nat) (G : Nat → World → Prop) (M : World → World → Prop) (R : Nat → Value → World → Prop)
    (hm : P.follows .mixedOrders = true) (hB : relyB l.toArray n fs = true) (hds : dsts l.toArray n = ds) (hG : G n w.drew) (hst : ∀ d v w w', R d v w → M w w' → R d v w')
    (hsteps : StepsR P l.toArray ds a G M R (NoPanic Q) (l.take n))
    (hend : ∀ X w, G 0 w → (∀ i, i < n → R (dstAt l.toArray i) (X (dstAt l.toArray i)) w) → wpMix P l.toArray (NoPanic Q) fs ⟨mixT a.tmps ds X, a.defers⟩ w) :
    (Code.region id l.toArray true).wp P Q a w := by
  subst hds; refine wp_region_noPanic (wp_region_any hm ?_)
  have hlen : fs.length + n = l.toArray.size := by
    have := hB
    simp only [relyB, Bool.and_eq_true, decide_eq_true_eq] at this
    exact this.1.1.1.1.1
  have := wpAny_rely (P := P) (Q := NoPanic Q) (a0 := a) hB (fun _ _ _ _ _ h => h) hst
    (fun i o hi ho => StepsR.get hsteps (i := i) (by rw [List.getElem?_take_of_lt hi]; simpa using ho)) hend
    (List.range n) (Array.replicate l.toArray.size false) (fun d => a.tmps.getD d undef) w.drew List.nodup_range (by simp)
    (fun i => by
      simp only [List.mem_range]
      constructor
      · intro h
        refine ⟨h, ?_⟩
        have : i < l.length := by simp at hlen; omega
        simp [Array.getD_eq_getD_getElem?, this]
      · exact fun h => h.1)
    (fun i _ hs => by
      have : i < l.length := by simpa using hs
      simp [Array.getD_eq_getD_getElem?, this])
    (fun i hi hni => absurd (List.mem_range.2 hi) hni) (by simpa using hG)
  rw [List.length_range, show n + fs.length = l.toArray.size by omega, mixT_self] at this
  exact this
end Go.Proofs.Ytakmlfgkppekoaa

namespace Go.Proofs.Ytakmlfgkppekoaa
set_option maxRecDepth 100000
open Go.RowKit
theorem info140 : (Try.prog.info? 140).map (fun i => (i.zero, i.size, i.bytes)) = some (some (.agg #[.int .i64 0, .int .i64 0, .int .i64 0, .int .i64 0, .int .i64 0, .int .i64 0]), 6, 48) := by kernel_rfl
end Go.Proofs.Ytakmlfgkppekoaa

namespace Go.Proofs.Ytakmlfgkppekoaa
set_option maxRecDepth 100000
open Go.RowKit
set_option maxHeartbeats 4000000 in
theorem implRule_any (r : Rule) (A : Option Addr) (n c : Nat) (many : Int) (hm1 : 1 ≤ many) (hm2 : many ≤ 4) (w : World) (hn : n ≤ 9223372036854775807) (hE : Evs w A n r.sends) :
    Calls Try.prog 137 #[r.v (.slice A n c), .int .i64 many] w fun x w' => x = .returned (.bool (ruleB r many)) ∧ Up w w' := by
  obtain ⟨kd, ra, rb, rc, es⟩ := r
  have AD := Lib.hid (fun k h => all_drop (f := fun e => sndB e many) (d := default) es k h)
  have AE := Lib.hid (fun k h => all_end (f := fun e => sndB e many) es k h)
  have HE := Lib.hid hE
  have LE := Lib.hid hE.1
  have CL := Lib.hid (fun e W => implSnd_any e many hm1 hm2 W)
  have RB := Lib.hid (show ruleB ⟨kd, ra, rb, rc, es⟩ many = (es.all (fun e => sndB e many) && decide ((n : Int) ≤ 2) && inB kd 0 2 && inB ra 0 96 && inB rb 0 96 && inB rc 0 96) by rw [← hE.1]; rfl)
  have H0 := Lib.hid (show (es.drop 0).all (fun e => sndB e many) = es.all (fun e => sndB e many) from rfl)
  generalize ruleB ⟨kd, ra, rb, rc, es⟩ many = res at RB ⊢
  generalize es.all (fun e => sndB e many) = al at RB H0
  clear hE; unfold Rule.v; dsimp only
  go_enter Try.func137, Try.ntmps137
  go_wp2
  go_loopw [10] (fun i wr => (∃ k : Nat, k ≤ n ∧ i = .int .i64 k ∧ Hid ((es.drop k).all (fun e => sndB e many) = al)) ∧ Up (w.alloc (.cells #[.int .i64 kd, .int .i64 ra, .int .i64 rb, .int .i64 rc, .slice A n c] 63)) wr) (fun i _ => n - (intOf i).toNat)
  case atStart => exact ⟨⟨0, by omega, rfl, H0⟩, Up.refl _⟩
  case round =>
    obtain ⟨⟨k, hk, rfl, HA⟩, ur⟩ := hrel
    have hw : Up w wr := ((Up.refl w).alloc _).trans ur
    by_cases hlt : k < n
    · obtain ⟨b, off, hA, hb, hc⟩ := HE.out.2 (by omega)
      subst hA
      have a0 := (hc k hlt).up hw hb
      have hb' : b < wr.heap.size := by have := hw.size; omega
      clear hc
      have S := AD.out k (by rw [LE.out]; exact hlt)
      rw [HA.out] at S
      have cl := CL.out (es.getD k default)
      generalize es.getD k default = e at a0 S cl
      generalize sndB e many = s at S cl
      obtain ⟨et, eto, efr, esq, ekd, edt⟩ := e; unfold EvAt at a0; unfold Evt.v at cl; dsimp only at a0 cl; obtain ⟨p0, p1, p2, p3, p4, p5⟩ := a0
      have C := Lib.hid cl
      have S' := Lib.hid S
      have UR := Lib.hid ur
      clear cl S hw ur
      have i4 : (k : Int) < n := by omega
      have i5 : IntKind.i64.wrap ((k : Int) + 1) = (k : Int) + 1 := IntWalk.i64_in _ (by omega)
      go_wp2_with fail
      refine (C.out _).mono ?_; rintro x w2 ⟨rfl, u2⟩
      have U2 := Lib.hid ((UR.out.alloc _).trans u2)
      clear u2
      cases s
      · go_wp2
        go_ret
        exact ⟨ret_bool (by rw [RB.out, S'.out]; rfl), ((Up.refl w).alloc _).trans U2.out⟩
      · go_wp2
        go_roundw
        case rel => exact ⟨⟨k + 1, by omega, by first | rfl | go_num, Lib.hid (by rw [S'.out, Bool.true_and])⟩, U2.out⟩
        case measure => (simp [intOf]; try omega)
    · have hal : al = true := HA.out.symm.trans (AE.out k (by rw [LE.out]; omega))
      have RB2 := Lib.hid (hal ▸ RB.out)
      have HW := Lib.hid hw
      obtain ⟨hc, hf, hz⟩ := ur.facts; simp at hz; clear hw hal RB HA AD AE CL HE LE H0
      have i4 : ¬ (k : Int) < n := by omega
      go_wp2_with (go_at_call 65; refine (within_any _ _ _ _).mono ?_; rintro e w' ⟨rfl, rfl⟩)
      all_goals go_ret
      all_goals exact ⟨ret_bool (by rw [RB2.out]; first | (simp [*]; done) | (simp [*]; intros; omega)), HW.out⟩
end Go.Proofs.Ytakmlfgkppekoaa

namespace Go.Proofs.Ytakmlfgkppekoaa
set_option maxRecDepth 100000
open Go.RowKit
/-- The cells of a model's own block. -/
structure Box3 (w : World) (b : Nat) (x y z : Value) : Prop where
  lt : b < w.heap.size
  c0 : w.cell? ⟨b, 0, none⟩ = some x
  c1 : w.cell? ⟨b, 1, none⟩ = some y
  c2 : w.cell? ⟨b, 2, none⟩ = some z
theorem Box3.new (w : World) (x y z : Value) (t : TypeId) : Box3 (w.alloc (.cells #[x, y, z] t)) w.heap.size x y z := by
  have hh := heap_alloc_new w (.cells #[x, y, z] t)
  exact ⟨by simp, by rw [cell_of_row _ _ 0 _ _ _ hh]; rfl, by rw [cell_of_row _ _ 1 _ _ _ hh]; rfl, by rw [cell_of_row _ _ 2 _ _ _ hh]; rfl⟩
theorem Box3.up {w w' : World} {b : Nat} {x y z : Value} (h : Box3 w b x y z) (u : Up w w') : Box3 w' b x y z :=
  ⟨Nat.lt_of_lt_of_le h.lt u.size, (u.cells _ _ h.lt).trans h.c0, (u.cells _ _ h.lt).trans h.c1, (u.cells _ _ h.lt).trans h.c2⟩
set_option maxHeartbeats 8000000 in
theorem implRules_any (A : Option Addr) (n c : Nat) (B : Option Addr) (k d : Nat) (til : Int) (rss : List (List Rule)) (hm1 : (1 : Int) ≤ n) (hm2 : (n : Int) ≤ 4) (w : World) (hR : Rulz w A n rss) :
    Calls Try.prog 105 #[.agg #[.slice A n c, .slice B k d, .int .i64 til]] w fun x w' => x = .returned (.bool (rss.all (rulesB n (-1)))) ∧ Up w w' := by
  have AD := Lib.hid (fun i h => all_drop (f := rulesB n (-1)) (d := []) rss i h)
  have AE := Lib.hid (fun i h => all_end (f := rulesB n (-1)) rss i h)
  have RD := Lib.hid (fun bf rs i h => rulesB_drop n bf rs i h)
  have RE := Lib.hid (fun bf rs i h => rulesB_end n bf rs i h)
  have HR := Lib.hid hR
  have LR := Lib.hid hR.1
  have CL := Lib.hid (fun r A' n' c' W hn hE => implRule_any r A' n' c' n hm1 hm2 W hn hE)
  have H0 := Lib.hid (show (rss.drop 0).all (rulesB n (-1)) = rss.all (rulesB n (-1)) from rfl)
  generalize rss.all (rulesB n (-1)) = al at H0 ⊢
  have B0 := Lib.hid (Box3.new w (.slice A n c) (.slice B k d) (.int .i64 til) 33)
  clear hR
  go_enter Try.func105, Try.ntmps105
  go_wp2
  go_loopw [11] (fun i wr => (∃ q : Nat, q ≤ n ∧ i = .int .i64 q ∧ Hid ((rss.drop q).all (rulesB n (-1)) = al)) ∧ Up (w.alloc (.cells #[.slice A n c, .slice B k d, .int .i64 til] 33)) wr) (fun i _ => n - (intOf i).toNat)
  case atStart => exact ⟨⟨0, by omega, rfl, H0⟩, Up.refl _⟩
  case round =>
    obtain ⟨⟨q, hq, rfl, HA⟩, ur⟩ := hrel; obtain ⟨wo, hwo⟩ : ∃ W, W = wr := ⟨_, rfl⟩; subst hwo
    have hw : Up w wo := ((Up.refl w).alloc _).trans ur
    by_cases hlt : q < n
    · obtain ⟨b, off, hA, hb, hc⟩ := HR.out.2.2 (by omega)
      subst hA; obtain ⟨A', n', c', hcell, hrs⟩ := hc q hlt
      have cell := (hw.cells _ _ hb).trans hcell
      have HS := Lib.hid (hrs.up hw)
      have hn' : n' ≤ 9223372036854775807 := hrs.2.1
      have hb' : b < wo.heap.size := by have := hw.size; omega
      have S := AD.out q (by rw [LR.out]; exact hlt)
      rw [HA.out] at S; clear hc hcell hrs
      generalize rss.getD q [] = rs at HS S
      have S' := Lib.hid S
      have LS := Lib.hid HS.out.1
      have UR := Lib.hid ur
      have H1 := Lib.hid (show rulesB n (-1) (rs.drop 0) = rulesB n (-1) rs from rfl)
      generalize rulesB n (-1) rs = ok at S' H1
      clear S ur hw
      have i4 : (q : Int) < n := by omega
      have i5 : IntKind.i64.wrap ((q : Int) + 1) = (q : Int) + 1 := IntWalk.i64_in _ (by omega)
      go_wp2_with fail
      go_loopw [5, 17] (fun f j wj => (∃ (bf : Int) (p : Nat), p ≤ n' ∧ f = .int .i64 bf ∧ j = .int .i64 p ∧ Hid (rulesB n bf (rs.drop p) = ok)) ∧ Up wo wj) (fun _ j _ => n' - (intOf j).toNat)
      case atStart => exact ⟨⟨-1, 0, by omega, rfl, rfl, H1⟩, Up.refl _⟩
      case round =>
        obtain ⟨⟨bf, p, hp, rfl, rfl, HB⟩, uj⟩ := hrel
        have bx := B0.out.up (UR.out.trans uj)
        obtain ⟨q0, q1, q2⟩ := And.intro bx.c0 (And.intro bx.c1 bx.c2)
        have qlt := bx.lt
        have hbx : w.heap.size < wo.heap.size := (B0.out.up UR.out).lt
        clear bx
        by_cases hlp : p < n'
        · obtain ⟨b2, off2, hA2, hb2, hc2⟩ := HS.out.2.2 (by omega)
          subst hA2
          have at2 := (hc2 p hlp).up uj hb2
          have hb2' : b2 < wr.heap.size := by have := uj.size; omega
          clear hc2
          have T := RD.out bf rs p (by rw [LS.out]; exact hlp)
          rw [HB.out] at T
          have cl := fun A' n' c' W => CL.out (rs.getD p default) A' n' c' W
          generalize rs.getD p default = r at at2 T cl
          obtain ⟨A3, n3, c3, ⟨r0, r1, r2, r3, r4⟩, hn3, he3⟩ := at2
          have E3 := Lib.hid he3
          obtain ⟨kd, ra, rb, rc, es⟩ := r
          generalize ruleB ⟨kd, ra, rb, rc, es⟩ n = s at T cl
          unfold Rule.v at cl; dsimp only at cl r0 r1 r2 r3 r4 T
          have C := Lib.hid (cl A3 n3 c3)
          have T' := Lib.hid T
          have UJ := Lib.hid uj
          have hsz : wo.heap.size ≤ wr.heap.size := uj.size
          clear T cl he3 uj
          have i6 : (p : Int) < n' := by omega
          have i7 : IntKind.i64.wrap ((p : Int) + 1) = (p : Int) + 1 := IntWalk.i64_in _ (by omega)
          by_cases hkd : kd ≤ bf
          · have hok : ok = false := by rw [T'.out, decide_eq_false (by omega)]; rfl
            go_wp2; go_ret
            exact ⟨ret_bool (by rw [S'.out, hok]; rfl), ((((Up.refl w).alloc _).trans UR.out).trans UJ.out).alloc _⟩
          · have hd : decide (bf < kd) = true := decide_eq_true (by omega)
            have NX := Lib.hid (show wr.heap.size ≠ w.heap.size by omega)
            go_wp2_with fail
            refine (C.out _ hn3 (E3.out.up ((Up.refl _).alloc _))).mono ?_; rintro x w2 ⟨rfl, u2⟩
            have U2 := Lib.hid ((UJ.out.alloc _).trans u2)
            obtain ⟨hc, hf, hz⟩ := u2.facts; simp at hz
            cases s
            · have hok : ok = false := by rw [T'.out, hd]; rfl
              go_wp2; go_ret
              exact ⟨ret_bool (by rw [S'.out, hok]; rfl), (((Up.refl w).alloc _).trans UR.out).trans U2.out⟩
            · have TT := Lib.hid (show rulesB n kd (rs.drop (p + 1)) = ok by rw [T'.out, hd]; rfl)
              go_wp2
              go_roundw
              case rel => exact ⟨⟨kd, p + 1, by omega, rfl, by first | rfl | go_num, TT⟩, U2.out⟩
              case measure => (simp [intOf]; try omega)
        · have hok : ok = true := HB.out.symm.trans (RE.out bf rs p (by rw [LS.out]; omega))
          have i6 : ¬ (p : Int) < n' := by omega
          have UJ := Lib.hid uj
          clear uj; go_wp2
          go_roundw
          case rel => exact ⟨⟨q + 1, by omega, by first | rfl | go_num, Lib.hid (by rw [S'.out, hok, Bool.true_and])⟩, UR.out.trans UJ.out⟩
          case measure => (simp [intOf]; try omega)
    · have hal : al = true := HA.out.symm.trans (AE.out q (by rw [LR.out]; omega))
      have HW := Lib.hid hw
      have i4 : ¬ (q : Int) < n := by omega
      clear hw ur; go_wp2; go_ret
      exact ⟨ret_bool (by first | exact hal.symm | rfl), HW.out⟩
end Go.Proofs.Ytakmlfgkppekoaa

namespace Go.Proofs.Ytakmlfgkppekoaa
set_option maxRecDepth 100000
open Go.RowKit
/-- What is left to walk. -/
@[irreducible] def qWalk (P : Program) (ops : Array Oper) (C : World → Prop) (Q : Act → Prop) (l : List Oper) (a : Act) : Prop := wpQuiet P ops C Q l a
theorem qWalk_step {P : Program} {ops : Array Oper} {C : World → Prop} {Q : Act → Prop} {a : Act} {o : Oper} {rest : List Oper}
    (h : ∀ K : Act → Prop, (∀ a, qWalk P ops C Q rest a → K a) → if Region.wanted o (yielded ops a.tmps) then o.quiet P a C K else K (a.put o.dst undef)) : qWalk P ops C Q (o :: rest) a := by
  unfold qWalk at h ⊢
  exact wpQuiet_step h
theorem qWalk_nil {P : Program} {ops : Array Oper} {C : World → Prop} {Q : Act → Prop} {a : Act} (h : Q a) : qWalk P ops C Q [] a := by
  unfold qWalk
  exact wpQuiet_nil h
theorem region_qw {P : Program} {id : Nat} {Q : Exit → Act → World → Prop} {a : Act} {w : World} {l : List Oper} (hm : P.follows .mixedOrders = true) (hB : Region.lexB .any l.toArray = true)
    (h : qWalk P l.toArray (Up w) (fun a' => ∀ w', Up w w' → Q .normal a' w') l a) : (Code.region id l.toArray true).wp P Q a w := by
  unfold qWalk at h
  exact region_up hm hB h
end Go.Proofs.Ytakmlfgkppekoaa

namespace Go.Proofs.Ytakmlfgkppekoaa
set_option maxRecDepth 100000
open Go.RowKit
theorem info63 : (Try.prog.info? 63).map (fun i => (i.zero, i.size, i.bytes)) = some (some (.agg #[.int .i64 0, .int .i64 0, .int .i64 0, .int .i64 0, .slice none 0 0]), 5, 56) := by kernel_rfl
theorem info60 : (Try.prog.info? 60).map (fun i => (i.zero, i.size, i.bytes)) = some (some (.slice none 0 0), 1, 24) := by kernel_rfl
end Go.Proofs.Ytakmlfgkppekoaa

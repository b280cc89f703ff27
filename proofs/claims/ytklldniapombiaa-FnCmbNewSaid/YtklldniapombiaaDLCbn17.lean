/-
  What a machine's map holds, in one sentence: for each component and kind the model's rule, if there is one; no condition is made.
  What SeqNew gives, in one sentence: as many component states of zeros as there are components, the external events, nothing processed; for every model that lies in memory.
  Hosts that have done nothing, in one sentence: which items wait, how the host lies in memory, and the append of an item as a step; for every model.
  What impl's startsOf gives, in one sentence: the external events of a component in a new list; for every list of at most six events that lies in memory.
  Simulators in rows of the call's own, in one sentence: kept where blocks are made and where numbers are written elsewhere; SeqNew's result is one; no condition is made.
-/
import Derived.Test.YtklldniapombiaaDLCbn02
import Derived.Test.YtklldniapombiaaDLCbn04
import Derived.Test.YtklldniapombiaaDLCbn05
import Derived.Test.YtklldniapombiaaDLCbn10
import Derived.Test.YtklldniapombiaaDLCbn13
import Derived.Test.YtklldniapombiaaDLCbn14
import Derived.Test.YtklldniapombiaaDLCbn16
namespace Go.Proofs.Ytklldniapombiaa
set_option maxRecDepth 100000
open Go.RowKit
/-- A rule as a value over a slice that holds its sends. -/
def RowV (w : World) (o : Option Rule) (v : Option Value) : Prop :=
  match o with
  | none => v = none
  | some r => ∃ A n c, v = some (r.v (.slice A n c)) ∧ n ≤ 9223372036854775807 ∧ Evs w A n r.sends
theorem RowV.up {w w' : World} {o : Option Rule} {v : Option Value} (h : RowV w o v) (u : Up w w') : RowV w' o v := by
  cases o with
  | none => exact h
  | some r =>
    obtain ⟨A, n, c, h1, h2, h3⟩ := h
    exact ⟨A, n, c, h1, h2, h3.up u⟩
/-- The last rule of a kind. -/
def lastOf (kd : Int) : List Rule → Option Rule
  | [] => none
  | r :: rs => match lastOf kd rs with
    | some x => some x
    | none => if r.kd = kd then some r else none
theorem lastOf_snoc (kd : Int) (r : Rule) : ∀ rs : List Rule, lastOf kd (rs ++ [r]) = if r.kd = kd then some r else lastOf kd rs
  | [] => by simp [lastOf]
  | x :: rs => by
    rw [List.cons_append, lastOf, lastOf_snoc kd r rs]
    by_cases h : r.kd = kd
    · simp [h]
    · simp only [if_neg h]
      rw [lastOf]
theorem lastOf_take (kd : Int) (rs : List Rule) (q : Nat) (h : q < rs.length) : lastOf kd (rs.take (q + 1)) = if (rs.getD q default).kd = kd then some (rs.getD q default) else lastOf kd (rs.take q) := by
  rw [List.take_succ_eq_append_getElem h, lastOf_snoc]; simp [h]
theorem lastOf_past {many kd : Int} : ∀ {bf : Int} {rs : List Rule}, rulesB many bf rs = true → kd ≤ bf → lastOf kd rs = none
  | _, [], _, _ => rfl
  | bf, x :: rs, h, hk => by
    rw [rulesB, Bool.and_eq_true, Bool.and_eq_true] at h
    have h1 := of_decide_eq_true h.1.1
    rw [lastOf, lastOf_past h.2 (by omega)]
    exact if_neg (by omega)
theorem lastOf_ruleOf {many kd : Int} : ∀ {bf : Int} {rs : List Rule}, rulesB many bf rs = true → lastOf kd rs = ruleOf kd rs
  | _, [], _ => rfl
  | bf, x :: rs, h => by
    rw [rulesB, Bool.and_eq_true, Bool.and_eq_true] at h; rw [lastOf, ruleOf]
    by_cases hk : x.kd = kd
    · rw [lastOf_past h.2 (by omega), if_pos hk]
      exact (if_pos hk).symm
    · rw [lastOf_ruleOf h.2, if_neg hk, if_neg hk]
      cases ruleOf kd rs <;> rfl
theorem rulesB_len {many : Int} : ∀ {bf : Int} {rs : List Rule}, rulesB many bf rs = true → -1 ≤ bf → bf ≤ 2 → (rs.length : Int) ≤ 2 - bf
  | bf, [], _, _, h2 => by simp; omega
  | bf, x :: rs, h, h1, h2 => by
    rw [rulesB, Bool.and_eq_true, Bool.and_eq_true] at h
    have k1 := of_decide_eq_true h.1.1
    have k2 := h.1.2
    simp only [ruleB, Bool.and_eq_true, inB_iff] at k2
    have := rulesB_len h.2 (by omega) (by omega)
    simp only [List.length_cons]
    omega
theorem rulesB_mem {many : Int} : ∀ {bf : Int} {rs : List Rule}, rulesB many bf rs = true → ∀ i, i < rs.length → ruleB (rs.getD i default) many = true
  | _, [], _, _, h => absurd h (by simp)
  | bf, x :: rs, h, 0, _ => by
    rw [rulesB, Bool.and_eq_true, Bool.and_eq_true] at h
    exact h.1.2
  | bf, x :: rs, h, i + 1, hi => by
    rw [rulesB, Bool.and_eq_true, Bool.and_eq_true] at h
    simpa using rulesB_mem h.2 i (by simpa using hi)
theorem mdlB_row {m : Mdl} (hm : mdlB m = true) (i : Nat) (hi : i < m.rules.length) : rulesB m.rules.length (-1) (m.rules.getD i []) = true := by
  simp only [mdlB, Bool.and_eq_true, List.all_eq_true] at hm; refine hm.2 (m.rules.getD i []) ?_; rw [List.getD, List.getElem?_eq_getElem hi]
  exact List.getElem_mem hi
theorem mdlB_few {m : Mdl} (hm : mdlB m = true) : 1 ≤ m.rules.length ∧ m.rules.length ≤ 4 := by
  simp only [mdlB, Bool.and_eq_true] at hm
  have := inB_iff.1 hm.1.1.1
  omega
/-- What stands at a key when i components and q rules of the next are stored. -/
def upto (rss : List (List Rule)) (i q : Nat) (c k : Int) : Option Rule :=
  if c < 0 then none else if c < i then lastOf k (rss.getD c.toNat []) else if c = i then lastOf k ((rss.getD i []).take q) else none
def Filled (w : World) (rss : List (List Rule)) (i q : Nat) (f : Int → Int → Option Value) : Prop := ∀ c k, RowV w (upto rss i q c k) (f c k)
theorem Filled.start (w : World) (rss : List (List Rule)) : Filled w rss 0 0 (fun _ _ => none) := fun c k => by
  have e : upto rss 0 0 c k = none := by
    unfold upto
    split
    · rfl
    · split
      · omega
      · split
        · simp [lastOf]
        · rfl
  rw [e]
  rfl
theorem Filled.step {w : World} {rss : List (List Rule)} {i q : Nat} {f : Int → Int → Option Value} (h : Filled w rss i q f) {r : Rule} (hq : q < (rss.getD i []).length) (hr : (rss.getD i []).getD q default = r) {A : Option Addr} {n c : Nat}
    (hn : n ≤ 9223372036854775807) (he : Evs w A n r.sends) : Filled w rss i (q + 1) (fun c' k' => if c' = (i : Int) ∧ k' = r.kd then some (r.v (.slice A n c)) else f c' k') := fun c' k' => by
  have h0 := h c' k'
  have e : upto rss i (q + 1) c' k' = if c' = (i : Int) ∧ k' = r.kd then some r else upto rss i q c' k' := by
    unfold upto
    by_cases hc : c' = (i : Int)
    · subst hc
      have n1 : ¬ (i : Int) < 0 := by omega
      have n2 : ¬ (i : Int) < i := by omega
      simp only [if_neg n1, if_neg n2, if_true]; rw [lastOf_take _ _ _ hq, hr]
      by_cases hk : k' = r.kd
      · rw [if_pos hk.symm, if_pos ⟨trivial, hk⟩]
      · rw [if_neg (fun e => hk e.symm), if_neg (fun e => hk e.2)]
    · rw [if_neg hc, if_neg (fun e : c' = (i : Int) ∧ k' = r.kd => hc e.1), if_neg hc]
  rw [e]
  by_cases hc : c' = (i : Int) ∧ k' = r.kd
  · simp only [if_pos hc]
    exact ⟨A, n, c, rfl, hn, he⟩
  · simp only [if_neg hc]
    exact h0
theorem Filled.row {w : World} {rss : List (List Rule)} {i q : Nat} {f : Int → Int → Option Value} (h : Filled w rss i q f) (hq : (rss.getD i []).length ≤ q) : Filled w rss (i + 1) 0 f := fun c k => by
  have h0 := h c k
  have e : upto rss (i + 1) 0 c k = upto rss i q c k := by
    unfold upto
    by_cases h1 : c < 0
    · rw [if_pos h1, if_pos h1]
    · rw [if_neg h1, if_neg h1]
      by_cases h2 : c < (i : Int)
      · rw [if_pos h2, if_pos (by omega)]
      · rw [if_neg h2]
        by_cases h3 : c = (i : Int)
        · subst h3
          rw [if_pos (by omega), if_pos rfl, List.take_of_length_le hq]; simp
        · rw [if_neg (by omega), if_neg h3]
          split
          · simp [lastOf]
          · rfl
  rw [e]
  exact h0
/-- The map of a model. -/
def Mach (w : World) (b : Nat) (m : Mdl) : Prop :=
  ∃ N f, RMap w b N f ∧ ∀ c k, RowV w (if 0 ≤ c then ruleOf k (m.rules.getD c.toNat []) else none) (f c k)
theorem Filled.done {w : World} {m : Mdl} (hm : mdlB m = true) {f : Int → Int → Option Value} (h : Filled w m.rules m.rules.length 0 f) : ∀ c k, RowV w (if 0 ≤ c then ruleOf k (m.rules.getD c.toNat []) else none) (f c k) := fun c k => by
  have h0 := h c k
  have e : upto m.rules m.rules.length 0 c k = if 0 ≤ c then ruleOf k (m.rules.getD c.toNat []) else none := by
    unfold upto
    by_cases h1 : c < 0
    · rw [if_pos h1, if_neg (show ¬ (0 : Int) ≤ c by omega)]
    · rw [if_neg h1, if_pos (show (0 : Int) ≤ c by omega)]
      by_cases h2 : c < (m.rules.length : Int)
      · rw [if_pos h2, lastOf_ruleOf (mdlB_row hm c.toNat (by omega))]
      · rw [if_neg h2]
        have : m.rules.getD c.toNat [] = [] := by
          rw [List.getD, List.getElem?_eq_none (by omega)]
          rfl
        rw [this]
        split
        · simp [lastOf, ruleOf]
        · rfl
  rw [← e]
  exact h0
theorem wpList_store_R {P : Program} (hP : P = Try.prog) (w : World) {ops : Array Oper} {rest : List Oper} {o : Oper} {a : Act} {Q : Exit → Act → World → Prop}
    (hg : o.guard = none) (m x v : Operand) (hop : o.op = Op.mapUpdate 107 m x v) (b n : Nat) (f : Int → Int → Option Value) (hm : a.eval m = .map (some b)) (h : RMap w b n f) (hn : n < maxLen)
    (c k : Int) (hx : a.eval x = .agg #[.int .i64 c, .int .i64 k]) (hc : I64 c) (hk : I64 k) (val : Value) (hv : a.eval v = val)
    (hK : ∀ w', RMap w' b (n + 1) (fun c' k' => if c' = c ∧ k' = k then some val else f c' k') → Mv b w w' → wpList P ops Q rest (a.put o.dst undef) w') : wpList P ops Q (o :: rest) a w := by
  subst hP
  refine wpList_plain hg fun K' hK' => ?_
  obtain ⟨w', hrun, r1, r2⟩ := h.store hn c k hc hk val; unfold Oper.wp; simp [execOp, hop, hm, hx, hv, hrun, Result.andThen]
  exact hK' _ _ (hK w' r1 r2)
end Go.Proofs.Ytklldniapombiaa

namespace Go.Proofs.Ytklldniapombiaa
set_option maxRecDepth 100000
open Go.RowKit
theorem mdlB_starts {m : Mdl} (hm : mdlB m = true) : m.starts.length ≤ 6 := by
  simp only [mdlB, startsB, Bool.and_eq_true, decide_eq_true_eq] at hm
  omega
end Go.Proofs.Ytklldniapombiaa

namespace Go.Proofs.Ytklldniapombiaa
set_option maxRecDepth 100000
open Go.RowKit
/-- The items of the first k events that are for one component. -/
def wtk (es : List Evt) (comp : Int) (k : Nat) : List Rec := ((es.take k).filter (fun e => decide (e.to = comp))).map (fun e => (⟨e, 0⟩ : Rec))
theorem take_one {α : Type} [Inhabited α] (es : List α) (k : Nat) (h : k < es.length) : es.take (k + 1) = es.take k ++ [es.getD k default] := by
  rw [List.take_add_one]; simp [List.getD, h]
/-- What waits in a host that has done nothing. -/
def hs0 (m : Mdl) (comp : Int) : List Rec := if mdlB m = true then wtk m.starts comp m.starts.length else []
section
variable {B0 : Nat} {a w w' : World}
end
end Go.Proofs.Ytklldniapombiaa

namespace Go.Proofs.Ytklldniapombiaa
set_option maxRecDepth 100000
open Go.RowKit
/-- The first k events that are for one component. -/
def stk (es : List Evt) (comp : Int) (k : Nat) : List Evt := (es.take k).filter (fun e => decide (e.to = comp))
theorem stk_in {es : List Evt} {comp : Int} {k : Nat} (hk : k < es.length) (h : (es.getD k default).to = comp) : stk es comp (k + 1) = stk es comp k ++ [es.getD k default] := by
  unfold stk; rw [take_one es k hk, List.filter_append]
  generalize es.getD k default = x at h ⊢
  simp [h]
theorem stk_out {es : List Evt} {comp : Int} {k : Nat} (hk : k < es.length) (h : (es.getD k default).to ≠ comp) : stk es comp (k + 1) = stk es comp k := by
  unfold stk; rw [take_one es k hk, List.filter_append]
  generalize es.getD k default = x at h ⊢
  simp [h]
theorem stk_len (es : List Evt) (comp : Int) (k : Nat) : (stk es comp k).length ≤ k := by
  unfold stk
  exact Nat.le_trans (List.length_filter_le _ _) (by rw [List.length_take]; omega)
set_option maxHeartbeats 4000000 in
theorem starts_any (A : Option Addr) (n c : Nat) (B : Option Addr) (k d : Nat) (es : List Evt) (til comp : Int) (w : World) (h : Evs w B k es) (hk6 : k ≤ 6) :
    Calls Try.prog 102 #[.agg #[.slice A n c, .slice B k d, .int .i64 til], .int .i64 comp] w fun x w' => ∃ v, x = .returned v ∧ w'.ownsRow w.heap.size 74 6 v (stk es comp k).length (flat (stk es comp k)) ∧ Up w w' := by
  obtain ⟨i0, hi0, hz0, hz1, hz2⟩ := info_parts info74
  have INF := Lib.hid (And.intro hi0 (And.intro hz0 (And.intro hz1 hz2)))
  have SIX := Lib.hid (show 0 < 6 by omega)
  clear hi0 hz0 hz1 hz2
  have HS := Lib.hid h
  have LS := Lib.hid h.1
  have WIN := Lib.hid (fun q (hq : q < k) => (stk_in (es := es) (comp := comp) (k := q) (by rw [LS.out]; exact hq)))
  have WOUT := Lib.hid (fun q (hq : q < k) => (stk_out (es := es) (comp := comp) (k := q) (by rw [LS.out]; exact hq)))
  have WL := Lib.hid (fun q => stk_len es comp q)
  have U0 := Lib.hid ((Up.refl w).alloc (.cells #[.slice A n c, .slice B k d, .int .i64 til] 36))
  have B2 := Lib.hid (Blk.new w #[.slice A n c, .slice B k d, .int .i64 til] 36)
  have lt2_ := B2.out.lt
  obtain ⟨q0, q1, q2⟩ := And.intro (B2.out.cell (j := 0) rfl) (And.intro (B2.out.cell (j := 1) rfl) (B2.out.cell (j := 2) rfl)); clear h
  go_enter Try.func102, Try.ntmps102
  go_wp2; clear q0 q1 q2 lt2_ B2
  go_loopw [5, 11] (fun v i wr => (∃ q : Nat, q ≤ k ∧ i = .int .i64 q ∧ wr.ownsRow w.heap.size 74 6 v (stk es comp q).length (flat (stk es comp q))) ∧ Up w wr) (fun _ i _ => k - (intOf i).toNat)
  case atStart => exact ⟨⟨0, by omega, rfl, World.ownsRow_nil _ _ _ _⟩, U0.out⟩
  case round =>
    obtain ⟨⟨q, hq, rfl, hO⟩, ur⟩ := hrel
    have HO := Lib.hid hO
    have UR := Lib.hid ur
    clear hO
    by_cases hlt : q < k
    · obtain ⟨b, off, hA, hb, hc⟩ := HS.out.2 (by omega)
      subst hA
      have a0 := (hc q hlt).up ur hb
      have hb' : b < wr.heap.size := by have := ur.size; omega
      have win := WIN.out q hlt
      have wout := WOUT.out q hlt
      have wl := WL.out q
      clear hc ur
      generalize es.getD q default = e at a0 win wout
      have WI := Lib.hid win
      have WO := Lib.hid wout
      clear win wout; obtain ⟨et, eto, efr, esq, ekd, edt⟩ := e; unfold EvAt at a0; dsimp only at a0; obtain ⟨p0, p1, p2, p3, p4, p5⟩ := a0
      have i4 : (q : Int) < k := by omega
      by_cases hto : eto = comp
      · subst hto
        have HW := Lib.hid (WI.out rfl)
        have UX := Lib.hid ((UR.out.alloc (.cells #[.int .i64 et, .int .i64 eto, .int .i64 efr, .int .i64 esq, .int .i64 ekd, .int .i64 edt] 74)).alloc (.cells #[.int .i64 et, .int .i64 eto, .int .i64 efr, .int .i64 esq, .int .i64 ekd, .int .i64 edt] 74))
        have HOA := Lib.hid (own_up HO.out (((Up.refl wr).alloc (.cells #[.int .i64 et, .int .i64 eto, .int .i64 efr, .int .i64 esq, .int .i64 ekd, .int .i64 edt] 74)).alloc (.cells #[.int .i64 et, .int .i64 eto, .int .i64 efr, .int .i64 esq, .int .i64 ekd, .int .i64 edt] 74)))
        have HR := Lib.hid ((Evs.new (wr.alloc (.cells #[.int .i64 et, .int .i64 eto, .int .i64 efr, .int .i64 esq, .int .i64 ekd, .int .i64 edt] 74)) ⟨et, eto, efr, esq, ekd, edt⟩ 74).reads)
        simp only [World.size_alloc] at HR
        have HBS := Lib.hid (UX.out.size)
        generalize hl : stk es eto q = l at HO HOA HW wl ⊢
        clear hl
        have HMX := Lib.hid (show l.length + 1 ≤ maxLen by simp only [maxLen]; omega)
        have HBY := Lib.hid (show (l.length + 1) * 48 ≤ 140737488355328 by omega)
        go_wp2_with (at_builtin; refine wpList_append_any _ rfl (.tmp 19) (.tmp 21) 34 rfl w.heap.size 74 i0 _ 6 48 Try.underlying34 INF.out.1 INF.out.2.1 INF.out.2.2.1 INF.out.2.2.2 rfl SIX.out _ _ (flat l) rfl HOA.out _ _ 1 1 (flat [⟨et, eto, efr, esq, ekd, edt⟩]) rfl HR.out (flat_one _) HMX.out HBY.out HBS.out ?_; intro v2 w2 ho2 hg2 _)
        have HO2 := Lib.hid (own_snoc ho2 rfl)
        have UN := Lib.hid (UX.out.own HOA.out hg2)
        clear ho2 hg2
        go_roundw
        case rel => exact ⟨⟨q + 1, by omega, by go_num, by rw [HW.out]; exact HO2.out⟩, UN.out⟩
        case measure => simp [intOf]; omega
      · have HW := Lib.hid (WO.out hto)
        have UX := Lib.hid (UR.out.alloc (.cells #[.int .i64 et, .int .i64 eto, .int .i64 efr, .int .i64 esq, .int .i64 ekd, .int .i64 edt] 74))
        have HOA := Lib.hid (own_up HO.out ((Up.refl wr).alloc (.cells #[.int .i64 et, .int .i64 eto, .int .i64 efr, .int .i64 esq, .int .i64 ekd, .int .i64 edt] 74)))
        go_wp2
        go_roundw
        case rel => exact ⟨⟨q + 1, by omega, by go_num, by rw [HW.out]; exact HOA.out⟩, UX.out⟩
        case measure => simp [intOf]; omega
    · obtain rfl : q = k := by omega
      have i4 : ¬ (q : Int) < q := by omega
      go_wp2; go_ret
      exact ⟨_, rfl, HO.out, UR.out⟩
end Go.Proofs.Ytklldniapombiaa

namespace Go.Proofs.Ytklldniapombiaa
set_option maxRecDepth 100000
open Go.RowKit
theorem Mkb.own {w : World} {lo n c : Nat} {A : Option Addr} {es : List Evt} (h : w.ownsRow lo 74 6 (.slice A n c) n (flat es)) : Mkb w lo A n 6 74 := fun hn => by
  obtain ⟨g, rfl, hg, ho⟩ := own_own h hn
  rcases h.2 with ⟨_, h0⟩ | ⟨g', cap, cur, hv, _, hh, _⟩
  · omega
  · injection hv with hA _ _
    injection hA with hA
    injection hA with hA _ _
    subst hA; refine ⟨g, cur, rfl, hg, ⟨ho.2.1, fun j hj => ?_⟩, hh⟩; obtain ⟨c0, c1, c2, c3, c4, c5⟩ := ho.2.2.1 (j / 6) (by omega); refine ⟨?_, ho.2.2.2 j hj⟩
    have e : j % 6 = 0 ∨ j % 6 = 1 ∨ j % 6 = 2 ∨ j % 6 = 3 ∨ j % 6 = 4 ∨ j % 6 = 5 := by omega
    rcases e with e | e | e | e | e | e
    · exact ⟨_, by rw [show j = j / 6 * 6 by omega]; exact c0⟩
    · exact ⟨_, by rw [show j = j / 6 * 6 + 1 by omega]; exact c1⟩
    · exact ⟨_, by rw [show j = j / 6 * 6 + 2 by omega]; exact c2⟩
    · exact ⟨_, by rw [show j = j / 6 * 6 + 3 by omega]; exact c3⟩
    · exact ⟨_, by rw [show j = j / 6 * 6 + 4 by omega]; exact c4⟩
    · exact ⟨_, by rw [show j = j / 6 * 6 + 5 by omega]; exact c5⟩
end Go.Proofs.Ytklldniapombiaa

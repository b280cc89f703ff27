/-
  The machine's map of rules, in one sentence: a block that is a map by component and kind has the values that a function tells; looked up, stored into, kept; no condition is made.
  What a machine's map holds, in one sentence: for each component and kind the model's rule, if there is one; no condition is made.
  What SeqNew gives, in one sentence: as many component states of zeros as there are components, the external events, nothing processed; for every model that lies in memory.
-/
import Derived.DeepKeys4
import Derived.Maps.OwnSet
import Derived.Test.YtklldniapombiaaDLWev03
import Derived.Test.YtklldniapombiaaDLWev04
import Derived.Test.YtklldniapombiaaDLWev15
import Derived.Test.YtklldniapombiaaDLWev16
import Derived.Test.YtklldniapombiaaDLWev17
import Derived.Test.YtklldniapombiaaDLWev19
namespace Go.Proofs.Ytklldniapombiaa
set_option maxRecDepth 100000
open Go.RowKit
open Go.Maps (Keyed)
/-- A key. -/
def keyV (c k : Int) : Value := .agg #[.int .i64 c, .int .i64 k]
/-- What an element reads as: itself. -/
def valR (v : Value) : Option (DataW Value × List MemPlace) := some (.held v, [])
def ZRv : Value := .agg #[.int .i64 0, .int .i64 0, .int .i64 0, .int .i64 0, .slice none 0 0]
theorem laidOut_ : laidOutB Try.prog = true := by kernel_rfl
theorem keyLaw : Keyed Try.prog 170 :=
  Keyed.of_law (deep_law_laid laidOut_ (m := 2) (by omega) (of_decide_eq_true (by kernel_rfl)) (by kernel_rfl) (by kernel_rfl))
theorem keyCells : Try.prog.cellsOf 170 = 2 := by kernel_rfl
theorem keyType_ : Try.prog.keyType 170 = true := by kernel_rfl
theorem intCells : Try.prog.cellsOf 3 = 1 := by kernel_rfl
theorem typesMany : 2 ≤ Try.prog.types.size := of_decide_eq_true (by kernel_rfl)
theorem zeroRule (w : World) : (zeroValue 166).run Try.prog w = .ok ZRv w := by kernel_rfl
theorem key_ex (c k : Int) (hc : I64 c) (hk : I64 k) : ∃ l, keyOf Try.prog 170 (keyV c k) = some l := by
  obtain ⟨n, hn⟩ := Nat.exists_eq_add_of_le typesMany
  have wc : (Lit.int .i64 c).wf = true := by unfold I64 at hc; simp [Lit.wf, IntKind.min, IntKind.max, IntKind.signed, IntKind.bits]; omega
  have wk : (Lit.int .i64 k).wf = true := by unfold I64 at hk; simp [Lit.wf, IntKind.min, IntKind.max, IntKind.signed, IntKind.bits]; omega
  have e : Try.prog.types.size + 1 = n + 1 + 1 + 1 := by omega
  unfold keyOf keyV; rw [Try.underlying170]; dsimp only; rw [keyType_, e]; simp [Value.formed, Try.underlying170, Try.underlying3, keyCells, intCells, Program.keyLits, Value.cells, wc, wk]
/-- Block b is a map of at most n entries that has the values of f. -/
def RMap (w : World) (b n : Nat) (f : Int → Int → Option Value) : Prop :=
  ∃ D : DataW Value, w.ownsMap Try.prog 170 valR b n D ∧ Maps.IsMap D ∧ ∀ c k l, keyOf Try.prog 170 (keyV c k) = some l → (∀ zd, D.atKey l zd = match f c k with | some v => .held v | none => zd) ∧ Maps.has D l = (f c k).isSome
theorem RMap.made (w : World) : RMap (w.alloc (.map #[] 0)) w.heap.size 0 (fun _ _ => none) :=
  ⟨.map [], World.ownsMap_made w _ _ _, Maps.isMap_empty, fun _ _ _ _ => ⟨fun _ => rfl, rfl⟩⟩
theorem RMap.lt {w : World} {b n : Nat} {f : Int → Int → Option Value} (h : RMap w b n f) : b < w.heap.size := by
  obtain ⟨D, h, _⟩ := h
  exact h.lt
theorem RMap.block {w w' : World} {b n : Nat} {f : Int → Int → Option Value} (h : RMap w b n f) (e : w'.heap[b]? = w.heap[b]?) : RMap w' b n f := by
  obtain ⟨D, ⟨es, cl, hb, F, hs, hD⟩, hr⟩ := h
  exact ⟨D, ⟨es, cl, e.trans hb, F, hs, hD⟩, hr⟩
theorem RMap.up {w w' : World} {b n : Nat} {f : Int → Int → Option Value} (h : RMap w b n f) (u : Up w w') : RMap w' b n f := h.block (u.below.block b h.lt)
theorem RMap.setFar {w : World} {b n : Nat} {f : Int → Int → Option Value} (h : RMap w b n f) {p : Addr} (hp : p.block ≠ b) (u : Value) : RMap (w.setCell p u) b n f := h.block (Below.heap_setCell w p u b (fun e => hp e.symm))
theorem RMap.look {w : World} {b n : Nat} {f : Int → Int → Option Value} (h : RMap w b n f) (c k : Int) (hc : I64 c) (hk : I64 k) :
    (Instr.lookup 107 (.map (some b)) (.agg #[.int .i64 c, .int .i64 k]) true).run Try.prog w = .ok (.tuple #[(f c k).getD ZRv, .bool (f c k).isSome]) w := by
  obtain ⟨D, ho, _, hr⟩ := h; obtain ⟨l, hl⟩ := key_ex c k hc hk; obtain ⟨h1, h2⟩ := hr c k l hl; obtain ⟨v, ps, hrun, hv⟩ := ho.look_ok keyLaw Try.underlying107 (zeroRule w) (zd := .held ZRv) (zp := []) rfl hl
  have e : v = (f c k).getD ZRv := by
    rw [h1 (.held ZRv)] at hv; simp only [valR, Option.some.injEq, Prod.mk.injEq] at hv
    cases hf : f c k with
    | none => rw [hf] at hv; simpa using hv.1
    | some u => rw [hf] at hv; simpa using hv.1
  rw [h2, e] at hrun
  exact hrun
theorem mapTurned_mv {w w' : World} {b : Nat} (h : w.mapTurned w' b) : Mv b w w' := by
  obtain ⟨es, clock, es', clock', hb, rfl⟩ := h
  exact ⟨rfl, rfl, rfl, by simp [ChangeMaps.setBlock], fun k _ hne => ChangeMaps.heap_setBlock_other hb _ hne⟩
theorem RMap.store {w : World} {b n : Nat} {f : Int → Int → Option Value} (h : RMap w b n f) (hn : n < maxLen) (c k : Int) (hc : I64 c) (hk : I64 k) (v : Value) :
    ∃ w', (Instr.mapUpdate 107 (.map (some b)) (.agg #[.int .i64 c, .int .i64 k]) v).run Try.prog w = .ok () w' ∧ RMap w' b (n + 1) (fun c' k' => if c' = c ∧ k' = k then some v else f c' k') ∧ Mv b w w' := by
  obtain ⟨D, ho, hm, hr⟩ := h; obtain ⟨l, hl⟩ := key_ex c k hc hk; obtain ⟨w', hrun, ho', ht⟩ := ho.store keyLaw Try.underlying107 hn (val := v) (d := .held v) (ps := []) hl rfl; refine ⟨w', hrun, ⟨D.put l (.held v), ho', hm.put _ _, fun c' k' l' hl' => ?_⟩, mapTurned_mv ht⟩
  by_cases e : l' = l
  · subst e
    have hkk := keyLaw.inj hl' hl
    simp only [keyV, Value.agg.injEq] at hkk
    have h0 := congrArg (fun a => a[0]?) hkk
    have h1 := congrArg (fun a => a[1]?) hkk
    simp at h0 h1; simp only [if_pos (And.intro h0 h1)]
    exact ⟨fun zd => Maps.atKey_put_same hm (keyLaw.key hl) _ _, Maps.has_put_same hm (keyLaw.key hl) _⟩
  · have hne : ¬ (c' = c ∧ k' = k) := fun ⟨h0, h1⟩ => by
      subst h0 h1; rw [hl] at hl'
      injection hl' with hl'
      exact e hl'.symm
    simp only [if_neg hne]; obtain ⟨h1, h2⟩ := hr c' k' l' hl'
    exact ⟨fun zd => (Maps.atKey_put_other e _ _).trans (h1 zd), (Maps.has_put_other e _).trans h2⟩
end Go.Proofs.Ytklldniapombiaa

namespace Go.Proofs.Ytklldniapombiaa
set_option maxRecDepth 100000
open Go.RowKit
/-- A rule as a value over a slice that holds its sends. -/
def RowV (w : World) (o : Option Rule) (v : Option Value) : Prop :=
  match o with
  | none => v = none
  | some r => ∃ A n c, v = some (r.v (.slice A n c)) ∧ n ≤ 9223372036854775807 ∧ Evs w A n r.sends
theorem RowV.up {w w' : World} {o : Option Rule} {v : Option Value} (h : RowV w o v) (u : Up w w') : RowV w' o v := by
  cases o with
  | none => exact h
  | some r =>
    obtain ⟨A, n, c, h1, h2, h3⟩ := h
    exact ⟨A, n, c, h1, h2, h3.up u⟩
/-- The last rule of a kind. -/
def lastOf (kd : Int) : List Rule → Option Rule
  | [] => none
  | r :: rs => match lastOf kd rs with
    | some x => some x
    | none => if r.kd = kd then some r else none
theorem lastOf_snoc (kd : Int) (r : Rule) : ∀ rs : List Rule, lastOf kd (rs ++ [r]) = if r.kd = kd then some r else lastOf kd rs
  | [] => by simp [lastOf]
  | x :: rs => by
    rw [List.cons_append, lastOf, lastOf_snoc kd r rs]
    by_cases h : r.kd = kd
    · simp [h]
    · simp only [if_neg h]
      rw [lastOf]
theorem lastOf_take (kd : Int) (rs : List Rule) (q : Nat) (h : q < rs.length) : lastOf kd (rs.take (q + 1)) = if (rs.getD q default).kd = kd then some (rs.getD q default) else lastOf kd (rs.take q) := by
  rw [List.take_succ_eq_append_getElem h, lastOf_snoc]; simp [h]
theorem lastOf_past {many kd : Int} : ∀ {bf : Int} {rs : List Rule}, rulesB many bf rs = true → kd ≤ bf → lastOf kd rs = none
  | _, [], _, _ => rfl
  | bf, x :: rs, h, hk => by
    rw [rulesB, Bool.and_eq_true, Bool.and_eq_true] at h
    have h1 := of_decide_eq_true h.1.1
    rw [lastOf, lastOf_past h.2 (by omega)]
    exact if_neg (by omega)
theorem lastOf_ruleOf {many kd : Int} : ∀ {bf : Int} {rs : List Rule}, rulesB many bf rs = true → lastOf kd rs = ruleOf kd rs
  | _, [], _ => rfl
  | bf, x :: rs, h => by
    rw [rulesB, Bool.and_eq_true, Bool.and_eq_true] at h; rw [lastOf, ruleOf]
    by_cases hk : x.kd = kd
    · rw [lastOf_past h.2 (by omega), if_pos hk]
      exact (if_pos hk).symm
    · rw [lastOf_ruleOf h.2, if_neg hk, if_neg hk]
      cases ruleOf kd rs <;> rfl
theorem rulesB_len {many : Int} : ∀ {bf : Int} {rs : List Rule}, rulesB many bf rs = true → -1 ≤ bf → bf ≤ 2 → (rs.length : Int) ≤ 2 - bf
  | bf, [], _, _, h2 => by simp; omega
  | bf, x :: rs, h, h1, h2 => by
    rw [rulesB, Bool.and_eq_true, Bool.and_eq_true] at h
    have k1 := of_decide_eq_true h.1.1
    have k2 := h.1.2
    simp only [ruleB, Bool.and_eq_true, inB_iff] at k2
    have := rulesB_len h.2 (by omega) (by omega)
    simp only [List.length_cons]
    omega
theorem rulesB_mem {many : Int} : ∀ {bf : Int} {rs : List Rule}, rulesB many bf rs = true → ∀ i, i < rs.length → ruleB (rs.getD i default) many = true
  | _, [], _, _, h => absurd h (by simp)
  | bf, x :: rs, h, 0, _ => by
    rw [rulesB, Bool.and_eq_true, Bool.and_eq_true] at h
    exact h.1.2
  | bf, x :: rs, h, i + 1, hi => by
    rw [rulesB, Bool.and_eq_true, Bool.and_eq_true] at h
    simpa using rulesB_mem h.2 i (by simpa using hi)
theorem mdlB_row {m : Mdl} (hm : mdlB m = true) (i : Nat) (hi : i < m.rules.length) : rulesB m.rules.length (-1) (m.rules.getD i []) = true := by
  simp only [mdlB, Bool.and_eq_true, List.all_eq_true] at hm; refine hm.2 (m.rules.getD i []) ?_; rw [List.getD, List.getElem?_eq_getElem hi]
  exact List.getElem_mem hi
theorem mdlB_few {m : Mdl} (hm : mdlB m = true) : 1 ≤ m.rules.length ∧ m.rules.length ≤ 4 := by
  simp only [mdlB, Bool.and_eq_true] at hm
  have := inB_iff.1 hm.1.1.1
  omega
/-- What stands at a key when i components and q rules of the next are stored. -/
def upto (rss : List (List Rule)) (i q : Nat) (c k : Int) : Option Rule :=
  if c < 0 then none else if c < i then lastOf k (rss.getD c.toNat []) else if c = i then lastOf k ((rss.getD i []).take q) else none
def Filled (w : World) (rss : List (List Rule)) (i q : Nat) (f : Int → Int → Option Value) : Prop := ∀ c k, RowV w (upto rss i q c k) (f c k)
theorem Filled.start (w : World) (rss : List (List Rule)) : Filled w rss 0 0 (fun _ _ => none) := fun c k => by
  have e : upto rss 0 0 c k = none := by
    unfold upto
    split
    · rfl
    · split
      · omega
      · split
        · simp [lastOf]
        · rfl
  rw [e]
  rfl
theorem Filled.step {w : World} {rss : List (List Rule)} {i q : Nat} {f : Int → Int → Option Value} (h : Filled w rss i q f) {r : Rule} (hq : q < (rss.getD i []).length) (hr : (rss.getD i []).getD q default = r) {A : Option Addr} {n c : Nat}
    (hn : n ≤ 9223372036854775807) (he : Evs w A n r.sends) : Filled w rss i (q + 1) (fun c' k' => if c' = (i : Int) ∧ k' = r.kd then some (r.v (.slice A n c)) else f c' k') := fun c' k' => by
  have h0 := h c' k'
  have e : upto rss i (q + 1) c' k' = if c' = (i : Int) ∧ k' = r.kd then some r else upto rss i q c' k' := by
    unfold upto
    by_cases hc : c' = (i : Int)
    · subst hc
      have n1 : ¬ (i : Int) < 0 := by omega
      have n2 : ¬ (i : Int) < i := by omega
      simp only [if_neg n1, if_neg n2, if_true]; rw [lastOf_take _ _ _ hq, hr]
      by_cases hk : k' = r.kd
      · rw [if_pos hk.symm, if_pos ⟨trivial, hk⟩]
      · rw [if_neg (fun e => hk e.symm), if_neg (fun e => hk e.2)]
    · rw [if_neg hc, if_neg (fun e : c' = (i : Int) ∧ k' = r.kd => hc e.1), if_neg hc]
  rw [e]
  by_cases hc : c' = (i : Int) ∧ k' = r.kd
  · simp only [if_pos hc]
    exact ⟨A, n, c, rfl, hn, he⟩
  · simp only [if_neg hc]
    exact h0
theorem Filled.row {w : World} {rss : List (List Rule)} {i q : Nat} {f : Int → Int → Option Value} (h : Filled w rss i q f) (hq : (rss.getD i []).length ≤ q) : Filled w rss (i + 1) 0 f := fun c k => by
  have h0 := h c k
  have e : upto rss (i + 1) 0 c k = upto rss i q c k := by
    unfold upto
    by_cases h1 : c < 0
    · rw [if_pos h1, if_pos h1]
    · rw [if_neg h1, if_neg h1]
      by_cases h2 : c < (i : Int)
      · rw [if_pos h2, if_pos (by omega)]
      · rw [if_neg h2]
        by_cases h3 : c = (i : Int)
        · subst h3
          rw [if_pos (by omega), if_pos rfl, List.take_of_length_le hq]; simp
        · rw [if_neg (by omega), if_neg h3]
          split
          · simp [lastOf]
          · rfl
  rw [e]
  exact h0
/-- The map of a model. -/
def Mach (w : World) (b : Nat) (m : Mdl) : Prop :=
  ∃ N f, RMap w b N f ∧ ∀ c k, RowV w (if 0 ≤ c then ruleOf k (m.rules.getD c.toNat []) else none) (f c k)
theorem Filled.done {w : World} {m : Mdl} (hm : mdlB m = true) {f : Int → Int → Option Value} (h : Filled w m.rules m.rules.length 0 f) : ∀ c k, RowV w (if 0 ≤ c then ruleOf k (m.rules.getD c.toNat []) else none) (f c k) := fun c k => by
  have h0 := h c k
  have e : upto m.rules m.rules.length 0 c k = if 0 ≤ c then ruleOf k (m.rules.getD c.toNat []) else none := by
    unfold upto
    by_cases h1 : c < 0
    · rw [if_pos h1, if_neg (show ¬ (0 : Int) ≤ c by omega)]
    · rw [if_neg h1, if_pos (show (0 : Int) ≤ c by omega)]
      by_cases h2 : c < (m.rules.length : Int)
      · rw [if_pos h2, lastOf_ruleOf (mdlB_row hm c.toNat (by omega))]
      · rw [if_neg h2]
        have : m.rules.getD c.toNat [] = [] := by
          rw [List.getD, List.getElem?_eq_none (by omega)]
          rfl
        rw [this]
        split
        · simp [lastOf, ruleOf]
        · rfl
  rw [← e]
  exact h0
theorem Mach.up {w w' : World} {b : Nat} {m : Mdl} (h : Mach w b m) (u : Up w w') : Mach w' b m := by
  obtain ⟨N, f, h1, h2⟩ := h
  exact ⟨N, f, h1.up u, fun c k => (h2 c k).up u⟩
/-- Looked up. -/
theorem Mach.look {w W : World} {b : Nat} {m : Mdl} (h : Mach w b m) (u : Up w W) (c k : Int) (hc : I64 c) (hk : I64 k) (h0 : 0 ≤ c) :
    (ruleOf k (m.rules.getD c.toNat []) = none ∧ (Instr.lookup 107 (.map (some b)) (.agg #[.int .i64 c, .int .i64 k]) true).run Try.prog W = .ok (.tuple #[.agg #[.int .i64 0, .int .i64 0, .int .i64 0, .int .i64 0, .slice none 0 0], .bool false]) W) ∨
    ∃ r A n cp, ruleOf k (m.rules.getD c.toNat []) = some r ∧ n ≤ 9223372036854775807 ∧ Evs w A n r.sends ∧ (Instr.lookup 107 (.map (some b)) (.agg #[.int .i64 c, .int .i64 k]) true).run Try.prog W = .ok (.tuple #[.agg #[.int .i64 r.kd, .int .i64 r.a, .int .i64 r.b, .int .i64 r.c, .slice A n cp], .bool true]) W := by
  obtain ⟨N, f, h1, h2⟩ := h
  have hr := h2 c k
  rw [if_pos h0] at hr
  have hl := (h1.up u).look c k hc hk
  cases ho : ruleOf k (m.rules.getD c.toNat []) with
  | none =>
    rw [ho] at hr; unfold RowV at hr; dsimp only at hr; rw [hr] at hl
    exact .inl ⟨rfl, hl⟩
  | some r =>
    rw [ho] at hr; obtain ⟨A, n, cp, e, hn, he⟩ := hr; rw [e] at hl
    exact .inr ⟨r, A, n, cp, rfl, hn, he, hl⟩
theorem wpList_store_R {P : Program} (hP : P = Try.prog) (w : World) {ops : Array Oper} {rest : List Oper} {o : Oper} {a : Act} {Q : Exit → Act → World → Prop}
    (hg : o.guard = none) (m x v : Operand) (hop : o.op = Op.mapUpdate 107 m x v) (b n : Nat) (f : Int → Int → Option Value) (hm : a.eval m = .map (some b)) (h : RMap w b n f) (hn : n < maxLen)
    (c k : Int) (hx : a.eval x = .agg #[.int .i64 c, .int .i64 k]) (hc : I64 c) (hk : I64 k) (val : Value) (hv : a.eval v = val)
    (hK : ∀ w', RMap w' b (n + 1) (fun c' k' => if c' = c ∧ k' = k then some val else f c' k') → Mv b w w' → wpList P ops Q rest (a.put o.dst undef) w') : wpList P ops Q (o :: rest) a w := by
  subst hP
  refine wpList_plain hg fun K' hK' => ?_
  obtain ⟨w', hrun, r1, r2⟩ := h.store hn c k hc hk val; unfold Oper.wp; simp [execOp, hop, hm, hx, hv, hrun, Result.andThen]
  exact hK' _ _ (hK w' r1 r2)
end Go.Proofs.Ytklldniapombiaa

namespace Go.Proofs.Ytklldniapombiaa
set_option maxRecDepth 100000
open Go.RowKit
theorem info76 : (Try.prog.info? 76).map (fun i => (i.zero, i.size, i.bytes)) = some (some (.agg #[.int .i64 0, .int .i64 0, .int .i64 0]), 3, 24) := by kernel_rfl
/-- A new slice of k component states of zeros (nil, where k is 0, may stand for it). -/
def ZeroC (lo k : Nat) (v : Value) (w : World) : Prop :=
  (k = 0 ∧ v = .slice none 0 0) ∨ ∃ g, v = .slice (some ⟨g, 0, none⟩) k k ∧ lo ≤ g ∧ w.heap[g]? = some (.cells (madeCells #[.int .i64 0, .int .i64 0, .int .i64 0] (k * 3)) 76)
def ZeroS (lo k : Nat) (v : Value) (w : World) : Prop :=
  ∃ g, v = .slice (some ⟨g, 0, none⟩) k k ∧ lo ≤ g ∧ w.heap[g]? = some (.cells (madeCells #[.int .i64 0, .int .i64 0, .int .i64 0] (k * 3)) 76)
theorem ZeroS.up {lo k : Nat} {v : Value} {w w' : World} (h : ZeroS lo k v w) (u : Up w w') : ZeroS lo k v w' := by
  obtain ⟨g, h1, h2, h3⟩ := h
  exact ⟨g, h1, h2, (u.below.block g (Array.getElem?_eq_some_iff.1 h3).1).trans h3⟩
theorem ZeroS.lower {lo lo' k : Nat} {v : Value} {w : World} (h : ZeroS lo k v w) (hl : lo' ≤ lo) : ZeroS lo' k v w := by
  obtain ⟨g, h1, h2, h3⟩ := h
  exact ⟨g, h1, by omega, h3⟩
theorem ZeroS.mv {lo k g : Nat} {v : Value} {w w' : World} (h : ZeroS lo k v w) (m : Mv g w w') (hne : ∀ b, v = .slice (some ⟨b, 0, none⟩) k k → b ≠ g) : ZeroS lo k v w' := by
  obtain ⟨b, h1, h2, h3⟩ := h
  exact ⟨b, h1, h2, (m.block b (Array.getElem?_eq_some_iff.1 h3).1 (hne b h1)).trans h3⟩
/-- An empty literal. -/
def IsLit (lo : Nat) (v : Value) (w : World) : Prop := ∃ g, v = .slice (some ⟨g, 0, none⟩) 0 0 ∧ w.ownsRow lo 74 6 (.slice (some ⟨g, 0, none⟩) 0 0) 0 []
theorem IsLit.up {lo : Nat} {v : Value} {w w' : World} (h : IsLit lo v w) (u : Up w w') : IsLit lo v w' := by
  obtain ⟨g, h1, h2⟩ := h
  exact ⟨g, h1, own_up h2 u⟩
theorem IsLit.new {lo : Nat} (w : World) (h : lo ≤ w.heap.size) : IsLit lo (.slice (some ⟨w.heap.size, 0, none⟩) 0 0) (w.alloc (.cells #[] 74)) :=
  ⟨w.heap.size, rfl, by simpa using World.ownsRow_lit (base := lo) (e := 74) (size := 6) w #[] 0 h (by simp only [maxLen]; omega) (by simp)⟩
theorem isOwnL_of {lo k : Nat} {v : Value} {w : World} {es : List Evt} (h : w.ownsRow lo 74 6 v k (flat es)) (hk : es.length = k) : IsOwnL lo es v w := by
  subst hk
  exact h
theorem mdlB_starts {m : Mdl} (hm : mdlB m = true) : m.starts.length ≤ 6 := by
  simp only [mdlB, startsB, Bool.and_eq_true, decide_eq_true_eq] at hm
  omega
/-- What SeqNew gives. -/
def SqRes (lo : Nat) (m : Mdl) (v : Value) (w : World) : Prop :=
  ∃ vc vw, v = .agg #[vc, vw, .slice none 0 0] ∧ ZeroC lo (if mdlB m = true then m.rules.length else 0) vc w ∧ IsOwnL lo (if mdlB m = true then m.starts else []) vw w
def snA (lo b1 : Nat) (VR VS : Value) (n : Nat) (es : List Evt) (d : Nat) (v : Value) (w : World) : Prop :=
  if d = 7 then v = .pointer (some ⟨b1, 0, none⟩) else if d = 8 then v = VR else if d = 9 then v = .int .i64 n else if d = 10 then ZeroS lo n v w else if d = 11 then IsLit lo v w else if d = 12 then v = .pointer (some ⟨b1, 1, none⟩) else if d = 13 then v = VS else if d = 14 then IsOwnL lo es v w else if d = 15 then ∃ gz Aw cw, v = .agg #[.slice (some ⟨gz, 0, none⟩) n n, .slice Aw es.length cw, .slice none 0 0] ∧ ZeroS lo n (.slice (some ⟨gz, 0, none⟩) n n) w ∧ IsOwnL lo es (.slice Aw es.length cw) w else True
theorem snA_7 (lo b1 : Nat) (VR VS : Value) (n : Nat) (es : List Evt) (v : Value) (w : World) : snA lo b1 VR VS n es 7 v w = (v = .pointer (some ⟨b1, 0, none⟩)) := by simp [snA]
theorem snA_8 (lo b1 : Nat) (VR VS : Value) (n : Nat) (es : List Evt) (v : Value) (w : World) : snA lo b1 VR VS n es 8 v w = (v = VR) := by simp [snA]
theorem snA_9 (lo b1 : Nat) (VR VS : Value) (n : Nat) (es : List Evt) (v : Value) (w : World) : snA lo b1 VR VS n es 9 v w = (v = .int .i64 n) := by simp [snA]
theorem snA_10 (lo b1 : Nat) (VR VS : Value) (n : Nat) (es : List Evt) (v : Value) (w : World) : snA lo b1 VR VS n es 10 v w = (ZeroS lo n v w) := by simp [snA]
theorem snA_11 (lo b1 : Nat) (VR VS : Value) (n : Nat) (es : List Evt) (v : Value) (w : World) : snA lo b1 VR VS n es 11 v w = (IsLit lo v w) := by simp [snA]
theorem snA_12 (lo b1 : Nat) (VR VS : Value) (n : Nat) (es : List Evt) (v : Value) (w : World) : snA lo b1 VR VS n es 12 v w = (v = .pointer (some ⟨b1, 1, none⟩)) := by simp [snA]
theorem snA_13 (lo b1 : Nat) (VR VS : Value) (n : Nat) (es : List Evt) (v : Value) (w : World) : snA lo b1 VR VS n es 13 v w = (v = VS) := by simp [snA]
theorem snA_14 (lo b1 : Nat) (VR VS : Value) (n : Nat) (es : List Evt) (v : Value) (w : World) : snA lo b1 VR VS n es 14 v w = (IsOwnL lo es v w) := by simp [snA]
theorem snA_15 (lo b1 : Nat) (VR VS : Value) (n : Nat) (es : List Evt) (v : Value) (w : World) : snA lo b1 VR VS n es 15 v w = (∃ gz Aw cw, v = .agg #[.slice (some ⟨gz, 0, none⟩) n n, .slice Aw es.length cw, .slice none 0 0] ∧ ZeroS lo n (.slice (some ⟨gz, 0, none⟩) n n) w ∧ IsOwnL lo es (.slice Aw es.length cw) w) := by simp [snA]
theorem snA_up (lo b1 : Nat) (VR VS : Value) (n : Nat) (es : List Evt) (d : Nat) {v : Value} {w w' : World} (h : snA lo b1 VR VS n es d v w) (u : Up w w') : snA lo b1 VR VS n es d v w' := by
  unfold snA at h ⊢
  by_cases h7 : d = 7
  · rw [if_pos h7] at h ⊢
    exact h
  rw [if_neg h7] at h ⊢
  by_cases h8 : d = 8
  · rw [if_pos h8] at h ⊢
    exact h
  rw [if_neg h8] at h ⊢
  by_cases h9 : d = 9
  · rw [if_pos h9] at h ⊢
    exact h
  rw [if_neg h9] at h ⊢
  by_cases h10 : d = 10
  · rw [if_pos h10] at h ⊢
    exact h.up u
  rw [if_neg h10] at h ⊢
  by_cases h11 : d = 11
  · rw [if_pos h11] at h ⊢
    exact h.up u
  rw [if_neg h11] at h ⊢
  by_cases h12 : d = 12
  · rw [if_pos h12] at h ⊢
    exact h
  rw [if_neg h12] at h ⊢
  by_cases h13 : d = 13
  · rw [if_pos h13] at h ⊢
    exact h
  rw [if_neg h13] at h ⊢
  by_cases h14 : d = 14
  · rw [if_pos h14] at h ⊢
    exact h.up u
  rw [if_neg h14] at h ⊢
  by_cases h15 : d = 15
  · rw [if_pos h15] at h ⊢
    exact (by obtain ⟨gz, Aw, cw, h0, h1, h2⟩ := h; exact ⟨gz, Aw, cw, h0, h1.up u, h2.up u⟩)
  rw [if_neg h15] at h ⊢
  exact trivial
set_option maxHeartbeats 600000 in
theorem specSeqNew_any (A : Option Addr) (n c : Nat) (B : Option Addr) (k d : Nat) (m : Mdl) (w : World) (hM : MdlV w A n B k m) :
    Calls Try.prog 98 #[.agg #[.slice A n c, .slice B k d, .int .i64 m.til]] w fun x w' => ∃ v, x = .returned v ∧ SqRes w.heap.size m v w' ∧ Up w w' := by
  obtain ⟨i0, hi0, hz0, hz1, hz2⟩ := info_parts info74
  have INF := Lib.hid (And.intro hi0 (And.intro hz0 (And.intro hz1 hz2)))
  have SIX := Lib.hid (show 0 < 6 by omega)
  obtain ⟨i1, hi, hy0, hy1, hy2⟩ := info_parts info76
  have HMK := Lib.hid (fun (q : Nat) (hq : q ≤ 4) W => run_make_rowN (P := Try.prog) 59 76 i1 _ Try.underlying59 hi hy0 .i64 .i64 q q (Nat.le_refl _) (by rw [hy2]; omega) (by omega) W)
  rw [hy1] at HMK; clear hi0 hz0 hz1 hz2 hi hy0 hy1 hy2
  have HM := Lib.hid hM
  have LR := Lib.hid hM.rules.1
  have U0 := Lib.hid (((Up.refl w).alloc (.cells #[.slice A n c, .slice B k d, .int .i64 m.til] 36)).alloc (.cells #[.slice none 0 0, .slice none 0 0, .slice none 0 0] 62))
  have BX := Lib.hid ((Box3.new w (.slice A n c) (.slice B k d) (.int .i64 m.til) 36).up ((Up.refl _).alloc (.cells #[.slice none 0 0, .slice none 0 0, .slice none 0 0] 62)))
  have X2 := Lib.hid (Box3.new (w.alloc (.cells #[.slice A n c, .slice B k d, .int .i64 m.til] 36)) (.slice none 0 0) (.slice none 0 0) (.slice none 0 0) 62)
  have F2 := Lib.hid (fun j => free_new (w.alloc (.cells #[.slice A n c, .slice B k d, .int .i64 m.til] 36)) #[.slice none 0 0, .slice none 0 0, .slice none 0 0] 62 j)
  simp only [World.size_alloc] at X2 F2
  have CI := Lib.hid (fun W (u : Up w W) => specMdl_any A n c B k d m W (hM.up u))
  generalize hmb : mdlB m = g at CI
  have HB := Lib.hid hmb
  clear hM hmb
  go_enter Try.func98, Try.ntmps98
  go_wp2_with fail
  refine (CI.out _ U0.out).mono ?_; rintro x w1 ⟨rfl, u1⟩
  have U1 := Lib.hid (U0.out.trans u1)
  have BX := Lib.hid (BX.out.up u1)
  have x2 := X2.out.up u1
  have f2 : ∀ j, w1.frozen? ⟨w.heap.size + 1, j, none⟩ = false := fun j => (u1.frozens _ _ (by simp)).trans (F2.out j)
  have X2 := Lib.hid x2
  have F2 := Lib.hid f2
  clear u1 x2 f2
  cases g
  · have K := set3_at (w := w1) (b := w.heap.size + 1) (x := .slice none 0 0) (y := .slice none 0 0) (z := .slice none 0 0) (fun j hj => by
      have h3 : j = 0 ∨ j = 1 ∨ j = 2 := by omega
      rcases h3 with rfl | rfl | rfl
      · exact ⟨_, X2.out.c0⟩
      · exact ⟨_, X2.out.c1⟩
      · exact ⟨_, X2.out.c2⟩)
    have UE := Lib.hid (((U1.out.setCell (p := ⟨w.heap.size + 1, 0, none⟩) (by dsimp only; omega) (.slice none 0 0)).setCell (p := ⟨w.heap.size + 1, 1, none⟩) (by dsimp only; omega) (.slice none 0 0)).setCell (p := ⟨w.heap.size + 1, 2, none⟩) (by dsimp only; omega) (.slice none 0 0))
    obtain ⟨k0, k1, k2⟩ := K; obtain ⟨q0, q1, q2⟩ := And.intro X2.out.c0 (And.intro X2.out.c1 X2.out.c2)
    have qf := F2.out
    go_wp2
    exact bodyPost_ret (v := .agg #[.slice none 0 0, .slice none 0 0, .slice none 0 0]) (by simp [results, Try.results98, go_sem, k0, k1, k2]) rfl ⟨_, rfl, ⟨.slice none 0 0, .slice none 0 0, rfl, by rw [HB.out]; exact .inl ⟨rfl, rfl⟩, by rw [HB.out]; exact World.ownsRow_nil _ _ _ _⟩, UE.out⟩
  · have hsz1 : w.heap.size + 1 < w1.heap.size := X2.out.lt
    have FEW := Lib.hid (mdlB_few HB.out)
    have hn4 : n ≤ 4 := by have := FEW.out; have := LR.out; omega
    have hk6 := mdlB_starts HB.out
    have ES := Lib.hid (HM.out.starts.up U1.out)
    have LS := Lib.hid HM.out.starts.1
    have hk6 : k ≤ 6 := by have := LS.out; omega
    have HMN := Lib.hid (fun W => HMK.out n hn4 W)
    clear HMK
    have HW1 := Lib.hid U1.out.size
    go_wp2_with fail
    generalize hb1 : w.heap.size = b1 at *
    generalize w1 = W0 at *
    refine region_relyT 9 [] [(9, false)] [7, 8, 9, 10, 11, 12, 13, 14, 15] 9 (fun _ w1 => Up W0 w1) Up (fun i v w => snA W0.heap.size b1 (.slice A n c) (.slice B k d) n m.starts i v w) (by kernel_rfl) (by kernel_rfl) (by kernel_rfl) (by kernel_rfl) ((Up.refl _).drew) (fun slot_ _ _ _ h u => snA_up W0.heap.size b1 (.slice A n c) (.slice B k d) n m.starts slot_ h u) ?_ ?_ ?_
    · simp only [List.take_succ_cons, List.take_zero]
      refine stepsT_op (by kernel_rfl) ?_ ?_
      · intro X w1 k1 hG hdep
        simp only [opW_def, mixT]; go_simp
        exact ⟨⟨_, by first | rfl | simp [Act.put], Up.refl _, hG, (show snA W0.heap.size b1 (.slice A n c) (.slice B k d) n m.starts 7 _ _ from by first | (rw [snA_7]; exact rfl) | rw [snA_7])⟩⟩
      refine stepsT_op (by kernel_rfl) ?_ ?_
      · intro X w1 k1 hG hdep
        have e7 : snA W0.heap.size b1 (.slice A n c) (.slice B k d) n m.starts 7 (X 7) w1 := hdep 7 (by decide +kernel)
        rw [snA_7] at e7; obtain ⟨p0, p1, p2⟩ := And.intro (BX.out.up hG).c0 (And.intro (BX.out.up hG).c1 (BX.out.up hG).c2); simp only [opW_def, mixT, e7]; go_simp
        exact ⟨⟨_, by first | rfl | simp [Act.put], Up.refl _, hG, (show snA W0.heap.size b1 (.slice A n c) (.slice B k d) n m.starts 8 _ _ from by first | (rw [snA_8]; exact rfl) | rw [snA_8])⟩⟩
      refine stepsT_op (by kernel_rfl) ?_ ?_
      · intro X w1 k1 hG hdep
        have e8 : snA W0.heap.size b1 (.slice A n c) (.slice B k d) n m.starts 8 (X 8) w1 := hdep 8 (by decide +kernel)
        rw [snA_8] at e8; simp only [opW_def, mixT, e8]; go_simp
        exact ⟨⟨_, by first | rfl | simp [Act.put], Up.refl _, hG, (show snA W0.heap.size b1 (.slice A n c) (.slice B k d) n m.starts 9 _ _ from by first | (rw [snA_9]; exact rfl) | rw [snA_9])⟩⟩
      refine stepsT_op (by kernel_rfl) ?_ ?_
      · intro X w1 k1 hG hdep
        have e9 : snA W0.heap.size b1 (.slice A n c) (.slice B k d) n m.starts 9 (X 9) w1 := hdep 9 (by decide +kernel)
        rw [snA_9] at e9
        have hlo := hG.size
        have hmk := HMN.out w1
        simp only [opW_def, mixT, e9]; go_simp
        exact ⟨⟨_, by first | rfl | simp [Act.put], (Up.refl _).alloc _, hG.alloc _, (show snA W0.heap.size b1 (.slice A n c) (.slice B k d) n m.starts 10 _ _ from by first | (rw [snA_10]; exact ⟨_, rfl, hlo, heap_alloc_new _ _⟩) | rw [snA_10])⟩⟩
      refine stepsT_op (by kernel_rfl) ?_ ?_
      · intro X w1 k1 hG hdep
        have hlo := hG.size
        simp only [opW_def, mixT]; go_simp
        exact ⟨⟨_, by first | rfl | simp [Act.put], (Up.refl _).alloc _, hG.alloc _, (show snA W0.heap.size b1 (.slice A n c) (.slice B k d) n m.starts 11 _ _ from by first | (rw [snA_11]; exact IsLit.new w1 hlo) | rw [snA_11])⟩⟩
      refine stepsT_op (by kernel_rfl) ?_ ?_
      · intro X w1 k1 hG hdep
        simp only [opW_def, mixT]; go_simp
        exact ⟨⟨_, by first | rfl | simp [Act.put], Up.refl _, hG, (show snA W0.heap.size b1 (.slice A n c) (.slice B k d) n m.starts 12 _ _ from by first | (rw [snA_12]; exact rfl) | rw [snA_12])⟩⟩
      refine stepsT_op (by kernel_rfl) ?_ ?_
      · intro X w1 k1 hG hdep
        have e12 : snA W0.heap.size b1 (.slice A n c) (.slice B k d) n m.starts 12 (X 12) w1 := hdep 12 (by decide +kernel)
        rw [snA_12] at e12; obtain ⟨p0, p1, p2⟩ := And.intro (BX.out.up hG).c0 (And.intro (BX.out.up hG).c1 (BX.out.up hG).c2); simp only [opW_def, mixT, e12]; go_simp
        exact ⟨⟨_, by first | rfl | simp [Act.put], Up.refl _, hG, (show snA W0.heap.size b1 (.slice A n c) (.slice B k d) n m.starts 13 _ _ from by first | (rw [snA_13]; exact rfl) | rw [snA_13])⟩⟩
      refine stepsT_op (by kernel_rfl) ?_ ?_
      · intro X w1 k1 hG hdep
        have e11 : snA W0.heap.size b1 (.slice A n c) (.slice B k d) n m.starts 11 (X 11) w1 := hdep 11 (by decide +kernel)
        rw [snA_11] at e11; obtain ⟨g1, e11, o1⟩ := e11
        have e13 : snA W0.heap.size b1 (.slice A n c) (.slice B k d) n m.starts 13 (X 13) w1 := hdep 13 (by decide +kernel)
        rw [snA_13] at e13
        have hlo := hG.size
        have ES1 := ES.out.up hG
        simp only [opW_def, mixT, e11, e13]; refine wp_append_lit (P := Try.prog) w1 (.tmp 11) (.tmp 13) 34 rfl W0.heap.size 74 i0 _ 6 48 Try.underlying34 INF.out.1 INF.out.2.1 INF.out.2.2.1 INF.out.2.2.2 rfl SIX.out g1 (by go_simp) o1 _ B k d (flat m.starts) (by go_simp) ES1.reads (flat_one _) (by simp only [maxLen]; omega) (by omega) hlo ?_; intro v' w' ho u
        exact ⟨⟨v', by first | rfl | simp [Act.put], u, hG.trans u, (show snA W0.heap.size b1 (.slice A n c) (.slice B k d) n m.starts 14 _ _ from by first | (rw [snA_14]; exact isOwnL_of ho LS.out) | rw [snA_14])⟩⟩
      refine stepsT_op (by kernel_rfl) ?_ ?_
      · intro X w1 k1 hG hdep
        have e10 : snA W0.heap.size b1 (.slice A n c) (.slice B k d) n m.starts 10 (X 10) w1 := hdep 10 (by decide +kernel)
        rw [snA_10] at e10; obtain ⟨gz, e10, z1, z2⟩ := e10
        have e14 : snA W0.heap.size b1 (.slice A n c) (.slice B k d) n m.starts 14 (X 14) w1 := hdep 14 (by decide +kernel)
        rw [snA_14] at e14; obtain ⟨_, Aw, cw, e14v, _, _⟩ := own_slice e14; simp only [opW_def, mixT, e10, e14v]; go_simp
        exact ⟨⟨_, by first | rfl | simp [Act.put], Up.refl _, hG, (show snA W0.heap.size b1 (.slice A n c) (.slice B k d) n m.starts 15 _ _ from by first | (rw [snA_15]; exact ⟨gz, Aw, cw, rfl, ⟨gz, rfl, z1, z2⟩, by rw [← e14v]; exact e14⟩) | rw [snA_15])⟩⟩
      exact trivial
    · intro h p _ hp
      cases hp
    · intro X w1 hG hR
      have e15 : snA W0.heap.size b1 (.slice A n c) (.slice B k d) n m.starts 15 (X 15) w1 := hR 8 (by omega)
      rw [snA_15] at e15; obtain ⟨gz, Aw, cw, e15, hvc, hvw⟩ := e15
      have UE0 := Lib.hid (U1.out.trans hG)
      have X2 := Lib.hid (X2.out.up hG)
      have F2 := Lib.hid (fun j => (hG.frozens (b1 + 1) j hsz1).trans (F2.out j))
      have ZC0 := Lib.hid hvc
      have ZW0 := Lib.hid hvw
      have ZC := Lib.hid (ZeroS.lower hvc HW1.out)
      clear hR hG hvc hvw BX ES; simp only [mixT, e15]; obtain ⟨q0, q1, q2⟩ := And.intro X2.out.c0 (And.intro X2.out.c1 X2.out.c2)
      have qf := F2.out
      have ql := X2.out.lt
      refine mix_go rfl (by rfl) (fun K hK => ?_); go_simp; refine hK _ _ ?_; clear hK K; refine mix_nil ?_
      have hbw : ∀ j, w.heap.size ≤ (⟨b1 + 1, j, none⟩ : Addr).block := fun j => by dsimp only; omega
      have UE := Lib.hid (((UE0.out.setCell (hbw 0) (.slice (some ⟨gz, 0, none⟩) n n)).setCell (hbw 1) (.slice Aw m.starts.length cw)).setCell (hbw 2) (.slice none 0 0))
      have K := set3_at (w := w1) (b := b1 + 1) (x := .slice (some ⟨gz, 0, none⟩) n n) (y := .slice Aw m.starts.length cw) (z := .slice none 0 0) (fun j hj => by
        have h3 : j = 0 ∨ j = 1 ∨ j = 2 := by omega
        rcases h3 with rfl | rfl | rfl
        · exact ⟨_, X2.out.c0⟩
        · exact ⟨_, X2.out.c1⟩
        · exact ⟨_, X2.out.c2⟩)
      obtain ⟨k0, k1, k2⟩ := K
      have ne1 : gz ≠ b1 + 1 := by obtain ⟨g', h1, h2, _⟩ := ZC0.out; injection h1 with h1; injection h1 with h1; injection h1 with h1 _ _; omega
      have MK := Lib.hid ((((Mv.refl (b1 + 1) w1).setCell (o := 0) (.slice (some ⟨gz, 0, none⟩) n n)).setCell (o := 1) (.slice Aw m.starts.length cw)).setCell (o := 2) (.slice none 0 0))
      have ZE := Lib.hid (ZC.out.mv MK.out (fun b h => by injection h with h; injection h with h; injection h with h _ _; omega))
      have OE := Lib.hid (own_mv ZW0.out MK.out hsz1)
      have EQ1 : (if mdlB m = true then m.rules.length else 0) = n := by rw [if_pos HB.out, LR.out]
      have EQ2 : (if mdlB m = true then m.starts else []) = m.starts := if_pos HB.out
      have EQ1 := Lib.hid EQ1
      have EQ2 := Lib.hid EQ2
      clear ne1; go_wp2
      exact bodyPost_ret (v := .agg #[.slice (some ⟨gz, 0, none⟩) n n, .slice Aw m.starts.length cw, .slice none 0 0]) (by simp [results, Try.results98, go_sem, k0, k1, k2]) rfl ⟨_, rfl, ⟨_, _, rfl, by rw [EQ1.out]; exact .inr (by obtain ⟨g', h1, h2, h3⟩ := ZE.out; exact ⟨g', h1, h2, h3⟩), by rw [EQ2.out]; exact own_mono OE.out (by omega)⟩, UE.out⟩
end Go.Proofs.Ytklldniapombiaa

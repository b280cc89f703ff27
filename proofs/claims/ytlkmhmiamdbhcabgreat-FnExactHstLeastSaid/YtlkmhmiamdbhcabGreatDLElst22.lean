/-
  The machine's map of rules, in one sentence: a block that is a map by component and kind has the values that a function tells; looked up, stored into, kept; no condition is made.
  What a machine's map holds, in one sentence: for each component and kind the model's rule, if there is one; no condition is made.
  What spec.HstOk returns, in one sentence: whether the model is one and the host is one; for every model and host that lie in memory.
-/
import Derived.DeepKeys4
import Derived.Maps.OwnSet
import Derived.Test.YtlkmhmiamdbhcabGreatDLElst07
import Derived.Test.YtlkmhmiamdbhcabGreatDLElst13
import Derived.Test.YtlkmhmiamdbhcabGreatDLElst14
import Derived.Test.YtlkmhmiamdbhcabGreatDLElst20
import Derived.Test.YtlkmhmiamdbhcabGreatDLElst21
namespace Go.Proofs.YtlkmhmiamdbhcabGreat
set_option maxRecDepth 100000
open Go.RowKit
open Go.Maps (Keyed)
/-- A key. -/
def keyV (c k : Int) : Value := .agg #[.int .i64 c, .int .i64 k]
/-- What an element reads as: itself. -/
def valR (v : Value) : Option (DataW Value × List MemPlace) := some (.held v, [])
def ZRv : Value := .agg #[.int .i64 0, .int .i64 0, .int .i64 0, .int .i64 0, .slice none 0 0]
theorem laidOut_ : laidOutB Tryz.prog = true := by kernel_rfl
theorem keyLaw : Keyed Tryz.prog 164 :=
  Keyed.of_law (deep_law_laid laidOut_ (m := 2) (by omega) (of_decide_eq_true (by kernel_rfl)) (by kernel_rfl) (by kernel_rfl))
theorem keyCells : Tryz.prog.cellsOf 164 = 2 := by kernel_rfl
theorem keyType_ : Tryz.prog.keyType 164 = true := by kernel_rfl
theorem intCells : Tryz.prog.cellsOf 3 = 1 := by kernel_rfl
theorem typesMany : 2 ≤ Tryz.prog.types.size := of_decide_eq_true (by kernel_rfl)
theorem zeroRule (w : World) : (zeroValue 161).run Tryz.prog w = .ok ZRv w := by kernel_rfl
theorem key_ex (c k : Int) (hc : I64 c) (hk : I64 k) : ∃ l, keyOf Tryz.prog 164 (keyV c k) = some l := by
  obtain ⟨n, hn⟩ := Nat.exists_eq_add_of_le typesMany
  have wc : (Lit.int .i64 c).wf = true := by unfold I64 at hc; simp [Lit.wf, IntKind.min, IntKind.max, IntKind.signed, IntKind.bits]; omega
  have wk : (Lit.int .i64 k).wf = true := by unfold I64 at hk; simp [Lit.wf, IntKind.min, IntKind.max, IntKind.signed, IntKind.bits]; omega
  have e : Tryz.prog.types.size + 1 = n + 1 + 1 + 1 := by omega
  unfold keyOf keyV; rw [Tryz.underlying164]; dsimp only; rw [keyType_, e]; simp [Value.formed, Tryz.underlying164, Tryz.underlying3, keyCells, intCells, Program.keyLits, Value.cells, wc, wk]
/-- Block b is a map of at most n entries that has the values of f. -/
def RMap (w : World) (b n : Nat) (f : Int → Int → Option Value) : Prop :=
  ∃ D : DataW Value, w.ownsMap Tryz.prog 164 valR b n D ∧ Maps.IsMap D ∧ ∀ c k l, keyOf Tryz.prog 164 (keyV c k) = some l → (∀ zd, D.atKey l zd = match f c k with | some v => .held v | none => zd) ∧ Maps.has D l = (f c k).isSome
theorem RMap.made (w : World) : RMap (w.alloc (.map #[] 0)) w.heap.size 0 (fun _ _ => none) :=
  ⟨.map [], World.ownsMap_made w _ _ _, Maps.isMap_empty, fun _ _ _ _ => ⟨fun _ => rfl, rfl⟩⟩
theorem RMap.lt {w : World} {b n : Nat} {f : Int → Int → Option Value} (h : RMap w b n f) : b < w.heap.size := by
  obtain ⟨D, h, _⟩ := h
  exact h.lt
theorem RMap.block {w w' : World} {b n : Nat} {f : Int → Int → Option Value} (h : RMap w b n f) (e : w'.heap[b]? = w.heap[b]?) : RMap w' b n f := by
  obtain ⟨D, ⟨es, cl, hb, F, hs, hD⟩, hr⟩ := h
  exact ⟨D, ⟨es, cl, e.trans hb, F, hs, hD⟩, hr⟩
theorem RMap.up {w w' : World} {b n : Nat} {f : Int → Int → Option Value} (h : RMap w b n f) (u : Up w w') : RMap w' b n f := h.block (u.below.block b h.lt)
theorem RMap.setFar {w : World} {b n : Nat} {f : Int → Int → Option Value} (h : RMap w b n f) {p : Addr} (hp : p.block ≠ b) (u : Value) : RMap (w.setCell p u) b n f := h.block (Below.heap_setCell w p u b (fun e => hp e.symm))
theorem RMap.look {w : World} {b n : Nat} {f : Int → Int → Option Value} (h : RMap w b n f) (c k : Int) (hc : I64 c) (hk : I64 k) :
    (Instr.lookup 123 (.map (some b)) (.agg #[.int .i64 c, .int .i64 k]) true).run Tryz.prog w = .ok (.tuple #[(f c k).getD ZRv, .bool (f c k).isSome]) w := by
  obtain ⟨D, ho, _, hr⟩ := h; obtain ⟨l, hl⟩ := key_ex c k hc hk; obtain ⟨h1, h2⟩ := hr c k l hl; obtain ⟨v, ps, hrun, hv⟩ := ho.look_ok keyLaw Tryz.underlying123 (zeroRule w) (zd := .held ZRv) (zp := []) rfl hl
  have e : v = (f c k).getD ZRv := by
    rw [h1 (.held ZRv)] at hv; simp only [valR, Option.some.injEq, Prod.mk.injEq] at hv
    cases hf : f c k with
    | none => rw [hf] at hv; simpa using hv.1
    | some u => rw [hf] at hv; simpa using hv.1
  rw [h2, e] at hrun
  exact hrun
theorem mapTurned_mv {w w' : World} {b : Nat} (h : w.mapTurned w' b) : Mv b w w' := by
  obtain ⟨es, clock, es', clock', hb, rfl⟩ := h
  exact ⟨rfl, rfl, rfl, by simp [ChangeMaps.setBlock], fun k _ hne => ChangeMaps.heap_setBlock_other hb _ hne⟩
theorem RMap.store {w : World} {b n : Nat} {f : Int → Int → Option Value} (h : RMap w b n f) (hn : n < maxLen) (c k : Int) (hc : I64 c) (hk : I64 k) (v : Value) :
    ∃ w', (Instr.mapUpdate 123 (.map (some b)) (.agg #[.int .i64 c, .int .i64 k]) v).run Tryz.prog w = .ok () w' ∧ RMap w' b (n + 1) (fun c' k' => if c' = c ∧ k' = k then some v else f c' k') ∧ Mv b w w' := by
  obtain ⟨D, ho, hm, hr⟩ := h; obtain ⟨l, hl⟩ := key_ex c k hc hk; obtain ⟨w', hrun, ho', ht⟩ := ho.store keyLaw Tryz.underlying123 hn (val := v) (d := .held v) (ps := []) hl rfl; refine ⟨w', hrun, ⟨D.put l (.held v), ho', hm.put _ _, fun c' k' l' hl' => ?_⟩, mapTurned_mv ht⟩
  by_cases e : l' = l
  · subst e
    have hkk := keyLaw.inj hl' hl
    simp only [keyV, Value.agg.injEq] at hkk
    have h0 := congrArg (fun a => a[0]?) hkk
    have h1 := congrArg (fun a => a[1]?) hkk
    simp at h0 h1; simp only [if_pos (And.intro h0 h1)]
    exact ⟨fun zd => Maps.atKey_put_same hm (keyLaw.key hl) _ _, Maps.has_put_same hm (keyLaw.key hl) _⟩
  · have hne : ¬ (c' = c ∧ k' = k) := fun ⟨h0, h1⟩ => by
      subst h0 h1; rw [hl] at hl'
      injection hl' with hl'
      exact e hl'.symm
    simp only [if_neg hne]; obtain ⟨h1, h2⟩ := hr c' k' l' hl'
    exact ⟨fun zd => (Maps.atKey_put_other e _ _).trans (h1 zd), (Maps.has_put_other e _).trans h2⟩
end Go.Proofs.YtlkmhmiamdbhcabGreat

namespace Go.Proofs.YtlkmhmiamdbhcabGreat
set_option maxRecDepth 100000
open Go.RowKit
/-- A rule as a value over a slice that holds its sends. -/
def RowV (w : World) (o : Option Rule) (v : Option Value) : Prop :=
  match o with
  | none => v = none
  | some r => ∃ A n c, v = some (r.v (.slice A n c)) ∧ n ≤ 9223372036854775807 ∧ Evs w A n r.sends
theorem RowV.up {w w' : World} {o : Option Rule} {v : Option Value} (h : RowV w o v) (u : Up w w') : RowV w' o v := by
  cases o with
  | none => exact h
  | some r =>
    obtain ⟨A, n, c, h1, h2, h3⟩ := h
    exact ⟨A, n, c, h1, h2, h3.up u⟩
/-- The last rule of a kind. -/
def lastOf (kd : Int) : List Rule → Option Rule
  | [] => none
  | r :: rs => match lastOf kd rs with
    | some x => some x
    | none => if r.kd = kd then some r else none
theorem lastOf_snoc (kd : Int) (r : Rule) : ∀ rs : List Rule, lastOf kd (rs ++ [r]) = if r.kd = kd then some r else lastOf kd rs
  | [] => by simp [lastOf]
  | x :: rs => by
    rw [List.cons_append, lastOf, lastOf_snoc kd r rs]
    by_cases h : r.kd = kd
    · simp [h]
    · simp only [if_neg h]
      rw [lastOf]
theorem lastOf_take (kd : Int) (rs : List Rule) (q : Nat) (h : q < rs.length) : lastOf kd (rs.take (q + 1)) = if (rs.getD q default).kd = kd then some (rs.getD q default) else lastOf kd (rs.take q) := by
  rw [List.take_succ_eq_append_getElem h, lastOf_snoc]; simp [h]
theorem lastOf_past {many kd : Int} : ∀ {bf : Int} {rs : List Rule}, rulesB many bf rs = true → kd ≤ bf → lastOf kd rs = none
  | _, [], _, _ => rfl
  | bf, x :: rs, h, hk => by
    rw [rulesB, Bool.and_eq_true, Bool.and_eq_true] at h
    have h1 := of_decide_eq_true h.1.1
    rw [lastOf, lastOf_past h.2 (by omega)]
    exact if_neg (by omega)
theorem lastOf_ruleOf {many kd : Int} : ∀ {bf : Int} {rs : List Rule}, rulesB many bf rs = true → lastOf kd rs = ruleOf kd rs
  | _, [], _ => rfl
  | bf, x :: rs, h => by
    rw [rulesB, Bool.and_eq_true, Bool.and_eq_true] at h; rw [lastOf, ruleOf]
    by_cases hk : x.kd = kd
    · rw [lastOf_past h.2 (by omega), if_pos hk]
      exact (if_pos hk).symm
    · rw [lastOf_ruleOf h.2, if_neg hk, if_neg hk]
      cases ruleOf kd rs <;> rfl
theorem rulesB_len {many : Int} : ∀ {bf : Int} {rs : List Rule}, rulesB many bf rs = true → -1 ≤ bf → bf ≤ 2 → (rs.length : Int) ≤ 2 - bf
  | bf, [], _, _, h2 => by simp; omega
  | bf, x :: rs, h, h1, h2 => by
    rw [rulesB, Bool.and_eq_true, Bool.and_eq_true] at h
    have k1 := of_decide_eq_true h.1.1
    have k2 := h.1.2
    simp only [ruleB, Bool.and_eq_true, inB_iff] at k2
    have := rulesB_len h.2 (by omega) (by omega)
    simp only [List.length_cons]
    omega
theorem rulesB_mem {many : Int} : ∀ {bf : Int} {rs : List Rule}, rulesB many bf rs = true → ∀ i, i < rs.length → ruleB (rs.getD i default) many = true
  | _, [], _, _, h => absurd h (by simp)
  | bf, x :: rs, h, 0, _ => by
    rw [rulesB, Bool.and_eq_true, Bool.and_eq_true] at h
    exact h.1.2
  | bf, x :: rs, h, i + 1, hi => by
    rw [rulesB, Bool.and_eq_true, Bool.and_eq_true] at h
    simpa using rulesB_mem h.2 i (by simpa using hi)
theorem mdlB_row {m : Mdl} (hm : mdlB m = true) (i : Nat) (hi : i < m.rules.length) : rulesB m.rules.length (-1) (m.rules.getD i []) = true := by
  simp only [mdlB, Bool.and_eq_true, List.all_eq_true] at hm; refine hm.2 (m.rules.getD i []) ?_; rw [List.getD, List.getElem?_eq_getElem hi]
  exact List.getElem_mem hi
theorem mdlB_few {m : Mdl} (hm : mdlB m = true) : 1 ≤ m.rules.length ∧ m.rules.length ≤ 4 := by
  simp only [mdlB, Bool.and_eq_true] at hm
  have := inB_iff.1 hm.1.1.1
  omega
/-- What stands at a key when i components and q rules of the next are stored. -/
def upto (rss : List (List Rule)) (i q : Nat) (c k : Int) : Option Rule :=
  if c < 0 then none else if c < i then lastOf k (rss.getD c.toNat []) else if c = i then lastOf k ((rss.getD i []).take q) else none
def Filled (w : World) (rss : List (List Rule)) (i q : Nat) (f : Int → Int → Option Value) : Prop := ∀ c k, RowV w (upto rss i q c k) (f c k)
theorem Filled.start (w : World) (rss : List (List Rule)) : Filled w rss 0 0 (fun _ _ => none) := fun c k => by
  have e : upto rss 0 0 c k = none := by
    unfold upto
    split
    · rfl
    · split
      · omega
      · split
        · simp [lastOf]
        · rfl
  rw [e]
  rfl
theorem Filled.step {w : World} {rss : List (List Rule)} {i q : Nat} {f : Int → Int → Option Value} (h : Filled w rss i q f) {r : Rule} (hq : q < (rss.getD i []).length) (hr : (rss.getD i []).getD q default = r) {A : Option Addr} {n c : Nat}
    (hn : n ≤ 9223372036854775807) (he : Evs w A n r.sends) : Filled w rss i (q + 1) (fun c' k' => if c' = (i : Int) ∧ k' = r.kd then some (r.v (.slice A n c)) else f c' k') := fun c' k' => by
  have h0 := h c' k'
  have e : upto rss i (q + 1) c' k' = if c' = (i : Int) ∧ k' = r.kd then some r else upto rss i q c' k' := by
    unfold upto
    by_cases hc : c' = (i : Int)
    · subst hc
      have n1 : ¬ (i : Int) < 0 := by omega
      have n2 : ¬ (i : Int) < i := by omega
      simp only [if_neg n1, if_neg n2, if_true]; rw [lastOf_take _ _ _ hq, hr]
      by_cases hk : k' = r.kd
      · rw [if_pos hk.symm, if_pos ⟨trivial, hk⟩]
      · rw [if_neg (fun e => hk e.symm), if_neg (fun e => hk e.2)]
    · rw [if_neg hc, if_neg (fun e : c' = (i : Int) ∧ k' = r.kd => hc e.1), if_neg hc]
  rw [e]
  by_cases hc : c' = (i : Int) ∧ k' = r.kd
  · simp only [if_pos hc]
    exact ⟨A, n, c, rfl, hn, he⟩
  · simp only [if_neg hc]
    exact h0
theorem Filled.row {w : World} {rss : List (List Rule)} {i q : Nat} {f : Int → Int → Option Value} (h : Filled w rss i q f) (hq : (rss.getD i []).length ≤ q) : Filled w rss (i + 1) 0 f := fun c k => by
  have h0 := h c k
  have e : upto rss (i + 1) 0 c k = upto rss i q c k := by
    unfold upto
    by_cases h1 : c < 0
    · rw [if_pos h1, if_pos h1]
    · rw [if_neg h1, if_neg h1]
      by_cases h2 : c < (i : Int)
      · rw [if_pos h2, if_pos (by omega)]
      · rw [if_neg h2]
        by_cases h3 : c = (i : Int)
        · subst h3
          rw [if_pos (by omega), if_pos rfl, List.take_of_length_le hq]; simp
        · rw [if_neg (by omega), if_neg h3]
          split
          · simp [lastOf]
          · rfl
  rw [e]
  exact h0
/-- The map of a model. -/
def Mach (w : World) (b : Nat) (m : Mdl) : Prop :=
  ∃ N f, RMap w b N f ∧ ∀ c k, RowV w (if 0 ≤ c then ruleOf k (m.rules.getD c.toNat []) else none) (f c k)
theorem Filled.done {w : World} {m : Mdl} (hm : mdlB m = true) {f : Int → Int → Option Value} (h : Filled w m.rules m.rules.length 0 f) : ∀ c k, RowV w (if 0 ≤ c then ruleOf k (m.rules.getD c.toNat []) else none) (f c k) := fun c k => by
  have h0 := h c k
  have e : upto m.rules m.rules.length 0 c k = if 0 ≤ c then ruleOf k (m.rules.getD c.toNat []) else none := by
    unfold upto
    by_cases h1 : c < 0
    · rw [if_pos h1, if_neg (show ¬ (0 : Int) ≤ c by omega)]
    · rw [if_neg h1, if_pos (show (0 : Int) ≤ c by omega)]
      by_cases h2 : c < (m.rules.length : Int)
      · rw [if_pos h2, lastOf_ruleOf (mdlB_row hm c.toNat (by omega))]
      · rw [if_neg h2]
        have : m.rules.getD c.toNat [] = [] := by
          rw [List.getD, List.getElem?_eq_none (by omega)]
          rfl
        rw [this]
        split
        · simp [lastOf, ruleOf]
        · rfl
  rw [← e]
  exact h0
theorem Mach.up {w w' : World} {b : Nat} {m : Mdl} (h : Mach w b m) (u : Up w w') : Mach w' b m := by
  obtain ⟨N, f, h1, h2⟩ := h
  exact ⟨N, f, h1.up u, fun c k => (h2 c k).up u⟩
/-- Looked up. -/
theorem Mach.look {w W : World} {b : Nat} {m : Mdl} (h : Mach w b m) (u : Up w W) (c k : Int) (hc : I64 c) (hk : I64 k) (h0 : 0 ≤ c) :
    (ruleOf k (m.rules.getD c.toNat []) = none ∧ (Instr.lookup 123 (.map (some b)) (.agg #[.int .i64 c, .int .i64 k]) true).run Tryz.prog W = .ok (.tuple #[.agg #[.int .i64 0, .int .i64 0, .int .i64 0, .int .i64 0, .slice none 0 0], .bool false]) W) ∨
    ∃ r A n cp, ruleOf k (m.rules.getD c.toNat []) = some r ∧ n ≤ 9223372036854775807 ∧ Evs w A n r.sends ∧ (Instr.lookup 123 (.map (some b)) (.agg #[.int .i64 c, .int .i64 k]) true).run Tryz.prog W = .ok (.tuple #[.agg #[.int .i64 r.kd, .int .i64 r.a, .int .i64 r.b, .int .i64 r.c, .slice A n cp], .bool true]) W := by
  obtain ⟨N, f, h1, h2⟩ := h
  have hr := h2 c k
  rw [if_pos h0] at hr
  have hl := (h1.up u).look c k hc hk
  cases ho : ruleOf k (m.rules.getD c.toNat []) with
  | none =>
    rw [ho] at hr; unfold RowV at hr; dsimp only at hr; rw [hr] at hl
    exact .inl ⟨rfl, hl⟩
  | some r =>
    rw [ho] at hr; obtain ⟨A, n, cp, e, hn, he⟩ := hr; rw [e] at hl
    exact .inr ⟨r, A, n, cp, rfl, hn, he, hl⟩
theorem wpList_store_R {P : Program} (hP : P = Tryz.prog) (w : World) {ops : Array Oper} {rest : List Oper} {o : Oper} {a : Act} {Q : Exit → Act → World → Prop}
    (hg : o.guard = none) (m x v : Operand) (hop : o.op = Op.mapUpdate 123 m x v) (b n : Nat) (f : Int → Int → Option Value) (hm : a.eval m = .map (some b)) (h : RMap w b n f) (hn : n < maxLen)
    (c k : Int) (hx : a.eval x = .agg #[.int .i64 c, .int .i64 k]) (hc : I64 c) (hk : I64 k) (val : Value) (hv : a.eval v = val)
    (hK : ∀ w', RMap w' b (n + 1) (fun c' k' => if c' = c ∧ k' = k then some val else f c' k') → Mv b w w' → wpList P ops Q rest (a.put o.dst undef) w') : wpList P ops Q (o :: rest) a w := by
  subst hP
  refine wpList_plain hg fun K' hK' => ?_
  obtain ⟨w', hrun, r1, r2⟩ := h.store hn c k hc hk val; unfold Oper.wp; simp [execOp, hop, hm, hx, hv, hrun, Result.andThen]
  exact hK' _ _ (hK w' r1 r2)
end Go.Proofs.YtlkmhmiamdbhcabGreat

namespace Go.Proofs.YtlkmhmiamdbhcabGreat
set_option maxRecDepth 100000
open Go.RowKit
set_option maxHeartbeats 16000000 in
theorem specHstOk_any (A : Option Addr) (n c : Nat) (B : Option Addr) (k d : Nat) (m : Mdl) (comp w0 w1 w2 ids : Int) (Ad : Option Addr) (nd cd : Nat) (Aw : Option Addr) (nw cw : Nat) (Aa : Option Addr) (na ca : Nat) (Ak : Option Addr) (nk ck : Nat) (ds : List Don) (ws vs : List Rec) (ks : List Kep) (w : World) (hM : MdlV w A n B k m) (hD : Dons w Ad nd ds) (hW : Recs w Aw nw ws) (hA : Recs w Aa na vs) (hK : Keps w Ak nk ks) (hl : nd ≤ 1048576 ∧ nw ≤ 1048576 ∧ na ≤ 1048576 ∧ nk ≤ 1048576) (hS : SmallD ds) :
    Calls Tryz.prog 26 #[.agg #[.slice A n c, .slice B k d, .int .i64 m.til], .int .i64 comp, .agg #[.int .i64 w0, .int .i64 w1, .int .i64 w2, .int .i64 ids, .slice Ad nd cd, .slice Aw nw cw, .slice Aa na ca, .slice Ak nk ck]] w fun x w' => x = .returned (.bool (hostS m comp ⟨⟨w0, w1, w2⟩, ids, ds, ws, vs, ks⟩)) ∧ Up w w' := by
  obtain ⟨ld, lw, la, lk⟩ := hl
  have hn := hM.rules.1
  have HFW := Lib.hid (show mdlB m = true → n ≤ 4 from fun h => by have := (mdlB_few h).2; omega)
  have CM := Lib.hid (fun W (u : Up w W) => specMdl_any A n c B k d m W (hM.up u))
  have CW := Lib.hid (fun W => l1In_any comp 0 ((n : Int) - 1) W)
  have CC := Lib.hid (fun W => specCst_any ⟨w0, w1, w2⟩ W)
  have CV := Lib.hid (fun W => l1In_any ids 0 9999 W)
  have CI := Lib.hid (fun W (u : Up w W) => specItems_any A n c B k d m.til comp Aw nw cw ws W (by omega) (hW.up u))
  have CJ := Lib.hid (fun W (u : Up w W) => specItems_any A n c B k d m.til comp Aa na ca vs W (by omega) (hA.up u))
  have CT := Lib.hid (fun r W => specItem_any A n c B k d m.til r W)
  have CD := Lib.hid (fun W (u : Up w W) h1 h2 => specDone_any A n c B k d m comp w0 w1 w2 ids Ad nd cd Aw nw cw Aa na ca Ak nk ck ds ws W (hM.up u) h1 h2 (hD.up u) (hW.up u) ⟨ld, lw⟩ hS)
  have HK := Lib.hid hK
  have LK := Lib.hid hK.1
  have HI := Lib.hid (show inB ids 0 9999 = true → 0 ≤ ids ∧ ids ≤ 9999 from fun h => inB_iff.1 h)
  have KD := Lib.hid (show ∀ j, j < ks.length → (ks.drop j).all (keepB n m.til comp ids) = (keepB n m.til comp ids (ks.getD j default) && (ks.drop (j + 1)).all (keepB n m.til comp ids)) from fun j h => by
    rw [List.drop_eq_getElem_cons h, List.all_cons]
    simp [List.getD, h])
  unfold hostS; dsimp only; rw [hn]; clear hM hD hW hA hK hS hn
  generalize hmb : mdlB m = b1 at CM ⊢
  have HMB := Lib.hid hmb
  clear hmb
  generalize inB comp 0 ((n : Int) - 1) = b2 at CW ⊢
  generalize cstB ⟨w0, w1, w2⟩ = b3 at CC ⊢
  generalize inB ids 0 9999 = b4 at CV HI ⊢
  generalize itemsB n m.til comp ws = b5 at CI ⊢
  generalize itemsB n m.til comp vs = b6 at CJ ⊢
  generalize (doneS m comp ids ⟨w0, w1, w2⟩ none ds && joinT (lastT none ds) ws) = dn at CD ⊢
  generalize hal : ks.all (keepB n m.til comp ids) = al
  have H0 := Lib.hid (show (ks.drop 0).all (keepB n m.til comp ids) = al from hal)
  clear hal
  have X := Lib.hid ((Blk.new w #[.slice A n c, .slice B k d, .int .i64 m.til] 39).alloc (.cells #[.int .i64 w0, .int .i64 w1, .int .i64 w2, .int .i64 ids, .slice Ad nd cd, .slice Aw nw cw, .slice Aa na ca, .slice Ak nk ck] 46))
  have Y := Lib.hid (Blk.new (w.alloc (.cells #[.slice A n c, .slice B k d, .int .i64 m.til] 39)) #[.int .i64 w0, .int .i64 w1, .int .i64 w2, .int .i64 ids, .slice Ad nd cd, .slice Aw nw cw, .slice Aa na ca, .slice Ak nk ck] 46)
  simp only [World.size_alloc] at Y
  have U := Lib.hid (((Up.refl w).alloc (.cells #[.slice A n c, .slice B k d, .int .i64 m.til] 39)).alloc (.cells #[.int .i64 w0, .int .i64 w1, .int .i64 w2, .int .i64 ids, .slice Ad nd cd, .slice Aw nw cw, .slice Aa na ca, .slice Ak nk ck] 46))
  go_enter Tryz.func26, Tryz.ntmps26
  have m0 := X.out.cell (j := 0) rfl
  have m1 := X.out.cell (j := 1) rfl
  have m2 := X.out.cell (j := 2) rfl
  have lX_ := X.out.lt
  go_wp2_with fail
  clear m0 m1 m2 lX_; refine (CM.out _ U.out).mono ?_; rintro x wA ⟨rfl, uA⟩
  replace X := Lib.hid (X.out.up uA)
  replace Y := Lib.hid (Y.out.up uA)
  replace U := Lib.hid (U.out.trans uA)
  clear uA
  cases b1
  · go_wp2
    go_ret
    exact ⟨rfl, U.out⟩
  · have few := HFW.out HMB.out
    have hw : IntKind.i64.wrap ((n : Int) - 1) = (n : Int) - 1 := IntWalk.i64_in _ (by omega)
    have m0 := X.out.cell (j := 0) rfl
    have m1 := X.out.cell (j := 1) rfl
    have m2 := X.out.cell (j := 2) rfl
    have lX_ := X.out.lt
    go_wp2_with fail
    clear m0 m1 m2 lX_; refine (CW.out _).mono ?_; rintro x w9 ⟨rfl, rfl⟩
    cases b2
    · go_wp2
      go_ret
      exact ⟨rfl, U.out⟩
    · have y0 := Y.out.cell (j := 0) rfl
      have y1 := Y.out.cell (j := 1) rfl
      have y2 := Y.out.cell (j := 2) rfl
      have lY_ := Y.out.lt
      go_wp2_with fail
      clear y0 y1 y2 lY_; refine (CC.out _).mono ?_; rintro x wB ⟨rfl, uB⟩
      replace X := Lib.hid (X.out.up uB)
      replace Y := Lib.hid (Y.out.up uB)
      replace U := Lib.hid (U.out.trans uB)
      clear uB
      cases b3
      · go_wp2
        go_ret
        exact ⟨rfl, U.out⟩
      · have y3 := Y.out.cell (j := 3) rfl
        have lY_ := Y.out.lt
        go_wp2_with fail
        clear y3 lY_; refine (CV.out _).mono ?_; rintro x w9 ⟨rfl, rfl⟩
        cases b4
        · go_wp2
          go_ret
          exact ⟨rfl, U.out⟩
        · have m0 := X.out.cell (j := 0) rfl
          have m1 := X.out.cell (j := 1) rfl
          have m2 := X.out.cell (j := 2) rfl
          have lX_ := X.out.lt
          have y5 := Y.out.cell (j := 5) rfl
          have lY_ := Y.out.lt
          go_wp2_with fail
          clear m0 m1 m2 lX_ y5 lY_; refine (CI.out _ U.out).mono ?_; rintro x wC ⟨rfl, uC⟩
          replace X := Lib.hid (X.out.up uC)
          replace Y := Lib.hid (Y.out.up uC)
          replace U := Lib.hid (U.out.trans uC)
          clear uC
          cases b5
          · go_wp2
            go_ret
            exact ⟨rfl, U.out⟩
          · have m0 := X.out.cell (j := 0) rfl
            have m1 := X.out.cell (j := 1) rfl
            have m2 := X.out.cell (j := 2) rfl
            have lX_ := X.out.lt
            have y6 := Y.out.cell (j := 6) rfl
            have lY_ := Y.out.lt
            go_wp2_with fail
            clear m0 m1 m2 lX_ y6 lY_; refine (CJ.out _ U.out).mono ?_; rintro x wD ⟨rfl, uD⟩
            replace X := Lib.hid (X.out.up uD)
            replace Y := Lib.hid (Y.out.up uD)
            replace U := Lib.hid (U.out.trans uD)
            clear uD
            cases b6
            · go_wp2
              go_ret
              exact ⟨rfl, U.out⟩
            · have U0 := U
              clear U; go_wp2
              go_loopw [7] (fun i wr => (∃ j : Nat, j ≤ nk ∧ i = .int .i64 j ∧ Hid ((ks.drop j).all (keepB n m.til comp ids) = al)) ∧ Up wD wr) (fun i _ => nk - (intOf i).toNat)
              case atStart => exact ⟨⟨0, by omega, rfl, H0⟩, Up.refl _⟩
              case round =>
                obtain ⟨⟨j, hj, rfl, HR⟩, ur⟩ := hrel
                have UN := Lib.hid ur
                replace X := Lib.hid (X.out.up ur)
                replace Y := Lib.hid (Y.out.up ur)
                have i6 : IntKind.i64.wrap ((j : Int) + 1) = (j : Int) + 1 := IntWalk.i64_in _ (by omega)
                have y7 := Y.out.cell (j := 7) rfl
                have lY_ := Y.out.lt
                by_cases hlt : j < nk
                · have i4 : (j : Int) < nk := by omega
                  have i5 : j < nk := hlt
                  obtain ⟨b, off, hA, hb, hc⟩ := (HK.out.up (U0.out.trans ur)).2 (by omega); subst hA
                  have S := KD.out j (by rw [LK.out]; exact hlt)
                  rw [HR.out] at S
                  have a0 := hc j hlt
                  clear hc ur HR
                  generalize ks.getD j default = p at S a0
                  have C1 := CT.out ⟨p.by_, 0⟩
                  have C2 := CT.out p.sent
                  rw [keepB_s] at S; obtain ⟨⟨p0, p1, p2, p3, p4, p5⟩, ⟨⟨p6, p7, p8, p9, p10, p11⟩, p12⟩⟩ := p; dsimp only at S a0 C1 C2
                  generalize itemB n m.til ⟨⟨p0, p1, p2, p3, p4, p5⟩, 0⟩ = c1 at S C1
                  generalize itemB n m.til ⟨⟨p6, p7, p8, p9, p10, p11⟩, p12⟩ = c2 at S C2
                  replace S := Lib.hid S
                  unfold Rec.v at C1 C2; dsimp only at C1 C2
                  replace C1 := Lib.hid C1
                  replace C2 := Lib.hid C2
                  obtain ⟨z0, z1, z2, z3, z4, z5, z6, z7, z8, z9, z10, z11, z12⟩ := a0
                  have E := Lib.hid (Blk.new wr #[.int .i64 p0, .int .i64 p1, .int .i64 p2, .int .i64 p3, .int .i64 p4, .int .i64 p5, .int .i64 p6, .int .i64 p7, .int .i64 p8, .int .i64 p9, .int .i64 p10, .int .i64 p11, .int .i64 p12] 111)
                  have UE := Lib.hid ((Up.refl wr).alloc (.cells #[.int .i64 p0, .int .i64 p1, .int .i64 p2, .int .i64 p3, .int .i64 p4, .int .i64 p5, .int .i64 p6, .int .i64 p7, .int .i64 p8, .int .i64 p9, .int .i64 p10, .int .i64 p11, .int .i64 p12] 111))
                  have m0 := X.out.cell (j := 0) rfl
                  have m1 := X.out.cell (j := 1) rfl
                  have m2 := X.out.cell (j := 2) rfl
                  have lX_ := X.out.lt
                  go_wp2_with fail
                  clear m0 m1 m2 lX_ y7 lY_ z0 z1 z2 z3 z4 z5 z6 z7 z8 z9 z10 z11 z12; refine (C1.out _).mono ?_; rintro x wE ⟨rfl, uE⟩
                  replace UN := Lib.hid (UN.out.trans (UE.out.trans uE))
                  replace X := Lib.hid (X.out.up (UE.out.trans uE))
                  replace Y := Lib.hid (Y.out.up (UE.out.trans uE))
                  replace E := Lib.hid (E.out.up uE)
                  clear uE UE
                  cases c1
                  · have HF := Lib.hid (show al = false by rw [S.out]; simp)
                    go_wp2; go_ret
                    exact ⟨ret_bool (by rw [HF.out]; rfl), U0.out.trans UN.out⟩
                  · have k0 := E.out.cell (j := 0) rfl
                    have k1 := E.out.cell (j := 1) rfl
                    have k2 := E.out.cell (j := 2) rfl
                    have k3 := E.out.cell (j := 3) rfl
                    have k4 := E.out.cell (j := 4) rfl
                    have k5 := E.out.cell (j := 5) rfl
                    have k6 := E.out.cell (j := 6) rfl
                    have k7 := E.out.cell (j := 7) rfl
                    have k8 := E.out.cell (j := 8) rfl
                    have k9 := E.out.cell (j := 9) rfl
                    have k10 := E.out.cell (j := 10) rfl
                    have k11 := E.out.cell (j := 11) rfl
                    have k12 := E.out.cell (j := 12) rfl
                    have lE_ := E.out.lt
                    by_cases q1 : p1 = comp
                    · have hd1 : (p1 != comp) = false := by simp [q1]
                      have m0 := X.out.cell (j := 0) rfl
                      have m1 := X.out.cell (j := 1) rfl
                      have m2 := X.out.cell (j := 2) rfl
                      have lX_ := X.out.lt
                      go_wp2_with fail
                      clear k0 k1 k2 k3 k4 k5 k6 k7 k8 k9 k10 k11 k12 lE_ m0 m1 m2 lX_; refine (C2.out _).mono ?_; rintro x wF ⟨rfl, uF⟩
                      replace UN := Lib.hid (UN.out.trans uF)
                      replace X := Lib.hid (X.out.up uF)
                      replace Y := Lib.hid (Y.out.up uF)
                      replace E := Lib.hid (E.out.up uF)
                      clear uF
                      cases c2
                      · have HF := Lib.hid (show al = false by rw [S.out]; simp)
                        go_wp2; go_ret
                        exact ⟨ret_bool (by rw [HF.out]; rfl), U0.out.trans UN.out⟩
                      · have k0 := E.out.cell (j := 0) rfl
                        have k1 := E.out.cell (j := 1) rfl
                        have k2 := E.out.cell (j := 2) rfl
                        have k3 := E.out.cell (j := 3) rfl
                        have k4 := E.out.cell (j := 4) rfl
                        have k5 := E.out.cell (j := 5) rfl
                        have k6 := E.out.cell (j := 6) rfl
                        have k7 := E.out.cell (j := 7) rfl
                        have k8 := E.out.cell (j := 8) rfl
                        have k9 := E.out.cell (j := 9) rfl
                        have k10 := E.out.cell (j := 10) rfl
                        have k11 := E.out.cell (j := 11) rfl
                        have k12 := E.out.cell (j := 12) rfl
                        have lE_ := E.out.lt
                        have y3 := Y.out.cell (j := 3) rfl
                        have lY_ := Y.out.lt
                        by_cases q2 : p8 = comp
                        · have hd2 : (p8 != comp) = false := by simp [q2]
                          by_cases q3 : p6 ≤ p0
                          · have hd3 : decide (p6 ≤ p0) = true := decide_eq_true q3
                            have HF := Lib.hid (show al = false by rw [S.out]; simp [q3])
                            go_wp2; go_ret
                            exact ⟨ret_bool (by rw [HF.out]; rfl), U0.out.trans UN.out⟩
                          · have hd3 : decide (p6 ≤ p0) = false := decide_eq_false q3
                            by_cases q4 : ids ≤ p12
                            · have hd4 : decide (ids ≤ p12) = true := decide_eq_true q4
                              have HF := Lib.hid (show al = false by rw [S.out]; simp [q4])
                              go_wp2; go_ret
                              exact ⟨ret_bool (by rw [HF.out]; rfl), U0.out.trans UN.out⟩
                            · have hd4 : decide (ids ≤ p12) = false := decide_eq_false q4
                              have HN := Lib.hid (show (ks.drop (j + 1)).all (keepB n m.til comp ids) = al by rw [S.out]; simp [q1, q2, q3, q4])
                              go_wp2
                              go_roundw
                              case rel => exact ⟨⟨j + 1, by omega, by go_num, HN⟩, UN.out⟩
                              case measure => simp [intOf]; omega
                        · have hd2 : (p8 != comp) = true := by simp [q2]
                          have HF := Lib.hid (show al = false by rw [S.out]; simp [q2])
                          go_wp2; go_ret
                          exact ⟨ret_bool (by rw [HF.out]; rfl), U0.out.trans UN.out⟩
                    · have hd1 : (p1 != comp) = true := by simp [q1]
                      have HF := Lib.hid (show al = false by rw [S.out]; simp [q1])
                      go_wp2; go_ret
                      exact ⟨ret_bool (by rw [HF.out]; rfl), U0.out.trans UN.out⟩
                · obtain rfl : j = nk := by omega
                  have i4 : ¬ (j : Int) < j := by omega
                  have HT := Lib.hid (show al = true by rw [← HR.out, List.drop_eq_nil_of_le (by rw [LK.out]; omega)]; rfl)
                  clear ur i6
                  have m0 := X.out.cell (j := 0) rfl
                  have m1 := X.out.cell (j := 1) rfl
                  have m2 := X.out.cell (j := 2) rfl
                  have lX_ := X.out.lt
                  have y0 := Y.out.cell (j := 0) rfl
                  have y1 := Y.out.cell (j := 1) rfl
                  have y2 := Y.out.cell (j := 2) rfl
                  have y3 := Y.out.cell (j := 3) rfl
                  have y4 := Y.out.cell (j := 4) rfl
                  have y5 := Y.out.cell (j := 5) rfl
                  have y6 := Y.out.cell (j := 6) rfl
                  have lY_ := Y.out.lt
                  go_wp2_with fail
                  refine (CD.out _ (U0.out.trans UN.out) HMB.out (HI.out trivial)).mono ?_; rintro x wG ⟨rfl, uG⟩
                  replace UN := Lib.hid (UN.out.trans uG)
                  clear uG; go_wp2; go_ret
                  exact ⟨ret_bool (by rw [HT.out]; simp), U0.out.trans UN.out⟩
end Go.Proofs.YtlkmhmiamdbhcabGreat

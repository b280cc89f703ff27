/-
  What a machine's map holds, in one sentence: for each component and kind the model's rule, if there is one; no condition is made.
  The least delay of a component's sends to another one, in one sentence: by the rules in their order it is what it is kind by kind; no condition beyond the rules' own bounds.
  The least delay of all sends of a model, in one sentence: component by component what it is over all pairs; no condition.
  What newMachine returns, in one sentence: false for a model that is none; else a new map with the model's rules, their number and its end; for every model that lies in memory.
  What impl.CmbLook gives, in one sentence: the least delay of the first component's sends to the second, but at most the end and one, and -1 for a model that is none or a component that does not exist; for every model that lies in memory.
-/
import Derived.Test.YtklldniapombiaaDLEwev08
import Derived.Test.YtklldniapombiaaDLEwev11
namespace Go.Proofs.Ytklldniapombiaa
set_option maxRecDepth 100000
open Go.RowKit
/-- A rule as a value over a slice that holds its sends. -/
def RowV (w : World) (o : Option Rule) (v : Option Value) : Prop :=
  match o with
  | none => v = none
  | some r => ∃ A n c, v = some (r.v (.slice A n c)) ∧ n ≤ 9223372036854775807 ∧ Evs w A n r.sends
theorem RowV.up {w w' : World} {o : Option Rule} {v : Option Value} (h : RowV w o v) (u : Up w w') : RowV w' o v := by
  cases o with
  | none => exact h
  | some r =>
    obtain ⟨A, n, c, h1, h2, h3⟩ := h
    exact ⟨A, n, c, h1, h2, h3.up u⟩
/-- The last rule of a kind. -/
def lastOf (kd : Int) : List Rule → Option Rule
  | [] => none
  | r :: rs => match lastOf kd rs with
    | some x => some x
    | none => if r.kd = kd then some r else none
theorem lastOf_snoc (kd : Int) (r : Rule) : ∀ rs : List Rule, lastOf kd (rs ++ [r]) = if r.kd = kd then some r else lastOf kd rs
  | [] => by simp [lastOf]
  | x :: rs => by
    rw [List.cons_append, lastOf, lastOf_snoc kd r rs]
    by_cases h : r.kd = kd
    · simp [h]
    · simp only [if_neg h]
      rw [lastOf]
theorem lastOf_take (kd : Int) (rs : List Rule) (q : Nat) (h : q < rs.length) : lastOf kd (rs.take (q + 1)) = if (rs.getD q default).kd = kd then some (rs.getD q default) else lastOf kd (rs.take q) := by
  rw [List.take_succ_eq_append_getElem h, lastOf_snoc]; simp [h]
theorem lastOf_past {many kd : Int} : ∀ {bf : Int} {rs : List Rule}, rulesB many bf rs = true → kd ≤ bf → lastOf kd rs = none
  | _, [], _, _ => rfl
  | bf, x :: rs, h, hk => by
    rw [rulesB, Bool.and_eq_true, Bool.and_eq_true] at h
    have h1 := of_decide_eq_true h.1.1
    rw [lastOf, lastOf_past h.2 (by omega)]
    exact if_neg (by omega)
theorem lastOf_ruleOf {many kd : Int} : ∀ {bf : Int} {rs : List Rule}, rulesB many bf rs = true → lastOf kd rs = ruleOf kd rs
  | _, [], _ => rfl
  | bf, x :: rs, h => by
    rw [rulesB, Bool.and_eq_true, Bool.and_eq_true] at h; rw [lastOf, ruleOf]
    by_cases hk : x.kd = kd
    · rw [lastOf_past h.2 (by omega), if_pos hk]
      exact (if_pos hk).symm
    · rw [lastOf_ruleOf h.2, if_neg hk, if_neg hk]
      cases ruleOf kd rs <;> rfl
theorem rulesB_len {many : Int} : ∀ {bf : Int} {rs : List Rule}, rulesB many bf rs = true → -1 ≤ bf → bf ≤ 2 → (rs.length : Int) ≤ 2 - bf
  | bf, [], _, _, h2 => by simp; omega
  | bf, x :: rs, h, h1, h2 => by
    rw [rulesB, Bool.and_eq_true, Bool.and_eq_true] at h
    have k1 := of_decide_eq_true h.1.1
    have k2 := h.1.2
    simp only [ruleB, Bool.and_eq_true, inB_iff] at k2
    have := rulesB_len h.2 (by omega) (by omega)
    simp only [List.length_cons]
    omega
theorem rulesB_mem {many : Int} : ∀ {bf : Int} {rs : List Rule}, rulesB many bf rs = true → ∀ i, i < rs.length → ruleB (rs.getD i default) many = true
  | _, [], _, _, h => absurd h (by simp)
  | bf, x :: rs, h, 0, _ => by
    rw [rulesB, Bool.and_eq_true, Bool.and_eq_true] at h
    exact h.1.2
  | bf, x :: rs, h, i + 1, hi => by
    rw [rulesB, Bool.and_eq_true, Bool.and_eq_true] at h
    simpa using rulesB_mem h.2 i (by simpa using hi)
theorem mdlB_row {m : Mdl} (hm : mdlB m = true) (i : Nat) (hi : i < m.rules.length) : rulesB m.rules.length (-1) (m.rules.getD i []) = true := by
  simp only [mdlB, Bool.and_eq_true, List.all_eq_true] at hm; refine hm.2 (m.rules.getD i []) ?_; rw [List.getD, List.getElem?_eq_getElem hi]
  exact List.getElem_mem hi
theorem mdlB_few {m : Mdl} (hm : mdlB m = true) : 1 ≤ m.rules.length ∧ m.rules.length ≤ 4 := by
  simp only [mdlB, Bool.and_eq_true] at hm
  have := inB_iff.1 hm.1.1.1
  omega
/-- What stands at a key when i components and q rules of the next are stored. -/
def upto (rss : List (List Rule)) (i q : Nat) (c k : Int) : Option Rule :=
  if c < 0 then none else if c < i then lastOf k (rss.getD c.toNat []) else if c = i then lastOf k ((rss.getD i []).take q) else none
def Filled (w : World) (rss : List (List Rule)) (i q : Nat) (f : Int → Int → Option Value) : Prop := ∀ c k, RowV w (upto rss i q c k) (f c k)
theorem Filled.start (w : World) (rss : List (List Rule)) : Filled w rss 0 0 (fun _ _ => none) := fun c k => by
  have e : upto rss 0 0 c k = none := by
    unfold upto
    split
    · rfl
    · split
      · omega
      · split
        · simp [lastOf]
        · rfl
  rw [e]
  rfl
theorem Filled.step {w : World} {rss : List (List Rule)} {i q : Nat} {f : Int → Int → Option Value} (h : Filled w rss i q f) {r : Rule} (hq : q < (rss.getD i []).length) (hr : (rss.getD i []).getD q default = r) {A : Option Addr} {n c : Nat}
    (hn : n ≤ 9223372036854775807) (he : Evs w A n r.sends) : Filled w rss i (q + 1) (fun c' k' => if c' = (i : Int) ∧ k' = r.kd then some (r.v (.slice A n c)) else f c' k') := fun c' k' => by
  have h0 := h c' k'
  have e : upto rss i (q + 1) c' k' = if c' = (i : Int) ∧ k' = r.kd then some r else upto rss i q c' k' := by
    unfold upto
    by_cases hc : c' = (i : Int)
    · subst hc
      have n1 : ¬ (i : Int) < 0 := by omega
      have n2 : ¬ (i : Int) < i := by omega
      simp only [if_neg n1, if_neg n2, if_true]; rw [lastOf_take _ _ _ hq, hr]
      by_cases hk : k' = r.kd
      · rw [if_pos hk.symm, if_pos ⟨trivial, hk⟩]
      · rw [if_neg (fun e => hk e.symm), if_neg (fun e => hk e.2)]
    · rw [if_neg hc, if_neg (fun e : c' = (i : Int) ∧ k' = r.kd => hc e.1), if_neg hc]
  rw [e]
  by_cases hc : c' = (i : Int) ∧ k' = r.kd
  · simp only [if_pos hc]
    exact ⟨A, n, c, rfl, hn, he⟩
  · simp only [if_neg hc]
    exact h0
theorem Filled.row {w : World} {rss : List (List Rule)} {i q : Nat} {f : Int → Int → Option Value} (h : Filled w rss i q f) (hq : (rss.getD i []).length ≤ q) : Filled w rss (i + 1) 0 f := fun c k => by
  have h0 := h c k
  have e : upto rss (i + 1) 0 c k = upto rss i q c k := by
    unfold upto
    by_cases h1 : c < 0
    · rw [if_pos h1, if_pos h1]
    · rw [if_neg h1, if_neg h1]
      by_cases h2 : c < (i : Int)
      · rw [if_pos h2, if_pos (by omega)]
      · rw [if_neg h2]
        by_cases h3 : c = (i : Int)
        · subst h3
          rw [if_pos (by omega), if_pos rfl, List.take_of_length_le hq]; simp
        · rw [if_neg (by omega), if_neg h3]
          split
          · simp [lastOf]
          · rfl
  rw [e]
  exact h0
/-- The map of a model. -/
def Mach (w : World) (b : Nat) (m : Mdl) : Prop :=
  ∃ N f, RMap w b N f ∧ ∀ c k, RowV w (if 0 ≤ c then ruleOf k (m.rules.getD c.toNat []) else none) (f c k)
theorem Filled.done {w : World} {m : Mdl} (hm : mdlB m = true) {f : Int → Int → Option Value} (h : Filled w m.rules m.rules.length 0 f) : ∀ c k, RowV w (if 0 ≤ c then ruleOf k (m.rules.getD c.toNat []) else none) (f c k) := fun c k => by
  have h0 := h c k
  have e : upto m.rules m.rules.length 0 c k = if 0 ≤ c then ruleOf k (m.rules.getD c.toNat []) else none := by
    unfold upto
    by_cases h1 : c < 0
    · rw [if_pos h1, if_neg (show ¬ (0 : Int) ≤ c by omega)]
    · rw [if_neg h1, if_pos (show (0 : Int) ≤ c by omega)]
      by_cases h2 : c < (m.rules.length : Int)
      · rw [if_pos h2, lastOf_ruleOf (mdlB_row hm c.toNat (by omega))]
      · rw [if_neg h2]
        have : m.rules.getD c.toNat [] = [] := by
          rw [List.getD, List.getElem?_eq_none (by omega)]
          rfl
        rw [this]
        split
        · simp [lastOf, ruleOf]
        · rfl
  rw [← e]
  exact h0
theorem Mach.up {w w' : World} {b : Nat} {m : Mdl} (h : Mach w b m) (u : Up w w') : Mach w' b m := by
  obtain ⟨N, f, h1, h2⟩ := h
  exact ⟨N, f, h1.up u, fun c k => (h2 c k).up u⟩
theorem wpList_store_R {P : Program} (hP : P = Try.prog) (w : World) {ops : Array Oper} {rest : List Oper} {o : Oper} {a : Act} {Q : Exit → Act → World → Prop}
    (hg : o.guard = none) (m x v : Operand) (hop : o.op = Op.mapUpdate 107 m x v) (b n : Nat) (f : Int → Int → Option Value) (hm : a.eval m = .map (some b)) (h : RMap w b n f) (hn : n < maxLen)
    (c k : Int) (hx : a.eval x = .agg #[.int .i64 c, .int .i64 k]) (hc : I64 c) (hk : I64 k) (val : Value) (hv : a.eval v = val)
    (hK : ∀ w', RMap w' b (n + 1) (fun c' k' => if c' = c ∧ k' = k then some val else f c' k') → Mv b w w' → wpList P ops Q rest (a.put o.dst undef) w') : wpList P ops Q (o :: rest) a w := by
  subst hP
  refine wpList_plain hg fun K' hK' => ?_
  obtain ⟨w', hrun, r1, r2⟩ := h.store hn c k hc hk val; unfold Oper.wp; simp [execOp, hop, hm, hx, hv, hrun, Result.andThen]
  exact hK' _ _ (hK w' r1 r2)
end Go.Proofs.Ytklldniapombiaa

namespace Go.Proofs.Ytklldniapombiaa
set_option maxRecDepth 100000
open Go.RowKit
/-- The least delay of the sends to one component, but at most l. -/
def lkS (to : Int) : Int → List Evt → Int
  | l, [] => l
  | l, s :: ss => lkS to (if s.t = to then min l s.to else l) ss
def lkR (to : Int) : Int → List Rule → Int
  | l, [] => l
  | l, r :: rs => lkR to (lkS to l r.sends) rs
def lkO (to l : Int) : Option Rule → Int
  | none => l
  | some r => lkS to l r.sends
/-- Kind by kind: n kinds from k on. -/
def lkU (to : Int) : Nat → Int → Int → List Rule → Int
  | 0, _, l, _ => l
  | n + 1, k, l, rs => lkU to n (k + 1) (lkO to l (ruleOf k rs)) rs
theorem lkU_step (to : Int) (n : Nat) (k l : Int) (rs : List Rule) : lkU to (n + 1) k l rs = lkU to n (k + 1) (lkO to l (ruleOf k rs)) rs := rfl
theorem lkU_zero (to : Int) (k l : Int) (rs : List Rule) : lkU to 0 k l rs = l := rfl
theorem lkU_skip (to : Int) (r : Rule) (rs : List Rule) : ∀ (n : Nat) (k l : Int), r.kd < k → lkU to n k l (r :: rs) = lkU to n k l rs
  | 0, _, _, _ => rfl
  | n + 1, k, l, h => by
    rw [lkU, lkU, lkU_skip to r rs n (k + 1) _ (by omega), show ruleOf k (r :: rs) = ruleOf k rs by rw [ruleOf]; exact if_neg (by omega)]
theorem lkU_none (to : Int) : ∀ (n : Nat) (k l : Int), lkU to n k l [] = l
  | 0, _, _ => rfl
  | n + 1, k, l => by rw [lkU, ruleOf, lkO, lkU_none to n]
theorem ruleOf_past {many kd : Int} {bf : Int} {rs : List Rule} (h : rulesB many bf rs = true) (hk : kd ≤ bf) : ruleOf kd rs = none := by
  rw [← lastOf_ruleOf h]
  exact lastOf_past h hk
theorem lkU_lkR {many to : Int} : ∀ (n : Nat) (k l : Int) (rs : List Rule), rulesB many (k - 1) rs = true → k + n = 3 → lkU to n k l rs = lkR to l rs
  | n, k, l, [], _, _ => by rw [lkU_none]; rfl
  | 0, k, l, r :: rs, h, hk => by
    rw [rulesB, Bool.and_eq_true, Bool.and_eq_true] at h
    have k1 := of_decide_eq_true h.1.1
    have k2 := h.1.2
    simp only [ruleB, Bool.and_eq_true, inB_iff] at k2
    omega
  | n + 1, k, l, r :: rs, h, hk => by
    have h' := h
    rw [rulesB, Bool.and_eq_true, Bool.and_eq_true] at h
    have k1 := of_decide_eq_true h.1.1
    by_cases e : r.kd = k
    · rw [lkU, show ruleOf k (r :: rs) = some r by rw [ruleOf]; exact if_pos e, lkO, lkU_skip to r rs n (k + 1) _ (by omega), lkR]
      have h2 := h.2
      rw [e] at h2
      exact lkU_lkR n (k + 1) _ rs (by rw [show k + 1 - 1 = k by omega]; exact h2) (by omega)
    · have hb : rulesB many k (r :: rs) = true := by
        rw [rulesB, Bool.and_eq_true, Bool.and_eq_true]
        exact ⟨⟨decide_eq_true (by omega), h.1.2⟩, h.2⟩
      rw [lkU, ruleOf_past hb (by omega), lkO]
      exact lkU_lkR n (k + 1) l (r :: rs) (by rw [show k + 1 - 1 = k by omega]; exact hb) (by omega)
theorem drop_get {α : Type} {d : α} (es : List α) (k : Nat) (h : k < es.length) : es.drop k = es.getD k d :: es.drop (k + 1) := by
  rw [List.drop_eq_getElem_cons h]; simp [h]
theorem lkS_drop (to l : Int) (es : List Evt) (k : Nat) (h : k < es.length) : lkS to l (es.drop k) = lkS to (if (es.getD k default).t = to then min l (es.getD k default).to else l) (es.drop (k + 1)) := by
  rw [drop_get (d := default) es k h, lkS]
theorem lkS_end (to l : Int) (es : List Evt) (k : Nat) (h : es.length ≤ k) : lkS to l (es.drop k) = l := by
  rw [List.drop_of_length_le h]
  rfl
theorem lkR_drop (to l : Int) (rs : List Rule) (k : Nat) (h : k < rs.length) : lkR to l (rs.drop k) = lkR to (lkS to l (rs.getD k default).sends) (rs.drop (k + 1)) := by
  rw [drop_get (d := default) rs k h, lkR]
theorem lkR_end (to l : Int) (rs : List Rule) (k : Nat) (h : rs.length ≤ k) : lkR to l (rs.drop k) = l := by
  rw [List.drop_of_length_le h]
  rfl
end Go.Proofs.Ytklldniapombiaa

namespace Go.Proofs.Ytklldniapombiaa
set_option maxRecDepth 100000
open Go.RowKit
/-- The lookahead between two components that exist. -/
def lkM (m : Mdl) (fr to : Int) : Int := lkR to (m.til + 1) (m.rules.getD fr.toNat [])
def wjV (g : Int → Int → Int) (fr : Int) : Nat → Nat → Int → Int
  | 0, _, l => l
  | n + 1, j, l => wjV g fr n (j + 1) (min l (g fr j))
def wiV (g : Int → Int → Int) (N : Nat) : Nat → Nat → Int → Int
  | 0, _, l => l
  | n + 1, i, l => wiV g N n (i + 1) (wjV g i N 0 l)
theorem wjV_at {g : Int → Int → Int} {fr : Int} {N p : Nat} {y : Int} (h : p < N) : wjV g fr (N - p) p y = wjV g fr (N - (p + 1)) (p + 1) (min y (g fr p)) := by
  rw [show N - p = (N - (p + 1)) + 1 by omega]
  rfl
theorem wjV_end {g : Int → Int → Int} {fr : Int} {N p : Nat} {y : Int} (h : N ≤ p) : wjV g fr (N - p) p y = y := by
  rw [show N - p = 0 by omega]
  rfl
theorem wiV_at {g : Int → Int → Int} {N M p : Nat} {y : Int} (h : p < N) : wiV g M (N - p) p y = wiV g M (N - (p + 1)) (p + 1) (wjV g p M 0 y) := by
  rw [show N - p = (N - (p + 1)) + 1 by omega]
  rfl
theorem wiV_end {g : Int → Int → Int} {N M p : Nat} {y : Int} (h : N ≤ p) : wiV g M (N - p) p y = y := by
  rw [show N - p = 0 by omega]
  rfl
def winL (m : Mdl) : Int := wiV (lkM m) m.rules.length m.rules.length 0 (m.til + 1)
/-- What WinLook gives. -/
def winV (m : Mdl) : Int := if mdlB m then winL m else -1
theorem wjV_low {g : Int → Int → Int} {fr : Int} : ∀ (n j : Nat) (l : Int), 1 ≤ l → (∀ q : Nat, j ≤ q → q < j + n → 1 ≤ g fr q) → 1 ≤ wjV g fr n j l
  | 0, _, _, h, _ => h
  | n + 1, j, l, h, hg => wjV_low n (j + 1) _ (by have := hg j (by omega) (by omega); omega) (fun q h1 h2 => hg q (by omega) (by omega))
theorem wiV_low {g : Int → Int → Int} {N : Nat} : ∀ (n i : Nat) (l : Int), 1 ≤ l → (∀ p q : Nat, i ≤ p → p < i + n → q < N → 1 ≤ g p q) → 1 ≤ wiV g N n i l
  | 0, _, _, h, _ => h
  | n + 1, i, l, h, hg => wiV_low n (i + 1) _ (wjV_low N 0 l h (fun q _ h2 => hg i q (by omega) (by omega) (by omega))) (fun p q h1 h2 h3 => hg p q (by omega) (by omega) h3)
theorem wjV_le {g : Int → Int → Int} {fr : Int} : ∀ (n j : Nat) (l : Int), wjV g fr n j l ≤ l
  | 0, _, l => Int.le_refl l
  | n + 1, j, l => Int.le_trans (wjV_le n (j + 1) _) (by omega)
theorem wiV_le {g : Int → Int → Int} {N : Nat} : ∀ (n i : Nat) (l : Int), wiV g N n i l ≤ l
  | 0, _, l => Int.le_refl l
  | n + 1, i, l => Int.le_trans (wiV_le n (i + 1) _) (wjV_le N 0 l)
end Go.Proofs.Ytklldniapombiaa

namespace Go.Proofs.Ytklldniapombiaa
set_option maxRecDepth 100000
open Go.RowKit
def MachPost (m : Mdl) (w : World) (x : Ending) (w' : World) : Prop :=
  Up w w' ∧ ((mdlB m = false ∧ x = .returned (.tuple #[.agg #[.map none, .int .i64 0, .int .i64 0], .bool false])) ∨
    (mdlB m = true ∧ ∃ b, x = .returned (.tuple #[.agg #[.map (some b), .int .i64 m.rules.length, .int .i64 m.til], .bool true]) ∧ w.heap.size ≤ b ∧ Mach w' b m))
set_option maxHeartbeats 8000000 in
theorem newMachine_any (A : Option Addr) (n c : Nat) (B : Option Addr) (k d : Nat) (m : Mdl) (w : World) (hM : MdlV w A n B k m) :
    Calls Try.prog 66 #[.agg #[.slice A n c, .slice B k d, .int .i64 m.til]] w (MachPost m w) := by
  have HM := Lib.hid hM
  have HR := Lib.hid hM.rules
  have LR := Lib.hid hM.rules.1
  have U0 := Lib.hid (((Up.refl w).alloc (.cells #[.slice A n c, .slice B k d, .int .i64 m.til] 36)).alloc (.cells #[.map none, .int .i64 0, .int .i64 0] 109))
  have X1 := Lib.hid ((Box3.new w (.slice A n c) (.slice B k d) (.int .i64 m.til) 36).up ((Up.refl _).alloc (.cells #[.map none, .int .i64 0, .int .i64 0] 109)))
  have X2 := Lib.hid (Box3.new (w.alloc (.cells #[.slice A n c, .slice B k d, .int .i64 m.til] 36)) (.map none) (.int .i64 0) (.int .i64 0) 109)
  have F2 := Lib.hid (fun j => free_new (w.alloc (.cells #[.slice A n c, .slice B k d, .int .i64 m.til] 36)) #[.map none, .int .i64 0, .int .i64 0] 109 j)
  simp only [World.size_alloc] at X2 F2
  have CI := Lib.hid (fun W (u : Up w W) => implMdl_any A n c B k d m W (hM.up u))
  generalize hmb : mdlB m = g at CI
  have HB := Lib.hid hmb
  clear hM hmb
  go_enter Try.func66, Try.ntmps66
  go_wp2_with fail
  refine (CI.out _ U0.out).mono ?_; rintro x w1 ⟨rfl, u1⟩
  have U1 := Lib.hid (U0.out.trans u1)
  have X1 := Lib.hid (X1.out.up u1)
  have x2 := X2.out.up u1
  have f2 : ∀ j, w1.frozen? ⟨w.heap.size + 1, j, none⟩ = false := fun j => (u1.frozens _ _ (by simp)).trans (F2.out j)
  have X2 := Lib.hid x2
  have F2 := Lib.hid f2
  clear u1 x2 f2
  cases g
  · have K := set3_at (w := w1) (b := w.heap.size + 1) (x := .map none) (y := .int .i64 0) (z := .int .i64 0) (fun j hj => by
      have h3 : j = 0 ∨ j = 1 ∨ j = 2 := by omega
      rcases h3 with rfl | rfl | rfl
      · exact ⟨_, X2.out.c0⟩
      · exact ⟨_, X2.out.c1⟩
      · exact ⟨_, X2.out.c2⟩)
    have UE := Lib.hid (((U1.out.setCell (p := ⟨w.heap.size + 1, 0, none⟩) (by dsimp only; omega) (.map none)).setCell (p := ⟨w.heap.size + 1, 1, none⟩) (by dsimp only; omega) (.int .i64 0)).setCell (p := ⟨w.heap.size + 1, 2, none⟩) (by dsimp only; omega) (.int .i64 0))
    obtain ⟨k0, k1, k2⟩ := K; obtain ⟨q0, q1, q2⟩ := And.intro X2.out.c0 (And.intro X2.out.c1 X2.out.c2)
    have qf := F2.out
    go_wp2
    exact bodyPost_ret (v := .tuple #[.agg #[.map none, .int .i64 0, .int .i64 0], .bool false]) (by simp [results, Try.results66, go_sem, k0, k1, k2]) rfl ⟨UE.out, .inl ⟨HB.out, rfl⟩⟩
  · obtain ⟨q0, q1, q2⟩ := And.intro X1.out.c0 (And.intro X1.out.c1 X1.out.c2)
    have hsz1 : w.heap.size + 1 < w1.heap.size := X2.out.lt
    have FEW := Lib.hid (mdlB_few HB.out)
    have hn4 : n ≤ 4 := by have := FEW.out; have := LR.out; omega
    have H0 := RMap.made w1
    have F0 := Lib.hid (Filled.start w m.rules)
    have hmm := run_makeMap (P := Try.prog) 107 w1
    have u2 : Up w1 (w1.alloc (.map #[] 0)) := (Up.refl _).alloc _
    generalize w1.alloc (.map #[] 0) = w2 at H0 hmm u2
    generalize hmb : w1.heap.size = mb at H0 hmm
    have HMB := Lib.hid hmb
    have H0 := Lib.hid H0
    have x1 := X1.out.up u2
    obtain ⟨p0, p1, p2⟩ := And.intro x1.c0 (And.intro x1.c1 x1.c2)
    have U2 := Lib.hid u2
    clear hmb x1 u2 q0 q1 q2; go_wp2; clear hmm p0 p1 p2
    go_loopw [17] (fun i wr => (∃ (q N : Nat) (f : Int → Int → Option Value), q ≤ n ∧ i = .int .i64 q ∧ N ≤ 3 * q ∧ Hid (RMap wr mb N f) ∧ Hid (Filled w m.rules q 0 f)) ∧ Up w1 wr) (fun i _ => n - (intOf i).toNat)
    case atStart => exact ⟨⟨0, 0, _, by omega, rfl, by omega, H0, F0⟩, U2.out⟩
    case round =>
      obtain ⟨⟨q, N, f, hq, rfl, hN, HMAP, HF⟩, ur⟩ := hrel; obtain ⟨wo, hwo⟩ : ∃ W, W = wr := ⟨_, rfl⟩; subst hwo
      have UR := Lib.hid ur
      by_cases hlt : q < n
      · obtain ⟨b, off, hA, hb, hc⟩ := HR.out.2.2 (by omega)
        subst hA; obtain ⟨A', n', c', hcell, hrs⟩ := hc q hlt
        have cell := ((U1.out.trans ur).cells _ _ hb).trans hcell
        have HS := Lib.hid hrs
        have hb' : b < wo.heap.size := by have := (U1.out.trans ur).size; omega
        have RB := Lib.hid (mdlB_row HB.out q (by rw [LR.out]; exact hlt))
        have hn'3 : n' ≤ 3 := by
          have h := rulesB_len RB.out (by omega) (by omega)
          have := hrs.1
          omega
        clear hc hcell hrs ur
        have i4 : (q : Int) < n := by omega
        have i5 : IntKind.i64.wrap ((q : Int) + 1) = (q : Int) + 1 := IntWalk.i64_in _ (by omega)
        have RN : (m.rules.getD q []).length = n' := HS.out.1
        have RNH := Lib.hid RN
        clear RN
        go_wp2_with fail
        go_loopw [24] (fun j wj => (∃ (p N : Nat) (f : Int → Int → Option Value), p ≤ n' ∧ j = .int .i64 p ∧ N ≤ 3 * q + p ∧ Hid (RMap wj mb N f) ∧ Hid (Filled w m.rules q p f)) ∧ Up w1 wj) (fun j _ => n' - (intOf j).toNat)
        case atStart => exact ⟨⟨0, N, f, by omega, rfl, by omega, HMAP, HF⟩, UR.out⟩
        case round =>
          obtain ⟨⟨p, N2, f2, hp, rfl, hN2, HMAP2, HF2⟩, uj⟩ := hrel
          have UJ := Lib.hid uj
          by_cases hlp : p < n'
          · obtain ⟨b2, off2, hA2, hb2, hc2⟩ := HS.out.2.2 (by omega)
            subst hA2
            have at2 := (hc2 p hlp).up (U1.out.trans uj) hb2
            have hb2' : b2 < wr.heap.size := by have := (U1.out.trans uj).size; omega
            have at0 := hc2 p hlp
            clear hc2
            have ST := Lib.hid (fun r (hr : (m.rules.getD q []).getD p default = r) A n c hn he => HF2.out.step (r := r) (A := A) (n := n) (c := c) (by rw [RNH.out]; exact hlp) hr hn he)
            have RB2 := rulesB_mem RB.out p (by rw [RNH.out]; exact hlp)
            generalize hgr : (m.rules.getD q []).getD p default = r at at2 at0 RB2 ST
            obtain ⟨A3, n3, c3, ⟨r0, r1, r2, r3, r4⟩, hn3, he3⟩ := at0; obtain ⟨A4, n4, c4, ⟨s0, s1, s2, s3, s4⟩, hn4', he4⟩ := at2
            have e4 := ((U1.out.trans uj).cells _ _ hb2).trans r4
            rw [s4] at e4
            injection e4 with e4
            injection e4 with e41 e42 e43
            subst e41 e42 e43
            have HF3 := Lib.hid (ST.out r rfl A4 n4 c4 hn3 he3)
            have hkd : 0 ≤ r.kd ∧ r.kd ≤ 2 := by
              simp only [ruleB, Bool.and_eq_true, inB_iff] at RB2
              exact RB2.1.1.1.2
            obtain ⟨kd, ra, rb, rc, es⟩ := r; dsimp only at s0 s1 s2 s3 s4 hkd; unfold Rule.v at HF3; dsimp only at HF3
            have HM3 := Lib.hid (HMAP2.out.up ((Up.refl wr).alloc (.cells #[.int .i64 kd, .int .i64 ra, .int .i64 rb, .int .i64 rc, .slice A4 n4 c4] 166)))
            have UJ2 := Lib.hid (uj.alloc (.cells #[.int .i64 kd, .int .i64 ra, .int .i64 rb, .int .i64 rc, .slice A4 n4 c4] 166))
            clear uj r0 r1 r2 r3 r4 he3 he4 RB2 ST hgr
            have hmb1 : w1.heap.size ≤ mb := by have := HMB.out; omega
            have i6 : (p : Int) < n' := by omega
            have i7 : IntKind.i64.wrap ((p : Int) + 1) = (p : Int) + 1 := IntWalk.i64_in _ (by omega)
            go_wp2_with (at_mapUpdate; refine wpList_store_R rfl _ rfl _ _ _ rfl mb N2 f2 rfl HM3.out (by simp only [maxLen]; omega) q kd rfl (by unfold I64; omega) (by unfold I64; omega) _ rfl ?_; intro w5 h5 m5; have H5 := Lib.hid h5; have U5 := Lib.hid (m5.up UJ2.out hmb1); clear h5 m5)
            go_roundw
            case rel => exact ⟨⟨p + 1, N2 + 1, _, by omega, by first | rfl | go_num, by omega, H5, HF3⟩, U5.out⟩
            case measure => (simp [intOf]; try omega)
          · have HR2 := Lib.hid (HF2.out.row (by rw [RNH.out]; omega))
            have i6 : ¬ (p : Int) < n' := by omega
            clear uj; go_wp2
            go_roundw
            case rel => exact ⟨⟨q + 1, N2, f2, by omega, by first | rfl | go_num, by omega, HMAP2, HR2⟩, UJ.out⟩
            case measure => (simp [intOf]; try omega)
      · have hqn : q = n := by omega
        have DN := Lib.hid ((show Filled w m.rules m.rules.length 0 f by rw [LR.out, ← hqn]; exact HF.out).done HB.out)
        have i4 : ¬ (q : Int) < n := by omega
        clear ur hqn
        have x1 := X1.out.up UR.out
        obtain ⟨q0, q1, q2⟩ := And.intro x1.c0 (And.intro x1.c1 x1.c2)
        have x2 := X2.out.up UR.out
        obtain ⟨p0, p1, p2⟩ := And.intro x2.c0 (And.intro x2.c1 x2.c2)
        have qf : ∀ j, wo.frozen? ⟨w.heap.size + 1, j, none⟩ = false := fun j => (UR.out.frozens _ _ hsz1).trans (F2.out j)
        have K := set3_at (w := wo) (b := w.heap.size + 1) (x := .map (some mb)) (y := .int .i64 n) (z := .int .i64 m.til) (fun j hj => by
          have h3 : j = 0 ∨ j = 1 ∨ j = 2 := by omega
          rcases h3 with rfl | rfl | rfl
          · exact ⟨_, x2.c0⟩
          · exact ⟨_, x2.c1⟩
          · exact ⟨_, x2.c2⟩)
        obtain ⟨k0, k1, k2⟩ := K
        have UE := Lib.hid ((((U1.out.trans UR.out).setCell (p := ⟨w.heap.size + 1, 0, none⟩) (by dsimp only; omega) (.map (some mb))).setCell (p := ⟨w.heap.size + 1, 1, none⟩) (by dsimp only; omega) (.int .i64 n)).setCell (p := ⟨w.heap.size + 1, 2, none⟩) (by dsimp only; omega) (.int .i64 m.til))
        have hmbw : w.heap.size + 1 < mb := by have := HMB.out; omega
        have ME := Lib.hid (show Mach _ mb m from ⟨N, f, ((HMAP.out.setFar (p := ⟨w.heap.size + 1, 0, none⟩) (by dsimp only; omega) (.map (some mb))).setFar (p := ⟨w.heap.size + 1, 1, none⟩) (by dsimp only; omega) (.int .i64 n)).setFar (p := ⟨w.heap.size + 1, 2, none⟩) (by dsimp only; omega) (.int .i64 m.til), fun c k => (DN.out c k).up UE.out⟩)
        clear x1 x2; go_wp2
        exact bodyPost_ret (v := .tuple #[.agg #[.map (some mb), .int .i64 n, .int .i64 m.til], .bool true]) (by simp [results, Try.results66, go_sem, k0, k1, k2]) rfl ⟨UE.out, .inr ⟨HB.out, mb, by rw [LR.out], by omega, ME.out⟩⟩
end Go.Proofs.Ytklldniapombiaa

namespace Go.Proofs.Ytklldniapombiaa
set_option maxRecDepth 100000
open Go.RowKit
theorem RMap.look1 {w : World} {b n : Nat} {f : Int → Int → Option Value} (h : RMap w b n f) (c k : Int) (hc : I64 c) (hk : I64 k) :
    (Instr.lookup 107 (.map (some b)) (.agg #[.int .i64 c, .int .i64 k]) false).run Try.prog w = .ok ((f c k).getD ZRv) w := by
  obtain ⟨D, ho, _, hr⟩ := h; obtain ⟨l, hl⟩ := key_ex c k hc hk; obtain ⟨h1, h2⟩ := hr c k l hl; obtain ⟨v, ps, hrun, hv⟩ := ho.lookup keyLaw Try.underlying107 (zeroRule w) (zd := .held ZRv) (zp := []) rfl hl
  have e : v = (f c k).getD ZRv := by
    rw [h1 (.held ZRv)] at hv; simp only [valR, Option.some.injEq, Prod.mk.injEq] at hv
    cases hf : f c k with
    | none => rw [hf] at hv; simpa using hv.1
    | some u => rw [hf] at hv; simpa using hv.1
  rw [← e]
  exact hrun
/-- A rule looked up without a word whether it is there: its sends, or none. -/
theorem Mach.look1 {w W : World} {b : Nat} {m : Mdl} (h : Mach w b m) (u : Up w W) (c k : Int) (hc : I64 c) (hk : I64 k) (h0 : 0 ≤ c) :
    ∃ kd ra rb rc A n cp ss, (Instr.lookup 107 (.map (some b)) (.agg #[.int .i64 c, .int .i64 k]) false).run Try.prog W = .ok (.agg #[.int .i64 kd, .int .i64 ra, .int .i64 rb, .int .i64 rc, .slice A n cp]) W ∧
      n ≤ 9223372036854775807 ∧ Evs W A n ss ∧ ∀ to l, lkO to l (ruleOf k (m.rules.getD c.toNat [])) = lkS to l ss := by
  obtain ⟨N, f, h1, h2⟩ := h
  have hr := h2 c k
  rw [if_pos h0] at hr
  have hl := (h1.up u).look1 c k hc hk
  cases ho : ruleOf k (m.rules.getD c.toNat []) with
  | none =>
    rw [ho] at hr; unfold RowV at hr; dsimp only at hr; rw [hr] at hl
    exact ⟨0, 0, 0, 0, none, 0, 0, [], hl, by omega, Evs.none_ W, fun _ _ => rfl⟩
  | some r =>
    rw [ho] at hr; obtain ⟨A, n, cp, e, hn, he⟩ := hr; rw [e] at hl
    exact ⟨r.kd, r.a, r.b, r.c, A, n, cp, r.sends, hl, hn, he.up u, fun _ _ => rfl⟩
theorem neverL_any (mb : Option Nat) (many til : Int) (w : World) (h0 : 0 ≤ til ∧ til ≤ 99) :
    Calls Try.prog 120 #[.agg #[.map mb, .int .i64 many, .int .i64 til]] w fun x w' => x = .returned (.int .i64 (til + 1)) ∧ Up w w' := by
  have i1 : IntKind.i64.wrap (til + 1) = til + 1 := IntWalk.i64_in _ (by omega)
  go_enter Try.func120, Try.ntmps120
  go_wp2; go_ret
  exact ⟨rfl, (Up.refl w).alloc _⟩
set_option maxHeartbeats 4000000 in
theorem look_any (mb : Nat) (many : Int) (m : Mdl) (fr to : Int) (w : World) (hM : Mach w mb m) (hm : mdlB m = true) (h0 : 0 ≤ fr) (h1 : fr < m.rules.length) :
    Calls Try.prog 74 #[.agg #[.map (some mb), .int .i64 many, .int .i64 m.til], .int .i64 fr, .int .i64 to] w fun x w' => x = .returned (.int .i64 (lkR to (m.til + 1) (m.rules.getD fr.toNat []))) ∧ Up w w' := by
  have few := mdlB_few hm
  have RB := Lib.hid (mdlB_row hm fr.toNat (by omega))
  have HM := Lib.hid hM
  have TL := mdlB_til hm
  have CN := Lib.hid (fun W => neverL_any (some mb) many m.til W TL)
  have LK := Lib.hid (fun W (u : Up w W) q (hq : 0 ≤ q ∧ q ≤ 2) => HM.out.look1 u fr q (by unfold I64; omega) (by unfold I64; omega) h0)
  have TG := Lib.hid (lkU_lkR (many := m.rules.length) (to := to) 3 0 (m.til + 1) (m.rules.getD fr.toNat []) RB.out (by omega))
  generalize m.rules.getD fr.toNat [] = rs at RB LK TG ⊢
  generalize lkR to (m.til + 1) rs = R at TG ⊢
  generalize m.til = til at *
  have X2 := Lib.hid (Box3.new w (.map (some mb)) (.int .i64 many) (.int .i64 til) 109)
  have U0 := Lib.hid ((Up.refl w).alloc (.cells #[.map (some mb), .int .i64 many, .int .i64 til] 109))
  clear hM hm RB
  go_enter Try.func74, Try.ntmps74
  go_wp2_with fail
  refine (CN.out _).mono ?_; rintro x w1 ⟨rfl, u1⟩
  have U1 := Lib.hid (U0.out.trans u1)
  have X2 := Lib.hid (X2.out.up u1)
  clear u1 U0 CN; go_wp2
  go_loopw [7, 13] (fun l i wr => (∃ (q : Nat) (z : Int), q ≤ 3 ∧ i = .int .i64 q ∧ l = .int .i64 z ∧ Hid (lkU to (3 - q) q z rs = R)) ∧ Up w1 wr) (fun _ i _ => 3 - (intOf i).toNat)
  case atStart => exact ⟨⟨0, til + 1, by omega, rfl, rfl, TG⟩, Up.refl _⟩
  case round =>
    obtain ⟨⟨q, z, hq, rfl, rfl, HT⟩, ur⟩ := hrel
    have UR := Lib.hid ur
    have x2 := X2.out.up ur
    obtain ⟨q0, q1, q2⟩ := And.intro x2.c0 (And.intro x2.c1 x2.c2)
    have lt2_ := x2.lt
    clear ur x2
    by_cases hlt : q < 3
    · obtain ⟨kd, ra, rb, rc, A, n, cp, ss, hrun, hn, he, hlk⟩ := LK.out wr (U1.out.trans UR.out) q (by omega)
      have HE := Lib.hid he
      have HS := Lib.hid (hlk to z)
      have i4 : (q : Int) < 3 := by omega
      have ST := Lib.hid (show lkU to (3 - (q + 1)) ((q + 1 : Nat) : Int) (lkS to z ss) rs = R by
        have := HT.out
        rw [show 3 - q = (3 - (q + 1)) + 1 by omega, lkU_step, HS.out] at this; rw [← this]
        congr 1)
      clear he hlk HT HS
      have FL := fun W : World => (show (Instr.field 166 (.agg #[.int .i64 kd, .int .i64 ra, .int .i64 rb, .int .i64 rc, .slice A n cp]) 4).run Try.prog W = .ok (.slice A n cp) W from rfl)
      go_wp2; clear q0 q1 q2 lt2_ hrun
      have H0 := Lib.hid (show lkS to z (ss.drop 0) = lkS to z ss from rfl)
      generalize lkS to z ss = S at ST H0
      go_loopw [7, 24] (fun l i wj => (∃ (p : Nat) (y : Int), p ≤ n ∧ i = .int .i64 p ∧ l = .int .i64 y ∧ Hid (lkS to y (ss.drop p) = S)) ∧ Up wr wj) (fun _ i _ => n - (intOf i).toNat)
      case atStart => exact ⟨⟨0, z, by omega, rfl, rfl, H0⟩, Up.refl _⟩
      case round =>
        obtain ⟨⟨p, y, hp, rfl, rfl, HY⟩, uj⟩ := hrel
        have UJ := Lib.hid uj
        have ee := HE.out.up uj
        clear uj
        by_cases hlp : p < n
        · obtain ⟨b, off, hA, hb, hc⟩ := ee.2 (by omega)
          subst hA
          have a0 := hc p hlp
          have DR := Lib.hid (lkS_drop to y ss p (by rw [ee.1]; exact hlp))
          clear hc ee
          generalize ss.getD p default = e at a0 DR
          obtain ⟨et, eto, efr, esq, ekd, edt⟩ := e; unfold EvAt at a0; dsimp only at a0 DR; obtain ⟨p0, p1, p2, p3, p4, p5⟩ := a0
          have i4 : (p : Int) < n := by omega
          have UX := Lib.hid (UJ.out.alloc (.cells #[.int .i64 et, .int .i64 eto, .int .i64 efr, .int .i64 esq, .int .i64 ekd, .int .i64 edt] 168))
          by_cases hto : et = to
          · have HZ := Lib.hid (show lkS to (min y eto) (ss.drop (p + 1)) = S by rw [← HY.out, DR.out, if_pos hto])
            subst hto
            by_cases hmin : y ≤ eto
            · rw [show min y eto = y by omega] at HZ
              go_wp2
              go_roundw
              case rel => exact ⟨⟨p + 1, y, by omega, by go_num, rfl, HZ⟩, UX.out⟩
              case measure => simp [intOf]; omega
            · rw [show min y eto = eto by omega] at HZ
              go_wp2
              go_roundw
              case rel => exact ⟨⟨p + 1, eto, by omega, by go_num, by rw [if_pos (by omega)], HZ⟩, UX.out⟩
              case measure => simp [intOf]; omega
          · have HZ := Lib.hid (show lkS to y (ss.drop (p + 1)) = S by rw [← HY.out, DR.out, if_neg hto])
            go_wp2
            go_roundw
            case rel => exact ⟨⟨p + 1, y, by omega, by go_num, rfl, HZ⟩, UX.out⟩
            case measure => simp [intOf]; omega
        · have EN := lkS_end to y ss p (by rw [ee.1]; omega)
          rw [HY.out] at EN; subst EN
          have i4 : ¬ (p : Int) < n := by omega
          go_wp2
          go_roundw
          case rel => exact ⟨⟨q + 1, S, by omega, by go_num, rfl, ST⟩, UR.out.trans UJ.out⟩
          case measure => simp [intOf]; omega
    · obtain rfl : q = 3 := by omega
      have hz : z = R := by have := HT.out; rw [show 3 - 3 = 0 by omega, lkU_zero] at this; exact this
      subst hz; go_wp2; go_ret
      exact ⟨rfl, U1.out.trans UR.out⟩
end Go.Proofs.Ytklldniapombiaa

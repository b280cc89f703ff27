/-
  What a machine's map holds, in one sentence: for each component and kind the model's rule, if there is one; no condition is made.
  What szSeqState and toSeqState return, in one sentence: -1 or what is left, and a copy in new memory; for every simulator that lies in memory.
  Heaps whose blocks are typed, in one sentence: of each block from a S on whose element type a table lists, every cell holds what the table says, and what each step keeps of it; no condition is made.
  What stands in the slots of regions over a typed heap, in one sentence: numbers, arrays of numbers, aggregates, slices in typed blocks, each kept by every step; no condition is made.
-/
import Derived.ArgAppend
import Derived.Test.YtklldniapombiaaDLEcbsf01
import Derived.Test.YtklldniapombiaaDLEcbsf02
import Derived.Test.YtklldniapombiaaDLEcbsf03
import Derived.Test.YtklldniapombiaaDLEcbsf07
import Derived.Test.YtklldniapombiaaDLEcbsf09
import Derived.Test.YtklldniapombiaaDLEcbsf11
namespace Go.Proofs.Ytklldniapombiaa
set_option maxRecDepth 100000
open Go.RowKit
/-- A rule as a value over a slice that holds its sends. -/
def RowV (w : World) (o : Option Rule) (v : Option Value) : Prop :=
  match o with
  | none => v = none
  | some r => ∃ A n c, v = some (r.v (.slice A n c)) ∧ n ≤ 9223372036854775807 ∧ Evs w A n r.sends
theorem RowV.up {w w' : World} {o : Option Rule} {v : Option Value} (h : RowV w o v) (u : Up w w') : RowV w' o v := by
  cases o with
  | none => exact h
  | some r =>
    obtain ⟨A, n, c, h1, h2, h3⟩ := h
    exact ⟨A, n, c, h1, h2, h3.up u⟩
/-- The last rule of a kind. -/
def lastOf (kd : Int) : List Rule → Option Rule
  | [] => none
  | r :: rs => match lastOf kd rs with
    | some x => some x
    | none => if r.kd = kd then some r else none
theorem lastOf_snoc (kd : Int) (r : Rule) : ∀ rs : List Rule, lastOf kd (rs ++ [r]) = if r.kd = kd then some r else lastOf kd rs
  | [] => by simp [lastOf]
  | x :: rs => by
    rw [List.cons_append, lastOf, lastOf_snoc kd r rs]
    by_cases h : r.kd = kd
    · simp [h]
    · simp only [if_neg h]
      rw [lastOf]
theorem lastOf_take (kd : Int) (rs : List Rule) (q : Nat) (h : q < rs.length) : lastOf kd (rs.take (q + 1)) = if (rs.getD q default).kd = kd then some (rs.getD q default) else lastOf kd (rs.take q) := by
  rw [List.take_succ_eq_append_getElem h, lastOf_snoc]; simp [h]
theorem lastOf_past {many kd : Int} : ∀ {bf : Int} {rs : List Rule}, rulesB many bf rs = true → kd ≤ bf → lastOf kd rs = none
  | _, [], _, _ => rfl
  | bf, x :: rs, h, hk => by
    rw [rulesB, Bool.and_eq_true, Bool.and_eq_true] at h
    have h1 := of_decide_eq_true h.1.1
    rw [lastOf, lastOf_past h.2 (by omega)]
    exact if_neg (by omega)
theorem lastOf_ruleOf {many kd : Int} : ∀ {bf : Int} {rs : List Rule}, rulesB many bf rs = true → lastOf kd rs = ruleOf kd rs
  | _, [], _ => rfl
  | bf, x :: rs, h => by
    rw [rulesB, Bool.and_eq_true, Bool.and_eq_true] at h; rw [lastOf, ruleOf]
    by_cases hk : x.kd = kd
    · rw [lastOf_past h.2 (by omega), if_pos hk]
      exact (if_pos hk).symm
    · rw [lastOf_ruleOf h.2, if_neg hk, if_neg hk]
      cases ruleOf kd rs <;> rfl
theorem rulesB_len {many : Int} : ∀ {bf : Int} {rs : List Rule}, rulesB many bf rs = true → -1 ≤ bf → bf ≤ 2 → (rs.length : Int) ≤ 2 - bf
  | bf, [], _, _, h2 => by simp; omega
  | bf, x :: rs, h, h1, h2 => by
    rw [rulesB, Bool.and_eq_true, Bool.and_eq_true] at h
    have k1 := of_decide_eq_true h.1.1
    have k2 := h.1.2
    simp only [ruleB, Bool.and_eq_true, inB_iff] at k2
    have := rulesB_len h.2 (by omega) (by omega)
    simp only [List.length_cons]
    omega
theorem rulesB_mem {many : Int} : ∀ {bf : Int} {rs : List Rule}, rulesB many bf rs = true → ∀ i, i < rs.length → ruleB (rs.getD i default) many = true
  | _, [], _, _, h => absurd h (by simp)
  | bf, x :: rs, h, 0, _ => by
    rw [rulesB, Bool.and_eq_true, Bool.and_eq_true] at h
    exact h.1.2
  | bf, x :: rs, h, i + 1, hi => by
    rw [rulesB, Bool.and_eq_true, Bool.and_eq_true] at h
    simpa using rulesB_mem h.2 i (by simpa using hi)
theorem mdlB_row {m : Mdl} (hm : mdlB m = true) (i : Nat) (hi : i < m.rules.length) : rulesB m.rules.length (-1) (m.rules.getD i []) = true := by
  simp only [mdlB, Bool.and_eq_true, List.all_eq_true] at hm; refine hm.2 (m.rules.getD i []) ?_; rw [List.getD, List.getElem?_eq_getElem hi]
  exact List.getElem_mem hi
theorem mdlB_few {m : Mdl} (hm : mdlB m = true) : 1 ≤ m.rules.length ∧ m.rules.length ≤ 4 := by
  simp only [mdlB, Bool.and_eq_true] at hm
  have := inB_iff.1 hm.1.1.1
  omega
/-- What stands at a key when i components and q rules of the next are stored. -/
def upto (rss : List (List Rule)) (i q : Nat) (c k : Int) : Option Rule :=
  if c < 0 then none else if c < i then lastOf k (rss.getD c.toNat []) else if c = i then lastOf k ((rss.getD i []).take q) else none
def Filled (w : World) (rss : List (List Rule)) (i q : Nat) (f : Int → Int → Option Value) : Prop := ∀ c k, RowV w (upto rss i q c k) (f c k)
theorem Filled.start (w : World) (rss : List (List Rule)) : Filled w rss 0 0 (fun _ _ => none) := fun c k => by
  have e : upto rss 0 0 c k = none := by
    unfold upto
    split
    · rfl
    · split
      · omega
      · split
        · simp [lastOf]
        · rfl
  rw [e]
  rfl
theorem Filled.step {w : World} {rss : List (List Rule)} {i q : Nat} {f : Int → Int → Option Value} (h : Filled w rss i q f) {r : Rule} (hq : q < (rss.getD i []).length) (hr : (rss.getD i []).getD q default = r) {A : Option Addr} {n c : Nat}
    (hn : n ≤ 9223372036854775807) (he : Evs w A n r.sends) : Filled w rss i (q + 1) (fun c' k' => if c' = (i : Int) ∧ k' = r.kd then some (r.v (.slice A n c)) else f c' k') := fun c' k' => by
  have h0 := h c' k'
  have e : upto rss i (q + 1) c' k' = if c' = (i : Int) ∧ k' = r.kd then some r else upto rss i q c' k' := by
    unfold upto
    by_cases hc : c' = (i : Int)
    · subst hc
      have n1 : ¬ (i : Int) < 0 := by omega
      have n2 : ¬ (i : Int) < i := by omega
      simp only [if_neg n1, if_neg n2, if_true]; rw [lastOf_take _ _ _ hq, hr]
      by_cases hk : k' = r.kd
      · rw [if_pos hk.symm, if_pos ⟨trivial, hk⟩]
      · rw [if_neg (fun e => hk e.symm), if_neg (fun e => hk e.2)]
    · rw [if_neg hc, if_neg (fun e : c' = (i : Int) ∧ k' = r.kd => hc e.1), if_neg hc]
  rw [e]
  by_cases hc : c' = (i : Int) ∧ k' = r.kd
  · simp only [if_pos hc]
    exact ⟨A, n, c, rfl, hn, he⟩
  · simp only [if_neg hc]
    exact h0
theorem Filled.row {w : World} {rss : List (List Rule)} {i q : Nat} {f : Int → Int → Option Value} (h : Filled w rss i q f) (hq : (rss.getD i []).length ≤ q) : Filled w rss (i + 1) 0 f := fun c k => by
  have h0 := h c k
  have e : upto rss (i + 1) 0 c k = upto rss i q c k := by
    unfold upto
    by_cases h1 : c < 0
    · rw [if_pos h1, if_pos h1]
    · rw [if_neg h1, if_neg h1]
      by_cases h2 : c < (i : Int)
      · rw [if_pos h2, if_pos (by omega)]
      · rw [if_neg h2]
        by_cases h3 : c = (i : Int)
        · subst h3
          rw [if_pos (by omega), if_pos rfl, List.take_of_length_le hq]; simp
        · rw [if_neg (by omega), if_neg h3]
          split
          · simp [lastOf]
          · rfl
  rw [e]
  exact h0
/-- The map of a model. -/
def Mach (w : World) (b : Nat) (m : Mdl) : Prop :=
  ∃ N f, RMap w b N f ∧ ∀ c k, RowV w (if 0 ≤ c then ruleOf k (m.rules.getD c.toNat []) else none) (f c k)
theorem Filled.done {w : World} {m : Mdl} (hm : mdlB m = true) {f : Int → Int → Option Value} (h : Filled w m.rules m.rules.length 0 f) : ∀ c k, RowV w (if 0 ≤ c then ruleOf k (m.rules.getD c.toNat []) else none) (f c k) := fun c k => by
  have h0 := h c k
  have e : upto m.rules m.rules.length 0 c k = if 0 ≤ c then ruleOf k (m.rules.getD c.toNat []) else none := by
    unfold upto
    by_cases h1 : c < 0
    · rw [if_pos h1, if_neg (show ¬ (0 : Int) ≤ c by omega)]
    · rw [if_neg h1, if_pos (show (0 : Int) ≤ c by omega)]
      by_cases h2 : c < (m.rules.length : Int)
      · rw [if_pos h2, lastOf_ruleOf (mdlB_row hm c.toNat (by omega))]
      · rw [if_neg h2]
        have : m.rules.getD c.toNat [] = [] := by
          rw [List.getD, List.getElem?_eq_none (by omega)]
          rfl
        rw [this]
        split
        · simp [lastOf, ruleOf]
        · rfl
  rw [← e]
  exact h0
theorem wpList_store_R {P : Program} (hP : P = Try.prog) (w : World) {ops : Array Oper} {rest : List Oper} {o : Oper} {a : Act} {Q : Exit → Act → World → Prop}
    (hg : o.guard = none) (m x v : Operand) (hop : o.op = Op.mapUpdate 107 m x v) (b n : Nat) (f : Int → Int → Option Value) (hm : a.eval m = .map (some b)) (h : RMap w b n f) (hn : n < maxLen)
    (c k : Int) (hx : a.eval x = .agg #[.int .i64 c, .int .i64 k]) (hc : I64 c) (hk : I64 k) (val : Value) (hv : a.eval v = val)
    (hK : ∀ w', RMap w' b (n + 1) (fun c' k' => if c' = c ∧ k' = k then some val else f c' k') → Mv b w w' → wpList P ops Q rest (a.put o.dst undef) w') : wpList P ops Q (o :: rest) a w := by
  subst hP
  refine wpList_plain hg fun K' hK' => ?_
  obtain ⟨w', hrun, r1, r2⟩ := h.store hn c k hc hk val; unfold Oper.wp; simp [execOp, hop, hm, hx, hv, hrun, Result.andThen]
  exact hK' _ _ (hK w' r1 r2)
end Go.Proofs.Ytklldniapombiaa

namespace Go.Proofs.Ytklldniapombiaa
set_option maxRecDepth 100000
open Go.RowKit
/-- The world with numbers laid one behind the other. -/
def putF (w : World) (g o : Nat) (f : Nat → Int) : Nat → World
  | 0 => w
  | j + 1 => (putF w g o f j).setCell ⟨g, o + j, none⟩ (.int .i64 (f j))
theorem putF_other (w : World) (g o : Nat) (f : Nat → Int) (b p : Nat) : ∀ s : Nat, (b ≠ g ∨ p < o ∨ o + s ≤ p) → (putF w g o f s).cell? ⟨b, p, none⟩ = w.cell? ⟨b, p, none⟩
  | 0, _ => rfl
  | s + 1, h => by rw [putF, World.cell?_setCell_other _ _ _ _ (addr_ne (by omega)), putF_other w g o f b p s (by omega)]
theorem putF_frozen (w : World) (g o : Nat) (f : Nat → Int) (a : Addr) : ∀ s : Nat, (putF w g o f s).frozen? a = w.frozen? a
  | 0 => rfl
  | s + 1 => by
    have := putF_frozen w g o f a s
    simpa [putF, go_sem] using this
theorem putF_size (w : World) (g o : Nat) (f : Nat → Int) : ∀ s : Nat, (putF w g o f s).heap.size = w.heap.size
  | 0 => rfl
  | s + 1 => by
    have := putF_size w g o f s
    simpa [putF] using this
theorem putF_at (w : World) (g o : Nat) (f : Nat → Int) : ∀ s : Nat, (∀ j, j < s → ∃ v, w.cell? ⟨g, o + j, none⟩ = some v) → ∀ j, j < s → (putF w g o f s).cell? ⟨g, o + j, none⟩ = some (.int .i64 (f j))
  | 0, _, j, hj => absurd hj (by omega)
  | s + 1, h, j, hj => by
    rw [putF]
    by_cases e : j = s
    · subst e
      obtain ⟨v, hv⟩ := h j (by omega)
      exact World.cell?_setCell_same _ _ _ ((putF_other w g o f g (o + j) j (by omega)).trans hv)
    · rw [World.cell?_setCell_other _ _ _ _ (addr_ne (by omega))]
      exact putF_at w g o f s (fun i hi => h i (by omega)) j (by omega)
theorem Up.putF {a w : World} {g : Nat} (h : Up a w) (hg : a.heap.size ≤ g) (o : Nat) (f : Nat → Int) : ∀ s : Nat, Up a (Go.Proofs.Ytklldniapombiaa.putF w g o f s)
  | 0 => h
  | s + 1 => (Up.putF h hg o f s).setCell hg _
theorem IntsOwn.putF {w : World} {g N o s : Nat} {f : Nat → Int} (h : IntsOwn w g N) : IntsOwn (Go.Proofs.Ytklldniapombiaa.putF w g o f s) g N := by
  refine ⟨by rw [putF_size]; exact h.1, fun j hj => ?_⟩; obtain ⟨⟨z, hz⟩, hf⟩ := h.2 j hj; refine ⟨?_, (putF_frozen _ _ _ _ _ _).trans hf⟩
  induction s with
  | zero => exact ⟨z, hz⟩
  | succ s ih =>
    obtain ⟨z', hz'⟩ := ih; rw [Go.Proofs.Ytklldniapombiaa.putF]
    by_cases e : o + s = j
    · subst e
      exact ⟨_, World.cell?_setCell_same _ _ _ hz'⟩
    · exact ⟨z', (World.cell?_setCell_other _ _ _ _ (addr_ne (by omega))).trans hz'⟩
/-- On the way: k rows of s numbers are laid. -/
def RowsTo (w : World) (g n s k : Nat) (F : Nat → Nat → Int) : Prop := IntsOwn w g (n * s) ∧ ∀ i, i < k → ∀ j, j < s → w.cell? ⟨g, i * s + j, none⟩ = some (.int .i64 (F i j))
theorem RowsTo.up {w w' : World} {g n s k : Nat} {F : Nat → Nat → Int} (h : RowsTo w g n s k F) (u : Up w w') : RowsTo w' g n s k F := ⟨h.1.up u, fun i hi j hj => (u.cells _ _ h.1.1).trans (h.2 i hi j hj)⟩
theorem RowsTo.step {w : World} {g n s k : Nat} {F : Nat → Nat → Int} (h : RowsTo w g n s k F) (hk : k < n) (f : Nat → Int) (hf : ∀ j, j < s → f j = F k j) : RowsTo (putF w g (k * s) f s) g n s (k + 1) F := by
  have le1 : (k + 1) * s ≤ n * s := Nat.mul_le_mul_right s (by omega)
  have e1 : (k + 1) * s = k * s + s := by rw [Nat.add_mul, Nat.one_mul]
  refine ⟨h.1.putF, fun i hi j hj => ?_⟩
  by_cases hik : i = k
  · subst hik
    rw [← hf j hj]
    exact putF_at w g (i * s) _ s (fun j hj => by
      obtain ⟨⟨z, hz⟩, _⟩ := h.1.2 (i * s + j) (by omega)
      exact ⟨_, hz⟩) j hj
  · have le2 : (i + 1) * s ≤ k * s := Nat.mul_le_mul_right s (by omega)
    have e2 : (i + 1) * s = i * s + s := by rw [Nat.add_mul, Nat.one_mul]
    exact (putF_other w g (k * s) _ g (i * s + j) s (by omega)).trans (h.2 i (by omega) j hj)
theorem zeros_get (zs : Array Value) (N : Nat) (hz : ∀ j, j < zs.size → zs[j]! = .int .i64 0) (j : Nat) (hj : j < N) (hs : 0 < zs.size) : (madeCells zs N)[j]? = some (.int .i64 0) := by
  have hsz : j < (madeCells zs N).size := by rw [size_madeCells]; exact hj
  rw [Array.getElem?_eq_getElem hsz]; simp only [madeCells, Array.getElem_map, Array.getElem_range]; rw [hz _ (Nat.mod_lt _ hs)]
theorem RowsTo.start (w : World) (n s : Nat) (zs : Array Value) (t : TypeId) (F : Nat → Nat → Int) (hz : ∀ j, j < zs.size → zs[j]! = .int .i64 0) (hs : 0 < zs.size) : RowsTo (w.alloc (.cells (madeCells zs (n * s)) t)) w.heap.size n s 0 F := by
  have hh := heap_alloc_new w (.cells (madeCells zs (n * s)) t)
  refine ⟨⟨by simp, fun j hj => ⟨⟨0, ?_⟩, ?_⟩⟩, fun i hi => absurd hi (by omega)⟩
  · rw [cell_of_row _ _ j _ _ _ hh]
    exact zeros_get zs _ hz j hj hs
  · unfold World.frozen?
    rw [hh]; simp
def Rec.nums (r : Rec) : List Int := [r.ev.t, r.ev.to, r.ev.fr, r.ev.sq, r.ev.kd, r.ev.dt, r.s]
theorem szC_any (A : Option Addr) (n cap : Nat) (left : Int) (w : World) (h0 : 0 ≤ left) (h1 : left ≤ 1048576) (hn : n ≤ 9223372036854775807) :
    Calls Try.prog 75 #[.slice A n cap, .int .i64 left] w fun x w' => x = .returned (.int .i64 (if left < n then -1 else left - n)) ∧ w = w' := by
  have hwrap := IntWalk.i64_in (left - n) (by omega)
  by_cases h : left < n
  · have j1 : left - (n : Int) < 0 := by omega
    go_enter Try.func75, Try.ntmps75
    go_wp2; go_ret
    exact ⟨by first | rfl | (rw [if_pos h]; rfl), rfl⟩
  · have j1 : ¬ left - (n : Int) < 0 := by omega
    go_enter Try.func75, Try.ntmps75
    go_wp2; go_ret
    exact ⟨by first | rfl | (rw [if_neg h]; rfl), rfl⟩
theorem szR_any (A : Option Addr) (n cap : Nat) (left : Int) (w : World) (h0 : 0 ≤ left) (h1 : left ≤ 1048576) (hn : n ≤ 9223372036854775807) :
    Calls Try.prog 76 #[.slice A n cap, .int .i64 left] w fun x w' => x = .returned (.int .i64 (if left < n then -1 else left - n)) ∧ w = w' := by
  have hwrap := IntWalk.i64_in (left - n) (by omega)
  by_cases h : left < n
  · have j1 : left - (n : Int) < 0 := by omega
    go_enter Try.func76, Try.ntmps76
    go_wp2; go_ret
    exact ⟨by first | rfl | (rw [if_pos h]; rfl), rfl⟩
  · have j1 : ¬ left - (n : Int) < 0 := by omega
    go_enter Try.func76, Try.ntmps76
    go_wp2; go_ret
    exact ⟨by first | rfl | (rw [if_neg h]; rfl), rfl⟩
def ZRec : Array Value := #[.int .i64 0, .int .i64 0, .int .i64 0, .int .i64 0, .int .i64 0, .int .i64 0, .int .i64 0]
theorem IntsOwn.zr (w : World) : IntsOwn (w.alloc (.cells ZRec 180)) w.heap.size 7 := by
  have hh := heap_alloc_new w (.cells ZRec 180)
  refine ⟨by simp, fun j hj => ⟨⟨0, ?_⟩, ?_⟩⟩
  · rw [cell_of_row _ _ j _ _ _ hh]
    have h : j = 0 ∨ j = 1 ∨ j = 2 ∨ j = 3 ∨ j = 4 ∨ j = 5 ∨ j = 6 := by omega
    rcases h with rfl | rfl | rfl | rfl | rfl | rfl | rfl <;> rfl
  · unfold World.frozen?
    rw [hh]; simp
theorem IntsOwn.upN {w : World} {g g' N o s : Nat} {f : Nat → Int} (h : IntsOwn w g N) (hne : g ≠ g') : IntsOwn (Go.Proofs.Ytklldniapombiaa.putF w g' o f s) g N := by
  refine ⟨by rw [putF_size]; exact h.1, fun j hj => ?_⟩; obtain ⟨⟨z, hz⟩, hf⟩ := h.2 j hj
  exact ⟨⟨z, (putF_other _ _ _ _ _ _ _ (.inl hne)).trans hz⟩, (putF_frozen _ _ _ _ _ _).trans hf⟩
set_option maxHeartbeats 1000000 in
theorem toRec_any (r : Rec) (w : World) :
    Calls Try.prog 128 #[r.v] w fun x w' => x = .returned r.v ∧ Up w w' := by
  have CE := Lib.hid (fun W => toEvt_any r.ev W)
  unfold Rec.v; obtain ⟨⟨t, to, fr, sq, kd, dt⟩, s⟩ := r; unfold Evt.v at CE; dsimp only at CE ⊢
  go_enter Try.func128, Try.ntmps128
  go_wp2_with fail
  have U0 := Lib.hid ((((Up.refl w).alloc (.cells #[.int .i64 t, .int .i64 to, .int .i64 fr, .int .i64 sq, .int .i64 kd, .int .i64 dt, .int .i64 s] 183)).alloc (.cells ZRec 180)).alloc (.cells ZRec 180))
  have c6 : (((w.alloc (.cells #[.int .i64 t, .int .i64 to, .int .i64 fr, .int .i64 sq, .int .i64 kd, .int .i64 dt, .int .i64 s] 183)).alloc (.cells ZRec 180)).alloc (.cells ZRec 180)).cell? ⟨w.heap.size, 6, none⟩ = some (.int .i64 s) := by
    refine (((Up.refl (w.alloc (.cells #[.int .i64 t, .int .i64 to, .int .i64 fr, .int .i64 sq, .int .i64 kd, .int .i64 dt, .int .i64 s] 183))).alloc (.cells ZRec 180)).alloc (.cells ZRec 180)).cells _ _ (by simp) |>.trans ?_
    rw [cell_of_row _ _ 6 _ _ _ (heap_alloc_new _ _)]
    rfl
  have i1 := (IntsOwn.zr (w.alloc (.cells #[.int .i64 t, .int .i64 to, .int .i64 fr, .int .i64 sq, .int .i64 kd, .int .i64 dt, .int .i64 s] 183))).up ((Up.refl _).alloc (.cells ZRec 180))
  have i2 := IntsOwn.zr ((w.alloc (.cells #[.int .i64 t, .int .i64 to, .int .i64 fr, .int .i64 sq, .int .i64 kd, .int .i64 dt, .int .i64 s] 183)).alloc (.cells ZRec 180))
  simp only [World.size_alloc] at i1 i2; unfold ZRec at U0 c6 i1 i2
  generalize hW : ((w.alloc (.cells #[.int .i64 t, .int .i64 to, .int .i64 fr, .int .i64 sq, .int .i64 kd, .int .i64 dt, .int .i64 s] 183)).alloc (.cells #[.int .i64 0, .int .i64 0, .int .i64 0, .int .i64 0, .int .i64 0, .int .i64 0, .int .i64 0] 180)).alloc (.cells #[.int .i64 0, .int .i64 0, .int .i64 0, .int .i64 0, .int .i64 0, .int .i64 0, .int .i64 0] 180) = W at *
  clear hW; refine (CE.out _).mono ?_; rintro x wA ⟨rfl, uA⟩
  have UA := Lib.hid (U0.out.trans uA)
  have c6 := (uA.cells _ _ (Nat.lt_of_lt_of_le (show w.heap.size < w.heap.size + 1 by omega) (Nat.le_of_lt i1.1))).trans c6
  have I1 := Lib.hid (i1.up uA)
  have I2 := Lib.hid (i2.up uA)
  have hlt1 := I1.out.1
  have hlt2 := I2.out.1
  clear i1 i2 uA
  have K2 := Lib.hid (putF_at wA (w.heap.size + 1 + 1) 0 ([t, to, fr, sq, kd, dt, s].getD · 0) 7 (fun j hj => by obtain ⟨⟨z, hz⟩, _⟩ := I2.out.2 (0 + j) (by omega); exact ⟨_, hz⟩))
  have IE := Lib.hid (I1.out.upN (o := 0) (f := ([t, to, fr, sq, kd, dt, s].getD · 0)) (s := 7) (g' := w.heap.size + 1 + 1) (by omega))
  have K1 := Lib.hid (putF_at (putF wA (w.heap.size + 1 + 1) 0 ([t, to, fr, sq, kd, dt, s].getD · 0) 7) (w.heap.size + 1) 0 ([t, to, fr, sq, kd, dt, s].getD · 0) 7 (fun j hj => by obtain ⟨⟨z, hz⟩, _⟩ := IE.out.2 (0 + j) (by omega); exact ⟨_, hz⟩))
  have UE := Lib.hid ((UA.out.putF (g := w.heap.size + 1 + 1) (by omega) 0 ([t, to, fr, sq, kd, dt, s].getD · 0) 7).putF (g := w.heap.size + 1) (by omega) 0 ([t, to, fr, sq, kd, dt, s].getD · 0) 7)
  obtain ⟨k0, k1, k2, k3, k4, k5, k6⟩ := And.intro (K2.out 0 (by omega)) (And.intro (K2.out 1 (by omega)) (And.intro (K2.out 2 (by omega)) (And.intro (K2.out 3 (by omega)) (And.intro (K2.out 4 (by omega)) (And.intro (K2.out 5 (by omega)) (K2.out 6 (by omega))))))); obtain ⟨l0, l1, l2, l3, l4, l5, l6⟩ := And.intro (K1.out 0 (by omega)) (And.intro (K1.out 1 (by omega)) (And.intro (K1.out 2 (by omega)) (And.intro (K1.out 3 (by omega)) (And.intro (K1.out 4 (by omega)) (And.intro (K1.out 5 (by omega)) (K1.out 6 (by omega))))))); simp only [putF, Nat.zero_add, List.getD_cons_zero, List.getD_cons_succ] at k0 k1 k2 k3 k4 k5 k6 l0 l1 l2 l3 l4 l5 l6 UE
  obtain ⟨⟨⟨a0, m0⟩, f0⟩, ⟨⟨a1, m1⟩, f1⟩, ⟨⟨a2, m2⟩, f2⟩, ⟨⟨a3, m3⟩, f3⟩, ⟨⟨a4, m4⟩, f4⟩, ⟨⟨a5, m5⟩, f5⟩, ⟨⟨a6, m6⟩, f6⟩⟩ := And.intro (I2.out.2 0 (by omega)) (And.intro (I2.out.2 1 (by omega)) (And.intro (I2.out.2 2 (by omega)) (And.intro (I2.out.2 3 (by omega)) (And.intro (I2.out.2 4 (by omega)) (And.intro (I2.out.2 5 (by omega)) (I2.out.2 6 (by omega))))))); obtain ⟨⟨⟨b0, n0⟩, g0⟩, ⟨⟨b1, n1⟩, g1⟩, ⟨⟨b2, n2⟩, g2⟩, ⟨⟨b3, n3⟩, g3⟩, ⟨⟨b4, n4⟩, g4⟩, ⟨⟨b5, n5⟩, g5⟩, ⟨⟨b6, n6⟩, g6⟩⟩ := And.intro (I1.out.2 0 (by omega)) (And.intro (I1.out.2 1 (by omega)) (And.intro (I1.out.2 2 (by omega)) (And.intro (I1.out.2 3 (by omega)) (And.intro (I1.out.2 4 (by omega)) (And.intro (I1.out.2 5 (by omega)) (I1.out.2 6 (by omega)))))))
  clear K1 K2 IE I1 I2 U0 UA
  go_wp2_with fail
  exact bodyPost_ret (v := .agg #[.int .i64 t, .int .i64 to, .int .i64 fr, .int .i64 sq, .int .i64 kd, .int .i64 dt, .int .i64 s]) (by simp [results, Try.results128, go_sem, l0, l1, l2, l3, l4, l5, l6]) rfl ⟨rfl, UE.out⟩
theorem info180 : (Try.prog.info? 180).map (fun i => (i.zero, i.size, i.bytes)) = some (some (.agg #[.int .i64 0, .int .i64 0, .int .i64 0, .int .i64 0, .int .i64 0, .int .i64 0, .int .i64 0]), 7, 56) := by kernel_rfl
set_option maxHeartbeats 2000000 in
theorem toR_any (A : Option Addr) (n cap : Nat) (xs : List Rec) (w : World) (hn : n ≤ 1048576) (hE : Recs w A n xs) :
    Calls Try.prog 79 #[.slice A n cap] w fun x w' => ∃ g, x = .returned (.slice (some ⟨g, 0, none⟩) n n) ∧ w.heap.size ≤ g ∧ Recs w' (some ⟨g, 0, none⟩) n xs ∧ IntsOwn w' g (n * 7) ∧ Up w w' := by
  obtain ⟨i0, hi, hz0, hz1, hz2⟩ := info_parts info180
  have hmk := fun W => run_make_rowN (P := Try.prog) 60 180 i0 _ Try.underlying60 hi hz0 .i64 .i64 n n (Nat.le_refl _) (by rw [hz2]; omega) (by omega) W
  rw [hz1] at hmk
  have HE := Lib.hid hE
  have LE := Lib.hid hE.1
  have CL := Lib.hid (fun a W => toRec_any a W)
  clear hE hi hz0 hz1 hz2
  go_enter Try.func79, Try.ntmps79
  go_wp2
  generalize hg : w.heap.size = g
  have HG := Lib.hid (Nat.le_of_eq hg)
  go_loopw [4] (fun i wr => (∃ k : Nat, k ≤ n ∧ i = .int .i64 k ∧ RowsTo wr g n 7 k (fun i j => (xs.getD i default).nums.getD j 0)) ∧ Up w wr) (fun i _ => n - (intOf i).toNat)
  case atStart =>
    refine ⟨⟨0, by omega, rfl, ?_⟩, (Up.refl _).alloc _⟩; subst hg
    exact RowsTo.start w n 7 #[.int .i64 0, .int .i64 0, .int .i64 0, .int .i64 0, .int .i64 0, .int .i64 0, .int .i64 0] 180 _ (fun j hj => by
      have h : j = 0 ∨ j = 1 ∨ j = 2 ∨ j = 3 ∨ j = 4 ∨ j = 5 ∨ j = 6 := by simp at hj; omega
      rcases h with rfl | rfl | rfl | rfl | rfl | rfl | rfl <;> rfl) (by simp)
  case round =>
    obtain ⟨⟨k, hk, rfl, hp⟩, ur⟩ := hrel
    have HP := Lib.hid hp
    have UR := Lib.hid ur
    by_cases hlt : k < n
    · obtain ⟨b, off, hA, hb, hc⟩ := HE.out.2 (by omega)
      subst hA
      have a0 := (hc k hlt).up ur hb
      have hb' : b < wr.heap.size := by have := ur.size; omega
      clear hc hp ur
      have cl := CL.out (xs.getD k default)
      have SX := Lib.hid (fun W (h : RowsTo W g n 7 k (fun i j => (xs.getD i default).nums.getD j 0)) => h.step hlt ((xs.getD k default).nums.getD · 0) (fun j _ => rfl))
      generalize xs.getD k default = p at a0 cl SX
      unfold RecAt at a0; unfold Rec.v at cl; obtain ⟨p0, p1, p2, p3, p4, p5, p6⟩ := a0
      have C := Lib.hid cl
      clear cl
      have i4 : (k : Int) < n := by omega
      go_wp2_with fail
      refine (C.out _).mono ?_; rintro x wA ⟨rfl, uA⟩
      have P := HP.out.up uA
      obtain ⟨⟨⟨v0, c0⟩, f0⟩, ⟨⟨v1, c1⟩, f1⟩, ⟨⟨v2, c2⟩, f2⟩, ⟨⟨v3, c3⟩, f3⟩, ⟨⟨v4, c4⟩, f4⟩, ⟨⟨v5, c5⟩, f5⟩, ⟨⟨v6, c6⟩, f6⟩⟩ := And.intro (P.1.2 (k * 7) (by omega)) (And.intro (P.1.2 (k * 7 + 1) (by omega)) (And.intro (P.1.2 (k * 7 + 2) (by omega)) (And.intro (P.1.2 (k * 7 + 3) (by omega)) (And.intro (P.1.2 (k * 7 + 4) (by omega)) (And.intro (P.1.2 (k * 7 + 5) (by omega)) (P.1.2 (k * 7 + 6) (by omega)))))))
      have NX := Lib.hid (SX.out _ P)
      have UX := Lib.hid (((UR.out.trans uA).putF HG.out (k * 7) (p.nums.getD · 0) 7))
      simp only [putF, Rec.nums, Nat.add_zero, List.getD_cons_zero, List.getD_cons_succ] at NX UX
      have hgl := P.1.1
      clear P p0 p1 p2 p3 p4 p5 p6 SX; go_wp2
      go_roundw
      case rel => exact ⟨⟨k + 1, by omega, by go_num, NX.out⟩, UX.out⟩
      case measure => simp [intOf]; omega
    · obtain rfl : k = n := by omega
      have i4 : ¬ (k : Int) < k := by omega
      clear hp ur; go_wp2; go_ret
      exact ⟨g, rfl, by have := HG.out; omega, ⟨LE.out, fun _ => ⟨g, 0, rfl, HP.out.1.1, fun i hi => by
        have h := HP.out.2 i hi
        exact ⟨by rw [Nat.zero_add]; exact h 0 (by omega), by rw [Nat.zero_add]; exact h 1 (by omega), by rw [Nat.zero_add]; exact h 2 (by omega), by rw [Nat.zero_add]; exact h 3 (by omega), by rw [Nat.zero_add]; exact h 4 (by omega), by rw [Nat.zero_add]; exact h 5 (by omega), by rw [Nat.zero_add]; exact h 6 (by omega)⟩⟩⟩, HP.out.1, UR.out⟩
end Go.Proofs.Ytklldniapombiaa

namespace Go.Proofs.Ytklldniapombiaa
set_option maxRecDepth 100000
open Go.RowKit
/-- What a cell may hold: a number; a slice of at most mx elements of type e, of so many cells each. -/
inductive CK where
  | num
  | sl (e size mx : Nat)
abbrev Tbl := Nat → List CK
section
variable {T : Tbl} {S : Nat → Prop} {g : Nat} {w w' w'' : World}
theorem heap_set (w : World) (b o : Nat) (u : Value) {arr : Array Value} {e : Nat} {fz : Nat × Nat} (ha : w.heap[b]? = some (.cells arr e fz)) :
    (w.setCell ⟨b, o, none⟩ u).heap[b]? = some (.cells (arr.setIfInBounds o u) e fz) := by
  unfold World.setCell; simp [Array.getElem?_modify, ha]
end
end Go.Proofs.Ytklldniapombiaa

namespace Go.Proofs.Ytklldniapombiaa
set_option maxRecDepth 100000
open Go.RowKit
section
variable {S : Nat → Prop} {K g N0 : Nat} {W0 w w' : World}
end
section
variable {T : Tbl} {S S' : Nat → Prop} {g : Nat} {w w' : World}
/-- A block known whole. -/
def Blk (w : World) (b e : Nat) (arr : Array Value) : Prop := w.heap[b]? = some (.cells arr e (0, 0))
theorem Blk.cell {b e j : Nat} {arr : Array Value} {v : Value} (h : Blk w b e arr) (hv : arr[j]? = some v) : w.cell? ⟨b, j, none⟩ = some v := by
  unfold World.cell?; dsimp only; rw [h]
  exact hv
theorem Blk.frozen {b e : Nat} {arr : Array Value} (h : Blk w b e arr) (j : Nat) : w.frozen? ⟨b, j, none⟩ = false := by
  unfold World.frozen?; dsimp only; rw [h]; simp
theorem Blk.lt {b e : Nat} {arr : Array Value} (h : Blk w b e arr) : b < w.heap.size := (Array.getElem?_eq_some_iff.1 h).1
theorem Blk.up {b e : Nat} {arr : Array Value} (h : Blk w b e arr) (k : Up w w') : Blk w' b e arr := (k.below.block b h.lt).trans h
theorem Blk.alloc {b e : Nat} {arr : Array Value} (h : Blk w b e arr) (o : Obj) : Blk (w.alloc o) b e arr := (heap_alloc_old w _ h.lt).trans h
theorem Blk.new (w : World) (arr : Array Value) (e : Nat) : Blk (w.alloc (.cells arr e)) w.heap.size e arr := heap_alloc_new w _
theorem Blk.set {b e : Nat} {arr : Array Value} (h : Blk w b e arr) (o : Nat) (u : Value) : Blk (w.setCell ⟨b, o, none⟩ u) b e (arr.setIfInBounds o u) := heap_set w b o u h
theorem Blk.far {b b' e : Nat} {arr : Array Value} (h : Blk w b e arr) (o : Nat) (u : Value) (hb : b ≠ b') : Blk (w.setCell ⟨b', o, none⟩ u) b e arr := (Below.heap_setCell w ⟨b', o, none⟩ u b hb).trans h
end
end Go.Proofs.Ytklldniapombiaa

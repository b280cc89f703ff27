/-
  What within, l1In and the two EvtOk return, in one sentence: the bool that the fields' bounds give; for every event and every number of components of 64 bits.
  What sendOk and l2Send return, in one sentence: the bool that the bounds give; for every send and every number of components in bounds.
  Models in memory, in one sentence: what it means that cells hold a rule, rules, rows of rules and a model, and what both MdlOk compute; no condition is made.
  Models in typed heaps, in one sentence: the table of a model's blocks, and that slices of rows of rules in such a heap hold some model; no condition is made.
  The putting of an event in its place, in one sentence: where it stands in the new list, as lists; no condition is made.
  What toEvtEvtS returns, in one sentence: a new slice of the same events; for every list that lies in memory.
  An event's block of the call's own, in one sentence: its six cells, none frozen, kept wherever another block alone is written.
-/
import Derived.Test.YtakmlfgkppekoaaDLRok01
import Derived.Test.YtakmlfgkppekoaaDLRok02
namespace Go.Proofs.Ytakmlfgkppekoaa
set_option maxRecDepth 100000
open Go.RowKit
theorem within_any (n lo hi : Int) (w : World) :
    Calls Try.prog 65 #[.int .i64 n, .int .i64 lo, .int .i64 hi] w fun e w' => e = .returned (.bool (inB n lo hi)) ∧ w = w' := by
  by_cases h1 : lo ≤ n
  · by_cases h2 : n ≤ hi
    · have hf := inB_iff.2 ⟨h1, h2⟩
      go_enter Try.func65, Try.ntmps65
      go_wp2; go_ret
      exact ⟨by first | rfl | exact ret_bool hf.symm, rfl⟩
    · have hf : inB n lo hi = false := inB_no.2 fun h => h2 h.2
      go_enter Try.func65, Try.ntmps65
      go_wp2; go_ret
      exact ⟨by first | rfl | exact ret_bool hf.symm, rfl⟩
  · have hf : inB n lo hi = false := inB_no.2 fun h => h1 h.1
    go_enter Try.func65, Try.ntmps65
    go_wp2; go_ret
    exact ⟨by first | rfl | exact ret_bool hf.symm, rfl⟩
theorem l1In_any (n lo hi : Int) (w : World) :
    Calls Try.prog 64 #[.int .i64 n, .int .i64 lo, .int .i64 hi] w fun e w' => e = .returned (.bool (inB n lo hi)) ∧ w = w' := by
  by_cases h1 : lo ≤ n
  · by_cases h2 : n ≤ hi
    · have hf := inB_iff.2 ⟨h1, h2⟩
      go_enter Try.func64, Try.ntmps64
      go_wp2; go_ret
      exact ⟨by first | rfl | exact ret_bool hf.symm, rfl⟩
    · have hf : inB n lo hi = false := inB_no.2 fun h => h2 h.2
      go_enter Try.func64, Try.ntmps64
      go_wp2; go_ret
      exact ⟨by first | rfl | exact ret_bool hf.symm, rfl⟩
  · have hf : inB n lo hi = false := inB_no.2 fun h => h1 h.1
    go_enter Try.func64, Try.ntmps64
    go_wp2; go_ret
    exact ⟨by first | rfl | exact ret_bool hf.symm, rfl⟩
/-- What both EvtOk compute. -/
def okB (e : Evt) (many : Int) : Bool :=
  inB many 1 4 && inB e.t 0 99 && inB e.to 0 (many - 1) && inB e.fr (-1) (many - 1) && inB e.sq 0 11 && inB e.kd 0 2 && inB e.dt 0 96
theorem implOk_any (e : Evt) (many : Int) (w : World) :
    Calls Try.prog 99 #[e.v, .int .i64 many] w fun x w' => x = .returned (.bool (okB e many)) ∧ Up w w' := by
  unfold okB; obtain ⟨et, eto, efr, esq, ekd, edt⟩ := e; unfold Evt.v; dsimp only
  by_cases hm : 1 ≤ many ∧ many ≤ 4
  · have hin : inB many 1 4 = true := inB_iff.2 hm
    obtain ⟨hm1, hm2⟩ := hm
    go_enter Try.func99, Try.ntmps99
    go_wp2_with (go_at_call 65; refine (within_any _ _ _ _).mono ?_; rintro e w' ⟨rfl, rfl⟩)
    all_goals go_ret
    all_goals exact ⟨ret_bool (by simp [*]), (Up.refl _).alloc _⟩
  · have hin : inB many 1 4 = false := inB_no.2 hm
    go_enter Try.func99, Try.ntmps99
    go_wp2_with (go_at_call 65; refine (within_any _ _ _ _).mono ?_; rintro e w' ⟨rfl, rfl⟩)
    go_ret
    exact ⟨ret_bool (by simp [*]), (Up.refl _).alloc _⟩
theorem specOk_any (e : Evt) (many : Int) (w : World) :
    Calls Try.prog 40 #[e.v, .int .i64 many] w fun x w' => x = .returned (.bool (okB e many)) ∧ Up w w' := by
  unfold okB; obtain ⟨et, eto, efr, esq, ekd, edt⟩ := e; unfold Evt.v; dsimp only
  by_cases hm : 1 ≤ many ∧ many ≤ 4
  · have hin : inB many 1 4 = true := inB_iff.2 hm
    obtain ⟨hm1, hm2⟩ := hm
    go_enter Try.func40, Try.ntmps40
    go_wp2_with (go_at_call 64; refine (l1In_any _ _ _ _).mono ?_; rintro e w' ⟨rfl, rfl⟩)
    all_goals go_ret
    all_goals exact ⟨ret_bool (by simp [*]), (Up.refl _).alloc _⟩
  · have hin : inB many 1 4 = false := inB_no.2 hm
    go_enter Try.func40, Try.ntmps40
    go_wp2_with (go_at_call 64; refine (l1In_any _ _ _ _).mono ?_; rintro e w' ⟨rfl, rfl⟩)
    go_ret
    exact ⟨ret_bool (by simp [*]), (Up.refl _).alloc _⟩
end Go.Proofs.Ytakmlfgkppekoaa

namespace Go.Proofs.Ytakmlfgkppekoaa
set_option maxRecDepth 100000
open Go.RowKit
/-- What both compute: to, delay, kind, plus, mod, rem. -/
def sndB (e : Evt) (many : Int) : Bool :=
  inB e.t 0 (many - 1) && inB e.to 1 9 && inB e.fr 0 2 && inB e.sq 0 96 && inB e.kd 1 9 && inB e.dt 0 (e.kd - 1)
set_option maxHeartbeats 2000000 in
theorem implSnd_any (e : Evt) (many : Int) (hm1 : 1 ≤ many) (hm2 : many ≤ 4) (w : World) :
    Calls Try.prog 150 #[e.v, .int .i64 many] w fun x w' => x = .returned (.bool (sndB e many)) ∧ Up w w' := by
  unfold sndB; obtain ⟨et, eto, efr, esq, ekd, edt⟩ := e; unfold Evt.v; dsimp only
  by_cases hk : 1 ≤ ekd ∧ ekd ≤ 9
  · have hin : inB ekd 1 9 = true := inB_iff.2 hk
    obtain ⟨hk1, hk2⟩ := hk
    go_enter Try.func150, Try.ntmps150
    go_wp2_with (go_at_call 65; refine (within_any _ _ _ _).mono ?_; rintro e w' ⟨rfl, rfl⟩)
    all_goals go_ret
    all_goals exact ⟨ret_bool (by simp [*]), (Up.refl _).alloc _⟩
  · have hin : inB ekd 1 9 = false := inB_no.2 hk
    clear hk
    go_enter Try.func150, Try.ntmps150
    go_wp2_with (go_at_call 65; refine (within_any _ _ _ _).mono ?_; rintro e w' ⟨rfl, rfl⟩)
    all_goals go_ret
    all_goals exact ⟨ret_bool (by simp [*]), (Up.refl _).alloc _⟩
set_option maxHeartbeats 2000000 in
theorem specSnd_any (e : Evt) (many : Int) (hm1 : 1 ≤ many) (hm2 : many ≤ 4) (w : World) :
    Calls Try.prog 119 #[e.v, .int .i64 many] w fun x w' => x = .returned (.bool (sndB e many)) ∧ Up w w' := by
  unfold sndB; obtain ⟨et, eto, efr, esq, ekd, edt⟩ := e; unfold Evt.v; dsimp only
  by_cases hk : 1 ≤ ekd ∧ ekd ≤ 9
  · have hin : inB ekd 1 9 = true := inB_iff.2 hk
    obtain ⟨hk1, hk2⟩ := hk
    go_enter Try.func119, Try.ntmps119
    go_wp2_with (go_at_call 64; refine (l1In_any _ _ _ _).mono ?_; rintro e w' ⟨rfl, rfl⟩)
    all_goals go_ret
    all_goals exact ⟨ret_bool (by simp [*]), (Up.refl _).alloc _⟩
  · have hin : inB ekd 1 9 = false := inB_no.2 hk
    clear hk
    go_enter Try.func119, Try.ntmps119
    go_wp2_with (go_at_call 64; refine (l1In_any _ _ _ _).mono ?_; rintro e w' ⟨rfl, rfl⟩)
    all_goals go_ret
    all_goals exact ⟨ret_bool (by simp [*]), (Up.refl _).alloc _⟩
end Go.Proofs.Ytakmlfgkppekoaa

namespace Go.Proofs.Ytakmlfgkppekoaa
set_option maxRecDepth 100000
open Go.RowKit
/-- A rule: kind, a, b, c, and what it sends (to, delay, kind, plus, mod, rem). -/
structure Rule where
  kd : Int
  a : Int
  b : Int
  c : Int
  sends : List Evt
instance : Inhabited Rule := ⟨⟨0, 0, 0, 0, []⟩⟩
deriving instance DecidableEq for Rule
def Rule.v (r : Rule) (s : Value) : Value := .agg #[.int .i64 r.kd, .int .i64 r.a, .int .i64 r.b, .int .i64 r.c, s]
/-- The five cells of a rule, from o on. -/
def RuleAt (w : World) (b o : Nat) (r : Rule) : Prop :=
  ∃ A n c, (w.cell? ⟨b, o, none⟩ = some (.int .i64 r.kd) ∧ w.cell? ⟨b, o + 1, none⟩ = some (.int .i64 r.a) ∧ w.cell? ⟨b, o + 2, none⟩ = some (.int .i64 r.b) ∧ w.cell? ⟨b, o + 3, none⟩ = some (.int .i64 r.c) ∧ w.cell? ⟨b, o + 4, none⟩ = some (.slice A n c)) ∧
    n ≤ 9223372036854775807 ∧ Evs w A n r.sends
def Rules (w : World) (A : Option Addr) (n : Nat) (rs : List Rule) : Prop :=
  rs.length = n ∧ n ≤ 9223372036854775807 ∧ (0 < n → ∃ b off, A = some ⟨b, off, none⟩ ∧ b < w.heap.size ∧ ∀ i, i < n → RuleAt w b (off + i * 5) (rs.getD i default))
def Rulz (w : World) (A : Option Addr) (n : Nat) (rss : List (List Rule)) : Prop :=
  rss.length = n ∧ n ≤ 9223372036854775807 ∧ (0 < n → ∃ b off, A = some ⟨b, off, none⟩ ∧ b < w.heap.size ∧ ∀ i, i < n → ∃ A' n' c', w.cell? ⟨b, off + i, none⟩ = some (.slice A' n' c') ∧ Rules w A' n' (rss.getD i []))
theorem RuleAt.up {w w' : World} {b o : Nat} {r : Rule} (h : RuleAt w b o r) (u : Up w w') (hb : b < w.heap.size) : RuleAt w' b o r := by
  obtain ⟨A, n, c, ⟨h0, h1, h2, h3, h4⟩, hn, hE⟩ := h
  exact ⟨A, n, c, ⟨(u.cells _ _ hb).trans h0, (u.cells _ _ hb).trans h1, (u.cells _ _ hb).trans h2, (u.cells _ _ hb).trans h3, (u.cells _ _ hb).trans h4⟩, hn, hE.up u⟩
theorem Rules.up {w w' : World} {A : Option Addr} {n : Nat} {rs : List Rule} (h : Rules w A n rs) (u : Up w w') : Rules w' A n rs :=
  ⟨h.1, h.2.1, fun hn => by
    obtain ⟨b, off, hA, hb, hc⟩ := h.2.2 hn
    exact ⟨b, off, hA, by have := u.size; omega, fun i hi => (hc i hi).up u hb⟩⟩
theorem Rulz.up {w w' : World} {A : Option Addr} {n : Nat} {rss : List (List Rule)} (h : Rulz w A n rss) (u : Up w w') : Rulz w' A n rss :=
  ⟨h.1, h.2.1, fun hn => by
    obtain ⟨b, off, hA, hb, hc⟩ := h.2.2 hn
    exact ⟨b, off, hA, by have := u.size; omega, fun i hi => by
      obtain ⟨A', n', c', h1, h2⟩ := hc i hi
      exact ⟨A', n', c', (u.cells _ _ hb).trans h1, h2.up u⟩⟩⟩
/-- A model. -/
structure Mdl where
  rules : List (List Rule)
  starts : List Evt
  til : Int
deriving DecidableEq
/-- Its value, over these slices. -/
structure MdlV (w : World) (A : Option Addr) (n : Nat) (B : Option Addr) (k : Nat) (m : Mdl) : Prop where
  rules : Rulz w A n m.rules
  starts : Evs w B k m.starts
  big : k ≤ 9223372036854775807
theorem MdlV.up {w w' : World} {A B : Option Addr} {n k : Nat} {m : Mdl} (h : MdlV w A n B k m) (u : Up w w') : MdlV w' A n B k m := ⟨h.rules.up u, h.starts.up u, h.big⟩
def ruleB (r : Rule) (many : Int) : Bool :=
  r.sends.all (fun e => sndB e many) && decide ((r.sends.length : Int) ≤ 2) && inB r.kd 0 2 && inB r.a 0 96 && inB r.b 0 96 && inB r.c 0 96
/-- Rules behind one of kind bf. -/
def rulesB (many bf : Int) : List Rule → Bool
  | [] => true
  | r :: rs => decide (bf < r.kd) && ruleB r many && rulesB many r.kd rs
def startB (til many : Int) (e : Evt) : Bool := decide (e.fr = -1) && decide (e.t ≤ til) && okB e many
theorem all_drop {α : Type} {f : α → Bool} {d : α} (es : List α) (k : Nat) (h : k < es.length) : (es.drop k).all f = (f (es.getD k d) && (es.drop (k + 1)).all f) := by
  rw [List.drop_eq_getElem_cons h, List.all_cons]; simp [h]
theorem all_end {α : Type} {f : α → Bool} (es : List α) (k : Nat) (h : es.length ≤ k) : (es.drop k).all f = true := by
  rw [List.drop_eq_nil_of_le h]; rfl
theorem rulesB_drop (many bf : Int) (rs : List Rule) (k : Nat) (h : k < rs.length) : rulesB many bf (rs.drop k) = (decide (bf < (rs.getD k default).kd) && ruleB (rs.getD k default) many && rulesB many (rs.getD k default).kd (rs.drop (k + 1))) := by
  rw [List.drop_eq_getElem_cons h, rulesB]; simp [h]
theorem rulesB_end (many bf : Int) (rs : List Rule) (k : Nat) (h : rs.length ≤ k) : rulesB many bf (rs.drop k) = true := by
  rw [List.drop_eq_nil_of_le h]; rfl
end Go.Proofs.Ytakmlfgkppekoaa

namespace Go.Proofs.Ytakmlfgkppekoaa
set_option maxRecDepth 100000
open Go.RowKit
/-- The table of a model: sends, rules, rows of rules. -/
def TM (K : Nat) : Tbl := fun e =>
  if e = 140 then [.num, .num, .num, .num, .num, .num]
  else if e = 63 then [.num, .num, .num, .num, .sl 140 6 K]
  else if e = 60 then [.sl 63 5 K]
  else []
theorem TM_snd (K : Nat) : TM K 140 = [.num, .num, .num, .num, .num, .num] := by simp [TM]
theorem TM_rule (K : Nat) : TM K 63 = [.num, .num, .num, .num, .sl 140 6 K] := by simp [TM]
theorem TM_row (K : Nat) : TM K 60 = [.sl 63 5 K] := by simp [TM]
theorem TM_rule_ne (K : Nat) : TM K 63 ≠ [] := by rw [TM_rule]; simp
theorem TM_row_ne (K : Nat) : TM K 60 ≠ [] := by rw [TM_row]; simp
theorem choose_list {α : Type} (d : α) {P : Nat → α → Prop} : ∀ n : Nat, (∀ i, i < n → ∃ x, P i x) → ∃ xs : List α, xs.length = n ∧ ∀ i, i < n → P i (xs.getD i d)
  | 0, _ => ⟨[], rfl, fun i hi => absurd hi (by omega)⟩
  | n + 1, h => by
    obtain ⟨xs, hl, hx⟩ := choose_list d n fun i hi => h i (by omega)
    obtain ⟨x, hp⟩ := h n (by omega); refine ⟨xs ++ [x], by simp [hl], fun i hi => ?_⟩
    by_cases e : i < n
    · have : (xs ++ [x]).getD i d = xs.getD i d := by simp [List.getD, List.getElem?_append, hl, e]
      rw [this]
      exact hx i e
    · obtain rfl : i = n := by omega
      have : (xs ++ [x]).getD i d = x := by simp [List.getD, hl]
      rw [this]
      exact hp
def CK.raise (K : Nat) : CK → CK
  | .num => .num
  | .sl e s _ => .sl e s K
theorem TM_map (K K' e : Nat) : TM K' e = (TM K e).map (CK.raise K') := by
  unfold TM
  split
  · rfl
  · split
    · rfl
    · split <;> rfl
theorem TM_mem {K e : Nat} {k : CK} (h : k ∈ TM K e) : k = .num ∨ ∃ e' s, k = .sl e' s K := by
  unfold TM at h
  split at h
  · simp at h; exact .inl h
  · split at h
    · simp at h
      rcases h with h | h
      · exact .inl h
      · exact .inr ⟨_, _, h⟩
    · split at h
      · simp at h; exact .inr ⟨_, _, h⟩
      · simp at h
/-- A higher bound. -/
theorem TC.up {S : Nat → Prop} {K K' e j : Nat} {w : World} {v : Value} (h : TC (TM K) w S e j v) (hK : K ≤ K') : TC (TM K') w S e j v := by
  obtain ⟨k, h3, h4⟩ := h; refine ⟨k.raise K', by rw [TM_map K K', List.length_map, List.getElem?_map, h3]; rfl, ?_⟩
  rcases TM_mem (List.mem_of_getElem? h3) with rfl | ⟨e', s, rfl⟩
  · exact h4
  · obtain ⟨n, h5, h6⟩ := h4
    exact ⟨n, by omega, h6⟩
theorem TH.up {S : Nat → Prop} {K K' : Nat} {w : World} (h : TH (TM K) S w) (hK : K ≤ K') : TH (TM K') S w := by
  intro b arr e fz hb ha ht; obtain ⟨h1, h2⟩ := h b arr e fz hb ha (fun h0 => ht (by rw [TM_map K K', h0]; rfl))
  exact ⟨h1, fun j v hv => (h2 j v hv).up hK⟩
section
variable {S : Nat → Prop} {K : Nat} {w : World}
/-- Its parts. -/
theorem Gs.parts {e size n : Nat} {v : Value} (h : Gs w S e size n v) : ∃ A c, v = .slice A n c ∧ n ≤ c ∧ c ≤ maxLen := by
  rcases h with ⟨rfl, rfl⟩ | ⟨b, cap, arr, rfl, _, _, h4, h5, _⟩
  · exact ⟨none, 0, rfl, Nat.le_refl _, Nat.zero_le _⟩
  · exact ⟨_, cap, rfl, h4, h5⟩
theorem Gs.at_ {e size n : Nat} {A : Option Addr} {m c : Nat} (h : Gs w S e size n (.slice A m c)) (hn : 0 < n) : ∃ b arr, A = some ⟨b, 0, none⟩ ∧ m = n ∧ S b ∧ w.heap[b]? = some (.cells arr e (0, 0)) ∧ n * size ≤ arr.size ∧ b < w.heap.size := by
  rcases h with ⟨_, rfl⟩ | ⟨b, cap, arr, hv, h2, h3, h4, _, h6⟩
  · omega
  · injection hv with h7 h8 h9
    exact ⟨b, arr, h7, h8, h2, h3, by rw [h6]; exact Nat.mul_le_mul_right _ h4, (Array.getElem?_eq_some_iff.1 h3).1⟩
theorem TC.at_ {T : Tbl} {e j : Nat} {v : Value} {k : CK} (h : TC T w S e j v) (hk : (T e)[j % (T e).length]? = some k) : COk w S k v := by
  obtain ⟨k', h1, h2⟩ := h; rw [hk] at h1
  injection h1 with h1
  exact h1 ▸ h2
theorem TH.num {b o : Nat} {arr : Array Value} {e : Nat} {fz : Nat × Nat} (h : TH (TM K) S w) (hb : S b) (ha : w.heap[b]? = some (.cells arr e fz)) (ho : o < arr.size) (hk : (TM K e)[o % (TM K e).length]? = some .num) :
    ∃ z, w.cell? ⟨b, o, none⟩ = some (.int .i64 z) := by
  obtain ⟨v, h1, h2, _⟩ := h.read hb ha (fun h0 => by rw [h0] at hk; simp at hk) ho; obtain ⟨z, rfl⟩ := h2.at_ hk
  exact ⟨z, h1⟩
/-- w2 has S's blocks of w as they were. -/
structure Same (S : Nat → Prop) (w w2 : World) : Prop where
  size : w.heap.size ≤ w2.heap.size
  block : ∀ b, S b → b < w.heap.size → w2.heap[b]? = w.heap[b]?
theorem Same.refl (S : Nat → Prop) (w : World) : Same S w w := ⟨Nat.le_refl _, fun _ _ _ => rfl⟩
theorem Same.cell {w2 : World} (h : Same S w w2) {b o : Nat} {v : Value} (hb : S b) (hl : b < w.heap.size) (hc : w.cell? ⟨b, o, none⟩ = some v) : w2.cell? ⟨b, o, none⟩ = some v :=
  (World.cell?_of_block (w := w) (a := ⟨b, o, none⟩) (h.block b hb hl)).trans hc
/-- Sends. -/
theorem Gs.evs {n : Nat} {A : Option Addr} {m c : Nat} (h : TH (TM K) S w) (hg : Gs w S 140 6 n (.slice A m c)) : ∃ es, ∀ w2, Same S w w2 → Evs w2 A n es := by
  rcases Nat.eq_zero_or_pos n with h0 | h0
  · subst h0
    exact ⟨[], fun _ _ => ⟨rfl, fun h => absurd h (by omega)⟩⟩
  · obtain ⟨b, arr, rfl, rfl, hb, ha, hs, hlt⟩ := hg.at_ h0
    have key : ∀ i, i < m → ∃ e : Evt, EvAt w b (0 + i * 6) e := fun i hi => by
      have num : ∀ j, j < 6 → ∃ z, w.cell? ⟨b, 0 + i * 6 + j, none⟩ = some (.int .i64 z) := fun j hj =>
        h.num hb ha (by omega) (by
          rw [TM_snd]
          have : (0 + i * 6 + j) % 6 = j := by omega
          simp only [List.length_cons, List.length_nil, this]
          have h6 : j = 0 ∨ j = 1 ∨ j = 2 ∨ j = 3 ∨ j = 4 ∨ j = 5 := by omega
          rcases h6 with rfl | rfl | rfl | rfl | rfl | rfl <;> rfl)
      obtain ⟨z0, h0⟩ := num 0 (by omega); obtain ⟨z1, h1⟩ := num 1 (by omega); obtain ⟨z2, h2⟩ := num 2 (by omega); obtain ⟨z3, h3⟩ := num 3 (by omega); obtain ⟨z4, h4⟩ := num 4 (by omega); obtain ⟨z5, h5⟩ := num 5 (by omega)
      exact ⟨⟨z0, z1, z2, z3, z4, z5⟩, h0, h1, h2, h3, h4, h5⟩
    obtain ⟨es, hl, he⟩ := choose_list default m key
    exact ⟨es, fun w2 sm => ⟨hl, fun _ => ⟨b, 0, rfl, Nat.lt_of_lt_of_le hlt sm.size, fun i hi => by
      obtain ⟨c0, c1, c2, c3, c4, c5⟩ := he i hi
      exact ⟨sm.cell hb hlt c0, sm.cell hb hlt c1, sm.cell hb hlt c2, sm.cell hb hlt c3, sm.cell hb hlt c4, sm.cell hb hlt c5⟩⟩⟩⟩
/-- Rules. -/
theorem Gs.rules {n : Nat} {A : Option Addr} {m c : Nat} (hK : K ≤ 1000000) (h : TH (TM K) S w) (hn : n ≤ 1000000) (hg : Gs w S 63 5 n (.slice A m c)) : ∃ rs, (∀ w2, Same S w w2 → Rules w2 A n rs) ∧ ∀ i, i < n → (rs.getD i default).sends.length ≤ K := by
  rcases Nat.eq_zero_or_pos n with h0 | h0
  · subst h0
    exact ⟨[], fun _ _ => ⟨rfl, by omega, fun h => absurd h (by omega)⟩, fun i hi => absurd hi (by omega)⟩
  · obtain ⟨b, arr, rfl, rfl, hb, ha, hs, hlt⟩ := hg.at_ h0
    have key : ∀ i, i < m → ∃ r : Rule, (∀ w2, Same S w w2 → RuleAt w2 b (0 + i * 5) r) ∧ r.sends.length ≤ K := fun i hi => by
      have num : ∀ j, j < 4 → ∃ z, w.cell? ⟨b, 0 + i * 5 + j, none⟩ = some (.int .i64 z) := fun j hj =>
        h.num hb ha (by omega) (by
          rw [TM_rule]
          have : (0 + i * 5 + j) % 5 = j := by omega
          simp only [List.length_cons, List.length_nil, this]
          have h6 : j = 0 ∨ j = 1 ∨ j = 2 ∨ j = 3 := by omega
          rcases h6 with rfl | rfl | rfl | rfl <;> rfl)
      obtain ⟨z0, h0⟩ := num 0 (by omega); obtain ⟨z1, h1⟩ := num 1 (by omega); obtain ⟨z2, h2⟩ := num 2 (by omega); obtain ⟨z3, h3⟩ := num 3 (by omega); obtain ⟨v, h4, h5, _⟩ := h.read (o := 0 + i * 5 + 4) hb ha (TM_rule_ne K) (by omega)
      have h6 := h5.at_ (k := .sl 140 6 K) (by
        rw [TM_rule]
        have : (0 + i * 5 + 4) % 5 = 4 := by omega
        simp only [List.length_cons, List.length_nil, this]
        rfl)
      obtain ⟨q, hq, hs'⟩ := h6; obtain ⟨A', c', rfl, _, _⟩ := hs'.parts; obtain ⟨es, he⟩ := hs'.evs h
      exact ⟨⟨z0, z1, z2, z3, es⟩, fun w2 sm => ⟨A', q, c', ⟨sm.cell hb hlt h0, sm.cell hb hlt h1, sm.cell hb hlt h2, sm.cell hb hlt h3, sm.cell hb hlt h4⟩, by omega, he w2 sm⟩, by dsimp only; rw [(he w (Same.refl S w)).1]; exact hq⟩
    obtain ⟨rs, hl, he⟩ := choose_list default m key
    exact ⟨rs, fun w2 sm => ⟨hl, by omega, fun _ => ⟨b, 0, rfl, Nat.lt_of_lt_of_le hlt sm.size, fun i hi => (he i hi).1 w2 sm⟩⟩, fun i hi => (he i hi).2⟩
/-- Rows of rules. -/
theorem Gs.rulz {n : Nat} {A : Option Addr} {m c : Nat} (hK : K ≤ 1000000) (h : TH (TM K) S w) (hn : n ≤ 1000000) (hg : Gs w S 60 1 n (.slice A m c)) :
    ∃ rss, (∀ w2, Same S w w2 → Rulz w2 A n rss) ∧ ∀ i, i < n → (rss.getD i []).length ≤ K ∧ ∀ j, j < (rss.getD i []).length → ((rss.getD i []).getD j default).sends.length ≤ K := by
  rcases Nat.eq_zero_or_pos n with h0 | h0
  · subst h0
    exact ⟨[], fun _ _ => ⟨rfl, by omega, fun h => absurd h (by omega)⟩, fun i hi => absurd hi (by omega)⟩
  · obtain ⟨b, arr, rfl, rfl, hb, ha, hs, hlt⟩ := hg.at_ h0
    have key : ∀ i, i < m → ∃ rs : List Rule, (∀ w2, Same S w w2 → ∃ A' n' c', w2.cell? ⟨b, 0 + i, none⟩ = some (.slice A' n' c') ∧ Rules w2 A' n' rs) ∧ rs.length ≤ K ∧ ∀ j, j < rs.length → (rs.getD j default).sends.length ≤ K := fun i hi => by
      obtain ⟨v, h4, h5, _⟩ := h.read (o := 0 + i) hb ha (TM_row_ne K) (by omega)
      have h6 := h5.at_ (k := .sl 63 5 K) (by rw [TM_row]; simp [Nat.mod_one])
      obtain ⟨q, hq, hs'⟩ := h6; obtain ⟨A', c', rfl, _, _⟩ := hs'.parts; obtain ⟨rs, he, hb2⟩ := hs'.rules hK h (by omega)
      exact ⟨rs, fun w2 sm => ⟨A', q, c', sm.cell hb hlt h4, he w2 sm⟩, by rw [(he w (Same.refl S w)).1]; exact hq, fun j hj => hb2 j (by rw [(he w (Same.refl S w)).1] at hj; exact hj)⟩
    obtain ⟨rss, hl, he⟩ := choose_list [] m key
    exact ⟨rss, fun w2 sm => ⟨hl, by omega, fun _ => ⟨b, 0, rfl, Nat.lt_of_lt_of_le hlt sm.size, fun i hi => (he i hi).1 w2 sm⟩⟩, fun i hi => (he i hi).2⟩
end
end Go.Proofs.Ytakmlfgkppekoaa

namespace Go.Proofs.Ytakmlfgkppekoaa
set_option maxRecDepth 100000
open Go.RowKit
/-- e ahead of the first that is greater. -/
def ins (e : Evt) : List Evt → List Evt
  | [] => [e]
  | x :: r => if ltE e x = true then e :: x :: r else x :: ins e r
/-- What stands in the new list behind some of the old one. -/
def acc (e : Evt) (l : List Evt) : List Evt := if l.any (ltE e) = true then ins e l else l
theorem ins_none (e : Evt) : ∀ l : List Evt, l.any (ltE e) = false → ins e l = l ++ [e]
  | [], _ => rfl
  | x :: r, h => by
    simp only [List.any_cons, Bool.or_eq_false_iff] at h; rw [ins, if_neg (by rw [h.1]; exact Bool.false_ne_true), ins_none e r h.2, List.cons_append]
theorem ins_snoc (e x : Evt) : ∀ l : List Evt, l.any (ltE e) = true → ins e (l ++ [x]) = ins e l ++ [x]
  | [], h => by simp at h
  | y :: r, h => by
    rw [List.cons_append, ins, ins]
    by_cases hy : ltE e y = true
    · rw [if_pos hy, if_pos hy]; rfl
    · rw [if_neg hy, if_neg hy, ins_snoc e x r (by simpa [hy] using h), List.cons_append]
theorem ins_here (e x : Evt) : ∀ l : List Evt, l.any (ltE e) = false → ltE e x = true → ins e (l ++ [x]) = l ++ [e, x]
  | [], _, h => by rw [List.nil_append, ins, if_pos h]; rfl
  | y :: r, h, hx => by
    simp only [List.any_cons, Bool.or_eq_false_iff] at h; rw [List.cons_append, ins, if_neg (by rw [h.1]; exact Bool.false_ne_true), ins_here e x r h.2 hx]
    rfl
theorem ins_len (e : Evt) : ∀ l : List Evt, (ins e l).length = l.length + 1
  | [] => rfl
  | x :: r => by
    rw [ins]
    split
    · rfl
    · rw [List.length_cons, ins_len e r, List.length_cons]
theorem acc_true (e x : Evt) (l : List Evt) (h : l.any (ltE e) = true) : acc e (l ++ [x]) = acc e l ++ [x] ∧ (l ++ [x]).any (ltE e) = true := by
  have h2 : (l ++ [x]).any (ltE e) = true := by rw [List.any_append, h]; rfl
  exact ⟨by rw [acc, if_pos h2, acc, if_pos h, ins_snoc e x l h], h2⟩
theorem acc_here (e x : Evt) (l : List Evt) (h : l.any (ltE e) = false) (hx : ltE e x = true) : acc e (l ++ [x]) = (acc e l ++ [e]) ++ [x] ∧ (l ++ [x]).any (ltE e) = true := by
  have h2 : (l ++ [x]).any (ltE e) = true := by rw [List.any_append, h]; simp [hx]
  exact ⟨by rw [acc, if_pos h2, acc, if_neg (by rw [h]; exact Bool.false_ne_true), ins_here e x l h hx]; simp, h2⟩
theorem acc_no (e x : Evt) (l : List Evt) (h : l.any (ltE e) = false) (hx : ltE e x = false) : acc e (l ++ [x]) = acc e l ++ [x] ∧ (l ++ [x]).any (ltE e) = false := by
  have h2 : (l ++ [x]).any (ltE e) = false := by rw [List.any_append, h]; simp [hx]
  exact ⟨by rw [acc, if_neg (by rw [h2]; exact Bool.false_ne_true), acc, if_neg (by rw [h]; exact Bool.false_ne_true)], h2⟩
theorem acc_end (e : Evt) (l : List Evt) : (l.any (ltE e) = true → acc e l = ins e l) ∧ (l.any (ltE e) = false → acc e l ++ [e] = ins e l) :=
  ⟨fun h => by rw [acc, if_pos h], fun h => by rw [acc, if_neg (by rw [h]; exact Bool.false_ne_true), ins_none e l h]⟩
theorem take_snoc (es : List Evt) (k : Nat) (h : k < es.length) : es.take (k + 1) = es.take k ++ [es.getD k default] := by
  rw [List.take_succ_eq_append_getElem h]; simp [h]
theorem own_mono {w : World} {b b' e size n : Nat} {v : Value} {xs : List Value} (h : w.ownsRow b e size v n xs) (hb : b' ≤ b) : w.ownsRow b' e size v n xs := by
  refine ⟨h.1, ?_⟩
  rcases h.2 with hn | ⟨g, cap, cur, hv, hg, hr⟩
  · exact .inl hn
  · exact .inr ⟨g, cap, cur, hv, by omega, hr⟩
end Go.Proofs.Ytakmlfgkppekoaa

namespace Go.Proofs.Ytakmlfgkppekoaa
set_option maxRecDepth 100000
open Go.RowKit
theorem info45 : (Try.prog.info? 45).map (fun i => (i.zero, i.size, i.bytes)) = some (some (.agg #[.int .i64 0, .int .i64 0, .int .i64 0, .int .i64 0, .int .i64 0, .int .i64 0]), 6, 48) := by kernel_rfl
end Go.Proofs.Ytakmlfgkppekoaa

namespace Go.Proofs.Ytakmlfgkppekoaa
set_option maxRecDepth 100000
open Go.RowKit
/-- Block b holds just this event's cells, none frozen. -/
structure Box (w : World) (b : Nat) (e : Evt) : Prop where
  lt : b < w.heap.size
  c0 : w.cell? ⟨b, 0, none⟩ = some (.int .i64 e.t)
  c1 : w.cell? ⟨b, 1, none⟩ = some (.int .i64 e.to)
  c2 : w.cell? ⟨b, 2, none⟩ = some (.int .i64 e.fr)
  c3 : w.cell? ⟨b, 3, none⟩ = some (.int .i64 e.sq)
  c4 : w.cell? ⟨b, 4, none⟩ = some (.int .i64 e.kd)
  c5 : w.cell? ⟨b, 5, none⟩ = some (.int .i64 e.dt)
  f0 : w.frozen? ⟨b, 0, none⟩ = false
  f1 : w.frozen? ⟨b, 1, none⟩ = false
  f2 : w.frozen? ⟨b, 2, none⟩ = false
  f3 : w.frozen? ⟨b, 3, none⟩ = false
  f4 : w.frozen? ⟨b, 4, none⟩ = false
  f5 : w.frozen? ⟨b, 5, none⟩ = false
theorem Box.keep {w w' : World} {b : Nat} {e : Evt} (h : Box w b e) (hs : w.heap.size ≤ w'.heap.size) (hc : ∀ o, w'.cell? ⟨b, o, none⟩ = w.cell? ⟨b, o, none⟩) (hf : ∀ o, w'.frozen? ⟨b, o, none⟩ = w.frozen? ⟨b, o, none⟩) : Box w' b e :=
  ⟨Nat.lt_of_lt_of_le h.lt hs, (hc 0).trans h.c0, (hc 1).trans h.c1, (hc 2).trans h.c2, (hc 3).trans h.c3, (hc 4).trans h.c4, (hc 5).trans h.c5, (hf 0).trans h.f0, (hf 1).trans h.f1, (hf 2).trans h.f2, (hf 3).trans h.f3, (hf 4).trans h.f4, (hf 5).trans h.f5⟩
theorem Box.up {w w' : World} {b : Nat} {e : Evt} (h : Box w b e) (u : Up w w') : Box w' b e := h.keep u.size (fun _ => u.cells _ _ h.lt) (fun _ => u.frozens _ _ h.lt)
theorem Box.mv {w w' : World} {b g : Nat} {e : Evt} (h : Box w b e) (m : Mv g w w') (hb : b ≠ g) : Box w' b e := h.keep m.size (fun _ => m.cells _ _ h.lt hb) (fun _ => m.frozens _ _ h.lt hb)
theorem Box.alloc {w : World} {b : Nat} {e : Evt} (h : Box w b e) (o : Obj) : Box (w.alloc o) b e := h.up ((Up.refl w).alloc o)
theorem Box.new (w : World) (e : Evt) (t : TypeId) : Box (w.alloc (.cells #[.int .i64 e.t, .int .i64 e.to, .int .i64 e.fr, .int .i64 e.sq, .int .i64 e.kd, .int .i64 e.dt] t)) w.heap.size e := by
  have hh := heap_alloc_new w (.cells #[.int .i64 e.t, .int .i64 e.to, .int .i64 e.fr, .int .i64 e.sq, .int .i64 e.kd, .int .i64 e.dt] t)
  have ff : ∀ j, (w.alloc (.cells #[.int .i64 e.t, .int .i64 e.to, .int .i64 e.fr, .int .i64 e.sq, .int .i64 e.kd, .int .i64 e.dt] t)).frozen? ⟨w.heap.size, j, none⟩ = false := fun j => by
    unfold World.frozen?; rw [hh]; simp
  exact ⟨by simp, by rw [cell_of_row _ _ 0 _ _ _ hh]; rfl, by rw [cell_of_row _ _ 1 _ _ _ hh]; rfl, by rw [cell_of_row _ _ 2 _ _ _ hh]; rfl, by rw [cell_of_row _ _ 3 _ _ _ hh]; rfl, by rw [cell_of_row _ _ 4 _ _ _ hh]; rfl, by rw [cell_of_row _ _ 5 _ _ _ hh]; rfl, ff 0, ff 1, ff 2, ff 3, ff 4, ff 5⟩
theorem Box.setFar {w : World} {b : Nat} {e : Evt} (h : Box w b e) {p : Addr} (hp : p.block ≠ b) (u : Value) : Box (w.setCell p u) b e :=
  h.keep (by simp) (fun o => World.cell?_setCell_other _ _ _ _ (fun e => hp (by rw [e]))) (fun o => by simp [go_sem])
theorem Mv.setNew {g : Nat} {a w : World} (h : Mv g a w) {p : Addr} (hp : a.heap.size ≤ p.block) (u : Value) : Mv g a (w.setCell p u) :=
  ⟨h.os, h.tape, h.output, by simpa using h.size, fun k hk hne => (Below.heap_setCell w p u k (by omega)).trans (h.block k hk hne)⟩
theorem Rd.putEv {w : World} {g N b o : Nat} {e : Evt} (h : Rd w g N) (hb : g < b) : Rd (putEv w b o e) g N :=
  (((((h.setCell (p := ⟨b, o, none⟩) hb _).setCell (p := ⟨b, o + 1, none⟩) hb _).setCell (p := ⟨b, o + 2, none⟩) hb _).setCell (p := ⟨b, o + 3, none⟩) hb _).setCell (p := ⟨b, o + 4, none⟩) hb _).setCell (p := ⟨b, o + 5, none⟩) hb _
theorem Mv.putEv {g : Nat} {a w : World} (h : Mv g a w) {b o : Nat} {e : Evt} (hb : a.heap.size ≤ b) : Mv g a (putEv w b o e) :=
  (((((h.setNew (p := ⟨b, o, none⟩) hb _).setNew (p := ⟨b, o + 1, none⟩) hb _).setNew (p := ⟨b, o + 2, none⟩) hb _).setNew (p := ⟨b, o + 3, none⟩) hb _).setNew (p := ⟨b, o + 4, none⟩) hb _).setNew (p := ⟨b, o + 5, none⟩) hb _
theorem Box.somes {w : World} {b : Nat} {e : Evt} (h : Box w b e) : ∀ k, k < 6 → ∃ v, w.cell? ⟨b, 0 + k, none⟩ = some v := fun k hk => by
  have h6 : k = 0 ∨ k = 1 ∨ k = 2 ∨ k = 3 ∨ k = 4 ∨ k = 5 := by omega
  rcases h6 with rfl | rfl | rfl | rfl | rfl | rfl
  · exact ⟨_, h.c0⟩
  · exact ⟨_, h.c1⟩
  · exact ⟨_, h.c2⟩
  · exact ⟨_, h.c3⟩
  · exact ⟨_, h.c4⟩
  · exact ⟨_, h.c5⟩
theorem Box.mk6 {w : World} {b : Nat} {z0 z1 z2 z3 z4 z5 : Int} (h : Box w b ⟨z0, z1, z2, z3, z4, z5⟩) :
    (w.cell? ⟨b, 0, none⟩ = some (.int .i64 z0) ∧ w.cell? ⟨b, 1, none⟩ = some (.int .i64 z1) ∧ w.cell? ⟨b, 2, none⟩ = some (.int .i64 z2) ∧ w.cell? ⟨b, 3, none⟩ = some (.int .i64 z3) ∧ w.cell? ⟨b, 4, none⟩ = some (.int .i64 z4) ∧ w.cell? ⟨b, 5, none⟩ = some (.int .i64 z5)) ∧ (w.frozen? ⟨b, 0, none⟩ = false ∧ w.frozen? ⟨b, 1, none⟩ = false ∧ w.frozen? ⟨b, 2, none⟩ = false ∧ w.frozen? ⟨b, 3, none⟩ = false ∧ w.frozen? ⟨b, 4, none⟩ = false ∧ w.frozen? ⟨b, 5, none⟩ = false) :=
  ⟨⟨h.c0, h.c1, h.c2, h.c3, h.c4, h.c5⟩, ⟨h.f0, h.f1, h.f2, h.f3, h.f4, h.f5⟩⟩
end Go.Proofs.Ytakmlfgkppekoaa

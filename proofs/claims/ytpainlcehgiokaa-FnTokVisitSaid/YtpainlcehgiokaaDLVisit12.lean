/-
  Models in typed heaps, in one sentence: the table of a model's blocks, and that slices of rows of rules in such a heap hold some model; no condition is made.
  What is kept where one block alone is written, in one sentence: lists of events elsewhere, their blocks, the reader; no condition is made.
  What stands in the slots of regions over a typed heap, in one sentence: numbers, arrays of numbers, aggregates, slices in typed blocks, each kept by every step; no condition is made.
-/
import Derived.Test.YtpainlcehgiokaaDLVisit01
import Derived.Test.YtpainlcehgiokaaDLVisit07
import Derived.Test.YtpainlcehgiokaaDLVisit11
namespace Go.Proofs.Ytpainlcehgiokaa
set_option maxRecDepth 100000
open Go.RowKit
/-- The table of a model: sends, rules, rows of rules. -/
def TM (K : Nat) : Tbl := fun e =>
  if e = 86 then [.num, .num, .num, .num, .num, .num]
  else if e = 84 then [.num, .num, .num, .num, .sl 86 6 K]
  else if e = 80 then [.sl 84 5 K]
  else []
theorem TM_snd (K : Nat) : TM K 86 = [.num, .num, .num, .num, .num, .num] := by simp [TM]
theorem TM_rule (K : Nat) : TM K 84 = [.num, .num, .num, .num, .sl 86 6 K] := by simp [TM]
theorem TM_row (K : Nat) : TM K 80 = [.sl 84 5 K] := by simp [TM]
theorem TM_rule_ne (K : Nat) : TM K 84 ≠ [] := by rw [TM_rule]; simp
theorem TM_row_ne (K : Nat) : TM K 80 ≠ [] := by rw [TM_row]; simp
theorem choose_list {α : Type} (d : α) {P : Nat → α → Prop} : ∀ n : Nat, (∀ i, i < n → ∃ x, P i x) → ∃ xs : List α, xs.length = n ∧ ∀ i, i < n → P i (xs.getD i d)
  | 0, _ => ⟨[], rfl, fun i hi => absurd hi (by omega)⟩
  | n + 1, h => by
    obtain ⟨xs, hl, hx⟩ := choose_list d n fun i hi => h i (by omega)
    obtain ⟨x, hp⟩ := h n (by omega); refine ⟨xs ++ [x], by simp [hl], fun i hi => ?_⟩
    by_cases e : i < n
    · have : (xs ++ [x]).getD i d = xs.getD i d := by simp [List.getD, List.getElem?_append, hl, e]
      rw [this]
      exact hx i e
    · obtain rfl : i = n := by omega
      have : (xs ++ [x]).getD i d = x := by simp [List.getD, hl]
      rw [this]
      exact hp
def CK.raise (K : Nat) : CK → CK
  | .num => .num
  | .sl e s _ => .sl e s K
theorem TM_map (K K' e : Nat) : TM K' e = (TM K e).map (CK.raise K') := by
  unfold TM
  split
  · rfl
  · split
    · rfl
    · split <;> rfl
theorem TM_mem {K e : Nat} {k : CK} (h : k ∈ TM K e) : k = .num ∨ ∃ e' s, k = .sl e' s K := by
  unfold TM at h
  split at h
  · simp at h; exact .inl h
  · split at h
    · simp at h
      rcases h with h | h
      · exact .inl h
      · exact .inr ⟨_, _, h⟩
    · split at h
      · simp at h; exact .inr ⟨_, _, h⟩
      · simp at h
/-- A higher bound. -/
theorem TC.up {S : Nat → Prop} {K K' e j : Nat} {w : World} {v : Value} (h : TC (TM K) w S e j v) (hK : K ≤ K') : TC (TM K') w S e j v := by
  obtain ⟨k, h3, h4⟩ := h; refine ⟨k.raise K', by rw [TM_map K K', List.length_map, List.getElem?_map, h3]; rfl, ?_⟩
  rcases TM_mem (List.mem_of_getElem? h3) with rfl | ⟨e', s, rfl⟩
  · exact h4
  · obtain ⟨n, h5, h6⟩ := h4
    exact ⟨n, by omega, h6⟩
theorem TH.up {S : Nat → Prop} {K K' : Nat} {w : World} (h : TH (TM K) S w) (hK : K ≤ K') : TH (TM K') S w := by
  intro b arr e fz hb ha ht; obtain ⟨h1, h2⟩ := h b arr e fz hb ha (fun h0 => ht (by rw [TM_map K K', h0]; rfl))
  exact ⟨h1, fun j v hv => (h2 j v hv).up hK⟩
section
variable {S : Nat → Prop} {K : Nat} {w : World}
/-- Its parts. -/
theorem Gs.parts {e size n : Nat} {v : Value} (h : Gs w S e size n v) : ∃ A c, v = .slice A n c ∧ n ≤ c ∧ c ≤ maxLen := by
  rcases h with ⟨rfl, rfl⟩ | ⟨b, cap, arr, rfl, _, _, h4, h5, _⟩
  · exact ⟨none, 0, rfl, Nat.le_refl _, Nat.zero_le _⟩
  · exact ⟨_, cap, rfl, h4, h5⟩
theorem Gs.at_ {e size n : Nat} {A : Option Addr} {m c : Nat} (h : Gs w S e size n (.slice A m c)) (hn : 0 < n) : ∃ b arr, A = some ⟨b, 0, none⟩ ∧ m = n ∧ S b ∧ w.heap[b]? = some (.cells arr e (0, 0)) ∧ n * size ≤ arr.size ∧ b < w.heap.size := by
  rcases h with ⟨_, rfl⟩ | ⟨b, cap, arr, hv, h2, h3, h4, _, h6⟩
  · omega
  · injection hv with h7 h8 h9
    exact ⟨b, arr, h7, h8, h2, h3, by rw [h6]; exact Nat.mul_le_mul_right _ h4, (Array.getElem?_eq_some_iff.1 h3).1⟩
theorem TC.at_ {T : Tbl} {e j : Nat} {v : Value} {k : CK} (h : TC T w S e j v) (hk : (T e)[j % (T e).length]? = some k) : COk w S k v := by
  obtain ⟨k', h1, h2⟩ := h; rw [hk] at h1
  injection h1 with h1
  exact h1 ▸ h2
theorem TH.num {b o : Nat} {arr : Array Value} {e : Nat} {fz : Nat × Nat} (h : TH (TM K) S w) (hb : S b) (ha : w.heap[b]? = some (.cells arr e fz)) (ho : o < arr.size) (hk : (TM K e)[o % (TM K e).length]? = some .num) :
    ∃ z, w.cell? ⟨b, o, none⟩ = some (.int .i64 z) := by
  obtain ⟨v, h1, h2, _⟩ := h.read hb ha (fun h0 => by rw [h0] at hk; simp at hk) ho; obtain ⟨z, rfl⟩ := h2.at_ hk
  exact ⟨z, h1⟩
/-- w2 has S's blocks of w as they were. -/
structure Same (S : Nat → Prop) (w w2 : World) : Prop where
  size : w.heap.size ≤ w2.heap.size
  block : ∀ b, S b → b < w.heap.size → w2.heap[b]? = w.heap[b]?
theorem Same.refl (S : Nat → Prop) (w : World) : Same S w w := ⟨Nat.le_refl _, fun _ _ _ => rfl⟩
theorem Same.cell {w2 : World} (h : Same S w w2) {b o : Nat} {v : Value} (hb : S b) (hl : b < w.heap.size) (hc : w.cell? ⟨b, o, none⟩ = some v) : w2.cell? ⟨b, o, none⟩ = some v :=
  (World.cell?_of_block (w := w) (a := ⟨b, o, none⟩) (h.block b hb hl)).trans hc
/-- Sends. -/
theorem Gs.evs {n : Nat} {A : Option Addr} {m c : Nat} (h : TH (TM K) S w) (hg : Gs w S 86 6 n (.slice A m c)) : ∃ es, ∀ w2, Same S w w2 → Evs w2 A n es := by
  rcases Nat.eq_zero_or_pos n with h0 | h0
  · subst h0
    exact ⟨[], fun _ _ => ⟨rfl, fun h => absurd h (by omega)⟩⟩
  · obtain ⟨b, arr, rfl, rfl, hb, ha, hs, hlt⟩ := hg.at_ h0
    have key : ∀ i, i < m → ∃ e : Evt, EvAt w b (0 + i * 6) e := fun i hi => by
      have num : ∀ j, j < 6 → ∃ z, w.cell? ⟨b, 0 + i * 6 + j, none⟩ = some (.int .i64 z) := fun j hj =>
        h.num hb ha (by omega) (by
          rw [TM_snd]
          have : (0 + i * 6 + j) % 6 = j := by omega
          simp only [List.length_cons, List.length_nil, this]
          have h6 : j = 0 ∨ j = 1 ∨ j = 2 ∨ j = 3 ∨ j = 4 ∨ j = 5 := by omega
          rcases h6 with rfl | rfl | rfl | rfl | rfl | rfl <;> rfl)
      obtain ⟨z0, h0⟩ := num 0 (by omega); obtain ⟨z1, h1⟩ := num 1 (by omega); obtain ⟨z2, h2⟩ := num 2 (by omega); obtain ⟨z3, h3⟩ := num 3 (by omega); obtain ⟨z4, h4⟩ := num 4 (by omega); obtain ⟨z5, h5⟩ := num 5 (by omega)
      exact ⟨⟨z0, z1, z2, z3, z4, z5⟩, h0, h1, h2, h3, h4, h5⟩
    obtain ⟨es, hl, he⟩ := choose_list default m key
    exact ⟨es, fun w2 sm => ⟨hl, fun _ => ⟨b, 0, rfl, Nat.lt_of_lt_of_le hlt sm.size, fun i hi => by
      obtain ⟨c0, c1, c2, c3, c4, c5⟩ := he i hi
      exact ⟨sm.cell hb hlt c0, sm.cell hb hlt c1, sm.cell hb hlt c2, sm.cell hb hlt c3, sm.cell hb hlt c4, sm.cell hb hlt c5⟩⟩⟩⟩
/-- Rules. -/
theorem Gs.rules {n : Nat} {A : Option Addr} {m c : Nat} (hK : K ≤ 1000000) (h : TH (TM K) S w) (hn : n ≤ 1000000) (hg : Gs w S 84 5 n (.slice A m c)) : ∃ rs, (∀ w2, Same S w w2 → Rules w2 A n rs) ∧ ∀ i, i < n → (rs.getD i default).sends.length ≤ K := by
  rcases Nat.eq_zero_or_pos n with h0 | h0
  · subst h0
    exact ⟨[], fun _ _ => ⟨rfl, by omega, fun h => absurd h (by omega)⟩, fun i hi => absurd hi (by omega)⟩
  · obtain ⟨b, arr, rfl, rfl, hb, ha, hs, hlt⟩ := hg.at_ h0
    have key : ∀ i, i < m → ∃ r : Rule, (∀ w2, Same S w w2 → RuleAt w2 b (0 + i * 5) r) ∧ r.sends.length ≤ K := fun i hi => by
      have num : ∀ j, j < 4 → ∃ z, w.cell? ⟨b, 0 + i * 5 + j, none⟩ = some (.int .i64 z) := fun j hj =>
        h.num hb ha (by omega) (by
          rw [TM_rule]
          have : (0 + i * 5 + j) % 5 = j := by omega
          simp only [List.length_cons, List.length_nil, this]
          have h6 : j = 0 ∨ j = 1 ∨ j = 2 ∨ j = 3 := by omega
          rcases h6 with rfl | rfl | rfl | rfl <;> rfl)
      obtain ⟨z0, h0⟩ := num 0 (by omega); obtain ⟨z1, h1⟩ := num 1 (by omega); obtain ⟨z2, h2⟩ := num 2 (by omega); obtain ⟨z3, h3⟩ := num 3 (by omega); obtain ⟨v, h4, h5, _⟩ := h.read (o := 0 + i * 5 + 4) hb ha (TM_rule_ne K) (by omega)
      have h6 := h5.at_ (k := .sl 86 6 K) (by
        rw [TM_rule]
        have : (0 + i * 5 + 4) % 5 = 4 := by omega
        simp only [List.length_cons, List.length_nil, this]
        rfl)
      obtain ⟨q, hq, hs'⟩ := h6; obtain ⟨A', c', rfl, _, _⟩ := hs'.parts; obtain ⟨es, he⟩ := hs'.evs h
      exact ⟨⟨z0, z1, z2, z3, es⟩, fun w2 sm => ⟨A', q, c', ⟨sm.cell hb hlt h0, sm.cell hb hlt h1, sm.cell hb hlt h2, sm.cell hb hlt h3, sm.cell hb hlt h4⟩, by omega, he w2 sm⟩, by dsimp only; rw [(he w (Same.refl S w)).1]; exact hq⟩
    obtain ⟨rs, hl, he⟩ := choose_list default m key
    exact ⟨rs, fun w2 sm => ⟨hl, by omega, fun _ => ⟨b, 0, rfl, Nat.lt_of_lt_of_le hlt sm.size, fun i hi => (he i hi).1 w2 sm⟩⟩, fun i hi => (he i hi).2⟩
/-- Rows of rules. -/
theorem Gs.rulz {n : Nat} {A : Option Addr} {m c : Nat} (hK : K ≤ 1000000) (h : TH (TM K) S w) (hn : n ≤ 1000000) (hg : Gs w S 80 1 n (.slice A m c)) :
    ∃ rss, (∀ w2, Same S w w2 → Rulz w2 A n rss) ∧ ∀ i, i < n → (rss.getD i []).length ≤ K ∧ ∀ j, j < (rss.getD i []).length → ((rss.getD i []).getD j default).sends.length ≤ K := by
  rcases Nat.eq_zero_or_pos n with h0 | h0
  · subst h0
    exact ⟨[], fun _ _ => ⟨rfl, by omega, fun h => absurd h (by omega)⟩, fun i hi => absurd hi (by omega)⟩
  · obtain ⟨b, arr, rfl, rfl, hb, ha, hs, hlt⟩ := hg.at_ h0
    have key : ∀ i, i < m → ∃ rs : List Rule, (∀ w2, Same S w w2 → ∃ A' n' c', w2.cell? ⟨b, 0 + i, none⟩ = some (.slice A' n' c') ∧ Rules w2 A' n' rs) ∧ rs.length ≤ K ∧ ∀ j, j < rs.length → (rs.getD j default).sends.length ≤ K := fun i hi => by
      obtain ⟨v, h4, h5, _⟩ := h.read (o := 0 + i) hb ha (TM_row_ne K) (by omega)
      have h6 := h5.at_ (k := .sl 84 5 K) (by rw [TM_row]; simp [Nat.mod_one])
      obtain ⟨q, hq, hs'⟩ := h6; obtain ⟨A', c', rfl, _, _⟩ := hs'.parts; obtain ⟨rs, he, hb2⟩ := hs'.rules hK h (by omega)
      exact ⟨rs, fun w2 sm => ⟨A', q, c', sm.cell hb hlt h4, he w2 sm⟩, by rw [(he w (Same.refl S w)).1]; exact hq, fun j hj => hb2 j (by rw [(he w (Same.refl S w)).1] at hj; exact hj)⟩
    obtain ⟨rss, hl, he⟩ := choose_list [] m key
    exact ⟨rss, fun w2 sm => ⟨hl, by omega, fun _ => ⟨b, 0, rfl, Nat.lt_of_lt_of_le hlt sm.size, fun i hi => (he i hi).1 w2 sm⟩⟩, fun i hi => (he i hi).2⟩
end
end Go.Proofs.Ytpainlcehgiokaa

namespace Go.Proofs.Ytpainlcehgiokaa
set_option maxRecDepth 100000
open Go.RowKit
theorem Evs.mv {w w' : World} {A : Option Addr} {n g : Nat} {es : List Evt} (h : Evs w A n es) (m : Mv g w w') (hne : ∀ b off, A = some ⟨b, off, none⟩ → b ≠ g) : Evs w' A n es :=
  ⟨h.1, fun hn => by
    obtain ⟨b, off, hA, hb, hc⟩ := h.2 hn
    have hbg := hne b off hA
    refine ⟨b, off, hA, Nat.lt_of_lt_of_le hb m.size, fun i hi => ?_⟩; obtain ⟨h0, h1, h2, h3, h4, h5⟩ := hc i hi
    exact ⟨(m.cells _ _ hb hbg).trans h0, (m.cells _ _ hb hbg).trans h1, (m.cells _ _ hb hbg).trans h2, (m.cells _ _ hb hbg).trans h3, (m.cells _ _ hb hbg).trans h4, (m.cells _ _ hb hbg).trans h5⟩⟩
theorem own_mv {w w' : World} {b e size n g : Nat} {v : Value} {xs : List Value} (h : w.ownsRow b e size v n xs) (m : Mv g w w') (hg : g < b) : w'.ownsRow b e size v n xs :=
  h.kept (row := some g) ⟨m.os, m.tape, m.output, m.size, fun k hk hne => m.block k hk (fun e => hne (by rw [e]))⟩ (.inr (fun he => by have := (h.lt g he).1; omega))
theorem own_addr {w : World} {base e n c b off : Nat} {A : Option Addr} {xs : List Value} (h : w.ownsRow base e 6 (.slice A n c) n xs) (hA : A = some ⟨b, off, none⟩) : base ≤ b := by
  subst hA
  exact (h.lt b rfl).1
theorem Rd.lt {w : World} {g N : Nat} (h : Rd w g N) : g < w.heap.size := by
  obtain ⟨_, _, _, _, _, _, _, _, hg, _⟩ := h
  exact hg
end Go.Proofs.Ytpainlcehgiokaa

namespace Go.Proofs.Ytpainlcehgiokaa
set_option maxRecDepth 100000
open Go.RowKit
/-- What holds between two operations of a region, k of them being left. -/
structure GT (K : Nat) (S : Nat → Prop) (g N0 : Nat) (W0 : World) (k : Nat) (w : World) : Prop where
  th : TH (TM K) S w
  rd : ∃ c, c + k ≤ N0 ∧ Rd w g c
  st : St (TM K) S g W0 w
  lo : ∀ b, w.heap.size ≤ b → S b
def PEq (c v : Value) (_ : World) : Prop := v = c
def PInt (lo hi : Int) (v : Value) (_ : World) : Prop := ∃ z : Int, v = .int .i64 z ∧ lo ≤ z ∧ z ≤ hi
def PArr (g n : Nat) (lo hi : Int) (v : Value) (w : World) : Prop :=
  ∃ b arr, v = .slice (some ⟨b, 0, none⟩) n n ∧ b ≠ g ∧ w.heap[b]? = some (.cells arr 3 (0, 0)) ∧ arr.size = n ∧ ∀ j, j < n → ∃ z, arr[j]? = some (.int .i64 z) ∧ lo ≤ z ∧ z ≤ hi
def PEl (g : Nat) (lo hi : Int) (v : Value) (w : World) : Prop :=
  ∃ b j arr z, v = .pointer (some ⟨b, j, none⟩) ∧ b ≠ g ∧ w.heap[b]? = some (.cells arr 3 (0, 0)) ∧ arr[j]? = some (.int .i64 z) ∧ lo ≤ z ∧ z ≤ hi
def PSnd (v : Value) (_ : World) : Prop := ∃ z0 z1 z2 z3 z4 z5 : Int, v = .agg #[.int .i64 z0, .int .i64 z1, .int .i64 z2, .int .i64 z3, .int .i64 z4, .int .i64 z5]
def PGs (S : Nat → Prop) (e size n : Nat) (v : Value) (w : World) : Prop := Gs w S e size n v
def PLe (S : Nat → Prop) (e size K : Nat) (v : Value) (w : World) : Prop := ∃ n, n ≤ K ∧ Gs w S e size n v
def PRule (S : Nat → Prop) (K : Nat) (v : Value) (w : World) : Prop := ∃ (z0 z1 z2 z3 : Int) (s : Value), v = .agg #[.int .i64 z0, .int .i64 z1, .int .i64 z2, .int .i64 z3, s] ∧ ∃ n, n ≤ K ∧ Gs w S 86 6 n s
section
variable {S : Nat → Prop} {K g N0 : Nat} {W0 w w' : World}
theorem TM_int (K : Nat) : TM K 3 = [] := by simp [TM]
theorem TM_mdl (K : Nat) : TM K 26 = [] := by simp [TM]
theorem PEq.st {c v : Value} (h : PEq c v w) (_ : St (TM K) S g w w') : PEq c v w' := h
theorem PInt.st {lo hi : Int} {v : Value} (h : PInt lo hi v w) (_ : St (TM K) S g w w') : PInt lo hi v w' := h
theorem PSnd.st {v : Value} (h : PSnd v w) (_ : St (TM K) S g w w') : PSnd v w' := h
theorem PArr.st {n : Nat} {lo hi : Int} {v : Value} (h : PArr g n lo hi v w) (k : St (TM K) S g w w') : PArr g n lo hi v w' := by
  obtain ⟨b, arr, h1, h2, h3, h4⟩ := h
  exact ⟨b, arr, h1, h2, (k.free b arr _ _ h2 h3 (TM_int K)).trans h3, h4⟩
theorem PEl.st {lo hi : Int} {v : Value} (h : PEl g lo hi v w) (k : St (TM K) S g w w') : PEl g lo hi v w' := by
  obtain ⟨b, j, arr, z, h1, h2, h3, h4⟩ := h
  exact ⟨b, j, arr, z, h1, h2, (k.free b arr _ _ h2 h3 (TM_int K)).trans h3, h4⟩
theorem PGs.st {e size n : Nat} {v : Value} (h : PGs S e size n v w) (k : St (TM K) S g w w') : PGs S e size n v w' := Gs.st h k
theorem PLe.st {e size n : Nat} {v : Value} (h : PLe S e size n v w) (k : St (TM K) S g w w') : PLe S e size n v w' := by
  obtain ⟨n, h1, h2⟩ := h
  exact ⟨n, h1, h2.st k⟩
theorem PRule.st {n : Nat} {v : Value} (h : PRule S n v w) (k : St (TM K) S g w w') : PRule S n v w' := by
  obtain ⟨z0, z1, z2, z3, s, h1, n, h2, h3⟩ := h
  exact ⟨z0, z1, z2, z3, s, h1, n, h2, h3.st k⟩
theorem GT.less {k : Nat} (h : GT K S g N0 W0 (k + 1) w) : GT K S g N0 W0 k w :=
  ⟨h.th, by obtain ⟨c, h1, h2⟩ := h.rd; exact ⟨c, by omega, h2⟩, h.st, h.lo⟩
theorem GT.pk {k c : Nat} (h : GT K S g N0 W0 (k + 1) w) (p : Pk g w w') (hg : ¬ S g) (r : Rd w' g (c + 1)) (hc : c + (k + 1) ≤ N0) : GT K S g N0 W0 k w' :=
  ⟨h.th.pk p hg, ⟨c + 1, by omega, r⟩, h.st.trans p.st, by rw [p.size]; exact h.lo⟩
theorem Rd.st {c : Nat} (r : Rd w g c) (h : ∀ k, k ≤ g → w'.heap[k]? = w.heap[k]?) (hs : w.heap.size ≤ w'.heap.size) : Rd w' g c := by
  obtain ⟨A, n, cap, p, h0, h1, hf, hp, hg, hn, hb⟩ := r
  have cell : ∀ b o, b ≤ g → w'.cell? ⟨b, o, none⟩ = w.cell? ⟨b, o, none⟩ := fun b o hb => World.cell?_of_block (w := w) (a := ⟨b, o, none⟩) (h b hb)
  exact ⟨A, n, cap, p, (cell _ _ (Nat.le_refl _)).trans h0, (cell _ _ (Nat.le_refl _)).trans h1, (World.frozen?_of_block (w := w) (a := ⟨g, 1, none⟩) (h g (Nat.le_refl _))).trans hf, hp, by omega, hn, hb.keep fun b o hb => cell b o (by omega)⟩
theorem GT.alloc {k e : Nat} {arr : Array Value} (h : GT K S g N0 W0 (k + 1) w) (hn : TM K e ≠ [] → ∀ j v, arr[j]? = some v → TC (TM K) w S e j v) : GT K S g N0 W0 k (w.alloc (.cells arr e)) :=
  ⟨h.th.alloc h.lo hn, by
    obtain ⟨c, h1, h2⟩ := h.rd
    exact ⟨c, by omega, Rd.st h2 (fun j hj => heap_alloc_old w _ (by have := h2.lt; omega)) (by simp)⟩, h.st.trans (St.alloc w arr e h.lo), fun b hb => h.lo b (by simp at hb; omega)⟩
theorem GT.grow {k : Nat} (h : GT K S g N0 W0 (k + 1) w) (t : TH (TM K) S w') (s : St (TM K) S g w w') (hg : w'.heap[g]? = w.heap[g]?) (hgb : ∀ j, j ≤ g → ¬ S j) : GT K S g N0 W0 k w' :=
  ⟨t, by
    obtain ⟨c, h1, h2⟩ := h.rd
    exact ⟨c, by omega, h2.st (fun j hj => by
      by_cases e : j = g
      · subst e; exact hg
      · exact s.old j (hgb j hj) e) s.size⟩, h.st.trans s, fun b hb => h.lo b (Nat.le_trans s.size hb)⟩
theorem PArr.new2 {lo hi a b : Int} (hg : g < w.heap.size) (ha : lo ≤ a ∧ a ≤ hi) (hb : lo ≤ b ∧ b ≤ hi) : PArr g 2 lo hi (.slice (some ⟨w.heap.size, 0, none⟩) 2 2) (w.alloc (.cells #[.int .i64 a, .int .i64 b] 3)) :=
  ⟨w.heap.size, _, rfl, by omega, heap_alloc_new w _, rfl, fun j hj => by
    have : j = 0 ∨ j = 1 := by omega
    rcases this with rfl | rfl
    · exact ⟨a, rfl, ha⟩
    · exact ⟨b, rfl, hb⟩⟩
theorem PArr.el {n : Nat} {lo hi : Int} {v : Value} (h : PArr g n lo hi v w) : ∃ b, v = .slice (some ⟨b, 0, none⟩) n n ∧ ∀ j, j < n → PEl g lo hi (.pointer (some ⟨b, j, none⟩)) w := by
  obtain ⟨b, arr, h1, h2, h3, _, h5⟩ := h; refine ⟨b, h1, fun j hj => ?_⟩; obtain ⟨z, h6, h7⟩ := h5 j hj
  exact ⟨b, j, arr, z, rfl, h2, h3, h6, h7⟩
theorem PEl.cell {lo hi : Int} {v : Value} (h : PEl g lo hi v w) : ∃ b j z, v = .pointer (some ⟨b, j, none⟩) ∧ w.cell? ⟨b, j, none⟩ = some (.int .i64 z) ∧ lo ≤ z ∧ z ≤ hi := by
  obtain ⟨b, j, arr, z, h1, _, h3, h4, h5⟩ := h; refine ⟨b, j, z, h1, ?_, h5⟩; unfold World.cell?; dsimp only; rw [h3]
  exact h4
/-- A new block of one send. -/
theorem snd_tc (z0 z1 z2 z3 z4 z5 : Int) (j : Nat) (v : Value) (hv : (#[.int .i64 z0, .int .i64 z1, .int .i64 z2, .int .i64 z3, .int .i64 z4, .int .i64 z5] : Array Value)[j]? = some v) : TC (TM K) w S 86 j v := by
  have hj : j < 6 := (Array.getElem?_eq_some_iff.1 hv).1
  have h6 : j = 0 ∨ j = 1 ∨ j = 2 ∨ j = 3 ∨ j = 4 ∨ j = 5 := by omega
  refine ⟨.num, by rw [TM_snd]; rcases h6 with rfl | rfl | rfl | rfl | rfl | rfl <;> rfl, ?_⟩
  rcases h6 with rfl | rfl | rfl | rfl | rfl | rfl <;> (injection hv with hv; exact ⟨_, hv.symm⟩)
theorem rule_tc {z0 z1 z2 z3 : Int} {s : Value} (hs : ∃ n, n ≤ K ∧ Gs w S 86 6 n s) (j : Nat) (v : Value) (hv : (#[.int .i64 z0, .int .i64 z1, .int .i64 z2, .int .i64 z3, s] : Array Value)[j]? = some v) : TC (TM K) w S 84 j v := by
  have hj : j < 5 := (Array.getElem?_eq_some_iff.1 hv).1
  have h6 : j = 0 ∨ j = 1 ∨ j = 2 ∨ j = 3 ∨ j = 4 := by omega
  rcases h6 with rfl | rfl | rfl | rfl | rfl
  · exact ⟨.num, by rw [TM_rule]; rfl, by injection hv with hv; exact ⟨_, hv.symm⟩⟩
  · exact ⟨.num, by rw [TM_rule]; rfl, by injection hv with hv; exact ⟨_, hv.symm⟩⟩
  · exact ⟨.num, by rw [TM_rule]; rfl, by injection hv with hv; exact ⟨_, hv.symm⟩⟩
  · exact ⟨.num, by rw [TM_rule]; rfl, by injection hv with hv; exact ⟨_, hv.symm⟩⟩
  · exact ⟨.sl 86 6 K, by rw [TM_rule]; rfl, by injection hv with hv; subst hv; exact hs⟩
theorem row_tc {s : Value} (hs : ∃ n, n ≤ K ∧ Gs w S 84 5 n s) (j : Nat) (v : Value) (hv : (#[s] : Array Value)[j]? = some v) : TC (TM K) w S 80 j v := by
  have hj : j < 1 := (Array.getElem?_eq_some_iff.1 hv).1
  obtain rfl : j = 0 := by omega
  exact ⟨.sl 84 5 K, by rw [TM_row]; rfl, by injection hv with hv; subst hv; exact hs⟩
theorem Gs.new {arr : Array Value} {e size n : Nat} (hlo : ∀ b, w.heap.size ≤ b → S b) (hs : arr.size = n * size) (hn : n ≤ 1000000) : Gs (w.alloc (.cells arr e)) S e size n (.slice (some ⟨w.heap.size, 0, none⟩) n n) :=
  .inr ⟨w.heap.size, n, arr, rfl, hlo _ (Nat.le_refl _), heap_alloc_new w _, Nat.le_refl _, by simp only [maxLen]; omega, hs⟩
/-- What a slice in a typed heap holds, as news for append. -/
theorem Gs.news {T : Tbl} {e size m : Nat} {v : Value} (h : TH T S w) (hg : Gs w S e size m v) (ht : T e ≠ []) (hm : 0 < m) :
    ∃ (ad : Addr) (c : Nat) (news : List Value), v = .slice (some ad) m c ∧ news.length = m * size ∧ (∀ (j : Nat) (u : Value), news[j]? = some u → w.cell? (ad.add j) = some u) ∧ ∀ (j : Nat) (u : Value), news[j]? = some u → TC T w S e j u := by
  rcases hg with ⟨_, rfl⟩ | ⟨b, cap, arr, h1, h2, h3, h4, h5, h6⟩
  · omega
  · have hle : m * size ≤ arr.size := by rw [h6]; exact Nat.mul_le_mul_right _ h4
    have hat : ∀ (j : Nat) (u : Value), (arr.toList.take (m * size))[j]? = some u → arr[j]? = some u := fun j u hu => by
      rw [List.getElem?_take] at hu
      split at hu
      · simpa using hu
      · cases hu
    refine ⟨_, cap, arr.toList.take (m * size), h1, by rw [List.length_take]; simp; omega, fun j u hu => ?_, fun j u hu => (h b arr e (0, 0) h2 h3 ht).2 j u (hat j u hu)⟩; rw [Addr.add_lit, Nat.zero_add]; unfold World.cell?; dsimp only; rw [h3]
    exact hat j u hu
end
section
variable {T : Tbl} {S S' : Nat → Prop} {g : Nat} {w w' : World}
/-- Only the shapes of blocks matter to a slice. -/
def Shp (S : Nat → Prop) (w w' : World) : Prop := ∀ (k : Nat) (arr : Array Value) (e : Nat) (fz : Nat × Nat), S k → w.heap[k]? = some (.cells arr e fz) → ∃ arr', w'.heap[k]? = some (.cells arr' e fz) ∧ arr'.size = arr.size
theorem Gs.shp {e size n : Nat} {v : Value} (h : Gs w S e size n v) (k : Shp S w w') : Gs w' S e size n v := by
  rcases h with h | ⟨b, cap, arr, h1, h2, h3, h4, h5, h6⟩
  · exact .inl h
  · obtain ⟨arr', h7, h8⟩ := k b arr e (0, 0) h2 h3
    exact .inr ⟨b, cap, arr', h1, h2, h7, h4, h5, h8.trans h6⟩
theorem TC.shp {e j : Nat} {v : Value} (h : TC T w S e j v) (k : Shp S w w') : TC T w' S e j v := by
  obtain ⟨c, h1, h2⟩ := h; refine ⟨c, h1, ?_⟩
  cases c with
  | num => exact h2
  | sl e size mx =>
    obtain ⟨n, h3, h4⟩ := h2
    exact ⟨n, h3, h4.shp k⟩
theorem Gs.sub {e size n : Nat} {v : Value} (h : Gs w S e size n v) (k : ∀ b, S b → b < w.heap.size → S' b) : Gs w S' e size n v := by
  rcases h with h | ⟨b, cap, arr, h1, h2, h3, h4⟩
  · exact .inl h
  · exact .inr ⟨b, cap, arr, h1, k b h2 (Array.getElem?_eq_some_iff.1 h3).1, h3, h4⟩
theorem TC.sub {e j : Nat} {v : Value} (h : TC T w S e j v) (k : ∀ b, S b → b < w.heap.size → S' b) : TC T w S' e j v := by
  obtain ⟨c, h1, h2⟩ := h; refine ⟨c, h1, ?_⟩
  cases c with
  | num => exact h2
  | sl e size mx =>
    obtain ⟨n, h3, h4⟩ := h2
    exact ⟨n, h3, h4.sub k⟩
/-- The blocks of S are as they were. -/
theorem TH.keep (h : TH T S w) (k : ∀ b, S b → w'.heap[b]? = w.heap[b]?) : TH T S w' := by
  have sh : Shp S w w' := fun b arr e fz hb ha => ⟨arr, (k b hb).trans ha, rfl⟩
  intro b arr e fz hb ha ht; rw [k b hb] at ha; obtain ⟨h1, h2⟩ := h b arr e fz hb ha ht
  exact ⟨h1, fun j v hv => (h2 j v hv).shp sh⟩
theorem Gs.keep {e size n : Nat} {v : Value} (h : Gs w S e size n v) (k : ∀ b, S b → w'.heap[b]? = w.heap[b]?) : Gs w' S e size n v := h.shp fun b arr _ _ hb ha => ⟨arr, (k b hb).trans ha, rfl⟩
/-- Another set with the same blocks. -/
theorem TH.sub (h : TH T S w) (k : ∀ b, S b → b < w.heap.size → S' b) (k' : ∀ b, S' b → b < w.heap.size → S b) : TH T S' w := by
  intro b arr e fz hb ha ht
  have hlt := (Array.getElem?_eq_some_iff.1 ha).1
  obtain ⟨h1, h2⟩ := h b arr e fz (k' b hb hlt) ha ht
  exact ⟨h1, fun j v hv => (h2 j v hv).sub k⟩
/-- A cell of a block of which nothing is asked is written. -/
theorem shp_set (w : World) (b o : Nat) (u : Value) : Shp S w (w.setCell ⟨b, o, none⟩ u) := fun k arr e fz _ ha => by
  by_cases hk : k = b
  · subst hk
    exact ⟨_, heap_set w k o u ha, by simp⟩
  · exact ⟨arr, (Below.heap_setCell w ⟨b, o, none⟩ u k hk).trans ha, rfl⟩
theorem TH.setF {b o e : Nat} {u : Value} {arr : Array Value} {fz : Nat × Nat} (h : TH T S w) (ha : w.heap[b]? = some (.cells arr e fz)) (ht : T e = []) : TH T S (w.setCell ⟨b, o, none⟩ u) := by
  intro b' a e' fz' hb' ha' ht'
  by_cases hkb : b' = b
  · subst hkb
    rw [heap_set w b' o u ha] at ha'
    injection ha' with ha'
    injection ha' with h1 h2 h3
    subst h2
    exact absurd ht ht'
  · rw [Below.heap_setCell w ⟨b, o, none⟩ u b' hkb] at ha'
    obtain ⟨h4, h5⟩ := h b' a e' fz' hb' ha' ht'
    exact ⟨h4, fun j v hv => (h5 j v hv).shp (shp_set w b o u)⟩
theorem TH.free' {arr : Array Value} {e : Nat} (h : TH T S w) (ht : T e = []) : TH T S (w.alloc (.cells arr e)) := by
  have sh : Shp S w (w.alloc (.cells arr e)) := fun k a e' fz _ ha => ⟨a, (heap_alloc_old w _ (Array.getElem?_eq_some_iff.1 ha).1).trans ha, rfl⟩
  intro b a e' fz hb ha ht'
  by_cases hlt : b < w.heap.size
  · rw [heap_alloc_old w _ hlt] at ha
    obtain ⟨h1, h2⟩ := h b a e' fz hb ha ht'
    exact ⟨h1, fun j v hv => (h2 j v hv).shp sh⟩
  · have hlt2 := (Array.getElem?_eq_some_iff.1 ha).1
    have hs : b < w.heap.size + 1 := by simpa using hlt2
    obtain rfl : b = w.heap.size := by omega
    rw [heap_alloc_new] at ha
    injection ha with ha
    injection ha with ha1 ha2 ha3
    subst ha2
    exact absurd ht ht'
theorem Gs.alloc {e size n : Nat} {v : Value} (h : Gs w S e size n v) (o : Obj) : Gs (w.alloc o) S e size n v := h.shp fun _ a _ _ _ ha => ⟨a, (heap_alloc_old w _ (Array.getElem?_eq_some_iff.1 ha).1).trans ha, rfl⟩
theorem Gs.setCell {e size n : Nat} {v : Value} (h : Gs w S e size n v) (b o : Nat) (u : Value) : Gs (w.setCell ⟨b, o, none⟩ u) S e size n v := h.shp (shp_set w b o u)
/-- A block known whole. -/
def Blk (w : World) (b e : Nat) (arr : Array Value) : Prop := w.heap[b]? = some (.cells arr e (0, 0))
theorem Blk.cell {b e j : Nat} {arr : Array Value} {v : Value} (h : Blk w b e arr) (hv : arr[j]? = some v) : w.cell? ⟨b, j, none⟩ = some v := by
  unfold World.cell?; dsimp only; rw [h]
  exact hv
theorem Blk.frozen {b e : Nat} {arr : Array Value} (h : Blk w b e arr) (j : Nat) : w.frozen? ⟨b, j, none⟩ = false := by
  unfold World.frozen?; dsimp only; rw [h]; simp
theorem Blk.lt {b e : Nat} {arr : Array Value} (h : Blk w b e arr) : b < w.heap.size := (Array.getElem?_eq_some_iff.1 h).1
theorem Blk.st {b e : Nat} {arr : Array Value} (h : Blk w b e arr) (k : St T S g w w') (ht : T e = []) (hb : b ≠ g) : Blk w' b e arr := (k.free b arr e _ hb h ht).trans h
theorem Blk.pk {b e : Nat} {arr : Array Value} (h : Blk w b e arr) (k : Pk g w w') (hb : b ≠ g) : Blk w' b e arr := (k.mv.block b h.lt hb).trans h
theorem Blk.up {b e : Nat} {arr : Array Value} (h : Blk w b e arr) (k : Up w w') : Blk w' b e arr := (k.below.block b h.lt).trans h
theorem Blk.alloc {b e : Nat} {arr : Array Value} (h : Blk w b e arr) (o : Obj) : Blk (w.alloc o) b e arr := (heap_alloc_old w _ h.lt).trans h
theorem Blk.new (w : World) (arr : Array Value) (e : Nat) : Blk (w.alloc (.cells arr e)) w.heap.size e arr := heap_alloc_new w _
theorem Blk.set {b e : Nat} {arr : Array Value} (h : Blk w b e arr) (o : Nat) (u : Value) : Blk (w.setCell ⟨b, o, none⟩ u) b e (arr.setIfInBounds o u) := heap_set w b o u h
theorem Blk.far {b b' e : Nat} {arr : Array Value} (h : Blk w b e arr) (o : Nat) (u : Value) (hb : b ≠ b') : Blk (w.setCell ⟨b', o, none⟩ u) b e arr := (Below.heap_setCell w ⟨b', o, none⟩ u b hb).trans h
end
/-- Appending one typed slice onto another. -/
theorem wp_append_gs {P : Program} {T : Tbl} {S : Nat → Prop} {g : Nat} (w : World) {o : Oper} {a : Act} {L : Act → World → Prop} {Q : Exit → Act → World → Prop} (s x : Operand) (t : Nat)
    (ho : o.op = .call { callee := .builtin .append, args := #[s, x], argTypes := #[t, t] })
    (e : Nat) (i : TypeInfo) (z : Value) (size bytes : Nat) (ht : P.underlying t = some (.slice e)) (hi : P.info? e = some i) (hz : i.zero = some z)
    (hsize : i.size = size) (hby : i.bytes = bytes) (hzs : z.cells.size = size) (hsz : 0 < size) (hT : (T e).length = size) (hzt : ∀ (j : Nat) (u : Value), z.cells[j]? = some u → ∃ k, (T e)[j]? = some k ∧ ZOk k u)
    (v : Value) (n : Nat) (hs : a.eval s = v) (hv : Gs w S e size n v) (y : Value) (m : Nat) (hx : a.eval x = y) (hy : Gs w S e size m y)
    (hm : 0 < m) (b1 : n + m ≤ 1000000) (b2 : (n + m) * bytes ≤ 140737488355328) (hB : ∀ b, w.heap.size ≤ b → S b) (hTH : TH T S w) (hg : ¬ S g)
    (h : ∀ v' w', Gs w' S e size (n + m) v' → TH T S w' → St T S g w w' → w'.heap[g]? = w.heap[g]? → L (a.put o.dst v') w') : o.wp P a w L Q := by
  have hne : T e ≠ [] := fun h => by rw [h] at hT; simp at hT; omega
  obtain ⟨ad, c, news, rfl, h1, h2, h3⟩ := Gs.news hTH hy hne hm
  refine wp_append_ty (g := w.heap.size) w s x t ho e i z size bytes ht hi hz hsize hby hzs hsz hT hzt v n hs hv ad m c news hx h1 h2 h3 hm b1 b2 hB hTH fun v' w' r1 r2 r3 => ?_
  have hgg : w'.heap[g]? = w.heap[g]? := r3.old g hg (fun e => hg (hB g (by omega)))
  refine h v' w' r1 r2 ⟨r3.os, r3.tape, r3.output, r3.size, fun k hk _ => r3.old k hk (fun e => hk (hB k (by omega))), r3.shape, fun k arr e' fz _ ha hf => r3.free k arr e' fz (by have := (Array.getElem?_eq_some_iff.1 ha).1; omega) ha hf⟩ hgg
theorem wpList_append_gs {P : Program} {T : Tbl} {S : Nat → Prop} {g : Nat} (w : World) {ops : Array Oper} {rest : List Oper} {o : Oper} {a : Act} {Q : Exit → Act → World → Prop} (hgd : o.guard = none) (s x : Operand) (t : Nat)
    (ho : o.op = .call { callee := .builtin .append, args := #[s, x], argTypes := #[t, t] })
    (e : Nat) (i : TypeInfo) (z : Value) (size bytes : Nat) (ht : P.underlying t = some (.slice e)) (hi : P.info? e = some i) (hz : i.zero = some z)
    (hsize : i.size = size) (hby : i.bytes = bytes) (hzs : z.cells.size = size) (hsz : 0 < size) (hT : (T e).length = size) (hzt : ∀ (j : Nat) (u : Value), z.cells[j]? = some u → ∃ k, (T e)[j]? = some k ∧ ZOk k u)
    (v : Value) (n : Nat) (hs : a.eval s = v) (hv : Gs w S e size n v) (y : Value) (m : Nat) (hx : a.eval x = y) (hy : Gs w S e size m y)
    (hm : 0 < m) (b1 : n + m ≤ 1000000) (b2 : (n + m) * bytes ≤ 140737488355328) (hB : ∀ b, w.heap.size ≤ b → S b) (hTH : TH T S w) (hg : ¬ S g)
    (h : ∀ v' w', Gs w' S e size (n + m) v' → TH T S w' → St T S g w w' → w'.heap[g]? = w.heap[g]? → wpList P ops Q rest (a.put o.dst v') w') : wpList P ops Q (o :: rest) a w :=
  wpList_plain hgd fun _ hK => wp_append_gs w s x t ho e i z size bytes ht hi hz hsize hby hzs hsz hT hzt v n hs hv y m hx hy hm b1 b2 hB hTH hg fun v' w' h1 h2 h3 h4 => hK _ _ (h v' w' h1 h2 h3 h4)
end Go.Proofs.Ytpainlcehgiokaa

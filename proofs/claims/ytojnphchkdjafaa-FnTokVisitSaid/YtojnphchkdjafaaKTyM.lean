/-
  Models in typed heaps, in one sentence: the table of a model's blocks, and that slices of rows of rules in such a heap hold some model; no condition is made.
-/
import Derived.Test.YtojnphchkdjafaaKTy
import Derived.Test.YtojnphchkdjafaaKA
namespace Go.Proofs.Ytojnphchkdjafaa
set_option maxRecDepth 100000
open Go.RowKit

/-- The table of a model: sends, rules, rows of rules. -/
def TM (K : Nat) : Tbl := fun e =>
  if e = 111 then [.num, .num, .num, .num, .num, .num]
  else if e = 109 then [.num, .num, .num, .num, .sl 111 6 K]
  else if e = 105 then [.sl 109 5 K]
  else []
theorem TM_snd (K : Nat) : TM K 111 = [.num, .num, .num, .num, .num, .num] := by simp [TM]
theorem TM_rule (K : Nat) : TM K 109 = [.num, .num, .num, .num, .sl 111 6 K] := by simp [TM]
theorem TM_row (K : Nat) : TM K 105 = [.sl 109 5 K] := by simp [TM]
theorem TM_snd_ne (K : Nat) : TM K 111 ≠ [] := by rw [TM_snd]; simp
theorem TM_rule_ne (K : Nat) : TM K 109 ≠ [] := by rw [TM_rule]; simp
theorem TM_row_ne (K : Nat) : TM K 105 ≠ [] := by rw [TM_row]; simp

theorem choose_list {α : Type} (d : α) {P : Nat → α → Prop} : ∀ n : Nat, (∀ i, i < n → ∃ x, P i x) → ∃ xs : List α, xs.length = n ∧ ∀ i, i < n → P i (xs.getD i d)
  | 0, _ => ⟨[], rfl, fun i hi => absurd hi (by omega)⟩
  | n + 1, h => by
    obtain ⟨xs, hl, hx⟩ := choose_list d n fun i hi => h i (by omega)
    obtain ⟨x, hp⟩ := h n (by omega)
    refine ⟨xs ++ [x], by simp [hl], fun i hi => ?_⟩
    by_cases e : i < n
    · have : (xs ++ [x]).getD i d = xs.getD i d := by simp [List.getD, List.getElem?_append, hl, e]
      rw [this]
      exact hx i e
    · obtain rfl : i = n := by omega
      have : (xs ++ [x]).getD i d = x := by simp [List.getD, hl]
      rw [this]
      exact hp

def CK.raise (K : Nat) : CK → CK
  | .num => .num
  | .sl e s _ => .sl e s K
theorem TM_map (K K' e : Nat) : TM K' e = (TM K e).map (CK.raise K') := by
  unfold TM
  split
  · rfl
  · split
    · rfl
    · split <;> rfl
theorem TM_mem {K e : Nat} {k : CK} (h : k ∈ TM K e) : k = .num ∨ ∃ e' s, k = .sl e' s K := by
  unfold TM at h
  split at h
  · simp at h; exact .inl h
  · split at h
    · simp at h
      rcases h with h | h
      · exact .inl h
      · exact .inr ⟨_, _, h⟩
    · split at h
      · simp at h; exact .inr ⟨_, _, h⟩
      · simp at h
/-- A higher bound. -/
theorem TC.up {S : Nat → Prop} {K K' e j : Nat} {w : World} {v : Value} (h : TC (TM K) w S e j v) (hK : K ≤ K') : TC (TM K') w S e j v := by
  obtain ⟨k, h3, h4⟩ := h
  refine ⟨k.raise K', by rw [TM_map K K', List.length_map, List.getElem?_map, h3]; rfl, ?_⟩
  rcases TM_mem (List.mem_of_getElem? h3) with rfl | ⟨e', s, rfl⟩
  · exact h4
  · obtain ⟨n, h5, h6⟩ := h4
    exact ⟨n, by omega, h6⟩
theorem TH.up {S : Nat → Prop} {K K' : Nat} {w : World} (h : TH (TM K) S w) (hK : K ≤ K') : TH (TM K') S w := by
  intro b arr e fz hb ha ht
  obtain ⟨h1, h2⟩ := h b arr e fz hb ha (fun h0 => ht (by rw [TM_map K K', h0]; rfl))
  exact ⟨h1, fun j v hv => (h2 j v hv).up hK⟩
theorem TM_free {K K' e : Nat} (h : TM K e = []) : TM K' e = [] := by
  unfold TM at h ⊢
  split at h
  · cases h
  · rename_i h1
    rw [if_neg h1]
    split at h
    · cases h
    · rename_i h2
      rw [if_neg h2]
      split at h
      · cases h
      · rename_i h3
        rw [if_neg h3]
theorem St.TM_up {S : Nat → Prop} {K K' g : Nat} {w w' : World} (h : St (TM K) S g w w') : St (TM K') S g w w' :=
  ⟨h.os, h.tape, h.output, h.size, h.old, h.shape, fun k arr e fz hne ha ht => h.free k arr e fz hne ha (TM_free ht)⟩

section
variable {S : Nat → Prop} {K : Nat} {w : World}
/-- Its parts. -/
theorem Gs.parts {e size n : Nat} {v : Value} (h : Gs w S e size n v) : ∃ A c, v = .slice A n c ∧ n ≤ c ∧ c ≤ maxLen := by
  rcases h with ⟨rfl, rfl⟩ | ⟨b, cap, arr, rfl, _, _, h4, h5, _⟩
  · exact ⟨none, 0, rfl, Nat.le_refl _, Nat.zero_le _⟩
  · exact ⟨_, cap, rfl, h4, h5⟩
theorem Gs.at_ {e size n : Nat} {A : Option Addr} {m c : Nat} (h : Gs w S e size n (.slice A m c)) (hn : 0 < n) : ∃ b arr, A = some ⟨b, 0, none⟩ ∧ m = n ∧ S b ∧ w.heap[b]? = some (.cells arr e (0, 0)) ∧ n * size ≤ arr.size ∧ b < w.heap.size := by
  rcases h with ⟨_, rfl⟩ | ⟨b, cap, arr, hv, h2, h3, h4, _, h6⟩
  · omega
  · injection hv with h7 h8 h9
    exact ⟨b, arr, h7, h8, h2, h3, by rw [h6]; exact Nat.mul_le_mul_right _ h4, (Array.getElem?_eq_some_iff.1 h3).1⟩
theorem Gs.len {e size n : Nat} {A : Option Addr} {m c : Nat} (h : Gs w S e size n (.slice A m c)) : m = n := by
  rcases h with ⟨h1, rfl⟩ | ⟨b, cap, arr, hv, _⟩
  · injection h1
  · injection hv

theorem TC.at_ {T : Tbl} {e j : Nat} {v : Value} {k : CK} (h : TC T w S e j v) (hk : (T e)[j % (T e).length]? = some k) : COk w S k v := by
  obtain ⟨k', h1, h2⟩ := h
  rw [hk] at h1
  injection h1 with h1
  exact h1 ▸ h2
theorem TH.num {b o : Nat} {arr : Array Value} {e : Nat} {fz : Nat × Nat} (h : TH (TM K) S w) (hb : S b) (ha : w.heap[b]? = some (.cells arr e fz)) (ho : o < arr.size) (hk : (TM K e)[o % (TM K e).length]? = some .num) :
    ∃ z, w.cell? ⟨b, o, none⟩ = some (.int .i64 z) := by
  obtain ⟨v, h1, h2, _⟩ := h.read hb ha (fun h0 => by rw [h0] at hk; simp at hk) ho
  obtain ⟨z, rfl⟩ := h2.at_ hk
  exact ⟨z, h1⟩

/-- w2 has S's blocks of w as they were. -/
structure Same (S : Nat → Prop) (w w2 : World) : Prop where
  size : w.heap.size ≤ w2.heap.size
  block : ∀ b, S b → b < w.heap.size → w2.heap[b]? = w.heap[b]?
theorem Same.refl (S : Nat → Prop) (w : World) : Same S w w := ⟨Nat.le_refl _, fun _ _ _ => rfl⟩
theorem Same.cell {w2 : World} (h : Same S w w2) {b o : Nat} {v : Value} (hb : S b) (hl : b < w.heap.size) (hc : w.cell? ⟨b, o, none⟩ = some v) : w2.cell? ⟨b, o, none⟩ = some v :=
  (World.cell?_of_block (w := w) (a := ⟨b, o, none⟩) (h.block b hb hl)).trans hc
/-- Sends. -/
theorem Gs.evs {n : Nat} {A : Option Addr} {m c : Nat} (h : TH (TM K) S w) (hg : Gs w S 111 6 n (.slice A m c)) : ∃ es, ∀ w2, Same S w w2 → Evs w2 A n es := by
  rcases Nat.eq_zero_or_pos n with h0 | h0
  · subst h0
    exact ⟨[], fun _ _ => ⟨rfl, fun h => absurd h (by omega)⟩⟩
  · obtain ⟨b, arr, rfl, rfl, hb, ha, hs, hlt⟩ := hg.at_ h0
    have key : ∀ i, i < m → ∃ e : Evt, EvAt w b (0 + i * 6) e := fun i hi => by
      have num : ∀ j, j < 6 → ∃ z, w.cell? ⟨b, 0 + i * 6 + j, none⟩ = some (.int .i64 z) := fun j hj =>
        h.num hb ha (by omega) (by
          rw [TM_snd]
          have : (0 + i * 6 + j) % 6 = j := by omega
          simp only [List.length_cons, List.length_nil, this]
          have h6 : j = 0 ∨ j = 1 ∨ j = 2 ∨ j = 3 ∨ j = 4 ∨ j = 5 := by omega
          rcases h6 with rfl | rfl | rfl | rfl | rfl | rfl <;> rfl)
      obtain ⟨z0, h0⟩ := num 0 (by omega)
      obtain ⟨z1, h1⟩ := num 1 (by omega)
      obtain ⟨z2, h2⟩ := num 2 (by omega)
      obtain ⟨z3, h3⟩ := num 3 (by omega)
      obtain ⟨z4, h4⟩ := num 4 (by omega)
      obtain ⟨z5, h5⟩ := num 5 (by omega)
      exact ⟨⟨z0, z1, z2, z3, z4, z5⟩, h0, h1, h2, h3, h4, h5⟩
    obtain ⟨es, hl, he⟩ := choose_list default m key
    exact ⟨es, fun w2 sm => ⟨hl, fun _ => ⟨b, 0, rfl, Nat.lt_of_lt_of_le hlt sm.size, fun i hi => by
      obtain ⟨c0, c1, c2, c3, c4, c5⟩ := he i hi
      exact ⟨sm.cell hb hlt c0, sm.cell hb hlt c1, sm.cell hb hlt c2, sm.cell hb hlt c3, sm.cell hb hlt c4, sm.cell hb hlt c5⟩⟩⟩⟩
/-- Rules. -/
theorem Gs.rules {n : Nat} {A : Option Addr} {m c : Nat} (hK : K ≤ 1000000) (h : TH (TM K) S w) (hn : n ≤ 1000000) (hg : Gs w S 109 5 n (.slice A m c)) : ∃ rs, (∀ w2, Same S w w2 → Rules w2 A n rs) ∧ ∀ i, i < n → (rs.getD i default).sends.length ≤ K := by
  rcases Nat.eq_zero_or_pos n with h0 | h0
  · subst h0
    exact ⟨[], fun _ _ => ⟨rfl, by omega, fun h => absurd h (by omega)⟩, fun i hi => absurd hi (by omega)⟩
  · obtain ⟨b, arr, rfl, rfl, hb, ha, hs, hlt⟩ := hg.at_ h0
    have key : ∀ i, i < m → ∃ r : Rule, (∀ w2, Same S w w2 → RuleAt w2 b (0 + i * 5) r) ∧ r.sends.length ≤ K := fun i hi => by
      have num : ∀ j, j < 4 → ∃ z, w.cell? ⟨b, 0 + i * 5 + j, none⟩ = some (.int .i64 z) := fun j hj =>
        h.num hb ha (by omega) (by
          rw [TM_rule]
          have : (0 + i * 5 + j) % 5 = j := by omega
          simp only [List.length_cons, List.length_nil, this]
          have h6 : j = 0 ∨ j = 1 ∨ j = 2 ∨ j = 3 := by omega
          rcases h6 with rfl | rfl | rfl | rfl <;> rfl)
      obtain ⟨z0, h0⟩ := num 0 (by omega)
      obtain ⟨z1, h1⟩ := num 1 (by omega)
      obtain ⟨z2, h2⟩ := num 2 (by omega)
      obtain ⟨z3, h3⟩ := num 3 (by omega)
      obtain ⟨v, h4, h5, _⟩ := h.read (o := 0 + i * 5 + 4) hb ha (TM_rule_ne K) (by omega)
      have h6 := h5.at_ (k := .sl 111 6 K) (by
        rw [TM_rule]
        have : (0 + i * 5 + 4) % 5 = 4 := by omega
        simp only [List.length_cons, List.length_nil, this]
        rfl)
      obtain ⟨q, hq, hs'⟩ := h6
      obtain ⟨A', c', rfl, _, _⟩ := hs'.parts
      obtain ⟨es, he⟩ := hs'.evs h
      exact ⟨⟨z0, z1, z2, z3, es⟩, fun w2 sm => ⟨A', q, c', ⟨sm.cell hb hlt h0, sm.cell hb hlt h1, sm.cell hb hlt h2, sm.cell hb hlt h3, sm.cell hb hlt h4⟩, by omega, he w2 sm⟩, by dsimp only; rw [(he w (Same.refl S w)).1]; exact hq⟩
    obtain ⟨rs, hl, he⟩ := choose_list default m key
    exact ⟨rs, fun w2 sm => ⟨hl, by omega, fun _ => ⟨b, 0, rfl, Nat.lt_of_lt_of_le hlt sm.size, fun i hi => (he i hi).1 w2 sm⟩⟩, fun i hi => (he i hi).2⟩
/-- Rows of rules. -/
theorem Gs.rulz {n : Nat} {A : Option Addr} {m c : Nat} (hK : K ≤ 1000000) (h : TH (TM K) S w) (hn : n ≤ 1000000) (hg : Gs w S 105 1 n (.slice A m c)) :
    ∃ rss, (∀ w2, Same S w w2 → Rulz w2 A n rss) ∧ ∀ i, i < n → (rss.getD i []).length ≤ K ∧ ∀ j, j < (rss.getD i []).length → ((rss.getD i []).getD j default).sends.length ≤ K := by
  rcases Nat.eq_zero_or_pos n with h0 | h0
  · subst h0
    exact ⟨[], fun _ _ => ⟨rfl, by omega, fun h => absurd h (by omega)⟩, fun i hi => absurd hi (by omega)⟩
  · obtain ⟨b, arr, rfl, rfl, hb, ha, hs, hlt⟩ := hg.at_ h0
    have key : ∀ i, i < m → ∃ rs : List Rule, (∀ w2, Same S w w2 → ∃ A' n' c', w2.cell? ⟨b, 0 + i, none⟩ = some (.slice A' n' c') ∧ Rules w2 A' n' rs) ∧ rs.length ≤ K ∧ ∀ j, j < rs.length → (rs.getD j default).sends.length ≤ K := fun i hi => by
      obtain ⟨v, h4, h5, _⟩ := h.read (o := 0 + i) hb ha (TM_row_ne K) (by omega)
      have h6 := h5.at_ (k := .sl 109 5 K) (by rw [TM_row]; simp [Nat.mod_one])
      obtain ⟨q, hq, hs'⟩ := h6
      obtain ⟨A', c', rfl, _, _⟩ := hs'.parts
      obtain ⟨rs, he, hb2⟩ := hs'.rules hK h (by omega)
      exact ⟨rs, fun w2 sm => ⟨A', q, c', sm.cell hb hlt h4, he w2 sm⟩, by rw [(he w (Same.refl S w)).1]; exact hq, fun j hj => hb2 j (by rw [(he w (Same.refl S w)).1] at hj; exact hj)⟩
    obtain ⟨rss, hl, he⟩ := choose_list [] m key
    exact ⟨rss, fun w2 sm => ⟨hl, by omega, fun _ => ⟨b, 0, rfl, Nat.lt_of_lt_of_le hlt sm.size, fun i hi => (he i hi).1 w2 sm⟩⟩, fun i hi => (he i hi).2⟩
end

end Go.Proofs.Ytojnphchkdjafaa

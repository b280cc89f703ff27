/-
  What a visit gives, in one sentence: the token at the next host, the count taken over, a bound only at the last host where none is left; for every valid token and mark.
-/
import Derived.Test.YtojnphchkdjafaaKT1
namespace Go.Proofs.Ytojnphchkdjafaa
set_option maxRecDepth 100000
open Go.RowKit

theorem vis_form {m : Mdl} {t : Gk} {g : Gm} {least : Int} {n : Nat} (h : tokB m t g least = true) (hn : m.rules.length = n) :
    t.on = true ∧ (0 ≤ t.r ∧ t.r ≤ 999) ∧ (0 ≤ t.a ∧ t.a ≤ (n : Int) - 1) ∧ (-39996 ≤ t.n ∧ t.n ≤ 39996) ∧ (-9999 ≤ g.e ∧ g.e ≤ 9999) ∧ (-9999 ≤ g.o ∧ g.o ≤ 9999) ∧ n ≤ 4 ∧
    ∃ ml nn y1 y2 : Int, ((t.r % 2 = 1 ∧ nn = t.n + g.e ∧ y1 = 0 ∧ y2 = g.o) ∨ (t.r % 2 = 0 ∧ nn = t.n + g.o ∧ y1 = g.e ∧ y2 = 0)) ∧
      ((t.a + 1 < (n : Int) ∧ ∃ l, tokP m t g least = (⟨true, t.r, t.a + 1, nn, l⟩, ⟨t.r, y1, y2, ml⟩, -1)) ∨
       (t.a = (n : Int) - 1 ∧ nn = 0 ∧ ∃ q l, (0 ≤ q ∧ q ≤ least ∧ q ≤ t.l) ∧ 1 ≤ l ∧ tokP m t g least = (⟨false, t.r, 0, 0, l⟩, ⟨t.r, y1, y2, ml⟩, q)) ∨
       (t.a = (n : Int) - 1 ∧ nn ≠ 0 ∧ ∃ l, tokP m t g least = (⟨true, t.r, 0, nn, l⟩, ⟨t.r, y1, y2, ml⟩, -1))) := by
  have hp := tokP_yes h
  rw [hn] at hp
  simp only [tokB, gkB, gmB, mayV, mdlB, Bool.and_eq_true, inB_iff] at h
  rw [hn] at h
  obtain ⟨gr, ge, gq, gl⟩ := g
  obtain ⟨ton, tr, ta, tn, tl⟩ := t
  dsimp only at h hp ⊢
  obtain ⟨⟨⟨⟨⟨⟨h1, h2⟩, _⟩, _⟩, ⟨⟨⟨k1, k2⟩, k3⟩, k4⟩⟩, ⟨⟨⟨g1, g2⟩, g3⟩, g4⟩⟩, ⟨⟨v1, v2⟩, v3⟩⟩ := h
  subst v1
  refine ⟨rfl, k1, k2, k3, g2, g3, by omega, ?_⟩
  have hv : visM m.til ⟨true, tr, ta, tn, tl⟩ ⟨gr, ge, gq, gl⟩ = ⟨tr, ge, gq, if gr < tr then m.til + 1 else gl⟩ := by
    unfold visM
    dsimp only
    by_cases hlt : gr < tr
    · rw [if_pos hlt, if_pos hlt]
    · rw [if_neg hlt, if_neg hlt]
      have : gr = tr := by omega
      rw [this]
  obtain ⟨ml, hml⟩ : ∃ ml, ml = if gr < tr then m.til + 1 else gl := ⟨_, rfl⟩
  have hml0 : 0 ≤ ml := by rw [hml]; split <;> omega
  rw [← hml] at hv
  unfold visK at hp
  rw [hv] at hp
  dsimp only at hp
  obtain ⟨q, hq⟩ : ∃ q, q = min tl (min least ml) := ⟨_, rfl⟩
  rw [← hq] at hp
  have hq3 : 0 ≤ q ∧ q ≤ least ∧ q ≤ tl := by omega
  by_cases j2 : tr % 2 = 1
  · refine ⟨ml, tn + ge, 0, gq, .inl ⟨j2, rfl, rfl, rfl⟩, ?_⟩
    simp only [visG, visN, j2, if_true] at hp
    unfold visE at hp
    dsimp only at hp
    by_cases j3 : ta + 1 < (n : Int)
    · rw [if_pos j3] at hp
      exact .inl ⟨j3, q, hp⟩
    · rw [if_neg j3] at hp
      by_cases j6 : tn + ge = 0
      · rw [if_pos j6] at hp
        exact .inr (.inl ⟨by omega, j6, q, m.til + 1, hq3, by omega, by rw [hp, j6]⟩)
      · rw [if_neg j6] at hp
        exact .inr (.inr ⟨by omega, j6, m.til + 1, hp⟩)
  · have j2z : tr % 2 = 0 := by omega
    refine ⟨ml, tn + gq, ge, 0, .inr ⟨j2z, rfl, rfl, rfl⟩, ?_⟩
    simp only [visG, visN, j2, if_false] at hp
    unfold visE at hp
    dsimp only at hp
    by_cases j3 : ta + 1 < (n : Int)
    · rw [if_pos j3] at hp
      exact .inl ⟨j3, q, hp⟩
    · rw [if_neg j3] at hp
      by_cases j6 : tn + gq = 0
      · rw [if_pos j6] at hp
        exact .inr (.inl ⟨by omega, j6, q, m.til + 1, hq3, by omega, by rw [hp, j6]⟩)
      · rw [if_neg j6] at hp
        exact .inr (.inr ⟨by omega, j6, m.til + 1, hp⟩)

end Go.Proofs.Ytojnphchkdjafaa

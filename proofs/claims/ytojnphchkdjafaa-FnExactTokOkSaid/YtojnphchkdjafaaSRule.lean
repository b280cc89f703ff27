/-
  What spec.l2Rule returns, in one sentence: the first rule of the kind and true, or the zero rule and false; for every list of rules that lies in memory.
-/
import Derived.Test.YtojnphchkdjafaaMTo
namespace Go.Proofs.Ytojnphchkdjafaa
set_option maxRecDepth 100000
open Go.RowKit

/-- The first rule of a kind. -/
def ruleOf (kd : Int) : List Rule → Option Rule
  | [] => none
  | r :: rs => if r.kd = kd then some r else ruleOf kd rs
theorem ruleOf_drop (kd : Int) (rs : List Rule) (k : Nat) (h : k < rs.length) : ruleOf kd (rs.drop k) = if (rs.getD k default).kd = kd then some (rs.getD k default) else ruleOf kd (rs.drop (k + 1)) := by
  rw [List.drop_eq_getElem_cons h, ruleOf]
  simp [h]

/-- Where it stands. -/
def ixOf (kd : Int) : List Rule → Nat
  | [] => 0
  | r :: rs => if r.kd = kd then 0 else ixOf kd rs + 1
theorem ixOf_drop (kd : Int) (rs : List Rule) (k : Nat) (h : k < rs.length) : ixOf kd (rs.drop k) = if (rs.getD k default).kd = kd then 0 else ixOf kd (rs.drop (k + 1)) + 1 := by
  rw [List.drop_eq_getElem_cons h, ixOf]
  simp [h]
theorem ixOf_at (kd : Int) : ∀ (rs : List Rule) (r : Rule), ruleOf kd rs = some r → ixOf kd rs < rs.length ∧ rs.getD (ixOf kd rs) default = r
  | [], _, h => by cases h
  | x :: rs, r, h => by
    rw [ruleOf] at h
    rw [ixOf]
    by_cases hk : x.kd = kd
    · rw [if_pos hk] at h ⊢
      injection h with h
      exact ⟨by simp, by simpa using h⟩
    · rw [if_neg hk] at h ⊢
      obtain ⟨h1, h2⟩ := ixOf_at kd rs r h
      exact ⟨by simpa using h1, by simpa using h2⟩

/-- What the search gives. -/
def Found (A0 : Option Addr) (kd : Int) (rs : List Rule) (w : World) (x : Ending) (w' : World) : Prop :=
  Up w w' ∧ ((∃ r A n c, ruleOf kd rs = some r ∧ x = .returned (.tuple #[r.v (.slice A n c), .bool true]) ∧ n ≤ 9223372036854775807 ∧ Evs w' A n r.sends ∧ ∀ b off, A0 = some ⟨b, off, none⟩ → w.cell? ⟨b, off + ixOf kd rs * 5 + 4, none⟩ = some (.slice A n c)) ∨ (ruleOf kd rs = none ∧ x = .returned (.tuple #[.agg #[.int .i64 0, .int .i64 0, .int .i64 0, .int .i64 0, .slice none 0 0], .bool false])))

set_option maxHeartbeats 20000000 in
theorem l2Rule_any (A : Option Addr) (n c : Nat) (kd : Int) (rs : List Rule) (w : World) (hR : Rules w A n rs) :
    Calls Try.prog 124 #[.slice A n c, .int .i64 kd] w (Found A kd rs w) := by
  have hbig := hR.2.1
  have HR := Lib.hid hR
  have LR := Lib.hid hR.1
  have RD := Lib.hid (ruleOf_drop kd rs)
  have ID := Lib.hid (ixOf_drop kd rs)
  have H0 := Lib.hid (show ruleOf kd (rs.drop 0) = ruleOf kd rs from rfl)
  have H1 := Lib.hid (show ixOf kd (rs.drop 0) + 0 = ixOf kd rs from rfl)
  clear hR
  go_enter Try.func124, Try.ntmps124
  go_wp2
  go_loopw [6] (fun i wr => (∃ q : Nat, q ≤ n ∧ i = .int .i64 q ∧ Hid (ruleOf kd (rs.drop q) = ruleOf kd rs) ∧ Hid (ixOf kd (rs.drop q) + q = ixOf kd rs)) ∧ wr = w.alloc (.cells #[.int .i64 0, .int .i64 0, .int .i64 0, .int .i64 0, .slice none 0 0] 109)) (fun i _ => n - (intOf i).toNat)
  case atStart => exact ⟨⟨0, by omega, rfl, H0, H1⟩, rfl⟩
  case round =>
    obtain ⟨⟨q, hq, rfl, HA, HI⟩, rfl⟩ := hrel
    have UA := Lib.hid ((Up.refl w).alloc (.cells #[.int .i64 0, .int .i64 0, .int .i64 0, .int .i64 0, .slice none 0 0] 109))
    by_cases hlt : q < n
    · obtain ⟨b, off, hA, hb, hc⟩ := HR.out.2.2 (by omega)
      subst hA
      have at2 := hc q hlt
      have T := RD.out q (by rw [LR.out]; exact hlt)
      rw [HA.out] at T
      have I := ID.out q (by rw [LR.out]; exact hlt)
      clear hc
      generalize rs.getD q default = r at at2 T I
      obtain ⟨A3, n3, c3, ⟨r0, r1, r2, r3, r4⟩, hn3, he3⟩ := at2
      obtain ⟨k, ra, rb, rc, es⟩ := r
      dsimp only at r0 r1 r2 r3 r4 T I he3
      have I := Lib.hid I
      have E3 := Lib.hid he3
      have T := Lib.hid T
      clear he3
      have i4 : (q : Int) < n := by omega
      have i5 : IntKind.i64.wrap ((q : Int) + 1) = (q : Int) + 1 := IntWalk.i64_in _ (by omega)
      by_cases hk : k = kd
      · subst hk
        have TT := Lib.hid (show ruleOf k rs = some ⟨k, ra, rb, rc, es⟩ by rw [T.out, if_pos rfl])
        have II := Lib.hid (show ixOf k rs = q by rw [← HI.out, I.out, if_pos rfl, Nat.zero_add])
        have C4 := Lib.hid r4
        have U2 := Lib.hid ((Up.refl w).alloc (.cells #[.int .i64 k, .int .i64 ra, .int .i64 rb, .int .i64 rc, .slice A3 n3 c3] 109))
        have E4 := Lib.hid (E3.out.up U2.out)
        go_wp2
        exact bodyPost_ret (v := .tuple #[.agg #[.int .i64 k, .int .i64 ra, .int .i64 rb, .int .i64 rc, .slice A3 n3 c3], .bool true]) (by simp [results, Try.results124, go_sem]) rfl ⟨U2.out, .inl ⟨⟨k, ra, rb, rc, es⟩, A3, n3, c3, TT.out, rfl, hn3, E4.out, fun b' off' hA' => by
          injection hA' with hA'
          injection hA' with h1 h2 _
          rw [← h1, ← h2, II.out]
          exact C4.out⟩⟩
      · have TT := Lib.hid (show ruleOf kd (rs.drop (q + 1)) = ruleOf kd rs by rw [T.out]; exact (if_neg hk).symm)
        have II := Lib.hid (show ixOf kd (rs.drop (q + 1)) + (q + 1) = ixOf kd rs by rw [← HI.out, I.out, if_neg hk]; omega)
        go_wp2
        go_roundw
        case rel => first | exact ⟨⟨q + 1, by omega, by first | rfl | go_num, TT, II⟩, rfl⟩ | exact ⟨q + 1, by omega, by first | rfl | go_num, TT, II⟩ | (refine ⟨⟨q + 1, by omega, by first | rfl | go_num, TT, II⟩, ?_⟩; trivial)
        case measure => (simp [intOf]; try omega)
    · have TN := Lib.hid (show ruleOf kd rs = none by rw [← HA.out, List.drop_eq_nil_of_le (by rw [LR.out]; omega)]; rfl)
      have i4 : ¬ (q : Int) < n := by omega
      go_wp2
      exact bodyPost_ret (v := .tuple #[.agg #[.int .i64 0, .int .i64 0, .int .i64 0, .int .i64 0, .slice none 0 0], .bool false]) (by simp [results, Try.results124, go_sem]) rfl ⟨UA.out, .inr ⟨TN.out, rfl⟩⟩

end Go.Proofs.Ytojnphchkdjafaa

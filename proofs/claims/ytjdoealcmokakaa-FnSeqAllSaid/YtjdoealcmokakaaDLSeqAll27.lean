/-
  What spec.l2Rule returns, in one sentence: the first rule of the kind and true, or the zero rule and false; for every list of rules that lies in memory.
  The region of spec.l2Do that finds the rule: its slots' relations, in one sentence: one row a slot; no condition is made.
-/
import Derived.Test.YtjdoealcmokakaaDLSeqAll15
import Derived.Test.YtjdoealcmokakaaDLSeqAll16
namespace Go.Proofs.Ytjdoealcmokakaa
set_option maxRecDepth 100000
open Go.RowKit
set_option maxHeartbeats 20000000 in
theorem l2Rule_any (A : Option Addr) (n c : Nat) (kd : Int) (rs : List Rule) (w : World) (hR : Rules w A n rs) :
    Calls Try.prog 95 #[.slice A n c, .int .i64 kd] w (Found A kd rs w) := by
  have hbig := hR.2.1
  have HR := Lib.hid hR
  have LR := Lib.hid hR.1
  have RD := Lib.hid (ruleOf_drop kd rs)
  have ID := Lib.hid (ixOf_drop kd rs)
  have H0 := Lib.hid (show ruleOf kd (rs.drop 0) = ruleOf kd rs from rfl)
  have H1 := Lib.hid (show ixOf kd (rs.drop 0) + 0 = ixOf kd rs from rfl)
  clear hR
  go_enter Try.func95, Try.ntmps95
  go_wp2
  go_loopw [6] (fun i wr => (∃ q : Nat, q ≤ n ∧ i = .int .i64 q ∧ Hid (ruleOf kd (rs.drop q) = ruleOf kd rs) ∧ Hid (ixOf kd (rs.drop q) + q = ixOf kd rs)) ∧ wr = w.alloc (.cells #[.int .i64 0, .int .i64 0, .int .i64 0, .int .i64 0, .slice none 0 0] 92)) (fun i _ => n - (intOf i).toNat)
  case atStart => exact ⟨⟨0, by omega, rfl, H0, H1⟩, rfl⟩
  case round =>
    obtain ⟨⟨q, hq, rfl, HA, HI⟩, rfl⟩ := hrel
    have UA := Lib.hid ((Up.refl w).alloc (.cells #[.int .i64 0, .int .i64 0, .int .i64 0, .int .i64 0, .slice none 0 0] 92))
    by_cases hlt : q < n
    · obtain ⟨b, off, hA, hb, hc⟩ := HR.out.2.2 (by omega)
      subst hA
      have at2 := hc q hlt
      have T := RD.out q (by rw [LR.out]; exact hlt)
      rw [HA.out] at T
      have I := ID.out q (by rw [LR.out]; exact hlt)
      clear hc
      generalize rs.getD q default = r at at2 T I
      obtain ⟨A3, n3, c3, ⟨r0, r1, r2, r3, r4⟩, hn3, he3⟩ := at2; obtain ⟨k, ra, rb, rc, es⟩ := r; dsimp only at r0 r1 r2 r3 r4 T I he3
      have I := Lib.hid I
      have E3 := Lib.hid he3
      have T := Lib.hid T
      clear he3
      have i4 : (q : Int) < n := by omega
      have i5 : IntKind.i64.wrap ((q : Int) + 1) = (q : Int) + 1 := IntWalk.i64_in _ (by omega)
      by_cases hk : k = kd
      · subst hk
        have TT := Lib.hid (show ruleOf k rs = some ⟨k, ra, rb, rc, es⟩ by rw [T.out, if_pos rfl])
        have II := Lib.hid (show ixOf k rs = q by rw [← HI.out, I.out, if_pos rfl, Nat.zero_add])
        have C4 := Lib.hid r4
        have U2 := Lib.hid ((Up.refl w).alloc (.cells #[.int .i64 k, .int .i64 ra, .int .i64 rb, .int .i64 rc, .slice A3 n3 c3] 92))
        have E4 := Lib.hid (E3.out.up U2.out)
        go_wp2
        exact bodyPost_ret (v := .tuple #[.agg #[.int .i64 k, .int .i64 ra, .int .i64 rb, .int .i64 rc, .slice A3 n3 c3], .bool true]) (by simp [results, Try.results95, go_sem]) rfl ⟨U2.out, .inl ⟨⟨k, ra, rb, rc, es⟩, A3, n3, c3, TT.out, rfl, hn3, E4.out, fun b' off' hA' => by
          injection hA' with hA'
          injection hA' with h1 h2 _
          rw [← h1, ← h2, II.out]
          exact C4.out⟩⟩
      · have TT := Lib.hid (show ruleOf kd (rs.drop (q + 1)) = ruleOf kd rs by rw [T.out]; exact (if_neg hk).symm)
        have II := Lib.hid (show ixOf kd (rs.drop (q + 1)) + (q + 1) = ixOf kd rs by rw [← HI.out, I.out, if_neg hk]; omega)
        go_wp2
        go_roundw
        case rel => first | exact ⟨⟨q + 1, by omega, by first | rfl | go_num, TT, II⟩, rfl⟩ | exact ⟨q + 1, by omega, by first | rfl | go_num, TT, II⟩ | (refine ⟨⟨q + 1, by omega, by first | rfl | go_num, TT, II⟩, ?_⟩; trivial)
        case measure => (simp [intOf]; try omega)
    · have TN := Lib.hid (show ruleOf kd rs = none by rw [← HA.out, List.drop_eq_nil_of_le (by rw [LR.out]; omega)]; rfl)
      have i4 : ¬ (q : Int) < n := by omega
      go_wp2
      exact bodyPost_ret (v := .tuple #[.agg #[.int .i64 0, .int .i64 0, .int .i64 0, .int .i64 0, .slice none 0 0], .bool false]) (by simp [results, Try.results95, go_sem]) rfl ⟨UA.out, .inr ⟨TN.out, rfl⟩⟩
end Go.Proofs.Ytjdoealcmokakaa

namespace Go.Proofs.Ytjdoealcmokakaa
set_option maxRecDepth 100000
open Go.RowKit
theorem dR_0 {b3 b5 : Nat} {A : Option Addr} {n c bA off : Nat} {e : Evt} {A' : Option Addr} {n' c' : Nat} {r : Rule} {s : Value} {ok : Bool} {B : Nat} {v : Value} {w : World} : dR b3 b5 A n c bA off e A' n' c' r s ok B 0 v w = (v = .pointer (some ⟨b3, 0, none⟩)) := by simp [dR, dP]
theorem dR_1 {b3 b5 : Nat} {A : Option Addr} {n c bA off : Nat} {e : Evt} {A' : Option Addr} {n' c' : Nat} {r : Rule} {s : Value} {ok : Bool} {B : Nat} {v : Value} {w : World} : dR b3 b5 A n c bA off e A' n' c' r s ok B 1 v w = (v = .slice A n c) := by simp [dR, dP]
theorem dR_2 {b3 b5 : Nat} {A : Option Addr} {n c bA off : Nat} {e : Evt} {A' : Option Addr} {n' c' : Nat} {r : Rule} {s : Value} {ok : Bool} {B : Nat} {v : Value} {w : World} : dR b3 b5 A n c bA off e A' n' c' r s ok B 2 v w = (v = .pointer (some ⟨b5, 1, none⟩)) := by simp [dR, dP]
theorem dR_3 {b3 b5 : Nat} {A : Option Addr} {n c bA off : Nat} {e : Evt} {A' : Option Addr} {n' c' : Nat} {r : Rule} {s : Value} {ok : Bool} {B : Nat} {v : Value} {w : World} : dR b3 b5 A n c bA off e A' n' c' r s ok B 3 v w = (v = .int .i64 e.to) := by simp [dR, dP]
theorem dR_4 {b3 b5 : Nat} {A : Option Addr} {n c bA off : Nat} {e : Evt} {A' : Option Addr} {n' c' : Nat} {r : Rule} {s : Value} {ok : Bool} {B : Nat} {v : Value} {w : World} : dR b3 b5 A n c bA off e A' n' c' r s ok B 4 v w = (v = .pointer (some ⟨bA, off + e.to.toNat, none⟩)) := by simp [dR, dP]
theorem dR_5 {b3 b5 : Nat} {A : Option Addr} {n c bA off : Nat} {e : Evt} {A' : Option Addr} {n' c' : Nat} {r : Rule} {s : Value} {ok : Bool} {B : Nat} {v : Value} {w : World} : dR b3 b5 A n c bA off e A' n' c' r s ok B 5 v w = (v = .slice A' n' c') := by simp [dR, dP]
theorem dR_6 {b3 b5 : Nat} {A : Option Addr} {n c bA off : Nat} {e : Evt} {A' : Option Addr} {n' c' : Nat} {r : Rule} {s : Value} {ok : Bool} {B : Nat} {v : Value} {w : World} : dR b3 b5 A n c bA off e A' n' c' r s ok B 6 v w = (v = .pointer (some ⟨b5, 4, none⟩)) := by simp [dR, dP]
theorem dR_7 {b3 b5 : Nat} {A : Option Addr} {n c bA off : Nat} {e : Evt} {A' : Option Addr} {n' c' : Nat} {r : Rule} {s : Value} {ok : Bool} {B : Nat} {v : Value} {w : World} : dR b3 b5 A n c bA off e A' n' c' r s ok B 7 v w = (v = .int .i64 e.kd) := by simp [dR, dP]
theorem dR_8 {b3 b5 : Nat} {A : Option Addr} {n c bA off : Nat} {e : Evt} {A' : Option Addr} {n' c' : Nat} {r : Rule} {s : Value} {ok : Bool} {B : Nat} {v : Value} {w : World} : dR b3 b5 A n c bA off e A' n' c' r s ok B 8 v w = (v = .tuple #[r.v s, .bool ok]) := by simp [dR, dP]
theorem dR_9 {b3 b5 : Nat} {A : Option Addr} {n c bA off : Nat} {e : Evt} {A' : Option Addr} {n' c' : Nat} {r : Rule} {s : Value} {ok : Bool} {B : Nat} {v : Value} {w : World} : dR b3 b5 A n c bA off e A' n' c' r s ok B 9 v w = (v = .tuple #[r.v s, .bool ok]) := by simp [dR, dP]
theorem dR_10 {b3 b5 : Nat} {A : Option Addr} {n c bA off : Nat} {e : Evt} {A' : Option Addr} {n' c' : Nat} {r : Rule} {s : Value} {ok : Bool} {B : Nat} {v : Value} {w : World} : dR b3 b5 A n c bA off e A' n' c' r s ok B 10 v w = (v = r.v s) := by simp [dR, dP]
theorem dR_11 {b3 b5 : Nat} {A : Option Addr} {n c bA off : Nat} {e : Evt} {A' : Option Addr} {n' c' : Nat} {r : Rule} {s : Value} {ok : Bool} {B : Nat} {v : Value} {w : World} : dR b3 b5 A n c bA off e A' n' c' r s ok B 11 v w = (v = .bool ok) := by simp [dR, dP]
theorem dR_12 {b3 b5 : Nat} {A : Option Addr} {n c bA off : Nat} {e : Evt} {A' : Option Addr} {n' c' : Nat} {r : Rule} {s : Value} {ok : Bool} {B : Nat} {v : Value} {w : World} : dR b3 b5 A n c bA off e A' n' c' r s ok B 12 v w = (IsNew5 B v w) := by simp [dR]
theorem dR_13 {b3 b5 : Nat} {A : Option Addr} {n c bA off : Nat} {e : Evt} {A' : Option Addr} {n' c' : Nat} {r : Rule} {s : Value} {ok : Bool} {B : Nat} {v : Value} {w : World} : dR b3 b5 A n c bA off e A' n' c' r s ok B 13 v w = (∃ b, v = .pointer (some ⟨b, 0, none⟩) ∧ Laid5 w b (.int .i64 r.kd) (.int .i64 r.a) (.int .i64 r.b) (.int .i64 r.c) s) := by simp [dR]
theorem dR_lays {b3 b5 : Nat} {A : Option Addr} {n c bA off : Nat} {e : Evt} {A' : Option Addr} {n' c' : Nat} {r : Rule} {s : Value} {ok : Bool} {B : Nat} {v : Value} {w : World} (d : Nat) {w' : World} (h : dR b3 b5 A n c bA off e A' n' c' r s ok B d v w) (u : Lays (.int .i64 r.kd) (.int .i64 r.a) (.int .i64 r.b) (.int .i64 r.c) s w w') : dR b3 b5 A n c bA off e A' n' c' r s ok B d v w' := by
  unfold dR at h ⊢
  by_cases h1 : d = 12
  · rw [if_pos h1] at h ⊢
    exact h.lays u
  · rw [if_neg h1] at h ⊢
    by_cases h2 : d = 13
    · rw [if_pos h2] at h ⊢
      obtain ⟨b, hb, hl⟩ := h
      exact ⟨b, hb, u.laid b hl⟩
    · rw [if_neg h2] at h ⊢
      exact h
end Go.Proofs.Ytjdoealcmokakaa

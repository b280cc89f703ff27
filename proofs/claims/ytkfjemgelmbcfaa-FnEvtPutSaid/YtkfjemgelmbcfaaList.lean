/-
  What l20List gives, in one sentence: a new slice of at most six events, and the reader further on; for every reader that lies in memory.
-/
import Derived.Test.YtkfjemgelmbcfaaAt
import Derived.Test.YtkfjemgelmbcfaaKeep
import Derived.Test.YtkfjemgelmbcfaaEvt
import Derived.Test.YtkfjemgelmbcfaaDrawn
namespace Go.Proofs.Ytkfjemgelmbcfaa
set_option maxRecDepth 100000
open Go.RowKit

/-- What l20List gives. -/
def Listed (g N : Nat) (w : World) (x : Ending) (w' : World) : Prop :=
  ∃ es : List Evt, es.length ≤ 6 ∧ (∃ A c, x = .returned (.slice A es.length c) ∧ es.length ≤ c ∧ c ≤ 9223372036854775807 ∧ Evs w' A es.length es ∧ w'.ownsRow w.heap.size 50 6 (.slice A es.length c) es.length (flat es)) ∧ Rd w' g N ∧ Mv g w w'

/-- What its loop keeps. -/
def ListRel (g N : Nat) (w : World) (v i : Value) (wr : World) : Prop :=
  ∃ (k : Nat) (es : List Evt) (A : Option Addr) (c : Nat), i = .int .i64 k ∧ es.length + k ≤ 6 ∧ v = .slice A es.length c ∧ es.length ≤ c ∧ c ≤ 9223372036854775807 ∧ Evs wr A es.length es ∧ wr.ownsRow w.heap.size 50 6 (.slice A es.length c) es.length (flat es) ∧ Rd wr g (N + 1 + (6 - k) * 30) ∧ Mv g w wr

set_option maxHeartbeats 4000000 in
theorem list_any (g N : Nat) (w : World) (hN : N ≤ 500000) (hR : Rd w g N) :
    Calls Try.prog 76 #[.pointer (some ⟨g, 0, none⟩)] w (Listed g (N + 1 + 6 * 30) w) := by
  have hgw := hR.lt
  have R0 := Lib.hid hR
  clear hR
  go_enter Try.func76, Try.ntmps76
  go_wp2_with fail
  have O0 := Lib.hid (show (w.alloc (.cells #[] 50)).ownsRow w.heap.size 50 6 (.slice (some ⟨w.heap.size, 0, none⟩) 0 0) 0 (flat []) from World.ownsRow_lit (base := w.heap.size) (e := 50) (size := 6) w #[] 0 (Nat.le_refl _) (by simp only [maxLen]; omega) (by simp))
  refine (pick_any g N 7 _ ⟨by omega, by omega⟩ (by omega) (R0.out.alloc _)).mono ?_
  intro x w1 pk
  obtain ⟨v1, rfl, a1, b1, c1, r1, m1⟩ := pk.cases (by omega)
  obtain ⟨k1, rfl⟩ : ∃ k : Nat, v1 = k := ⟨v1.toNat, by omega⟩
  have R1 := Lib.hid r1
  have M1 := Lib.hid m1
  have O1 := Lib.hid (own_mv O0.out m1 hgw)
  have hk1 : k1 ≤ 6 := by omega
  clear pk r1 m1 O0 a1 b1 c1
  go_wp2
  go_loopw [3, 4, 5] (fun v i _ wr => ListRel g N w v i wr) (fun _ i _ _ => (intOf i).toNat)
  case atStart => exact ⟨k1, [], some ⟨w.heap.size, 0, none⟩, 0, rfl, by simpa using hk1, rfl, by simp, by omega, own_evs O1.out, O1.out, R1.out.mono (by omega), ((Mv.refl g w).alloc _).trans M1.out⟩
  case round =>
    obtain ⟨k, es, A, c, rfl, hlen, rfl, hc, hmax, hE, ho, hr, hm⟩ := hrel
    have HE := Lib.hid hE
    have HO := Lib.hid ho
    have HR := Lib.hid hr
    have HM := Lib.hid hm
    have hgr := hr.lt
    clear hE ho hr hm
    by_cases hk : 0 < k
    · obtain ⟨j, rfl⟩ : ∃ j, k = j + 1 := ⟨k - 1, by omega⟩
      go_wp2_with fail
      refine (evt_any g _ 4 0 _ (by omega) (by omega) ⟨by omega, by omega⟩ (by omega) HR.out).mono ?_
      intro x w2 dk
      obtain ⟨et, eto, efr, esq, ekd, edt, rfl, _, _, r2, m2⟩ := dk.cases
      have hg2 := r2.lt
      have R2 := Lib.hid r2
      have M2 := Lib.hid (HM.out.trans m2)
      have E2 := Lib.hid (HE.out.mv m2 (fun b off hA => by have := own_addr HO.out hA; omega))
      have O2 := Lib.hid (own_mv HO.out m2 hgw)
      have B2 := Lib.hid (Box.new w2 ⟨et, eto, efr, esq, ekd, edt⟩ 50)
      clear dk r2 m2 HE HO HR HM
      go_wp2_with fail
      refine (l1At_any A es.length c es ⟨et, eto, efr, esq, ekd, edt⟩ _ (by omega) (E2.out.up ((Up.refl w2).alloc _))).mono ?_
      rintro x w3 ⟨r, rfl, hat, u3⟩
      have U3 := Lib.hid ((Up.alloc (Up.refl w2) (.cells #[.int .i64 et, .int .i64 eto, .int .i64 efr, .int .i64 esq, .int .i64 ekd, .int .i64 edt] 50)).trans u3)
      have B3 := Lib.hid (B2.out.up u3)
      have IA := Lib.hid hat
      have hs3 : w2.heap.size + 1 ≤ w3.heap.size := by simpa using u3.size
      clear hat u3 B2
      obtain ⟨⟨e0, e1, e2, e3, e4, e5⟩, -⟩ := B3.out.mk6
      by_cases hrn : r < 0
      · go_wp2_with fail
        refine (l1Put_any A es.length c es ⟨et, eto, efr, esq, ekd, edt⟩ _ (by omega) (E2.out.up U3.out)).mono ?_
        rintro x w4 ⟨A4, c4, rfl, hc4, hm4, hE4, ho4, u4⟩
        have IL := Lib.hid (ins_len ⟨et, eto, efr, esq, ekd, edt⟩ es)
        have HE4 := Lib.hid hE4
        have HO4 := Lib.hid (own_mono ho4 (show w.heap.size ≤ w3.heap.size by have := M2.out.size; omega))
        have U4 := Lib.hid (U3.out.trans u4)
        clear hE4 ho4 u4
        generalize ins ⟨et, eto, efr, esq, ekd, edt⟩ es = fs at IL HE4 HO4 hc4 ⊢
        have hil : fs.length ≤ es.length + 1 := Nat.le_of_eq IL.out
        go_wp2
        go_roundw
        case rel => exact ⟨j, fs, A4, c4, by go_num, by omega, rfl, hc4, hm4, HE4.out, HO4.out, (R2.out.up U4.out).mono (by omega), M2.out.trans (U4.out.mv g)⟩
        case measure => simp [intOf]
      · go_wp2
        go_roundw
        case rel => exact ⟨j, es, A, c, by go_num, by omega, rfl, hc, hmax, E2.out.up U3.out, own_up O2.out U3.out, (R2.out.up U3.out).mono (by omega), M2.out.trans (U3.out.mv g)⟩
        case measure => simp [intOf]
    · go_wp2
      go_ret
      exact ⟨es, by omega, ⟨A, c, rfl, hc, hmax, HE.out, HO.out⟩, HR.out.mono (by omega), HM.out⟩

end Go.Proofs.Ytkfjemgelmbcfaa

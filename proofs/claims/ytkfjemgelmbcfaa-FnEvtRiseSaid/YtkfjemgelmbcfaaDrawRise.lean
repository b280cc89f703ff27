/-
  What DrawEvtRise gives, in one sentence: a new slice of at most eight events, with new blocks alone; for every code that lies in memory.
-/
import Derived.Test.YtkfjemgelmbcfaaDrawPut
namespace Go.Proofs.Ytkfjemgelmbcfaa
set_option maxRecDepth 100000
open Go.RowKit

/-- What DrawEvtRise gives. -/
def DrawnRise (w : World) (x : Ending) (w' : World) : Prop :=
  ∃ (es : List Evt) (A : Option Addr) (c : Nat), x = .returned (.slice A es.length c) ∧ es.length ≤ 8 ∧ es.length ≤ c ∧ c ≤ 9223372036854775807 ∧ Evs w' A es.length es ∧ Up w w'

set_option maxHeartbeats 8000000 in
theorem drawRise_any (A : Option Addr) (n cap : Nat) (w : World) (hc : n ≤ cap) (hmax : cap ≤ 9223372036854775807) (hB : Bys w A n w.heap.size) :
    Calls Try.prog 22 #[.slice A n cap] w (DrawnRise w) := by
  obtain ⟨i0, hi0, hz0, hz1, hz2⟩ := info_parts info50
  have INF := Lib.hid (And.intro hi0 (And.intro hz0 (And.intro hz1 hz2)))
  have SIX := Lib.hid (show 0 < 6 by omega)
  have HB := Lib.hid hB
  clear hB hi0 hz0 hz1 hz2
  by_cases h3 : n % 3 = 0
  · have t3 : ((n : Int) % 3 == 0) = true := by rw [beq_iff_eq]; omega
    have t3' : ((n : Int).tmod 3 == 0) = true := by rw [Int.tmod_eq_emod_of_nonneg (by omega)]; exact t3
    have H3 := Lib.hid h3
    clear h3
    go_enter Try.func22, Try.ntmps22
    go_wp2_with fail
    refine (drawPut_any A n cap _ hc hmax HB.out).mono ?_
    rintro x w1 ⟨es, ⟨et, eto, efr, esq, ekd, edt⟩, A1, c1, rfl, hlen, hc1, hm1, hE1, ho1, u1⟩
    unfold Evt.v
    dsimp only
    have E1 := Lib.hid (hE1.up ((Up.refl w1).alloc (.cells #[.int .i64 et, .int .i64 eto, .int .i64 efr, .int .i64 esq, .int .i64 ekd, .int .i64 edt] 50)))
    have U1 := Lib.hid (Up.alloc u1 (.cells #[.int .i64 et, .int .i64 eto, .int .i64 efr, .int .i64 esq, .int .i64 ekd, .int .i64 edt] 50))
    have O1 := Lib.hid (own_up (own_up ho1 ((Up.refl w1).alloc (.cells #[.int .i64 et, .int .i64 eto, .int .i64 efr, .int .i64 esq, .int .i64 ekd, .int .i64 edt] 50))) ((Up.refl (w1.alloc (.cells #[.int .i64 et, .int .i64 eto, .int .i64 efr, .int .i64 esq, .int .i64 ekd, .int .i64 edt] 50))).alloc (.cells #[.int .i64 et, .int .i64 eto, .int .i64 efr, .int .i64 esq, .int .i64 ekd, .int .i64 edt] 50)))
    have HR := Lib.hid (show Reads ((w1.alloc (.cells #[.int .i64 et, .int .i64 eto, .int .i64 efr, .int .i64 esq, .int .i64 ekd, .int .i64 edt] 50)).alloc (.cells #[.int .i64 et, .int .i64 eto, .int .i64 efr, .int .i64 esq, .int .i64 ekd, .int .i64 edt] 50)) ((w1.alloc (.cells #[.int .i64 et, .int .i64 eto, .int .i64 efr, .int .i64 esq, .int .i64 ekd, .int .i64 edt] 50)).alloc (.cells #[.int .i64 et, .int .i64 eto, .int .i64 efr, .int .i64 esq, .int .i64 ekd, .int .i64 edt] 50)).heap.size 6 (some ⟨w1.heap.size + 1, 0, none⟩) 1 (flat [⟨et, eto, efr, esq, ekd, edt⟩]) from by have := (Evs.new (w1.alloc (.cells #[.int .i64 et, .int .i64 eto, .int .i64 efr, .int .i64 esq, .int .i64 ekd, .int .i64 edt] 50)) ⟨et, eto, efr, esq, ekd, edt⟩ 50).reads; simpa only [World.size_alloc] using this)
    have HMX := Lib.hid (show es.length + 1 ≤ maxLen by simp only [maxLen]; omega)
    have HBY := Lib.hid (show (es.length + 1) * 48 ≤ 140737488355328 by omega)
    have HBS := Lib.hid (show w.heap.size ≤ ((w1.alloc (.cells #[.int .i64 et, .int .i64 eto, .int .i64 efr, .int .i64 esq, .int .i64 ekd, .int .i64 edt] 50)).alloc (.cells #[.int .i64 et, .int .i64 eto, .int .i64 efr, .int .i64 esq, .int .i64 ekd, .int .i64 edt] 50)).heap.size by have := u1.size; simp; omega)
    clear hE1 ho1 u1
    go_wp2_with (at_builtin; refine wpList_append_any _ rfl (.tmp 14) (.tmp 16) 24 rfl w.heap.size 50 i0 _ 6 48 Try.underlying24 INF.out.1 INF.out.2.1 INF.out.2.2.1 INF.out.2.2.2 rfl SIX.out (.slice A1 es.length c1) es.length (flat es) rfl O1.out _ _ 1 1 (flat [⟨et, eto, efr, esq, ekd, edt⟩]) rfl HR.out (flat_one _) HMX.out HBY.out HBS.out ?_; intro v2 w2 ho2 hg2 _)
    have O2 := Lib.hid (own_snoc ho2 rfl)
    have U2 := Lib.hid (((U1.out.alloc (.cells #[.int .i64 et, .int .i64 eto, .int .i64 efr, .int .i64 esq, .int .i64 ekd, .int .i64 edt] 50)).grown hg2 (fun j hj => (O1.out.lt j hj).1)))
    clear ho2 hg2
    obtain ⟨_, A2, c2, hv2, hc2, hm2⟩ := own_slice O2.out
    have HV := Lib.hid hv2
    clear hv2
    go_ret
    have O3 := O2.out
    have hv := HV.out
    rw [hv] at O3
    have e2 : Ending.returned v2 = .returned (.slice A2 (es ++ [(⟨et, eto, efr, esq, ekd, edt⟩ : Evt)]).length c2) := by rw [hv]
    exact ⟨es ++ [(⟨et, eto, efr, esq, ekd, edt⟩ : Evt)], A2, c2, e2, by simp; omega, hc2, hm2, own_evs O3, U2.out⟩
  · have t3 : ((n : Int) % 3 == 0) = false := by rw [beq_eq_false_iff_ne]; omega
    have t3' : ((n : Int).tmod 3 == 0) = false := by rw [Int.tmod_eq_emod_of_nonneg (by omega)]; exact t3
    have H3 := Lib.hid h3
    clear h3
    go_enter Try.func22, Try.ntmps22
    go_wp2_with fail
    refine (drawPut_any A n cap _ hc hmax HB.out).mono ?_
    rintro x w1 ⟨es, ⟨et, eto, efr, esq, ekd, edt⟩, A1, c1, rfl, hlen, hc1, hm1, hE1, ho1, u1⟩
    unfold Evt.v
    dsimp only
    have E1 := Lib.hid (hE1.up ((Up.refl w1).alloc (.cells #[.int .i64 et, .int .i64 eto, .int .i64 efr, .int .i64 esq, .int .i64 ekd, .int .i64 edt] 50)))
    have U1 := Lib.hid (Up.alloc u1 (.cells #[.int .i64 et, .int .i64 eto, .int .i64 efr, .int .i64 esq, .int .i64 ekd, .int .i64 edt] 50))
    clear hE1 ho1 u1
    go_wp2
    go_ret
    exact ⟨es, A1, c1, rfl, by omega, hc1, hm1, E1.out, U1.out⟩

end Go.Proofs.Ytkfjemgelmbcfaa

/-
  What spec.EvtTake returns, in one sentence: a new slice of the list without the first place of the event, and whether there is one; for every list that lies in memory.
-/
import Derived.Test.YtodbdehnindlbaaITake
namespace Go.Proofs.Ytodbdehnindlbaa
open Go.RowKit

set_option maxHeartbeats 4000000 in
theorem l1Less_any (A : Option Addr) (n cap k : Nat) (es : List Evt) (w : World) (hn : n ≤ 1000000000) (hk : k < n) (hc : n ≤ cap) (hmax : cap ≤ 9223372036854775807) (hE : Evs w A n es) :
    Calls Try.prog 51 #[.slice A n cap, .int .i64 k] w (NewSl (es.take k ++ es.drop (k + 1)) w) := by
  obtain ⟨i0, hi0, hz0, hz1, hz2⟩ := info_parts info24
  have INF := Lib.hid (And.intro hi0 (And.intro hz0 (And.intro hz1 hz2)))
  have SIX := Lib.hid (show 0 < 6 by omega)
  clear hi0 hz0 hz1 hz2
  have U0 := Lib.hid ((Up.refl w).alloc (.cells #[] 24))
  have RD1 := Lib.hid ((hE.up U0.out).front (k := k) (by omega)).reads
  have HE := Lib.hid hE
  have OW1 := Lib.hid (show (w.alloc (.cells #[] 24)).ownsRow w.heap.size 24 6 (.slice (some ⟨w.heap.size, 0, none⟩) 0 0) 0 (flat []) from World.ownsRow_lit (base := w.heap.size) (e := 24) (size := 6) w #[] 0 (Nat.le_refl _) (by simp only [maxLen]; omega) (by simp))
  have HMX1 := Lib.hid (show 0 + k ≤ maxLen by simp only [maxLen]; omega)
  have HBY1 := Lib.hid (show (0 + k) * 48 ≤ 140737488355328 by omega)
  have HBS1 := Lib.hid (show w.heap.size ≤ (w.alloc (.cells #[] 24)).heap.size by simp)
  have HMX2 := Lib.hid (show k + (n - (k + 1)) ≤ maxLen by simp only [maxLen]; omega)
  have HBY2 := Lib.hid (show (k + (n - (k + 1))) * 48 ≤ 140737488355328 by omega)
  have CUT := Lib.hid (show ∀ W, Up w W → Reads W W.heap.size 6 (if cap = k + 1 then A else A.map (fun x => x.add ((k + 1) * 6))) (n - (k + 1)) (flat (es.drop (k + 1))) from fun W u => ((HE.out.up u).rest (k := k + 1) (cap := cap) (by omega) (by omega)).reads)
  clear hE
  have i2 : (k : Int) ≤ cap := by omega
  have i1 : (0 : Int) ≤ k := by omega
  have i4 : (k : Int) ≤ n := by omega
  have i5 : (0 : Int) ≤ (k : Int) + 1 := by omega
  have i6 : (k : Int) + 1 ≤ cap := by omega
  have i3 : (k : Int) + 1 ≤ n := by omega
  have i7 : ((k : Int) + 1).toNat = k + 1 := by omega
  have i8 : (n : Int) ≤ cap := by omega
  have i9 : IntKind.i64.wrap ((k : Int) + 1) = (k : Int) + 1 := IntWalk.i64_in _ (by omega)
  go_enter Try.func51, Try.ntmps51
  go_wp2_with (first | (at_builtin; refine wpList_append_any _ rfl (.tmp 11) (.tmp 15) 34 rfl (w.heap.size) 24 i0 _ 6 48 Try.underlying34 INF.out.1 INF.out.2.1 INF.out.2.2.1 INF.out.2.2.2 rfl SIX.out _ k (flat (es.take k)) rfl O5.out _ _ (n - (k + 1)) _ (flat (es.drop (k + 1))) rfl RD5.out (flat_one _) HMX2.out HBY2.out HBS5.out ?_; intro v6 w6 ho6 hg6 _) | (at_builtin; refine wpList_append_any _ rfl (.tmp 6) (.tmp 9) 34 rfl (w.heap.size) 24 i0 _ 6 48 Try.underlying34 INF.out.1 INF.out.2.1 INF.out.2.2.1 INF.out.2.2.2 rfl SIX.out (.slice (some ⟨w.heap.size, 0, none⟩) 0 0) 0 (flat []) rfl OW1.out _ A k cap (flat (es.take k)) rfl RD1.out (flat_one _) HMX1.out HBY1.out HBS1.out ?_; intro v5 w5 ho5 hg5 _; have O5 := Lib.hid (show w5.ownsRow w.heap.size 24 6 v5 k (flat (es.take k)) from by simpa [flat] using ho5); have U5 := Lib.hid (U0.out.grown hg5 (fun j hj => (OW1.out.lt j hj).1)); have HBS5 := Lib.hid U5.out.size; have RD5 := Lib.hid (CUT.out _ U5.out); clear ho5 hg5))
  all_goals
    have O6 := ho6
    rw [← flat_app] at O6
    have U6 := Lib.hid (U5.out.grown hg6 (fun j hj => (O5.out.lt j hj).1))
    have O6' := Lib.hid O6
    clear ho6 hg6 O6
    go_ret
    exact NewSl.of_own O6'.out U6.out

set_option maxHeartbeats 4000000 in
theorem specTake_any (A : Option Addr) (n cap : Nat) (es : List Evt) (e : Evt) (w : World) (hn : n ≤ 1000000000) (hc : n ≤ cap) (hmax : cap ≤ 9223372036854775807) (hE : Evs w A n es) :
    Calls Try.prog 29 #[.slice A n cap, e.v] w (TakePost e es w) := by
  obtain ⟨i0, hi0, hz0, hz1, hz2⟩ := info_parts info24
  have INF := Lib.hid (And.intro hi0 (And.intro hz0 (And.intro hz1 hz2)))
  have SIX := Lib.hid (show 0 < 6 by omega)
  have HE := Lib.hid hE
  have LE := Lib.hid hE.1
  have CI := Lib.hid (fun W h => l1At_any A n cap es e W hn h)
  clear hE hi0 hz0 hz1 hz2
  generalize hee : e = e' at CI ⊢
  clear hee
  obtain ⟨et, eto, efr, esq, ekd, edt⟩ := e'
  unfold Evt.v at CI ⊢
  dsimp only at CI ⊢
  go_enter Try.func29, Try.ntmps29
  go_wp2_with fail
  refine (CI.out _ (HE.out.up ((Up.refl w).alloc _))).mono ?_
  rintro x w1 ⟨r, rfl, hat, u1⟩
  have HAT := Lib.hid hat
  have U1 := Lib.hid (((Up.refl w).alloc (.cells #[.int .i64 et, .int .i64 eto, .int .i64 efr, .int .i64 esq, .int .i64 ekd, .int .i64 edt] 24)).trans u1)
  have hs1 := U1.out.size
  have EV := Lib.hid (HE.out.up U1.out)
  clear u1 CI HE
  rcases hat with ⟨k, rfl, hk, -⟩ | ⟨rfl, -⟩
  · rw [LE.out] at hk
    have i1 : ¬ (k : Int) < 0 := by omega
    have HF := Lib.hid (outE_at es k)
    go_wp2_with fail
    refine (l1Less_any A n cap k es _ hn hk hc hmax EV.out).mono ?_
    generalize List.take k es ++ List.drop (k + 1) es = fs at HF
    rintro x w2 ⟨A2, c2, rfl, hc2, hm2, e2, o2, u2⟩
    have O2 := Lib.hid o2
    have U2 := Lib.hid u2
    clear e2 o2 u2
    go_wp2
    refine bodyPost_ret (v := .tuple #[.slice A2 fs.length c2, .bool true]) (by simp [results, Try.results29, go_sem]) rfl ?_
    exact TakePost.mk HAT.out HF.out (by simp) hc2 hm2 O2.out hs1 (U1.out.trans U2.out)
  · have U3 := Lib.hid ((Up.refl w1).alloc (.cells #[] 24))
    have RD1 := Lib.hid (EV.out.up U3.out).reads
    have OW1 := Lib.hid (show (w1.alloc (.cells #[] 24)).ownsRow w1.heap.size 24 6 (.slice (some ⟨w1.heap.size, 0, none⟩) 0 0) 0 (flat []) from World.ownsRow_lit (base := w1.heap.size) (e := 24) (size := 6) w1 #[] 0 (Nat.le_refl _) (by simp only [maxLen]; omega) (by simp))
    have HMX1 := Lib.hid (show 0 + n ≤ maxLen by simp only [maxLen]; omega)
    have HBY1 := Lib.hid (show (0 + n) * 48 ≤ 140737488355328 by omega)
    have HBS1 := Lib.hid (show w1.heap.size ≤ (w1.alloc (.cells #[] 24)).heap.size by simp)
    go_wp2_with (at_builtin; refine wpList_append_any _ rfl (.tmp 12) (.tmp 13) 34 rfl (w1.heap.size) 24 i0 _ 6 48 Try.underlying34 INF.out.1 INF.out.2.1 INF.out.2.2.1 INF.out.2.2.2 rfl SIX.out (.slice (some ⟨w1.heap.size, 0, none⟩) 0 0) 0 (flat []) rfl OW1.out _ A n cap (flat es) rfl RD1.out (flat_one _) HMX1.out HBY1.out HBS1.out ?_; intro v5 w5 ho5 hg5 _)
    have O5 := Lib.hid (show w5.ownsRow w1.heap.size 24 6 v5 n (flat es) from by simpa [flat] using ho5)
    have U5 := Lib.hid ((U1.out.trans U3.out).grown hg5 (fun j hj => by have := (OW1.out.lt j hj).1; omega))
    clear ho5 hg5
    obtain ⟨hn5, A5, c5, hv5, hc5, hm5⟩ := own_slice O5.out
    have HV := Lib.hid hv5
    clear hv5
    refine bodyPost_ret (v := .tuple #[v5, .bool false]) (by simp [results, Try.results29, go_sem]) rfl ?_
    have O5' := O5.out
    rw [HV.out] at O5' ⊢
    clear O5 HV
    subst hn5
    exact TakePost.mk HAT.out (outE_no _) rfl hc5 hm5 O5' hs1 U5.out

end Go.Proofs.Ytodbdehnindlbaa

/-
  What DrawEvtPut gives, in one sentence: a new slice of at most seven events, and an event, with new blocks alone; for every code that lies in memory.
-/
import Derived.Test.YtkfjemgelmbcfaaList
import Derived.RegionTactic
import Derived.ChangeAlike
import Derived.BigRegion
namespace Go.Proofs.Ytkfjemgelmbcfaa
set_option maxRecDepth 100000
open Go.RowKit

/-- What DrawEvtPut gives. -/
def DrawnPut (w : World) (x : Ending) (w' : World) : Prop :=
  ∃ (es : List Evt) (e : Evt) (A : Option Addr) (c : Nat), x = .returned (.tuple #[.slice A es.length c, e.v]) ∧ es.length ≤ 7 ∧ es.length ≤ c ∧ c ≤ 9223372036854775807 ∧ Evs w' A es.length es ∧ w'.ownsRow w.heap.size 50 6 (.slice A es.length c) es.length (flat es) ∧ Up w w'

theorem Evs.own_far {w : World} {base e n c : Nat} {A : Option Addr} {xs : List Value} (h : w.ownsRow base e 6 (.slice A n c) n xs) {g : Nat} (hg : g < base) : ∀ b off, A = some ⟨b, off, none⟩ → b ≠ g := fun b off hA => by
  have := own_addr h hA
  omega

/-- How it ends: the event is laid into the result's block. -/
theorem drawPut_end {w W : World} {es : List Evt} {e : Evt} {A : Option Addr} {c n : Nat} (hl : n = es.length) (h7 : es.length ≤ 7) (hc : es.length ≤ c) (hm : c ≤ 9223372036854775807)
    (hE : Evs W A n es) (ho : W.ownsRow (w.heap.size + 1) 50 6 (.slice A n c) n (flat es)) (u : Up w W) :
    DrawnPut w (.returned (.tuple #[.slice A n c, e.v])) (putEv W w.heap.size 0 e).drew := by
  subst hl
  have m : Mv w.heap.size W (putEv W w.heap.size 0 e).drew := (((((((Mv.refl w.heap.size W).setCell _).setCell _).setCell _).setCell _).setCell _).setCell _).drew
  exact ⟨es, e, A, c, rfl, h7, hc, hm, hE.mv m (Evs.own_far ho (by omega)), own_mono (own_mv ho m (by omega)) (by omega), (u.putEv (Nat.le_refl _)).drew⟩

set_option maxHeartbeats 8000000 in
theorem drawPut_any (A : Option Addr) (n cap : Nat) (w : World) (hc : n ≤ cap) (hmax : cap ≤ 9223372036854775807) (hB : Bys w A n w.heap.size) :
    Calls Try.prog 28 #[.slice A n cap] w (DrawnPut w) := by
  obtain ⟨i0, hi0, hz0, hz1, hz2⟩ := info_parts info50
  have INF := Lib.hid (And.intro hi0 (And.intro hz0 (And.intro hz1 hz2)))
  have SIX := Lib.hid (show 0 < 6 by omega)
  have HB := Lib.hid hB
  clear hB hi0 hz0 hz1 hz2
  go_enter Try.func28, Try.ntmps28
  go_wp2_with fail
  have U0 := Lib.hid ((Up.refl w).alloc (.cells #[.int .i64 0, .int .i64 0, .int .i64 0, .int .i64 0, .int .i64 0, .int .i64 0] 50))
  have B0 := Lib.hid (Box.new w ⟨0, 0, 0, 0, 0, 0⟩ 50)
  have HB0 : Bys (w.alloc (.cells #[.int .i64 0, .int .i64 0, .int .i64 0, .int .i64 0, .int .i64 0, .int .i64 0] 50)) A n (w.alloc (.cells #[.int .i64 0, .int .i64 0, .int .i64 0, .int .i64 0, .int .i64 0, .int .i64 0] 50)).heap.size := fun h0 => by
    obtain ⟨b, off, hA, hb, hcc⟩ := HB.out.keep (fun b o hb => U0.out.cells b o hb) h0
    exact ⟨b, off, hA, by simp; omega, hcc⟩
  refine (open_any A n cap _ hc hmax HB0).mono ?_
  rintro x w1 ⟨g, rfl, hg, r1, u1⟩
  have hg' : w.heap.size + 1 ≤ g := by simpa using hg
  have q0 : w.heap.size ≠ g := by omega
  have g1 := r1.lt
  have R1 := Lib.hid r1
  have U1 := Lib.hid (U0.out.trans u1)
  have B1 := Lib.hid (B0.out.up u1)
  have G := Lib.hid (show w.heap.size ≤ g by omega)
  clear hg r1 u1 HB0 U0 B0
  go_wp2_with fail
  refine (list_any g 0 _ (by omega) R1.out).mono ?_
  rintro x w2 ⟨es, hes, ⟨A2, c2, rfl, hc2, hm2, hE2, ho2⟩, r2, m2⟩
  have g2 := r2.lt
  have R2 := Lib.hid r2
  have U2 := Lib.hid (m2.up U1.out G.out)
  have B2 := Lib.hid (B1.out.mv m2 q0)
  have E2 := Lib.hid hE2
  have O2 := Lib.hid (own_mono ho2 (show g + 1 ≤ w1.heap.size by omega))
  clear r2 m2 hE2 ho2 R1 U1 B1
  go_wp2_with fail
  refine (evt_any g _ 4 0 _ (by omega) (by omega) ⟨by omega, by omega⟩ (by omega) R2.out).mono ?_
  intro x w3 dk
  obtain ⟨et, eto, efr, esq, ekd, edt, rfl, _, _, r3, m3⟩ := dk.cases
  have g3 := r3.lt
  have R3 := Lib.hid r3
  have U3 := Lib.hid (m3.up U2.out G.out)
  have B3 := Lib.hid (B2.out.mv m3 q0)
  have E3 := Lib.hid (E2.out.mv m3 (Evs.own_far O2.out (by omega)))
  have O3 := Lib.hid (own_mv O2.out m3 (by omega))
  have F3 := Lib.hid (Box.new w3 ⟨et, eto, efr, esq, ekd, edt⟩ 50)
  clear dk r3 m3 R2 U2 B2 E2 O2
  have q3 : w3.heap.size ≠ g := by omega
  go_wp2_with fail
  refine (odd_any g _ 6 _ ⟨by omega, by omega⟩ (by omega) (R3.out.alloc _)).mono ?_
  rintro x w4 ⟨bb, rfl, r4, m4⟩
  have g4 := r4.lt
  have U4 := Lib.hid (m4.up (U3.out.alloc _) G.out)
  have B4 := Lib.hid ((B3.out.alloc _).mv m4 q0)
  have E4 := Lib.hid ((E3.out.up ((Up.refl w3).alloc (.cells #[.int .i64 et, .int .i64 eto, .int .i64 efr, .int .i64 esq, .int .i64 ekd, .int .i64 edt] 50))).mv m4 (Evs.own_far O3.out (by omega)))
  have O4 := Lib.hid (own_mono (own_mv (own_up O3.out ((Up.refl w3).alloc (.cells #[.int .i64 et, .int .i64 eto, .int .i64 efr, .int .i64 esq, .int .i64 ekd, .int .i64 edt] 50))) m4 (by omega)) (show w.heap.size + 1 ≤ g + 1 by omega))
  have F4 := Lib.hid (F3.out.mv m4 q3)
  have hs4 : w3.heap.size + 1 ≤ w4.heap.size := by have := m4.size; simpa using this
  have hs3 : w.heap.size < w3.heap.size := by omega
  clear r4 m4 R3 U3 B3 E3 O3 F3
  by_cases hbb : bb = true ∧ 1 < es.length
  · obtain ⟨rfl, hlen⟩ := hbb
    obtain ⟨b, off, hA, hb, hc⟩ := E4.out.2 (by omega)
    have AX := hc 1 hlen
    clear hc
    generalize es.getD 1 default = x at AX
    obtain ⟨xt, xto, xfr, xsq, xkd, xdt⟩ := x
    have AX' := Lib.hid AX
    unfold EvAt at AX
    dsimp only at AX
    subst hA
    have i1 : (1 : Int) < es.length := by omega
    obtain ⟨p0, p1, p2, p3, p4, p5⟩ := AX
    have OX := Lib.hid (show (w4.alloc (.cells #[.int .i64 xt, .int .i64 xto, .int .i64 xfr, .int .i64 xsq, .int .i64 xkd, .int .i64 xdt] 50)).ownsRow (w.heap.size + 1) 50 6 (.slice (some ⟨w4.heap.size, 0, none⟩) 1 1) 1 (flat [⟨xt, xto, xfr, xsq, xkd, xdt⟩]) from by simpa [flat, Evt.c6] using World.ownsRow_lit (base := w.heap.size + 1) (e := 50) (size := 6) w4 (#[.int .i64 xt, .int .i64 xto, .int .i64 xfr, .int .i64 xsq, .int .i64 xkd, .int .i64 xdt]) 1 (by omega) (by simp only [maxLen]; omega) (by simp))
    have HR := Lib.hid (E4.out.up ((Up.refl w4).alloc (.cells #[.int .i64 xt, .int .i64 xto, .int .i64 xfr, .int .i64 xsq, .int .i64 xkd, .int .i64 xdt] 50))).reads
    have HMX := Lib.hid (show 1 + es.length ≤ maxLen by simp only [maxLen]; omega)
    have HBY := Lib.hid (show (1 + es.length) * 48 ≤ 140737488355328 by omega)
    have HBS := Lib.hid (show w.heap.size + 1 ≤ (w4.alloc (.cells #[.int .i64 xt, .int .i64 xto, .int .i64 xfr, .int .i64 xsq, .int .i64 xkd, .int .i64 xdt] 50)).heap.size by simp; omega)
    go_wp2_with (at_builtin; refine wpList_append_any _ rfl (.tmp 23) (.tmp 24) 24 rfl (w.heap.size + 1) 50 i0 _ 6 48 Try.underlying24 INF.out.1 INF.out.2.1 INF.out.2.2.1 INF.out.2.2.2 rfl SIX.out (.slice (some ⟨w4.heap.size, 0, none⟩) 1 1) 1 (flat [⟨xt, xto, xfr, xsq, xkd, xdt⟩]) rfl OX.out _ _ es.length c2 (flat es) rfl HR.out (flat_one _) HMX.out HBY.out HBS.out ?_; intro v6 w6 ho6 hg6 _)
    have O6 := Lib.hid (show w6.ownsRow (w.heap.size + 1) 50 6 v6 (1 + es.length) (flat (⟨xt, xto, xfr, xsq, xkd, xdt⟩ :: es)) from by simpa [flat] using ho6)
    have FF := Lib.hid ((F4.out.alloc (.cells #[.int .i64 xt, .int .i64 xto, .int .i64 xfr, .int .i64 xsq, .int .i64 xkd, .int .i64 xdt] 50)).grown hg6 (by simp [Value.ownBlock]; omega))
    have BB := Lib.hid ((B4.out.alloc (.cells #[.int .i64 xt, .int .i64 xto, .int .i64 xfr, .int .i64 xsq, .int .i64 xkd, .int .i64 xdt] 50)).grown hg6 (by simp [Value.ownBlock]; omega))
    have UU := Lib.hid ((U4.out.alloc (.cells #[.int .i64 xt, .int .i64 xto, .int .i64 xfr, .int .i64 xsq, .int .i64 xkd, .int .i64 xdt] 50)).grown hg6 (fun k hk => by simp [Value.ownBlock] at hk; omega))
    have NE := Lib.hid (show w.heap.size ≠ w3.heap.size by omega)
    clear ho6 hg6 p0 p1 p2 p3 p4 p5 OX HR HMX HBY HBS
    obtain ⟨⟨e0, e1, e2, e3, e4, e5⟩, ⟨x0, x1, x2, x3, x4, x5⟩⟩ := FF.out.mk6
    obtain ⟨⟨p0, p1, p2, p3, p4, p5⟩, ⟨y0, y1, y2, y3, y4, y5⟩⟩ := BB.out.mk6
    have EE := putEv_at (e := ⟨et, eto, efr, esq, ekd, edt⟩) BB.out.somes
    unfold EvAt putEv at EE
    simp only [Nat.zero_add] at EE
    obtain ⟨k0, k1, k2, k3, k4, k5⟩ := EE
    have ne3 : w.heap.size ≠ w3.heap.size := by omega
    go_region
    go_wp2
    obtain ⟨hn6, A6, c6, hv6, hc6, hm6⟩ := own_slice O6.out
    refine bodyPost_ret (v := .tuple #[v6, .agg #[.int .i64 et, .int .i64 eto, .int .i64 efr, .int .i64 esq, .int .i64 ekd, .int .i64 edt]]) (by simp [results, Try.results28, go_sem, k0, k1, k2, k3, k4, k5]) rfl ?_
    rw [hv6] at O6 ⊢
    exact drawPut_end (e := ⟨et, eto, efr, esq, ekd, edt⟩) (es := ⟨xt, xto, xfr, xsq, xkd, xdt⟩ :: es) hn6 (by simp; omega) (by omega) hm6 (own_evs O6.out) O6.out UU.out
  · have hbb2 : bb = false ∨ ¬ (1 : Int) < es.length := by
      cases bb
      · exact .inl rfl
      · exact .inr (fun h => hbb ⟨rfl, by omega⟩)
    have stop : bb = false ∨ (bb = true ∧ ¬ (1 : Int) < es.length) := by
      cases bb
      · exact .inl rfl
      · exact .inr ⟨rfl, fun h => hbb ⟨rfl, by omega⟩⟩
    clear hbb hbb2
    rcases stop with rfl | ⟨rfl, i1⟩
    all_goals
      go_wp2
      obtain ⟨⟨e0, e1, e2, e3, e4, e5⟩, ⟨x0, x1, x2, x3, x4, x5⟩⟩ := F4.out.mk6
      obtain ⟨⟨p0, p1, p2, p3, p4, p5⟩, ⟨y0, y1, y2, y3, y4, y5⟩⟩ := B4.out.mk6
      have EE := putEv_at (e := ⟨et, eto, efr, esq, ekd, edt⟩) B4.out.somes
      unfold EvAt putEv at EE
      simp only [Nat.zero_add] at EE
      obtain ⟨k0, k1, k2, k3, k4, k5⟩ := EE
      have ne3 : w.heap.size ≠ w3.heap.size := by omega
      go_region
      go_wp2
      obtain ⟨hn6, A6, c6, hv6, hc6, hm6⟩ := own_slice O4.out
      refine bodyPost_ret (v := .tuple #[.slice A2 es.length c2, .agg #[.int .i64 et, .int .i64 eto, .int .i64 efr, .int .i64 esq, .int .i64 ekd, .int .i64 edt]]) (by simp [results, Try.results28, go_sem, k0, k1, k2, k3, k4, k5]) rfl ?_
      exact drawPut_end (e := ⟨et, eto, efr, esq, ekd, edt⟩) rfl (by omega) hc2 hm2 E4.out O4.out U4.out

end Go.Proofs.Ytkfjemgelmbcfaa

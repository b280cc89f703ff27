/-
  What spec.l3All does, in one sentence: steps till nothing waits; for every simulator of the call's own whose parts are valid.
  What spec.SeqAll returns, in one sentence: the last simulator of the model, or zero values; for every model that lies in memory.
  What impl.SeqOk returns, in one sentence: whether the model is one and the simulator is one of it; for every model and every simulator of short lists that lie in memory.
-/
import Derived.Test.YtjdoealcmokakaaDLSeqAll25
import Derived.Test.YtjdoealcmokakaaDLSeqAll26
import Derived.Test.YtjdoealcmokakaaDLSeqAll42
import Derived.Test.YtjdoealcmokakaaDLSeqAll43
namespace Go.Proofs.Ytjdoealcmokakaa
set_option maxRecDepth 100000
open Go.RowKit
theorem specL3_go (A : Option Addr) (an ac : Nat) (B : Option Addr) (bk bd : Nat) (m : Mdl) (lo N : Nat) (Z s : Sq) (vc vw vl : Value) (z w : World) (hM : MdlV z A an B bk m) (hU : Up z w) (hz : z.heap.size ≤ lo) (hR : Run m N Z s)
    (hc : w.ownsRow lo 46 3 vc s.comps.length (flat3 s.comps)) (hw : w.ownsRow lo 39 6 vw s.wait.length (flat s.wait)) (hl : w.ownsRow lo 41 7 vl s.log.length (flat7 s.log)) (hlo : lo ≤ w.heap.size) :
    Calls Try.prog 54 #[.agg #[.slice A an ac, .slice B bk bd, .int .i64 m.til], .agg #[vc, vw, vl]] w (L3F lo (stpS m s) z w vc vl) := by
  have hln := hR.len
  unfold L3F stpS
  rcases hs : s.wait with _ | ⟨e, r⟩
  · obtain ⟨-, Ac, cc, rfl, -, -⟩ := own3_slice hc
    obtain ⟨-, Al, cl, rfl, -, -⟩ := own7_slice hl; rw [hs] at hw; obtain ⟨-, Aw, cw, rfl, -, -⟩ := own_slice hw; refine (specL3_none _ _ _ Aw cw A an ac B bk bd m.til rfl Ac Al _ cc _ cl rfl rfl w).mono ?_; rintro x w' ⟨rfl, u⟩; refine ⟨hU.trans u, fun b h1 _ _ => u.below.block b h1, u.size, _, _, _, rfl, own_up hc u, ?_, own_up hl u⟩; dsimp only; rw [hs]
    exact own_up hw u
  · obtain ⟨hok, hto, _⟩ := hR.go.may hs
    have hd := doE_len (c := s.comps.getD e.to.toNat default) (e := e) hR.go.md
    rw [hs] at hw; rw [hs, List.length_cons] at hln; refine (specL3_any A an ac B bk bd m lo s.comps.length s.log.length r.length s.comps e r s.log vc vw vl z w hM hU hz hc hw hl hlo (by rw [hR.all]; exact hto) hok (by omega) (by omega) (by omega)).mono ?_; rintro x w' ⟨u, fr, sz, vc', vw', vl', rfl, o1, o2, o3⟩; refine ⟨u, fr, sz, vc', vw', vl', rfl, ?_, ?_, ?_⟩
    · dsimp only
      rw [List.length_set]
      exact o1
    · dsimp only
      rw [insAll_len, Nat.add_comm]
      exact o2
    · dsimp only
      rw [List.length_append]
      exact o3
theorem box_of {w : World} {b t : Nat} {x y z : Value} (h : w.heap[b]? = some (.cells #[x, y, z] t)) : BoxF w b x y z :=
  ⟨⟨(Array.getElem?_eq_some_iff.1 h).1, by rw [cell_of_row _ _ 0 _ _ _ h]; rfl, by rw [cell_of_row _ _ 1 _ _ _ h]; rfl, by rw [cell_of_row _ _ 2 _ _ _ h]; rfl⟩, fun j => by unfold World.frozen?; rw [h]; simp⟩
theorem heap_set3 {w : World} {b t : Nat} {x0 y0 z0 : Value} (h : w.heap[b]? = some (.cells #[x0, y0, z0] t)) (x y z : Value) : (((w.setCell ⟨b, 0, none⟩ x).setCell ⟨b, 1, none⟩ y).setCell ⟨b, 2, none⟩ z).heap[b]? = some (.cells #[x, y, z] t) :=
  heap_setC _ b 2 z (heap_setC _ b 1 y (heap_setC _ b 0 x h))
def msr (v : Value) (w : World) (b : Nat) : Nat := (match v with | .bool true => 1 | _ => 0) + (2000000 - (match w.cell? ⟨b, 2, none⟩ with | some (.slice _ n _) => n | _ => 0))
/-- The reference on its way. -/
def AlS (lo N b2 b3 b4 : Nat) (A : Option Addr) (an ac : Nat) (B : Option Addr) (bk bd : Nat) (m : Mdl) (Z : Sq) (z : World) (v : Value) (w : World) : Prop :=
  ∃ (s : Sq) (bb : Bool) (Ac : Option Addr) (cc : Nat) (Aw : Option Addr) (cw : Nat) (Al : Option Addr) (cl : Nat), v = .bool bb ∧ Run m N Z s ∧ (bb = false → s.wait = []) ∧ Up z w ∧ w.heap[b2]? = some (.cells #[.slice A an ac, .slice B bk bd, .int .i64 m.til] 26) ∧ w.heap[b4]? = some (.cells #[.slice none 0 0, .slice none 0 0, .slice none 0 0] 36) ∧
    w.heap[b3]? = some (.cells #[.slice Ac s.comps.length cc, .slice Aw s.wait.length cw, .slice Al s.log.length cl] 36) ∧ w.ownsRow lo 46 3 (.slice Ac s.comps.length cc) s.comps.length (flat3 s.comps) ∧
    w.ownsRow lo 39 6 (.slice Aw s.wait.length cw) s.wait.length (flat s.wait) ∧ w.ownsRow lo 41 7 (.slice Al s.log.length cl) s.log.length (flat7 s.log)
/-- What the reference leaves in the end. -/
def L3A (lo : Nat) (Z : Sq) (z : World) (x : Ending) (w' : World) : Prop :=
  Up z w' ∧ ∃ vc vw vl, x = .returned (.agg #[vc, vw, vl]) ∧ w'.ownsRow lo 46 3 vc Z.comps.length (flat3 Z.comps) ∧ w'.ownsRow lo 39 6 vw Z.wait.length (flat Z.wait) ∧ w'.ownsRow lo 41 7 vl Z.log.length (flat7 Z.log)
set_option maxHeartbeats 8000000 in
theorem specAllL_any (A : Option Addr) (an ac : Nat) (B : Option Addr) (bk bd : Nat) (m : Mdl) (lo N : Nat) (Z s : Sq) (vc vw vl : Value) (z w : World) (hM : MdlV z A an B bk m) (hU : Up z w) (hz : z.heap.size ≤ lo) (hR : Run m N Z s)
    (hc : w.ownsRow lo 46 3 vc s.comps.length (flat3 s.comps)) (hw : w.ownsRow lo 39 6 vw s.wait.length (flat s.wait)) (hl : w.ownsRow lo 41 7 vl s.log.length (flat7 s.log)) (hlo : lo ≤ w.heap.size) :
    Calls Try.prog 46 #[.agg #[.slice A an ac, .slice B bk bd, .int .i64 m.til], .agg #[vc, vw, vl]] w (L3A lo Z z) := by
  obtain ⟨-, Ac, cc, rfl, -, -⟩ := own3_slice hc; obtain ⟨-, Aw, cw, rfl, -, -⟩ := own_slice hw; obtain ⟨-, Al, cl, rfl, -, -⟩ := own7_slice hl
  have CL := Lib.hid (fun s vc vw vl W (u : Up z W) hR h1 h2 h3 h4 => specL3_go A an ac B bk bd m lo N Z s vc vw vl z W hM u hz hR h1 h2 h3 h4)
  unfold L3F at CL
  have ua := (((Up.refl w).alloc (.cells #[.slice A an ac, .slice B bk bd, .int .i64 m.til] 26)).alloc (.cells #[.slice Ac s.comps.length cc, .slice Aw s.wait.length cw, .slice Al s.log.length cl] 36)).alloc (.cells #[.slice none 0 0, .slice none 0 0, .slice none 0 0] 36)
  have T2 : ((((w.alloc (.cells #[.slice A an ac, .slice B bk bd, .int .i64 m.til] 26)).alloc (.cells #[.slice Ac s.comps.length cc, .slice Aw s.wait.length cw, .slice Al s.log.length cl] 36)).alloc (.cells #[.slice none 0 0, .slice none 0 0, .slice none 0 0] 36))).heap[w.heap.size]? = some (.cells #[.slice A an ac, .slice B bk bd, .int .i64 m.til] 26) := (((Up.refl (w.alloc (.cells #[.slice A an ac, .slice B bk bd, .int .i64 m.til] 26))).alloc (.cells #[.slice Ac s.comps.length cc, .slice Aw s.wait.length cw, .slice Al s.log.length cl] 36)).alloc (.cells #[.slice none 0 0, .slice none 0 0, .slice none 0 0] 36)).below.block _ (by simp) |>.trans (heap_alloc_new w _)
  have T3 : ((((w.alloc (.cells #[.slice A an ac, .slice B bk bd, .int .i64 m.til] 26)).alloc (.cells #[.slice Ac s.comps.length cc, .slice Aw s.wait.length cw, .slice Al s.log.length cl] 36)).alloc (.cells #[.slice none 0 0, .slice none 0 0, .slice none 0 0] 36))).heap[w.heap.size + 1]? = some (.cells #[.slice Ac s.comps.length cc, .slice Aw s.wait.length cw, .slice Al s.log.length cl] 36) := ((Up.refl ((w.alloc (.cells #[.slice A an ac, .slice B bk bd, .int .i64 m.til] 26)).alloc (.cells #[.slice Ac s.comps.length cc, .slice Aw s.wait.length cw, .slice Al s.log.length cl] 36))).alloc (.cells #[.slice none 0 0, .slice none 0 0, .slice none 0 0] 36)).below.block _ (by simp) |>.trans (by have := heap_alloc_new (w.alloc (.cells #[.slice A an ac, .slice B bk bd, .int .i64 m.til] 26)) (.cells #[.slice Ac s.comps.length cc, .slice Aw s.wait.length cw, .slice Al s.log.length cl] 36); simpa only [World.size_alloc] using this)
  have T4 : ((((w.alloc (.cells #[.slice A an ac, .slice B bk bd, .int .i64 m.til] 26)).alloc (.cells #[.slice Ac s.comps.length cc, .slice Aw s.wait.length cw, .slice Al s.log.length cl] 36)).alloc (.cells #[.slice none 0 0, .slice none 0 0, .slice none 0 0] 36))).heap[w.heap.size + 1 + 1]? = some (.cells #[.slice none 0 0, .slice none 0 0, .slice none 0 0] 36) := by have := heap_alloc_new ((w.alloc (.cells #[.slice A an ac, .slice B bk bd, .int .i64 m.til] 26)).alloc (.cells #[.slice Ac s.comps.length cc, .slice Aw s.wait.length cw, .slice Al s.log.length cl] 36)) (.cells #[.slice none 0 0, .slice none 0 0, .slice none 0 0] 36); simpa only [World.size_alloc] using this
  have ST := Lib.hid (show AlS lo N w.heap.size (w.heap.size + 1) (w.heap.size + 1 + 1) A an ac B bk bd m Z z (.bool true) _ from ⟨s, true, Ac, cc, Aw, cw, Al, cl, rfl, hR, (fun h => by cases h), hU.trans ua, T2, T4, T3, own_up hc ua, own_up hw ua, own_up hl ua⟩)
  have HZ := Lib.hid (And.intro hz hlo)
  clear T2 T3 T4 ua hM hU hz hR hc hw hl hlo; unfold L3A
  go_enter Try.func46, Try.ntmps46
  go_wp2_with fail
  generalize ((w.alloc (.cells #[.slice A an ac, .slice B bk bd, .int .i64 m.til] 26)).alloc (.cells #[.slice Ac s.comps.length cc, .slice Aw s.wait.length cw, .slice Al s.log.length cl] 36)).alloc (.cells #[.slice none 0 0, .slice none 0 0, .slice none 0 0] 36) = W at *
  generalize hb4 : w.heap.size + 1 + 1 = b4 at *
  generalize hb3 : w.heap.size + 1 = b3 at *
  generalize hb2 : w.heap.size = b2 at *
  have NE := Lib.hid (show b2 ≠ b3 ∧ b3 ≠ b4 ∧ b2 ≠ b4 ∧ lo ≤ b2 ∧ lo ≤ b3 ∧ lo ≤ b4 by have := HZ.out; omega)
  clear hb4 hb3 hb2
  go_loopw [5] (fun v wr => AlS lo N b2 b3 b4 A an ac B bk bd m Z z v wr) (fun v wr => msr v wr b3)
  case atStart => exact ST.out
  case round =>
    obtain ⟨s1, bb, Ac1, cc1, Aw1, cw1, Al1, cl1, rfl, hR1, hb, hu, t2, t4, t3, o1, o2, o3⟩ := hrel
    cases bb
    · have hw0 := hb rfl
      have hzz := hR1.done hw0
      subst hzz
      have XB := box_of t3
      have XR := box_of t4
      obtain ⟨c0, c1, c2⟩ := And.intro XB.k.c0 (And.intro XB.k.c1 XB.k.c2)
      have sl := XB.k.lt
      obtain ⟨q0, q1, q2⟩ := And.intro XR.k.c0 (And.intro XR.k.c1 XR.k.c2)
      have rl := XR.k.lt
      have rf := XR.f
      have LR := XR.laid (.slice Ac1 s1.comps.length cc1) (.slice Aw1 s1.wait.length cw1) (.slice Al1 s1.log.length cl1)
      obtain ⟨k0, k1, k2⟩ := And.intro LR.c0 (And.intro LR.c1 LR.c2)
      have MR := ((((Up.refl wr).mv b4).setCell (o := 0) (.slice Ac1 s1.comps.length cc1)).setCell (o := 1) (.slice Aw1 s1.wait.length cw1) |>.setCell (o := 2) (.slice Al1 s1.log.length cl1))
      have UE := Lib.hid (MR.up hu (by have := HZ.out; have := NE.out; omega))
      have Q1 := Lib.hid (own_keep o1 (fun x hx hl => MR.block x hl (own_off o1 t4 (by decide) x hx)))
      have Q2 := Lib.hid (own_keep o2 (fun x hx hl => MR.block x hl (own_off o2 t4 (by decide) x hx)))
      have Q3 := Lib.hid (own_keep o3 (fun x hx hl => MR.block x hl (own_off o3 t4 (by decide) x hx)))
      have ne34 : ¬ b3 = b4 := NE.out.2.1
      have ne43 : ¬ b4 = b3 := fun h => NE.out.2.1 h.symm
      clear XB XR LR MR hR1 hb hu t2 t4 t3 o1 o2 o3 hw0; go_wp2
      exact bodyPost_ret (v := .agg #[.slice Ac1 s1.comps.length cc1, .slice Aw1 s1.wait.length cw1, .slice Al1 s1.log.length cl1]) (by simp [results, Try.results46, go_sem, k0, k1, k2]) rfl ⟨UE.out, _, _, _, rfl, Q1.out, Q2.out, Q3.out⟩
    · have XM := box_of t2
      have XB := box_of t3
      obtain ⟨m0, m1, m2⟩ := And.intro XM.k.c0 (And.intro XM.k.c1 XM.k.c2)
      have ml := XM.k.lt
      obtain ⟨c0, c1, c2⟩ := And.intro XB.k.c0 (And.intro XB.k.c1 XB.k.c2)
      have sl := XB.k.lt
      have CS := Lib.hid (CL.out s1 _ _ _ wr hu hR1 o1 o2 o3 (by have := NE.out; have := ml; omega))
      have F2 := Lib.hid (And.intro (own_off o1 t2 (by decide)) (own_off o3 t2 (by decide)))
      have F3 := Lib.hid (And.intro (own_off o1 t3 (by decide)) (own_off o3 t3 (by decide)))
      have F4 := Lib.hid (And.intro (own_off o1 t4 (by decide)) (own_off o3 t4 (by decide)))
      have TT := Lib.hid (And.intro t2 (And.intro t3 t4))
      have HR1 := Lib.hid hR1
      have C2 := Lib.hid XB.k.c2
      have SLT := Lib.hid (And.intro ml (And.intro sl (box_of t4).k.lt))
      clear XM XB hR1 hb hu t2 t3 t4 o1 o2 o3
      go_wp2_with fail
      refine CS.out.mono ?_; rintro x wb ⟨ub, fr, sz, vc', vw', vl', rfl, r1, r2, r3⟩; obtain ⟨-, Ac2, cc2, rfl, -, -⟩ := own3_slice r1; obtain ⟨-, Aw2, cw2, rfl, -, -⟩ := own_slice r2; obtain ⟨-, Al2, cl2, rfl, -, -⟩ := own7_slice r3
      have t2 := (fr b2 SLT.out.1 F2.out.1 F2.out.2).trans TT.out.1
      have t3 := (fr b3 SLT.out.2.1 F3.out.1 F3.out.2).trans TT.out.2.1
      have t4 := (fr b4 SLT.out.2.2 F4.out.1 F4.out.2).trans TT.out.2.2
      have ua := (Up.refl wb).alloc (.cells #[.slice Ac2 (stpS m s1).1.comps.length cc2, .slice Aw2 (stpS m s1).1.wait.length cw2, .slice Al2 (stpS m s1).1.log.length cl2] 36)
      have t2 := (ua.below.block b2 (Array.getElem?_eq_some_iff.1 t2).1).trans t2
      have t3 := (ua.below.block b3 (Array.getElem?_eq_some_iff.1 t3).1).trans t3
      have t4 := (ua.below.block b4 (Array.getElem?_eq_some_iff.1 t4).1).trans t4
      have o1 := own_up r1 ua
      have o2 := own_up r2 ua
      have o3 := own_up r3 ua
      have UB := Lib.hid (ub.trans ua)
      have XB := box_of t3
      obtain ⟨d0, d1, d2⟩ := And.intro XB.k.c0 (And.intro XB.k.c1 XB.k.c2)
      have dl := XB.k.lt
      have df := XB.f
      have TT := Lib.hid (And.intro t2 (And.intro t3 t4))
      have OO := Lib.hid (And.intro o1 (And.intro o2 o3))
      have NB := Lib.hid (show b3 < wb.heap.size by have := SLT.out.2.1; omega)
      have nb : ¬ wb.heap.size = b3 := by have := NB.out; omega
      have nb2 : ¬ b3 = wb.heap.size := by have := NB.out; omega
      clear ub fr sz r1 r2 r3 t2 t3 t4 ua o1 o2 o3 XB m0 m1 m2 ml c0 c1 c2 sl F2 F3 F4 CS
      go_wp2_with fail
      have MS := ((((Up.refl (wb.alloc (.cells #[(.slice Ac2 (stpS m s1).1.comps.length cc2), (.slice Aw2 (stpS m s1).1.wait.length cw2), (.slice Al2 (stpS m s1).1.log.length cl2)] 36))).mv b3).setCell (o := 0) (.slice Ac2 (stpS m s1).1.comps.length cc2)).setCell (o := 1) (.slice Aw2 (stpS m s1).1.wait.length cw2) |>.setCell (o := 2) (.slice Al2 (stpS m s1).1.log.length cl2))
      have H3 := heap_set3 TT.out.2.1 (.slice Ac2 (stpS m s1).1.comps.length cc2) (.slice Aw2 (stpS m s1).1.wait.length cw2) (.slice Al2 (stpS m s1).1.log.length cl2)
      have N2 := (box_of H3).k.c2
      refine ⟨⟨(stpS m s1).1, (stpS m s1).2, Ac2, cc2, Aw2, cw2, Al2, cl2, rfl, ?_, ?_, MS.up UB.out (by have := HZ.out; have := NE.out; omega), (MS.block b2 (Array.getElem?_eq_some_iff.1 TT.out.1).1 NE.out.1).trans TT.out.1, (MS.block b4 (Array.getElem?_eq_some_iff.1 TT.out.2.2).1 (fun h => NE.out.2.1 h.symm)).trans TT.out.2.2, H3,
        own_keep OO.out.1 (fun x hx hl => MS.block x hl (own_off OO.out.1 TT.out.2.1 (by decide) x hx)), own_keep OO.out.2.1 (fun x hx hl => MS.block x hl (own_off OO.out.2.1 TT.out.2.1 (by decide) x hx)), own_keep OO.out.2.2 (fun x hx hl => MS.block x hl (own_off OO.out.2.2 TT.out.2.1 (by decide) x hx))⟩, ?_⟩
      · rcases hw1 : s1.wait with _ | ⟨e, r⟩
        · have : stpS m s1 = (s1, false) := by unfold stpS; rw [hw1]
          rw [this]
          exact HR1.out
        · exact HR1.out.step hw1
      · intro hf
        rcases hw1 : s1.wait with _ | ⟨e, r⟩
        · have : stpS m s1 = (s1, false) := by unfold stpS; rw [hw1]
          rw [this]
          exact hw1
        · unfold stpS at hf
          rw [hw1] at hf
          cases hf
      · have hlen := HR1.out.len
        unfold msr; rw [N2, C2.out]
        rcases hw1 : s1.wait with _ | ⟨e, r⟩
        · have : stpS m s1 = (s1, false) := by unfold stpS; rw [hw1]
          rw [this]; dsimp only
          omega
        · have h2 : (stpS m s1).2 = true := by unfold stpS; rw [hw1]
          have h3 := stpS_log (m := m) hw1
          rw [h2]; dsimp only; rw [h3]
          omega
end Go.Proofs.Ytjdoealcmokakaa

namespace Go.Proofs.Ytjdoealcmokakaa
set_option maxRecDepth 100000
open Go.RowKit
theorem zero_rowS : ∀ k : Nat, k ≤ 4 → (madeCells #[.int .i64 0, .int .i64 0, .int .i64 0] (k * 3)).toList = flat3 (List.replicate k ⟨0, 0, 0⟩) := by
  intro k hk
  have h : k = 0 ∨ k = 1 ∨ k = 2 ∨ k = 3 ∨ k = 4 := by omega
  rcases h with rfl | rfl | rfl | rfl | rfl <;> simp [madeCells, flat3, Cst.c3] <;> rfl
/-- What SeqNew gives lies in rows. -/
theorem SqRes.rows {lo : Nat} {m : Mdl} {v : Value} {w : World} (hm : mdlB m = true) (h : SqRes lo m v w) : ∃ vc vw vl, v = .agg #[vc, vw, vl] ∧ w.ownsRow lo 46 3 vc (sq0 m).comps.length (flat3 (sq0 m).comps) ∧
    w.ownsRow lo 39 6 vw (sq0 m).wait.length (flat (sq0 m).wait) ∧ w.ownsRow lo 41 7 vl (sq0 m).log.length (flat7 (sq0 m).log) := by
  obtain ⟨vc, vw, rfl, hc, hw⟩ := h
  have hf := mdlB_few hm
  rw [if_pos hm] at hc hw; rw [sq0_yes hm]; refine ⟨vc, vw, _, rfl, ?_, hw, ⟨by simp [flat7], .inl ⟨rfl, rfl⟩⟩⟩; dsimp only; rw [List.length_replicate]
  rcases hc with ⟨hk, rfl⟩ | ⟨g, rfl, hg, hh⟩
  · omega
  · refine ⟨by rw [flat3_len, List.length_replicate], .inr ⟨g, _, _, rfl, hg, hh, Nat.le_refl _, by simp only [maxLen]; omega, by simp [size_madeCells], ?_⟩⟩
    rw [← zero_rowS _ hf.2]
    exact List.take_of_length_le (by simp [size_madeCells])
theorem allR_few {m : Mdl} {N : Nat} {Z s : Sq} (h : Run m N Z s) : Z.comps.length ≤ 2000000 ∧ Z.wait.length ≤ 2000000 ∧ Z.log.length ≤ 2000000 := by
  obtain ⟨s', hs', rfl⟩ := h.ends
  have h1 := hs'.len
  have h2 := mdlB_few hs'.go.md
  have h3 := hs'.all
  omega
theorem allR_small (m : Mdl) : (allR m).comps.length ≤ 4 ∧ (allR m).wait.length ≤ 54 ∧ (allR m).log.length ≤ 54 := by
  cases hm : mdlB m
  · have : allR m = ⟨[], [], []⟩ := by unfold allR; rw [if_neg (by rw [hm]; exact Bool.false_ne_true)]
    rw [this]; simp
  · obtain ⟨s', hs', he⟩ := (run0 hm).ends
    rw [← he]
    have h1 := hs'.go.few
    have h2 := mdlB_few hs'.go.md
    have h3 := hs'.all
    omega
set_option maxHeartbeats 8000000 in
theorem specSeqAll_any (A : Option Addr) (n c : Nat) (B : Option Addr) (k d : Nat) (m : Mdl) (w : World) (hM : MdlV w A n B k m) :
    Calls Try.prog 17 #[.agg #[.slice A n c, .slice B k d, .int .i64 m.til]] w fun x w' => AllP w.heap.size (allR m) x w' ∧ Up w w' := by
  have CK := Lib.hid (fun W (u : Up w W) => specMdl_any A n c B k d m W (hM.up u))
  have CN := Lib.hid (fun W (u : Up w W) => specSeqNew_any A n c B k d m W (hM.up u))
  have HM := Lib.hid hM
  have B1 := Box3.new w (.slice A n c) (.slice B k d) (.int .i64 m.til) 26
  have B2 := BoxF.new (w.alloc (.cells #[.slice A n c, .slice B k d, .int .i64 m.til] 26)) (.slice none 0 0) (.slice none 0 0) (.slice none 0 0) 36
  simp only [World.size_alloc] at B2
  have U0 := Lib.hid (((Up.refl w).alloc (.cells #[.slice A n c, .slice B k d, .int .i64 m.til] 26)).alloc (.cells #[.slice none 0 0, .slice none 0 0, .slice none 0 0] 36))
  have B1 := Lib.hid (B1.up ((Up.refl _).alloc (.cells #[.slice none 0 0, .slice none 0 0, .slice none 0 0] 36)))
  have B2 := Lib.hid B2
  clear hM
  go_enter Try.func17, Try.ntmps17
  go_wp2_with fail
  generalize (w.alloc (.cells #[.slice A n c, .slice B k d, .int .i64 m.til] 26)).alloc (.cells #[.slice none 0 0, .slice none 0 0, .slice none 0 0] 36) = W at *
  generalize hb2 : w.heap.size + 1 = b2 at *
  have HB2 := Lib.hid (show w.heap.size ≤ b2 by omega)
  have HB3 := Lib.hid (show w.heap.size ≠ b2 by omega)
  clear hb2; refine (CK.out _ U0.out).mono ?_; rintro x w3 ⟨rfl, u1⟩
  have U1 := Lib.hid (U0.out.trans u1)
  have B1 := Lib.hid (B1.out.up u1)
  have B2 := Lib.hid (B2.out.up u1)
  clear u1 CK
  cases hm : mdlB m
  · have RE := Lib.hid (show allR m = ⟨[], [], []⟩ by unfold allR; rw [if_neg (by rw [hm]; exact Bool.false_ne_true)])
    obtain ⟨q0, q1, q2⟩ := And.intro B2.out.k.c0 (And.intro B2.out.k.c1 B2.out.k.c2)
    have bl := B2.out.k.lt
    have bf := B2.out.f
    have LB := B2.out.laid (.slice none 0 0) (.slice none 0 0) (.slice none 0 0)
    obtain ⟨k0, k1, k2⟩ := And.intro LB.c0 (And.intro LB.c1 LB.c2)
    have UE := Lib.hid (((U1.out.setCell (p := ⟨b2, 0, none⟩) HB2.out (.slice none 0 0)).setCell (p := ⟨b2, 1, none⟩) HB2.out (.slice none 0 0)).setCell (p := ⟨b2, 2, none⟩) HB2.out (.slice none 0 0))
    clear hm LB; go_wp2
    exact bodyPost_ret (v := .agg #[.slice none 0 0, .slice none 0 0, .slice none 0 0]) (by simp [results, Try.results17, go_sem, k0, k1, k2]) rfl ⟨by rw [RE.out]; exact ⟨none, 0, none, 0, none, 0, rfl, SqW.none_ _ _, Nat.le_refl _, by omega⟩, UE.out⟩
  · have HR := Lib.hid (run0 hm)
    have FEWZ := Lib.hid (allR_few (run0 hm))
    have ROW := Lib.hid (fun lo v w (h : SqRes lo m v w) => h.rows hm)
    generalize sq0 m = s0 at *
    generalize hZ : allR m = Z at *
    have HZ := Lib.hid hZ
    clear hm hZ
    go_wp2_with fail
    refine region_mixH (fun W' => Box3 W' w.heap.size (.slice A n c) (.slice B k d) (.int .i64 m.til)) [(0, true), (1, true), (2, false), (3, false), (4, false), (5, false)] (by kernel_rfl) (by kernel_rfl) (B1.out.up (Up.refl _).drew) ?_; refine mixH_take rfl (by rfl) ?_; apply Exists.intro; refine ⟨fun w1 hS1 => ?_, ?_⟩
    · obtain ⟨q0, q1, q2⟩ := And.intro hS1.c0 (And.intro hS1.c1 hS1.c2)
      clear hS1; go_simp
      try rfl
    go_simp; refine mixH_take rfl (by rfl) ?_; apply Exists.intro; refine ⟨fun w1 hS1 => ?_, ?_⟩
    · obtain ⟨q0, q1, q2⟩ := And.intro hS1.c0 (And.intro hS1.c1 hS1.c2)
      clear hS1; go_simp
      try rfl
    go_simp; refine mixH_go rfl (by rfl) (fun K hK => ?_); go_simp; refine (CN.out _ (U1.out.trans (Up.refl w3).drew)).mono ?_; rintro x wa ⟨v, rfl, hres, ua⟩; obtain ⟨vc, vw, vl, rfl, r1, r2, r3⟩ := ROW.out _ _ _ hres
    have Sa : Up w3 wa := (Up.refl w3).drew.trans ua
    refine hK _ _ (B1.out.up Sa) ?_; clear hK K hres ua; go_simp; refine mixH_go rfl (by rfl) (fun K hK => ?_); go_simp; refine (specAllL_any A n c B k d m w3.heap.size 54 Z s0 vc vw vl w3 wa (HM.out.up U1.out) Sa (Nat.le_refl _) HR.out r1 r2 r3 Sa.size).mono ?_; rintro x wb ⟨ub, vc2, vw2, vl2, rfl, o1, o2, o3⟩; obtain ⟨-, Ac2, cc2, rfl, -, -⟩ := own3_slice o1; obtain ⟨-, Aw2, cw2, rfl, -, -⟩ := own_slice o2; obtain ⟨-, Al2, cl2, rfl, -, -⟩ := own7_slice o3; refine hK _ _ (B1.out.up ub) ?_; clear hK K Sa r1 r2 r3; go_simp; refine mixH_go rfl (by rfl) (fun K hK => ?_); go_simp; refine (specCopy_any Ac2 _ cc2 Aw2 _ cw2 Al2 _ cl2 Z wb ⟨own3_csts o1, own_evs o2, own7_recs o3⟩ FEWZ.out).mono ?_
    rintro x wc ⟨⟨v, rfl, h3⟩, uc⟩; obtain ⟨A1, c1, A2, c2, A3, c3, rfl, p1, p2, p3⟩ := h3
    have Sc : Up w3 wc := ub.trans uc
    refine hK _ _ (B1.out.up Sc) ?_; clear hK K o1 o2 o3; go_simp
    have XB := B2.out.up Sc
    obtain ⟨q0, q1, q2⟩ := And.intro XB.k.c0 (And.intro XB.k.c1 XB.k.c2)
    have bl := XB.k.lt
    have bf := XB.f
    have LB := XB.laid (.slice A1 Z.comps.length c1) (.slice A2 Z.wait.length c2) (.slice A3 Z.log.length c3)
    obtain ⟨k0, k1, k2⟩ := And.intro LB.c0 (And.intro LB.c1 LB.c2)
    have MX := ((((Up.refl wc).mv b2).setCell (o := 0) (.slice A1 Z.comps.length c1)).setCell (o := 1) (.slice A2 Z.wait.length c2) |>.setCell (o := 2) (.slice A3 Z.log.length c3))
    have BLT : b2 < wb.heap.size := Nat.lt_of_lt_of_le B2.out.k.lt ub.size
    have UE := Lib.hid (MX.up (U1.out.trans Sc) HB2.out)
    have WL : w.heap.size ≤ wb.heap.size := Nat.le_trans U1.out.size ub.size
    have Q1 := own_mono (own_keep p1 (fun x hx hl => MX.block x hl (by have := (own_ge p1 x hx).1; omega))) WL
    have Q2 := own_mono (own_keep p2 (fun x hx hl => MX.block x hl (by have := (own_ge p2 x hx).1; omega))) WL
    have Q3 := own_mono (own_keep p3 (fun x hx hl => MX.block x hl (by have := (own_ge p3 x hx).1; omega))) WL
    have RES := Lib.hid (And.intro (sqw_rows Q1 Q2 Q3) (cap7 Q3))
    refine mixH_go rfl (by rfl) (fun K hK => ?_); go_simp; refine hK _ _ ((B1.out.up Sc).keepB MX.size (MX.block w.heap.size (B1.out.up Sc).lt (by have := HB3.out; omega))) ?_; clear hK K; refine mixH_nil ?_; clear XB LB MX Q1 Q2 Q3 p1 p2 p3 ub uc Sc q0 q1 q2 bl bf; go_wp2
    exact bodyPost_ret (v := .agg #[(.slice A1 Z.comps.length c1), (.slice A2 Z.wait.length c2), (.slice A3 Z.log.length c3)]) (by simp [results, Try.results17, go_sem, k0, k1, k2]) rfl ⟨by
      first | rw [HZ.out] | skip
      exact ⟨A1, c1, A2, c2, A3, c3, rfl, RES.out⟩, UE.out⟩
end Go.Proofs.Ytjdoealcmokakaa

namespace Go.Proofs.Ytjdoealcmokakaa
set_option maxRecDepth 100000
open Go.RowKit
set_option maxHeartbeats 8000000 in
theorem implSeqOk_any (A : Option Addr) (n c : Nat) (B : Option Addr) (k d : Nat) (m : Mdl) (Ac : Option Addr) (nc cc : Nat) (Aw : Option Addr) (nw cw : Nat) (Al : Option Addr) (nl cl : Nat) (s : Sq) (w : World) (hM : MdlV w A n B k m) (hS : ShortSq nc nw nl) (hV : SqV w Ac nc Aw nw Al nl s) :
    Calls Try.prog 19 #[.agg #[.slice A n c, .slice B k d, .int .i64 m.til], .agg #[.slice Ac nc cc, .slice Aw nw cw, .slice Al nl cl]] w fun x w' => x = .returned (.bool (sqS m n nc s)) ∧ Up w w' := by
  have RB := Lib.hid (show sqS m n nc s = (mdlB m && fitB m.rules.length m.til nc s) by rw [hM.rules.1]; exact sqS_fit m n nc s)
  have CM := Lib.hid (fun W (u : Up w W) => newMachine_any A n c B k d m W (hM.up u))
  have CF := Lib.hid (fun mp W (u : Up w W) => fits_any mp m.rules.length m.til Ac nc cc Aw nw cw Al nl cl s W hS (hV.up u))
  generalize sqS m n nc s = res at RB ⊢
  generalize fitB m.rules.length m.til nc s = g at RB CF
  have B1 := Box3.new (w.alloc (.cells #[.slice A n c, .slice B k d, .int .i64 m.til] 26)) (.slice Ac nc cc) (.slice Aw nw cw) (.slice Al nl cl) 36
  simp only [World.size_alloc] at B1
  have U0 := Lib.hid (((Up.refl w).alloc (.cells #[.slice A n c, .slice B k d, .int .i64 m.til] 26)).alloc (.cells #[.slice Ac nc cc, .slice Aw nw cw, .slice Al nl cl] 36))
  have B1 := Lib.hid B1
  clear hM hV hS; unfold MachPost at CM
  go_enter Try.func19, Try.ntmps19
  go_wp2_with fail
  generalize (w.alloc (.cells #[.slice A n c, .slice B k d, .int .i64 m.til] 26)).alloc (.cells #[.slice Ac nc cc, .slice Aw nw cw, .slice Al nl cl] 36) = W at *
  generalize hb1 : w.heap.size + 1 = b1 at *
  clear hb1; refine (CM.out _ U0.out).mono ?_; rintro x w1 ⟨u1, h⟩
  have U1 := Lib.hid (U0.out.trans u1)
  have B1 := Lib.hid (B1.out.up u1)
  clear u1 CM
  rcases h with ⟨hm, rfl⟩ | ⟨hm, b, rfl, _, _⟩
  · have RT := Lib.hid (show res = false by rw [RB.out, hm]; rfl)
    have UE := Lib.hid (U1.out.alloc (.cells #[.map none, .int .i64 0, .int .i64 0] 71))
    clear hm RB; go_wp2; go_ret
    exact ⟨ret_bool (by rw [RT.out]), UE.out⟩
  · have RT := Lib.hid (show res = g by rw [RB.out, hm]; rfl)
    have ua := (Up.refl w1).alloc (.cells #[.map (some b), .int .i64 m.rules.length, .int .i64 m.til] 71)
    have B1 := Lib.hid (B1.out.up ua)
    have U1 := Lib.hid (U1.out.trans ua)
    obtain ⟨p0, p1, p2⟩ := And.intro B1.out.c0 (And.intro B1.out.c1 B1.out.c2); clear hm RB ua
    go_wp2_with fail
    refine (CF.out (some b) _ U1.out).mono ?_; rintro x w2 ⟨rfl, u2⟩
    have UE := Lib.hid (U1.out.trans u2)
    clear u2; go_wp2; go_ret
    exact ⟨ret_bool (by rw [RT.out]), UE.out⟩
end Go.Proofs.Ytjdoealcmokakaa

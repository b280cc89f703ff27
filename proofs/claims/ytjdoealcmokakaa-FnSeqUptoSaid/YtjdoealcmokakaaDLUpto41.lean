/-
  What spec.l3All does, in one sentence: steps till nothing waits; for every simulator of the call's own whose parts are valid.
  What spec.SeqAll returns, in one sentence: the last simulator of the model, or zero values; for every model that lies in memory.
  The records ahead of a time, in one sentence: in a log whose times do not fall they are its beginning; what is done of a model is such a log; no condition is made.
  What sort.Search finds in a log, in one sentence: an index ahead of which a record is earlier than the time, and at which none is; for every log that lies in memory.
-/
import Derived.Test.YtjdoealcmokakaaDLUpto02
import Derived.Test.YtjdoealcmokakaaDLUpto15
import Derived.Test.YtjdoealcmokakaaDLUpto17
import Derived.Test.YtjdoealcmokakaaDLUpto24
import Derived.Test.YtjdoealcmokakaaDLUpto39
import Derived.Test.YtjdoealcmokakaaDLUpto40
namespace Go.Proofs.Ytjdoealcmokakaa
set_option maxRecDepth 100000
open Go.RowKit
theorem specL3_go (A : Option Addr) (an ac : Nat) (B : Option Addr) (bk bd : Nat) (m : Mdl) (lo N : Nat) (Z s : Sq) (vc vw vl : Value) (z w : World) (hM : MdlV z A an B bk m) (hU : Up z w) (hz : z.heap.size ≤ lo) (hR : Run m N Z s)
    (hc : w.ownsRow lo 46 3 vc s.comps.length (flat3 s.comps)) (hw : w.ownsRow lo 39 6 vw s.wait.length (flat s.wait)) (hl : w.ownsRow lo 41 7 vl s.log.length (flat7 s.log)) (hlo : lo ≤ w.heap.size) :
    Calls Try.prog 54 #[.agg #[.slice A an ac, .slice B bk bd, .int .i64 m.til], .agg #[vc, vw, vl]] w (L3F lo (stpS m s) z w vc vl) := by
  have hln := hR.len
  unfold L3F stpS
  rcases hs : s.wait with _ | ⟨e, r⟩
  · obtain ⟨-, Ac, cc, rfl, -, -⟩ := own3_slice hc
    obtain ⟨-, Al, cl, rfl, -, -⟩ := own7_slice hl; rw [hs] at hw; obtain ⟨-, Aw, cw, rfl, -, -⟩ := own_slice hw; refine (specL3_none _ _ _ Aw cw A an ac B bk bd m.til rfl Ac Al _ cc _ cl rfl rfl w).mono ?_; rintro x w' ⟨rfl, u⟩; refine ⟨hU.trans u, fun b h1 _ _ => u.below.block b h1, u.size, _, _, _, rfl, own_up hc u, ?_, own_up hl u⟩; dsimp only; rw [hs]
    exact own_up hw u
  · obtain ⟨hok, hto, _⟩ := hR.go.may hs
    have hd := doE_len (c := s.comps.getD e.to.toNat default) (e := e) hR.go.md
    rw [hs] at hw; rw [hs, List.length_cons] at hln; refine (specL3_any A an ac B bk bd m lo s.comps.length s.log.length r.length s.comps e r s.log vc vw vl z w hM hU hz hc hw hl hlo (by rw [hR.all]; exact hto) hok (by omega) (by omega) (by omega)).mono ?_; rintro x w' ⟨u, fr, sz, vc', vw', vl', rfl, o1, o2, o3⟩; refine ⟨u, fr, sz, vc', vw', vl', rfl, ?_, ?_, ?_⟩
    · dsimp only
      rw [List.length_set]
      exact o1
    · dsimp only
      rw [insAll_len, Nat.add_comm]
      exact o2
    · dsimp only
      rw [List.length_append]
      exact o3
theorem box_of {w : World} {b t : Nat} {x y z : Value} (h : w.heap[b]? = some (.cells #[x, y, z] t)) : BoxF w b x y z :=
  ⟨⟨(Array.getElem?_eq_some_iff.1 h).1, by rw [cell_of_row _ _ 0 _ _ _ h]; rfl, by rw [cell_of_row _ _ 1 _ _ _ h]; rfl, by rw [cell_of_row _ _ 2 _ _ _ h]; rfl⟩, fun j => by unfold World.frozen?; rw [h]; simp⟩
theorem heap_set3 {w : World} {b t : Nat} {x0 y0 z0 : Value} (h : w.heap[b]? = some (.cells #[x0, y0, z0] t)) (x y z : Value) : (((w.setCell ⟨b, 0, none⟩ x).setCell ⟨b, 1, none⟩ y).setCell ⟨b, 2, none⟩ z).heap[b]? = some (.cells #[x, y, z] t) :=
  heap_setC _ b 2 z (heap_setC _ b 1 y (heap_setC _ b 0 x h))
def msr (v : Value) (w : World) (b : Nat) : Nat := (match v with | .bool true => 1 | _ => 0) + (2000000 - (match w.cell? ⟨b, 2, none⟩ with | some (.slice _ n _) => n | _ => 0))
/-- The reference on its way. -/
def AlS (lo N b2 b3 b4 : Nat) (A : Option Addr) (an ac : Nat) (B : Option Addr) (bk bd : Nat) (m : Mdl) (Z : Sq) (z : World) (v : Value) (w : World) : Prop :=
  ∃ (s : Sq) (bb : Bool) (Ac : Option Addr) (cc : Nat) (Aw : Option Addr) (cw : Nat) (Al : Option Addr) (cl : Nat), v = .bool bb ∧ Run m N Z s ∧ (bb = false → s.wait = []) ∧ Up z w ∧ w.heap[b2]? = some (.cells #[.slice A an ac, .slice B bk bd, .int .i64 m.til] 26) ∧ w.heap[b4]? = some (.cells #[.slice none 0 0, .slice none 0 0, .slice none 0 0] 36) ∧
    w.heap[b3]? = some (.cells #[.slice Ac s.comps.length cc, .slice Aw s.wait.length cw, .slice Al s.log.length cl] 36) ∧ w.ownsRow lo 46 3 (.slice Ac s.comps.length cc) s.comps.length (flat3 s.comps) ∧
    w.ownsRow lo 39 6 (.slice Aw s.wait.length cw) s.wait.length (flat s.wait) ∧ w.ownsRow lo 41 7 (.slice Al s.log.length cl) s.log.length (flat7 s.log)
/-- What the reference leaves in the end. -/
def L3A (lo : Nat) (Z : Sq) (z : World) (x : Ending) (w' : World) : Prop :=
  Up z w' ∧ ∃ vc vw vl, x = .returned (.agg #[vc, vw, vl]) ∧ w'.ownsRow lo 46 3 vc Z.comps.length (flat3 Z.comps) ∧ w'.ownsRow lo 39 6 vw Z.wait.length (flat Z.wait) ∧ w'.ownsRow lo 41 7 vl Z.log.length (flat7 Z.log)
set_option maxHeartbeats 8000000 in
theorem specAllL_any (A : Option Addr) (an ac : Nat) (B : Option Addr) (bk bd : Nat) (m : Mdl) (lo N : Nat) (Z s : Sq) (vc vw vl : Value) (z w : World) (hM : MdlV z A an B bk m) (hU : Up z w) (hz : z.heap.size ≤ lo) (hR : Run m N Z s)
    (hc : w.ownsRow lo 46 3 vc s.comps.length (flat3 s.comps)) (hw : w.ownsRow lo 39 6 vw s.wait.length (flat s.wait)) (hl : w.ownsRow lo 41 7 vl s.log.length (flat7 s.log)) (hlo : lo ≤ w.heap.size) :
    Calls Try.prog 46 #[.agg #[.slice A an ac, .slice B bk bd, .int .i64 m.til], .agg #[vc, vw, vl]] w (L3A lo Z z) := by
  obtain ⟨-, Ac, cc, rfl, -, -⟩ := own3_slice hc; obtain ⟨-, Aw, cw, rfl, -, -⟩ := own_slice hw; obtain ⟨-, Al, cl, rfl, -, -⟩ := own7_slice hl
  have CL := Lib.hid (fun s vc vw vl W (u : Up z W) hR h1 h2 h3 h4 => specL3_go A an ac B bk bd m lo N Z s vc vw vl z W hM u hz hR h1 h2 h3 h4)
  unfold L3F at CL
  have ua := (((Up.refl w).alloc (.cells #[.slice A an ac, .slice B bk bd, .int .i64 m.til] 26)).alloc (.cells #[.slice Ac s.comps.length cc, .slice Aw s.wait.length cw, .slice Al s.log.length cl] 36)).alloc (.cells #[.slice none 0 0, .slice none 0 0, .slice none 0 0] 36)
  have T2 : ((((w.alloc (.cells #[.slice A an ac, .slice B bk bd, .int .i64 m.til] 26)).alloc (.cells #[.slice Ac s.comps.length cc, .slice Aw s.wait.length cw, .slice Al s.log.length cl] 36)).alloc (.cells #[.slice none 0 0, .slice none 0 0, .slice none 0 0] 36))).heap[w.heap.size]? = some (.cells #[.slice A an ac, .slice B bk bd, .int .i64 m.til] 26) := (((Up.refl (w.alloc (.cells #[.slice A an ac, .slice B bk bd, .int .i64 m.til] 26))).alloc (.cells #[.slice Ac s.comps.length cc, .slice Aw s.wait.length cw, .slice Al s.log.length cl] 36)).alloc (.cells #[.slice none 0 0, .slice none 0 0, .slice none 0 0] 36)).below.block _ (by simp) |>.trans (heap_alloc_new w _)
  have T3 : ((((w.alloc (.cells #[.slice A an ac, .slice B bk bd, .int .i64 m.til] 26)).alloc (.cells #[.slice Ac s.comps.length cc, .slice Aw s.wait.length cw, .slice Al s.log.length cl] 36)).alloc (.cells #[.slice none 0 0, .slice none 0 0, .slice none 0 0] 36))).heap[w.heap.size + 1]? = some (.cells #[.slice Ac s.comps.length cc, .slice Aw s.wait.length cw, .slice Al s.log.length cl] 36) := ((Up.refl ((w.alloc (.cells #[.slice A an ac, .slice B bk bd, .int .i64 m.til] 26)).alloc (.cells #[.slice Ac s.comps.length cc, .slice Aw s.wait.length cw, .slice Al s.log.length cl] 36))).alloc (.cells #[.slice none 0 0, .slice none 0 0, .slice none 0 0] 36)).below.block _ (by simp) |>.trans (by have := heap_alloc_new (w.alloc (.cells #[.slice A an ac, .slice B bk bd, .int .i64 m.til] 26)) (.cells #[.slice Ac s.comps.length cc, .slice Aw s.wait.length cw, .slice Al s.log.length cl] 36); simpa only [World.size_alloc] using this)
  have T4 : ((((w.alloc (.cells #[.slice A an ac, .slice B bk bd, .int .i64 m.til] 26)).alloc (.cells #[.slice Ac s.comps.length cc, .slice Aw s.wait.length cw, .slice Al s.log.length cl] 36)).alloc (.cells #[.slice none 0 0, .slice none 0 0, .slice none 0 0] 36))).heap[w.heap.size + 1 + 1]? = some (.cells #[.slice none 0 0, .slice none 0 0, .slice none 0 0] 36) := by have := heap_alloc_new ((w.alloc (.cells #[.slice A an ac, .slice B bk bd, .int .i64 m.til] 26)).alloc (.cells #[.slice Ac s.comps.length cc, .slice Aw s.wait.length cw, .slice Al s.log.length cl] 36)) (.cells #[.slice none 0 0, .slice none 0 0, .slice none 0 0] 36); simpa only [World.size_alloc] using this
  have ST := Lib.hid (show AlS lo N w.heap.size (w.heap.size + 1) (w.heap.size + 1 + 1) A an ac B bk bd m Z z (.bool true) _ from ⟨s, true, Ac, cc, Aw, cw, Al, cl, rfl, hR, (fun h => by cases h), hU.trans ua, T2, T4, T3, own_up hc ua, own_up hw ua, own_up hl ua⟩)
  have HZ := Lib.hid (And.intro hz hlo)
  clear T2 T3 T4 ua hM hU hz hR hc hw hl hlo; unfold L3A
  go_enter Try.func46, Try.ntmps46
  go_wp2_with fail
  generalize ((w.alloc (.cells #[.slice A an ac, .slice B bk bd, .int .i64 m.til] 26)).alloc (.cells #[.slice Ac s.comps.length cc, .slice Aw s.wait.length cw, .slice Al s.log.length cl] 36)).alloc (.cells #[.slice none 0 0, .slice none 0 0, .slice none 0 0] 36) = W at *
  generalize hb4 : w.heap.size + 1 + 1 = b4 at *
  generalize hb3 : w.heap.size + 1 = b3 at *
  generalize hb2 : w.heap.size = b2 at *
  have NE := Lib.hid (show b2 ≠ b3 ∧ b3 ≠ b4 ∧ b2 ≠ b4 ∧ lo ≤ b2 ∧ lo ≤ b3 ∧ lo ≤ b4 by have := HZ.out; omega)
  clear hb4 hb3 hb2
  go_loopw [5] (fun v wr => AlS lo N b2 b3 b4 A an ac B bk bd m Z z v wr) (fun v wr => msr v wr b3)
  case atStart => exact ST.out
  case round =>
    obtain ⟨s1, bb, Ac1, cc1, Aw1, cw1, Al1, cl1, rfl, hR1, hb, hu, t2, t4, t3, o1, o2, o3⟩ := hrel
    cases bb
    · have hw0 := hb rfl
      have hzz := hR1.done hw0
      subst hzz
      have XB := box_of t3
      have XR := box_of t4
      obtain ⟨c0, c1, c2⟩ := And.intro XB.k.c0 (And.intro XB.k.c1 XB.k.c2)
      have sl := XB.k.lt
      obtain ⟨q0, q1, q2⟩ := And.intro XR.k.c0 (And.intro XR.k.c1 XR.k.c2)
      have rl := XR.k.lt
      have rf := XR.f
      have LR := XR.laid (.slice Ac1 s1.comps.length cc1) (.slice Aw1 s1.wait.length cw1) (.slice Al1 s1.log.length cl1)
      obtain ⟨k0, k1, k2⟩ := And.intro LR.c0 (And.intro LR.c1 LR.c2)
      have MR := ((((Up.refl wr).mv b4).setCell (o := 0) (.slice Ac1 s1.comps.length cc1)).setCell (o := 1) (.slice Aw1 s1.wait.length cw1) |>.setCell (o := 2) (.slice Al1 s1.log.length cl1))
      have UE := Lib.hid (MR.up hu (by have := HZ.out; have := NE.out; omega))
      have Q1 := Lib.hid (own_keep o1 (fun x hx hl => MR.block x hl (own_off o1 t4 (by decide) x hx)))
      have Q2 := Lib.hid (own_keep o2 (fun x hx hl => MR.block x hl (own_off o2 t4 (by decide) x hx)))
      have Q3 := Lib.hid (own_keep o3 (fun x hx hl => MR.block x hl (own_off o3 t4 (by decide) x hx)))
      have ne34 : ¬ b3 = b4 := NE.out.2.1
      have ne43 : ¬ b4 = b3 := fun h => NE.out.2.1 h.symm
      clear XB XR LR MR hR1 hb hu t2 t4 t3 o1 o2 o3 hw0; go_wp2
      exact bodyPost_ret (v := .agg #[.slice Ac1 s1.comps.length cc1, .slice Aw1 s1.wait.length cw1, .slice Al1 s1.log.length cl1]) (by simp [results, Try.results46, go_sem, k0, k1, k2]) rfl ⟨UE.out, _, _, _, rfl, Q1.out, Q2.out, Q3.out⟩
    · have XM := box_of t2
      have XB := box_of t3
      obtain ⟨m0, m1, m2⟩ := And.intro XM.k.c0 (And.intro XM.k.c1 XM.k.c2)
      have ml := XM.k.lt
      obtain ⟨c0, c1, c2⟩ := And.intro XB.k.c0 (And.intro XB.k.c1 XB.k.c2)
      have sl := XB.k.lt
      have CS := Lib.hid (CL.out s1 _ _ _ wr hu hR1 o1 o2 o3 (by have := NE.out; have := ml; omega))
      have F2 := Lib.hid (And.intro (own_off o1 t2 (by decide)) (own_off o3 t2 (by decide)))
      have F3 := Lib.hid (And.intro (own_off o1 t3 (by decide)) (own_off o3 t3 (by decide)))
      have F4 := Lib.hid (And.intro (own_off o1 t4 (by decide)) (own_off o3 t4 (by decide)))
      have TT := Lib.hid (And.intro t2 (And.intro t3 t4))
      have HR1 := Lib.hid hR1
      have C2 := Lib.hid XB.k.c2
      have SLT := Lib.hid (And.intro ml (And.intro sl (box_of t4).k.lt))
      clear XM XB hR1 hb hu t2 t3 t4 o1 o2 o3
      go_wp2_with fail
      refine CS.out.mono ?_; rintro x wb ⟨ub, fr, sz, vc', vw', vl', rfl, r1, r2, r3⟩; obtain ⟨-, Ac2, cc2, rfl, -, -⟩ := own3_slice r1; obtain ⟨-, Aw2, cw2, rfl, -, -⟩ := own_slice r2; obtain ⟨-, Al2, cl2, rfl, -, -⟩ := own7_slice r3
      have t2 := (fr b2 SLT.out.1 F2.out.1 F2.out.2).trans TT.out.1
      have t3 := (fr b3 SLT.out.2.1 F3.out.1 F3.out.2).trans TT.out.2.1
      have t4 := (fr b4 SLT.out.2.2 F4.out.1 F4.out.2).trans TT.out.2.2
      have ua := (Up.refl wb).alloc (.cells #[.slice Ac2 (stpS m s1).1.comps.length cc2, .slice Aw2 (stpS m s1).1.wait.length cw2, .slice Al2 (stpS m s1).1.log.length cl2] 36)
      have t2 := (ua.below.block b2 (Array.getElem?_eq_some_iff.1 t2).1).trans t2
      have t3 := (ua.below.block b3 (Array.getElem?_eq_some_iff.1 t3).1).trans t3
      have t4 := (ua.below.block b4 (Array.getElem?_eq_some_iff.1 t4).1).trans t4
      have o1 := own_up r1 ua
      have o2 := own_up r2 ua
      have o3 := own_up r3 ua
      have UB := Lib.hid (ub.trans ua)
      have XB := box_of t3
      obtain ⟨d0, d1, d2⟩ := And.intro XB.k.c0 (And.intro XB.k.c1 XB.k.c2)
      have dl := XB.k.lt
      have df := XB.f
      have TT := Lib.hid (And.intro t2 (And.intro t3 t4))
      have OO := Lib.hid (And.intro o1 (And.intro o2 o3))
      have NB := Lib.hid (show b3 < wb.heap.size by have := SLT.out.2.1; omega)
      have nb : ¬ wb.heap.size = b3 := by have := NB.out; omega
      have nb2 : ¬ b3 = wb.heap.size := by have := NB.out; omega
      clear ub fr sz r1 r2 r3 t2 t3 t4 ua o1 o2 o3 XB m0 m1 m2 ml c0 c1 c2 sl F2 F3 F4 CS
      go_wp2_with fail
      have MS := ((((Up.refl (wb.alloc (.cells #[(.slice Ac2 (stpS m s1).1.comps.length cc2), (.slice Aw2 (stpS m s1).1.wait.length cw2), (.slice Al2 (stpS m s1).1.log.length cl2)] 36))).mv b3).setCell (o := 0) (.slice Ac2 (stpS m s1).1.comps.length cc2)).setCell (o := 1) (.slice Aw2 (stpS m s1).1.wait.length cw2) |>.setCell (o := 2) (.slice Al2 (stpS m s1).1.log.length cl2))
      have H3 := heap_set3 TT.out.2.1 (.slice Ac2 (stpS m s1).1.comps.length cc2) (.slice Aw2 (stpS m s1).1.wait.length cw2) (.slice Al2 (stpS m s1).1.log.length cl2)
      have N2 := (box_of H3).k.c2
      refine ⟨⟨(stpS m s1).1, (stpS m s1).2, Ac2, cc2, Aw2, cw2, Al2, cl2, rfl, ?_, ?_, MS.up UB.out (by have := HZ.out; have := NE.out; omega), (MS.block b2 (Array.getElem?_eq_some_iff.1 TT.out.1).1 NE.out.1).trans TT.out.1, (MS.block b4 (Array.getElem?_eq_some_iff.1 TT.out.2.2).1 (fun h => NE.out.2.1 h.symm)).trans TT.out.2.2, H3,
        own_keep OO.out.1 (fun x hx hl => MS.block x hl (own_off OO.out.1 TT.out.2.1 (by decide) x hx)), own_keep OO.out.2.1 (fun x hx hl => MS.block x hl (own_off OO.out.2.1 TT.out.2.1 (by decide) x hx)), own_keep OO.out.2.2 (fun x hx hl => MS.block x hl (own_off OO.out.2.2 TT.out.2.1 (by decide) x hx))⟩, ?_⟩
      · rcases hw1 : s1.wait with _ | ⟨e, r⟩
        · have : stpS m s1 = (s1, false) := by unfold stpS; rw [hw1]
          rw [this]
          exact HR1.out
        · exact HR1.out.step hw1
      · intro hf
        rcases hw1 : s1.wait with _ | ⟨e, r⟩
        · have : stpS m s1 = (s1, false) := by unfold stpS; rw [hw1]
          rw [this]
          exact hw1
        · unfold stpS at hf
          rw [hw1] at hf
          cases hf
      · have hlen := HR1.out.len
        unfold msr; rw [N2, C2.out]
        rcases hw1 : s1.wait with _ | ⟨e, r⟩
        · have : stpS m s1 = (s1, false) := by unfold stpS; rw [hw1]
          rw [this]; dsimp only
          omega
        · have h2 : (stpS m s1).2 = true := by unfold stpS; rw [hw1]
          have h3 := stpS_log (m := m) hw1
          rw [h2]; dsimp only; rw [h3]
          omega
end Go.Proofs.Ytjdoealcmokakaa

namespace Go.Proofs.Ytjdoealcmokakaa
set_option maxRecDepth 100000
open Go.RowKit
theorem zero_rowS : ∀ k : Nat, k ≤ 4 → (madeCells #[.int .i64 0, .int .i64 0, .int .i64 0] (k * 3)).toList = flat3 (List.replicate k ⟨0, 0, 0⟩) := by
  intro k hk
  have h : k = 0 ∨ k = 1 ∨ k = 2 ∨ k = 3 ∨ k = 4 := by omega
  rcases h with rfl | rfl | rfl | rfl | rfl <;> simp [madeCells, flat3, Cst.c3] <;> rfl
/-- What SeqNew gives lies in rows. -/
theorem SqRes.rows {lo : Nat} {m : Mdl} {v : Value} {w : World} (hm : mdlB m = true) (h : SqRes lo m v w) : ∃ vc vw vl, v = .agg #[vc, vw, vl] ∧ w.ownsRow lo 46 3 vc (sq0 m).comps.length (flat3 (sq0 m).comps) ∧
    w.ownsRow lo 39 6 vw (sq0 m).wait.length (flat (sq0 m).wait) ∧ w.ownsRow lo 41 7 vl (sq0 m).log.length (flat7 (sq0 m).log) := by
  obtain ⟨vc, vw, rfl, hc, hw⟩ := h
  have hf := mdlB_few hm
  rw [if_pos hm] at hc hw; rw [sq0_yes hm]; refine ⟨vc, vw, _, rfl, ?_, hw, ⟨by simp [flat7], .inl ⟨rfl, rfl⟩⟩⟩; dsimp only; rw [List.length_replicate]
  rcases hc with ⟨hk, rfl⟩ | ⟨g, rfl, hg, hh⟩
  · omega
  · refine ⟨by rw [flat3_len, List.length_replicate], .inr ⟨g, _, _, rfl, hg, hh, Nat.le_refl _, by simp only [maxLen]; omega, by simp [size_madeCells], ?_⟩⟩
    rw [← zero_rowS _ hf.2]
    exact List.take_of_length_le (by simp [size_madeCells])
theorem allR_few {m : Mdl} {N : Nat} {Z s : Sq} (h : Run m N Z s) : Z.comps.length ≤ 2000000 ∧ Z.wait.length ≤ 2000000 ∧ Z.log.length ≤ 2000000 := by
  obtain ⟨s', hs', rfl⟩ := h.ends
  have h1 := hs'.len
  have h2 := mdlB_few hs'.go.md
  have h3 := hs'.all
  omega
theorem allR_small (m : Mdl) : (allR m).comps.length ≤ 4 ∧ (allR m).wait.length ≤ 54 ∧ (allR m).log.length ≤ 54 := by
  cases hm : mdlB m
  · have : allR m = ⟨[], [], []⟩ := by unfold allR; rw [if_neg (by rw [hm]; exact Bool.false_ne_true)]
    rw [this]; simp
  · obtain ⟨s', hs', he⟩ := (run0 hm).ends
    rw [← he]
    have h1 := hs'.go.few
    have h2 := mdlB_few hs'.go.md
    have h3 := hs'.all
    omega
set_option maxHeartbeats 8000000 in
theorem specSeqAll_any (A : Option Addr) (n c : Nat) (B : Option Addr) (k d : Nat) (m : Mdl) (w : World) (hM : MdlV w A n B k m) :
    Calls Try.prog 17 #[.agg #[.slice A n c, .slice B k d, .int .i64 m.til]] w fun x w' => AllP w.heap.size (allR m) x w' ∧ Up w w' := by
  have CK := Lib.hid (fun W (u : Up w W) => specMdl_any A n c B k d m W (hM.up u))
  have CN := Lib.hid (fun W (u : Up w W) => specSeqNew_any A n c B k d m W (hM.up u))
  have HM := Lib.hid hM
  have B1 := Box3.new w (.slice A n c) (.slice B k d) (.int .i64 m.til) 26
  have B2 := BoxF.new (w.alloc (.cells #[.slice A n c, .slice B k d, .int .i64 m.til] 26)) (.slice none 0 0) (.slice none 0 0) (.slice none 0 0) 36
  simp only [World.size_alloc] at B2
  have U0 := Lib.hid (((Up.refl w).alloc (.cells #[.slice A n c, .slice B k d, .int .i64 m.til] 26)).alloc (.cells #[.slice none 0 0, .slice none 0 0, .slice none 0 0] 36))
  have B1 := Lib.hid (B1.up ((Up.refl _).alloc (.cells #[.slice none 0 0, .slice none 0 0, .slice none 0 0] 36)))
  have B2 := Lib.hid B2
  clear hM
  go_enter Try.func17, Try.ntmps17
  go_wp2_with fail
  generalize (w.alloc (.cells #[.slice A n c, .slice B k d, .int .i64 m.til] 26)).alloc (.cells #[.slice none 0 0, .slice none 0 0, .slice none 0 0] 36) = W at *
  generalize hb2 : w.heap.size + 1 = b2 at *
  have HB2 := Lib.hid (show w.heap.size ≤ b2 by omega)
  have HB3 := Lib.hid (show w.heap.size ≠ b2 by omega)
  clear hb2; refine (CK.out _ U0.out).mono ?_; rintro x w3 ⟨rfl, u1⟩
  have U1 := Lib.hid (U0.out.trans u1)
  have B1 := Lib.hid (B1.out.up u1)
  have B2 := Lib.hid (B2.out.up u1)
  clear u1 CK
  cases hm : mdlB m
  · have RE := Lib.hid (show allR m = ⟨[], [], []⟩ by unfold allR; rw [if_neg (by rw [hm]; exact Bool.false_ne_true)])
    obtain ⟨q0, q1, q2⟩ := And.intro B2.out.k.c0 (And.intro B2.out.k.c1 B2.out.k.c2)
    have bl := B2.out.k.lt
    have bf := B2.out.f
    have LB := B2.out.laid (.slice none 0 0) (.slice none 0 0) (.slice none 0 0)
    obtain ⟨k0, k1, k2⟩ := And.intro LB.c0 (And.intro LB.c1 LB.c2)
    have UE := Lib.hid (((U1.out.setCell (p := ⟨b2, 0, none⟩) HB2.out (.slice none 0 0)).setCell (p := ⟨b2, 1, none⟩) HB2.out (.slice none 0 0)).setCell (p := ⟨b2, 2, none⟩) HB2.out (.slice none 0 0))
    clear hm LB; go_wp2
    exact bodyPost_ret (v := .agg #[.slice none 0 0, .slice none 0 0, .slice none 0 0]) (by simp [results, Try.results17, go_sem, k0, k1, k2]) rfl ⟨by rw [RE.out]; exact ⟨none, 0, none, 0, none, 0, rfl, SqW.none_ _ _, Nat.le_refl _, by omega⟩, UE.out⟩
  · have HR := Lib.hid (run0 hm)
    have FEWZ := Lib.hid (allR_few (run0 hm))
    have ROW := Lib.hid (fun lo v w (h : SqRes lo m v w) => h.rows hm)
    generalize sq0 m = s0 at *
    generalize hZ : allR m = Z at *
    have HZ := Lib.hid hZ
    clear hm hZ
    go_wp2_with fail
    refine region_mixH (fun W' => Box3 W' w.heap.size (.slice A n c) (.slice B k d) (.int .i64 m.til)) [(0, true), (1, true), (2, false), (3, false), (4, false), (5, false)] (by kernel_rfl) (by kernel_rfl) (B1.out.up (Up.refl _).drew) ?_; refine mixH_take rfl (by rfl) ?_; apply Exists.intro; refine ⟨fun w1 hS1 => ?_, ?_⟩
    · obtain ⟨q0, q1, q2⟩ := And.intro hS1.c0 (And.intro hS1.c1 hS1.c2)
      clear hS1; go_simp
      try rfl
    go_simp; refine mixH_take rfl (by rfl) ?_; apply Exists.intro; refine ⟨fun w1 hS1 => ?_, ?_⟩
    · obtain ⟨q0, q1, q2⟩ := And.intro hS1.c0 (And.intro hS1.c1 hS1.c2)
      clear hS1; go_simp
      try rfl
    go_simp; refine mixH_go rfl (by rfl) (fun K hK => ?_); go_simp; refine (CN.out _ (U1.out.trans (Up.refl w3).drew)).mono ?_; rintro x wa ⟨v, rfl, hres, ua⟩; obtain ⟨vc, vw, vl, rfl, r1, r2, r3⟩ := ROW.out _ _ _ hres
    have Sa : Up w3 wa := (Up.refl w3).drew.trans ua
    refine hK _ _ (B1.out.up Sa) ?_; clear hK K hres ua; go_simp; refine mixH_go rfl (by rfl) (fun K hK => ?_); go_simp; refine (specAllL_any A n c B k d m w3.heap.size 54 Z s0 vc vw vl w3 wa (HM.out.up U1.out) Sa (Nat.le_refl _) HR.out r1 r2 r3 Sa.size).mono ?_; rintro x wb ⟨ub, vc2, vw2, vl2, rfl, o1, o2, o3⟩; obtain ⟨-, Ac2, cc2, rfl, -, -⟩ := own3_slice o1; obtain ⟨-, Aw2, cw2, rfl, -, -⟩ := own_slice o2; obtain ⟨-, Al2, cl2, rfl, -, -⟩ := own7_slice o3; refine hK _ _ (B1.out.up ub) ?_; clear hK K Sa r1 r2 r3; go_simp; refine mixH_go rfl (by rfl) (fun K hK => ?_); go_simp; refine (specCopy_any Ac2 _ cc2 Aw2 _ cw2 Al2 _ cl2 Z wb ⟨own3_csts o1, own_evs o2, own7_recs o3⟩ FEWZ.out).mono ?_
    rintro x wc ⟨⟨v, rfl, h3⟩, uc⟩; obtain ⟨A1, c1, A2, c2, A3, c3, rfl, p1, p2, p3⟩ := h3
    have Sc : Up w3 wc := ub.trans uc
    refine hK _ _ (B1.out.up Sc) ?_; clear hK K o1 o2 o3; go_simp
    have XB := B2.out.up Sc
    obtain ⟨q0, q1, q2⟩ := And.intro XB.k.c0 (And.intro XB.k.c1 XB.k.c2)
    have bl := XB.k.lt
    have bf := XB.f
    have LB := XB.laid (.slice A1 Z.comps.length c1) (.slice A2 Z.wait.length c2) (.slice A3 Z.log.length c3)
    obtain ⟨k0, k1, k2⟩ := And.intro LB.c0 (And.intro LB.c1 LB.c2)
    have MX := ((((Up.refl wc).mv b2).setCell (o := 0) (.slice A1 Z.comps.length c1)).setCell (o := 1) (.slice A2 Z.wait.length c2) |>.setCell (o := 2) (.slice A3 Z.log.length c3))
    have BLT : b2 < wb.heap.size := Nat.lt_of_lt_of_le B2.out.k.lt ub.size
    have UE := Lib.hid (MX.up (U1.out.trans Sc) HB2.out)
    have WL : w.heap.size ≤ wb.heap.size := Nat.le_trans U1.out.size ub.size
    have Q1 := own_mono (own_keep p1 (fun x hx hl => MX.block x hl (by have := (own_ge p1 x hx).1; omega))) WL
    have Q2 := own_mono (own_keep p2 (fun x hx hl => MX.block x hl (by have := (own_ge p2 x hx).1; omega))) WL
    have Q3 := own_mono (own_keep p3 (fun x hx hl => MX.block x hl (by have := (own_ge p3 x hx).1; omega))) WL
    have RES := Lib.hid (And.intro (sqw_rows Q1 Q2 Q3) (cap7 Q3))
    refine mixH_go rfl (by rfl) (fun K hK => ?_); go_simp; refine hK _ _ ((B1.out.up Sc).keepB MX.size (MX.block w.heap.size (B1.out.up Sc).lt (by have := HB3.out; omega))) ?_; clear hK K; refine mixH_nil ?_; clear XB LB MX Q1 Q2 Q3 p1 p2 p3 ub uc Sc q0 q1 q2 bl bf; go_wp2
    exact bodyPost_ret (v := .agg #[(.slice A1 Z.comps.length c1), (.slice A2 Z.wait.length c2), (.slice A3 Z.log.length c3)]) (by simp [results, Try.results17, go_sem, k0, k1, k2]) rfl ⟨by
      first | rw [HZ.out] | skip
      exact ⟨A1, c1, A2, c2, A3, c3, rfl, RES.out⟩, UE.out⟩
end Go.Proofs.Ytjdoealcmokakaa

namespace Go.Proofs.Ytjdoealcmokakaa
set_option maxRecDepth 100000
open Go.RowKit
/-- Times do not fall, and nothing waits that is earlier. -/
def TimS (s : Sq) : Prop := s.log.Pairwise (fun a b => a.ev.t ≤ b.ev.t) ∧ ∀ r ∈ s.log, ∀ e ∈ s.wait, r.ev.t ≤ e.t
theorem leE_time {a b : Evt} (h : leE a b) : a.t ≤ b.t := ltE_time b a h
theorem TimS.step {m : Mdl} {N i : Nat} {s : Sq} {e : Evt} {r : List Evt} (h : TimS s) (g : Going m N i s) (hw : s.wait = e :: r) (hi : i ≤ 100000000) : TimS (stpS m s).1 := by
  have F := g.facts hw hi
  unfold stpS; rw [hw]; dsimp only
  generalize hD : doE m (s.comps.getD e.to.toNat default) e = D at *
  obtain ⟨c', ds⟩ := D; dsimp only at F ⊢
  have S := F.sends
  have ho := g.ord
  rw [hw] at ho
  have ho2 := (List.pairwise_cons.1 ho).1
  refine ⟨List.pairwise_append.2 ⟨h.1, List.pairwise_singleton _ _, fun a ha b hb => ?_⟩, fun a ha x hx => ?_⟩
  · obtain rfl : b = ⟨e, c'.s⟩ := by simpa using hb
    exact h.2 a ha e (by rw [hw]; exact List.mem_cons_self)
  · have hle : a.ev.t ≤ e.t := by
      rcases List.mem_append.1 ha with ha | ha
      · exact h.2 a ha e (by rw [hw]; exact List.mem_cons_self)
      · obtain rfl : a = ⟨e, c'.s⟩ := by simpa using ha
        exact Int.le_refl _
    have hx := (insAll_perm ds r).mem_iff.1 hx
    rcases List.mem_append.1 hx with hx | hx
    · obtain ⟨j, hj, rfl⟩ := List.getElem_of_mem hx
      have E := S.each j hj
      have e1 : ds.getD j default = ds[j] := by simp [List.getD, hj]
      rw [e1] at E
      have := E.t
      omega
    · have := leE_time (ho2 x hx)
      omega
theorem run_time {m : Mdl} {N : Nat} {Z s : Sq} (h : Run m N Z s) (ht : TimS s) : TimS Z := by
  obtain ⟨j, hj, hz⟩ := h.last; clear hj
  induction j generalizing s with
  | zero => exact hz ▸ ht
  | succ j ih =>
    unfold runS at hz
    rcases hw : s.wait with _ | ⟨e, r⟩
    · rw [hw] at hz
      exact hz ▸ ht
    · rw [hw] at hz
      exact ih (h.step hw) (ht.step h.go hw (by have := h.len; omega)) hz
/-- The records of a model ahead of a time. -/
def uptoR (m : Mdl) (t : Int) : List Rec := (allR m).log.filter (fun r => decide (r.ev.t < t))
theorem allR_time (m : Mdl) : (allR m).log.Pairwise (fun a b => a.ev.t ≤ b.ev.t) := by
  cases hm : mdlB m
  · have : allR m = ⟨[], [], []⟩ := by unfold allR; rw [if_neg (by rw [hm]; exact Bool.false_ne_true)]
    rw [this]
    exact List.Pairwise.nil
  · exact (run_time (run0 hm) ⟨by rw [sq0_yes hm]; exact List.Pairwise.nil, fun a ha => by rw [sq0_yes hm] at ha; cases ha⟩).1
/-- Where the times reach t, the beginning is what is ahead. -/
theorem upto_take (t : Int) : ∀ (ls : List Rec) (j : Nat), ls.Pairwise (fun a b => a.ev.t ≤ b.ev.t) → j ≤ ls.length → (0 < j → (ls.getD (j - 1) default).ev.t < t) → (j < ls.length → t ≤ (ls.getD j default).ev.t) → ls.take j = ls.filter (fun r => decide (r.ev.t < t))
  | [], j, _, _, _, _ => by simp
  | a :: r, 0, hp, _, _, h2 => by
    have h0 : t ≤ a.ev.t := by simpa using h2 (by simp)
    have hall : ∀ x ∈ a :: r, ¬ x.ev.t < t := fun x hx => by
      rcases List.mem_cons.1 hx with rfl | hx
      · omega
      · have := (List.pairwise_cons.1 hp).1 x hx
        omega
    rw [List.take_zero]
    symm
    rw [List.filter_eq_nil_iff]; intro x hx
    simpa using hall x hx
  | a :: r, j + 1, hp, hl, h1, h2 => by
    have hpr := (List.pairwise_cons.1 hp).2
    have ha : a.ev.t < t := by
      have h3 := h1 (by omega)
      rw [Nat.add_sub_cancel] at h3
      cases j with
      | zero => simpa using h3
      | succ j =>
        have hj : j < r.length := by simp only [List.length_cons] at hl; omega
        have h4 : (a :: r).getD (j + 1) default = r[j] := by simp [List.getD, hj]
        rw [h4] at h3
        have := (List.pairwise_cons.1 hp).1 r[j] (List.getElem_mem hj)
        omega
    have ih := upto_take t r j hpr (by simpa using hl) (fun hj => by
      have h3 := h1 (by omega)
      rw [Nat.add_sub_cancel] at h3; obtain ⟨q, rfl⟩ : ∃ q, j = q + 1 := ⟨j - 1, by omega⟩
      simpa using h3) (fun hj => by simpa using h2 (by simpa using hj))
    rw [List.take_succ_cons, List.filter_cons, if_pos (by simpa using ha), ih]
end Go.Proofs.Ytjdoealcmokakaa

namespace Go.Proofs.Ytjdoealcmokakaa
set_option maxRecDepth 100000
open Go.RowKit
theorem upto1_any (Al : Option Addr) (nl cl : Nat) (ls : List Rec) (t : Int) (i b5 b3 : Nat) (w : World) (hL : Recs w Al nl ls) (l5 : b5 < w.heap.size) (h5 : w.cell? ⟨b5, 0, none⟩ = some (.slice Al nl cl)) (l3 : b3 < w.heap.size) (h3 : w.cell? ⟨b3, 0, none⟩ = some (.int .i64 t)) (hi : i < nl) :
    Calls Try.prog 35 #[.int .i64 (i : Int), .pointer (some ⟨b5, 0, none⟩), .pointer (some ⟨b3, 0, none⟩)] w fun x w' => x = .returned (.bool (decide (t ≤ (ls.getD i default).ev.t))) ∧ Up w w' := by
  obtain ⟨b, off, rfl, hb, hc⟩ := hL.2 (by omega)
  have CI := Lib.hid (hc i hi).1
  have H5 := Lib.hid h5
  have H3 := Lib.hid h3
  have LT := Lib.hid (And.intro l5 (And.intro l3 hb))
  generalize (ls.getD i default).ev.t = q at CI ⊢
  have j1 : (i : Int) < (nl : Int) := by omega
  have j2 : (0 : Int) ≤ (i : Int) := by omega
  clear hL hc h5 h3 l5 l3 hb
  go_enter Try.func35, Try.ntmps35
  go_wp2_with fail
  refine region_mixH (fun W' => Up w W') [(0, true), (1, true), (2, true), (3, true), (4, true), (5, true), (6, true), (7, true), (8, false)] (by kernel_rfl) (by kernel_rfl) ((Up.refl _).drew) ?_
  iterate 8
    refine mixH_take rfl (by rfl) ?_; apply Exists.intro; refine ⟨fun w1 hS1 => ?_, ?_⟩
    · have c5 := (hS1.cells _ _ LT.out.1).trans H5.out
      have c3 := (hS1.cells _ _ LT.out.2.1).trans H3.out
      have ci := (hS1.cells _ _ LT.out.2.2).trans CI.out
      clear hS1; go_simp
      try rfl
    go_simp
  refine mixH_go rfl (by rfl) (fun K hK => ?_); go_simp; refine hK _ _ ((Up.refl w).drew) ?_; clear hK K; refine mixH_nil ?_; go_wp2; go_ret
  exact ⟨by first | rfl | simp, (Up.refl w).drew⟩
/-- What is found. -/
def FoundT (ls : List Rec) (nl : Nat) (t : Int) (w : World) (x : Ending) (w' : World) : Prop :=
  ∃ j : Nat, x = .returned (.int .i64 (j : Int)) ∧ j ≤ nl ∧ (0 < j → (ls.getD (j - 1) default).ev.t < t) ∧ (j < nl → t ≤ (ls.getD j default).ev.t) ∧ Up w w'
set_option maxHeartbeats 4000000 in
theorem search_any (Al : Option Addr) (nl cl : Nat) (ls : List Rec) (t : Int) (b5 b3 : Nat) (w : World) (hn : nl ≤ 1048576) (hL : Recs w Al nl ls) (l5 : b5 < w.heap.size) (h5 : w.cell? ⟨b5, 0, none⟩ = some (.slice Al nl cl)) (l3 : b3 < w.heap.size) (h3 : w.cell? ⟨b3, 0, none⟩ = some (.int .i64 t)) :
    Calls Try.prog 34 #[.int .i64 (nl : Int), .func (.func 35) #[] #[.pointer (some ⟨b5, 0, none⟩), .pointer (some ⟨b3, 0, none⟩)]] w (FoundT ls nl t w) := by
  have CL := Lib.hid (fun (i : Nat) W (u : Up w W) (hi : i < nl) => upto1_any Al nl cl ls t i b5 b3 W (by
      obtain ⟨h1, h2⟩ := hL
      exact ⟨h1, fun h0 => by
        obtain ⟨b, off, e1, e2, e3⟩ := h2 h0
        exact ⟨b, off, e1, Nat.lt_of_lt_of_le e2 u.size, fun k hk => (e3 k hk).keep fun j => u.cells _ _ e2⟩⟩) (Nat.lt_of_lt_of_le l5 u.size) ((u.cells _ _ l5).trans h5) (Nat.lt_of_lt_of_le l3 u.size) ((u.cells _ _ l3).trans h3) hi)
  have HN := Lib.hid hn
  clear hL l5 h5 l3 h3 hn; unfold FoundT
  go_enter Try.func34, Try.ntmps34
  go_wp2
  go_loopw [5, 6] (fun vi vj wr => ∃ i j : Nat, vi = .int .i64 (i : Int) ∧ vj = .int .i64 (j : Int) ∧ i ≤ j ∧ j ≤ nl ∧ (0 < i → (ls.getD (i - 1) default).ev.t < t) ∧ (j < nl → t ≤ (ls.getD j default).ev.t) ∧ Up w wr) (fun vi vj _ => (intOf vj).toNat - (intOf vi).toNat)
  case atStart => exact ⟨0, nl, by first | rfl | simp, rfl, Nat.zero_le _, Nat.le_refl _, fun h => absurd h (by omega), fun h => absurd h (by omega), Up.refl _⟩
  case round =>
    obtain ⟨i, j, rfl, rfl, hij, hjn, hlo, hhi, hu⟩ := hrel
    have HLO := Lib.hid hlo
    have HHI := Lib.hid hhi
    have HU := Lib.hid hu
    have HIJ := Lib.hid (And.intro hij hjn)
    clear hlo hhi hu hij hjn
    by_cases hlt : i < j
    · obtain ⟨h, hh⟩ : ∃ h : Nat, h = (i + j) / 2 := ⟨_, rfl⟩
      have hb : i ≤ h ∧ h < j := by omega
      have k1 : (i : Int) < (j : Int) := by omega
      have CH := Lib.hid (CL.out h wr HU.out (by have := HIJ.out; omega))
      have HB := Lib.hid hb
      clear hb
      have e1 : wrap64 ((i : Int) + (j : Int)) = (i : Int) + (j : Int) := by have := HIJ.out; have := HN.out; unfold wrap64; omega
      have e2 : IntKind.u64.wrap ((i : Int) + (j : Int)) = (i : Int) + (j : Int) := IntWalk.u64_in _ (by have := HIJ.out; have := HN.out; omega)
      have e4 : ((i : Int) + (j : Int)) / 2 = (h : Int) := by omega
      have e3 : wrap64 (h : Int) = (h : Int) := by have := HIJ.out; have := HN.out; have := HB.out; unfold wrap64; omega
      have W1 := Lib.hid (show wrap64 ((h : Int) + 1) = (h : Int) + 1 by have := HIJ.out; have := HN.out; have := HB.out; unfold wrap64; omega)
      have E1 := Lib.hid e1
      have E2 := Lib.hid e2
      have E3 := Lib.hid e3
      have E4 := Lib.hid e4
      clear e1 e2 e3 e4
      have i6 : IntKind.i64.wrap ((h : Int) + 1) = (h : Int) + 1 := IntWalk.i64_in _ (by have := HIJ.out; have := HN.out; have := HB.out; omega)
      go_wp2_with fail
      rw [E1.out, E2.out, E4.out, E3.out]; refine CH.out.mono ?_; rintro x w' ⟨rfl, u⟩
      have HU' := Lib.hid (HU.out.trans u)
      clear u
      by_cases hP : t ≤ (ls.getD h default).ev.t
      · have HP := Lib.hid hP
        rw [decide_eq_true hP]; clear hP; go_wp2
        go_roundw
        case rel => exact ⟨i, h, rfl, by first | rfl | rw [E4.out], HB.out.1, by have := HB.out; have := HIJ.out; omega, HLO.out, fun _ => HP.out, HU'.out⟩
        case measure =>
          have := HB.out
          try rw [E4.out]
          simp [intOf]
          omega
      · have HP := Lib.hid hP
        rw [decide_eq_false hP]; clear hP; go_wp2
        go_roundw
        case rel => exact ⟨h + 1, j, by first | rfl | (rw [E4.out, W1.out]; rfl), rfl, by have := HB.out; omega, HIJ.out.2, fun _ => by rw [Nat.add_sub_cancel]; have := HP.out; omega, HHI.out, HU'.out⟩
        case measure =>
          have := HB.out
          try rw [E4.out]
          try rw [W1.out]
          simp [intOf]
          omega
    · have k1 : ¬ ((i : Int) < (j : Int)) := by omega
      obtain rfl : i = j := by have := HIJ.out; omega
      go_wp2; go_ret
      exact ⟨i, rfl, HIJ.out.2, HLO.out, HHI.out, HU.out⟩
end Go.Proofs.Ytjdoealcmokakaa

/-
  A region that draws its order, walked operation by operation, in one sentence: what is pure may be taken first, and of the others that are ready each may be next; a chosen condition on the world holds throughout.
  What spec.RevBack returns, in one sentence: the component ahead of all events and true, or the zero state and false; for every model, component and row of events in memory.
-/
import Derived.OrdersHeld
import Derived.Test.YtakmlfgkppekoaaDLEbak05
import Derived.Test.YtakmlfgkppekoaaDLEbak14
namespace Go.Proofs.Ytakmlfgkppekoaa
set_option maxRecDepth 100000
open Go.RowKit
/-- What is left to walk, kept shut. -/
@[irreducible] def hWalk (P : Program) (ops : Array Oper) (Q : Exit → Act → World → Prop) (S : World → Prop) (N : Nat) (listed : Array Bool) (a : Act) (w : World) : Prop :=
  Region.noSelect ops = true → S w → wpAnyH P .any ops (NoPanic Q) S N listed a w
theorem region_hWalk {P : Program} {id : Nat} {Q : Exit → Act → World → Prop} {a : Act} {w : World} {l : List Oper} (S : World → Prop) (N : Nat) (hm : P.follows .mixedOrders = true) (hN : l.length = N)
    (hsel : Region.noSelect l.toArray = true) (hS : S w.drew) (h : hWalk P l.toArray Q S N (Array.replicate N false) a w.drew) : (Code.region id l.toArray true).wp P Q a w := by
  subst hN; unfold hWalk at h; refine wp_region_noPanic (wp_region_held (S := S) hm ?_)
  have := h hsel hS
  simpa using this
section
variable {P : Program} {ops : Array Oper} {Q : Exit → Act → World → Prop} {S : World → Prop} {N : Nat} {listed : Array Bool} {a : Act} {w : World}
theorem hWalk_take (k : Nat) {o : Oper} (hB : ((Region.ready .any ops listed).contains k && Region.free .any ops listed k) = true) (h0 : ops[k]? = some o) (hw : Region.wanted o (yielded ops a.tmps) = true)
    (h : ∃ v, (∀ w1, S w1 → (execOp a.eval o).run P w1 = .ok (.value v) w1) ∧ hWalk P ops Q S N (listed.setIfInBounds k true) (a.put o.dst v) w) : hWalk P ops Q S (N + 1) listed a w := by
  unfold hWalk at h ⊢; intro hsel hS; simp only [Bool.and_eq_true] at hB; obtain ⟨v, hv, hn⟩ := h
  exact wpAnyH_take h0 hsel hB.2 hB.1 (fun _ _ _ h => h) (.inl ⟨hw, hv⟩) hS (hn hsel hS)
/-- One of those that are ready is next. -/
def Next (P : Program) (ops : Array Oper) (Q : Exit → Act → World → Prop) (S : World → Prop) (N : Nat) (listed : Array Bool) (a : Act) (w : World) (k : Nat) : Prop :=
  ∃ o, ops[k]? = some o ∧ Region.wanted o (yielded ops a.tmps) = true ∧ ∀ K : Act → World → Prop, (∀ a w, S w → hWalk P ops Q S N (listed.setIfInBounds k true) a w → K a w) → o.wp P a w K (NoPanic Q)
theorem next_mk {k : Nat} {o : Oper} (h0 : ops[k]? = some o) (hw : Region.wanted o (yielded ops a.tmps) = true) (h : ∀ K : Act → World → Prop, (∀ a w, S w → hWalk P ops Q S N (listed.setIfInBounds k true) a w → K a w) → o.wp P a w K (NoPanic Q)) : Next P ops Q S N listed a w k := ⟨o, h0, hw, h⟩
theorem hWalk_fork (l : List Nat) (hr : Region.ready .any ops listed = l) (hl : l ≠ []) (h : ∀ k ∈ l, Next P ops Q S N listed a w k) : hWalk P ops Q S (N + 1) listed a w := by
  unfold hWalk; intro hsel hS
  refine wpAnyH_all hr hl fun k hk => ?_
  obtain ⟨o, h0, hw, hn⟩ := h k hk; unfold wpOp; simp only [h0]; rw [if_pos hw]; refine .inl (hn _ fun a' w' hs' hh => ?_); unfold hWalk at hh
  exact ⟨hs', hh hsel hs'⟩
theorem hWalk_one {i : Nat} (hr : Region.ready .any ops listed = [i]) (hi : Next P ops Q S N listed a w i) : hWalk P ops Q S (N + 1) listed a w :=
  hWalk_fork [i] hr (by simp) (fun k hk => by
    obtain rfl : k = i := by simpa using hk
    exact hi)
theorem hWalk_two {i j : Nat} (hr : Region.ready .any ops listed = [i, j]) (hi : Next P ops Q S N listed a w i) (hj : Next P ops Q S N listed a w j) : hWalk P ops Q S (N + 1) listed a w :=
  hWalk_fork [i, j] hr (by simp) (fun k hk => by
    have : k = i ∨ k = j := by simpa using hk
    rcases this with rfl | rfl
    · exact hi
    · exact hj)
theorem hWalk_nil (hr : (Region.ready .any ops listed).isEmpty = true) (h : Q .normal a w) : hWalk P ops Q S 0 listed a w := by
  unfold hWalk; intro _ _
  exact ⟨by simpa using hr, h⟩
end
end Go.Proofs.Ytakmlfgkppekoaa

namespace Go.Proofs.Ytakmlfgkppekoaa
set_option maxRecDepth 100000
open Go.RowKit
theorem Box3.farU {w : World} {b : Nat} {x y z : Value} (h : Box3 w b x y z) {p : Addr} (hp : p.block ≠ b) (q : Value) : Box3 (w.setCell p q) b x y z :=
  h.keep (by simp) (fun _ => World.cell?_setCell_other _ _ _ _ (fun e => hp (by rw [e])))
set_option maxHeartbeats 20000000 in
theorem specBack_any (A : Option Addr) (n c : Nat) (B : Option Addr) (k d : Nat) (m : Mdl) (s : Cst) (hI : s.ct ≤ 9223372036854775807) (L : Option Addr) (len cap : Nat) (es : List Evt) (w : World) (hM : MdlV w A n B k m) (hE : Evs w L len es) :
    Calls Try.prog 29 #[.agg #[.slice A n c, .slice B k d, .int .i64 m.til], s.v, .slice L len cap] w fun x w' => x = .returned (undoR (backM m s es)) ∧ Up w w' := by
  have CM := Lib.hid (fun W (u : Up w W) => specMdl_any A n c B k d m W (hM.up u))
  have CC := Lib.hid (fun W => specCst_any s W)
  have CU := Lib.hid (fun (hm : mdlB m = true) W (u : Up w W) y e (hy : cstB y = true) hct => (specUndo_any A n c B k d m y hct e W (hM.up u)).mono (R' := fun x w' => x = .returned (undoR (undoE m y e)) ∧ Up W w') (by rintro x w' ⟨rfl, u'⟩; exact ⟨by rw [undoM, hm, hy]; rfl, u'⟩))
  have UD := Lib.hid (show backM m s es = if (mdlB m && cstB s && decide (es.length ≤ 100)) = true then backE m s es.reverse else none from rfl)
  have HE := Lib.hid hE
  generalize backM m s es = res at UD ⊢
  generalize hgm : mdlB m = gm at CM UD
  have HGM := Lib.hid hgm
  generalize hgc : cstB s = gc at CC UD
  have HGC := Lib.hid hgc
  clear hgm hgc; obtain ⟨ss, sq, st⟩ := s; unfold Cst.v at CC ⊢; dsimp only at CC UD hI HGC ⊢
  have TIL := Lib.hid (rfl : m.til = m.til)
  generalize htl : m.til = til at CM CU TIL ⊢
  clear hM hE htl
  have U1 := Lib.hid ((((Up.refl w).alloc (.cells #[.slice A n c, .slice B k d, .int .i64 til] 33)).alloc (.cells #[.int .i64 ss, .int .i64 sq, .int .i64 st] 41)).alloc (.cells #[.int .i64 0, .int .i64 0, .int .i64 0] 41))
  have X3 := Lib.hid ((Box3.new w (.slice A n c) (.slice B k d) (.int .i64 til) 33).up (((Up.refl _).alloc (.cells #[.int .i64 ss, .int .i64 sq, .int .i64 st] 41)).alloc (.cells #[.int .i64 0, .int .i64 0, .int .i64 0] 41)))
  have X4 := Lib.hid ((Cell3.new (w.alloc (.cells #[.slice A n c, .slice B k d, .int .i64 til] 33)) ss sq st 41).up ((Up.refl _).alloc (.cells #[.int .i64 0, .int .i64 0, .int .i64 0] 41)))
  have X6 := Lib.hid (Cell3.new ((w.alloc (.cells #[.slice A n c, .slice B k d, .int .i64 til] 33)).alloc (.cells #[.int .i64 ss, .int .i64 sq, .int .i64 st] 41)) 0 0 0 41)
  simp only [World.size_alloc] at X4 X6
  go_enter Try.func29, Try.ntmps29
  by_cases hlen : len ≤ 100
  · have i4 : ¬ (100 : Int) < len := by omega
    go_wp2_with fail
    generalize hb3 : w.heap.size = b3 at *
    generalize hb4 : b3 + 1 = b4 at *
    generalize hb6 : b4 + 1 = b6 at *
    have B4 := Lib.hid (show w.heap.size ≤ b4 by omega)
    have B6 := Lib.hid (show w.heap.size ≤ b6 by omega)
    have B64 := Lib.hid (show b6 ≠ b4 ∧ b3 ≠ b4 ∧ b6 ≠ b3 from by omega)
    refine (CM.out _ U1.out).mono ?_; rintro x w1 ⟨rfl, u⟩
    replace U1 := Lib.hid (U1.out.trans u)
    replace X3 := Lib.hid (X3.out.up u)
    replace X4 := Lib.hid (X4.out.up u)
    replace X6 := Lib.hid (X6.out.up u)
    clear u; clear CM
    cases gm
    · have EQ := Lib.hid (show res = none from UD.out)
      clear UD; obtain ⟨d0, d1, d2⟩ := And.intro X6.out.c0 (And.intro X6.out.c1 X6.out.c2)
      have df := X6.out.f
      have dl := X6.out.lt
      obtain ⟨k0, k1, k2⟩ := And.intro (X6.out.laid' 0 0 0).c0 (And.intro (X6.out.laid' 0 0 0).c1 (X6.out.laid' 0 0 0).c2)
      have UE := Lib.hid (((U1.out.setCell (p := ⟨b6, 0, none⟩) B6.out (.int .i64 0)).setCell (p := ⟨b6, 1, none⟩) B6.out (.int .i64 0)).setCell (p := ⟨b6, 2, none⟩) B6.out (.int .i64 0))
      go_wp2
      exact bodyPost_ret (v := .tuple #[.agg #[.int .i64 0, .int .i64 0, .int .i64 0], .bool false]) (by simp [results, Try.results29, go_sem, k0, k1, k2]) rfl ⟨by rw [EQ.out]; rfl, UE.out⟩
    · obtain ⟨a0, a1, a2⟩ := And.intro X3.out.c0 (And.intro X3.out.c1 X3.out.c2)
      have al := X3.out.lt
      obtain ⟨g0, g1, g2⟩ := And.intro X4.out.c0 (And.intro X4.out.c1 X4.out.c2)
      have gl := X4.out.lt
      go_wp2_with fail
      refine (CC.out _).mono ?_; rintro x w2 ⟨rfl, u⟩
      replace U1 := Lib.hid (U1.out.trans u)
      replace X3 := Lib.hid (X3.out.up u)
      replace X4 := Lib.hid (X4.out.up u)
      replace X6 := Lib.hid (X6.out.up u)
      clear u; clear a0 a1 a2 al g0 g1 g2 gl; clear CC
      cases gc
      · have EQ := Lib.hid (show res = none from UD.out)
        clear UD; obtain ⟨d0, d1, d2⟩ := And.intro X6.out.c0 (And.intro X6.out.c1 X6.out.c2)
        have df := X6.out.f
        have dl := X6.out.lt
        obtain ⟨k0, k1, k2⟩ := And.intro (X6.out.laid' 0 0 0).c0 (And.intro (X6.out.laid' 0 0 0).c1 (X6.out.laid' 0 0 0).c2)
        have UE := Lib.hid (((U1.out.setCell (p := ⟨b6, 0, none⟩) B6.out (.int .i64 0)).setCell (p := ⟨b6, 1, none⟩) B6.out (.int .i64 0)).setCell (p := ⟨b6, 2, none⟩) B6.out (.int .i64 0))
        go_wp2
        exact bodyPost_ret (v := .tuple #[.agg #[.int .i64 0, .int .i64 0, .int .i64 0], .bool false]) (by simp [results, Try.results29, go_sem, k0, k1, k2]) rfl ⟨by rw [EQ.out]; rfl, UE.out⟩
      · have EQR := Lib.hid (show res = backE m ⟨ss, sq, st⟩ es.reverse from UD.out.trans (by rw [decide_eq_true (show es.length ≤ 100 by rw [HE.out.1]; exact hlen)]; rfl))
        clear UD
        have CV := HGC
        have HMB := HGM
        replace CU := Lib.hid (CU.out HMB.out)
        have i5 : IntKind.i64.wrap ((len : Int) - 1) = (len : Int) - 1 := IntWalk.i64_in _ (by omega)
        go_wp2; clear i5
        go_loopw [8] (fun i wr => (∃ (p : Nat) (z : Int) (y : Cst), p ≤ len ∧ i = .int .i64 z ∧ z = (p : Int) - 1 ∧ Hid (backE m ⟨ss, sq, st⟩ (es.drop p).reverse = some y ∧ cstB y = true ∧ y.ct ≤ 9223372036854775807) ∧ Hid (Cell3 wr b4 y.s y.sq y.ct) ∧ Hid (Box3 wr b3 (.slice A n c) (.slice B k d) (.int .i64 til)) ∧ Hid (Cell3 wr b6 0 0 0)) ∧ Up w wr) (fun i _ => (intOf i + 1).toNat)
        case atStart => exact ⟨⟨len, _, ⟨ss, sq, st⟩, Nat.le_refl _, rfl, rfl, Lib.hid ⟨by rw [List.drop_eq_nil_of_le (by rw [HE.out.1]; omega)]; rfl, CV.out, hI⟩, X4, X3, X6⟩, U1.out⟩
        case round =>
          obtain ⟨⟨p, z, ⟨cs, cq, ct⟩, hp, rfl, hz, HB, X4, X3, X6⟩, ur⟩ := hrel
          have UR := Lib.hid ur
          clear ur; dsimp only at X4
          by_cases hpos : 0 < p
          · obtain ⟨q, rfl⟩ : ∃ q, p = q + 1 := ⟨p - 1, by omega⟩
            obtain rfl : z = (q : Int) := by omega
            obtain ⟨bE, oE, hL, hbE, hcE⟩ := (HE.out.up UR.out).2 (by omega); subst hL
            have AT := Lib.hid (hcE q (by omega))
            have HLT := Lib.hid hbE
            have DR := Lib.hid (show (es.drop q).reverse = (es.drop (q + 1)).reverse ++ [es.getD q default] from by
              have hq : q < es.length := by rw [HE.out.1]; omega
              rw [List.drop_eq_getElem_cons hq, List.reverse_cons]
              simp [hq])
            clear hcE hz hpos; obtain ⟨e, he⟩ : ∃ e, e = es.getD q default := ⟨_, rfl⟩; rw [← he] at AT DR; clear he; obtain ⟨et, eto, efr, esq, ekd, edt⟩ := e
            have CUS := Lib.hid (fun W (u : Up w W) => CU.out W u ⟨cs, cq, ct⟩ ⟨et, eto, efr, esq, ekd, edt⟩ HB.out.2.1 HB.out.2.2)
            have UOK := Lib.hid (fun y h => undoE_ok (m := m) (c := ⟨cs, cq, ct⟩) (e := ⟨et, eto, efr, esq, ekd, edt⟩) (x := y) HMB.out HB.out.2.1 h)
            have BA := Lib.hid (show backE m ⟨ss, sq, st⟩ (es.drop q).reverse = undoE m ⟨cs, cq, ct⟩ ⟨et, eto, efr, esq, ekd, edt⟩ from by
              rw [DR.out, backE_app, HB.out.1]; simp only [Option.bind_some, backE]
              cases undoE m ⟨cs, cq, ct⟩ ⟨et, eto, efr, esq, ekd, edt⟩ <;> rfl)
            unfold Cst.v Evt.v at CUS; dsimp only at CUS
            generalize undoE m ⟨cs, cq, ct⟩ ⟨et, eto, efr, esq, ekd, edt⟩ = o at CUS UOK BA
            have i6 : (q : Int) < len := by omega
            cases o with
            | some y =>
              obtain ⟨ys, yq, yc⟩ := y
              have YK := Lib.hid (UOK.out _ rfl)
              unfold undoR Cst.v at CUS; dsimp only at CUS
              go_wp2_with fail
              refine region_hWalk (fun w1 => Up wr w1) 13 (by kernel_rfl) rfl (by kernel_rfl) (Up.refl _).drew ?_; refine hWalk_take 0 (by kernel_rfl) rfl (by rfl) ?_; apply Exists.intro; refine ⟨fun w1 hS1 => ?_, ?_⟩
              · obtain ⟨a0, a1, a2⟩ := And.intro (X3.out.up hS1).c0 (And.intro (X3.out.up hS1).c1 (X3.out.up hS1).c2)
                have al := (X3.out.up hS1).lt
                clear hS1; go_simp
                try rfl
              go_simp; refine hWalk_take 1 (by kernel_rfl) rfl (by rfl) ?_; apply Exists.intro; refine ⟨fun w1 hS1 => ?_, ?_⟩
              · obtain ⟨g0, g1, g2⟩ := And.intro (X4.out.up hS1).c0 (And.intro (X4.out.up hS1).c1 (X4.out.up hS1).c2)
                have gl := (X4.out.up hS1).lt
                clear hS1; go_simp
                try rfl
              go_simp; refine hWalk_take 2 (by kernel_rfl) rfl (by rfl) ?_; apply Exists.intro; refine ⟨fun w1 hS1 => ?_, ?_⟩
              · clear hS1
                go_simp
                try rfl
              go_simp; refine hWalk_take 3 (by kernel_rfl) rfl (by rfl) ?_; apply Exists.intro; refine ⟨fun w1 hS1 => ?_, ?_⟩
              · clear hS1
                go_simp
                try rfl
              go_simp; refine hWalk_take 4 (by kernel_rfl) rfl (by rfl) ?_; apply Exists.intro; refine ⟨fun w1 hS1 => ?_, ?_⟩
              · clear hS1
                go_simp
                try rfl
              go_simp; refine hWalk_take 5 (by kernel_rfl) rfl (by rfl) ?_; apply Exists.intro; refine ⟨fun w1 hS1 => ?_, ?_⟩
              · obtain ⟨p0, p1, p2, p3, p4, p5⟩ := AT.out.up hS1 HLT.out
                dsimp only at p0 p1 p2 p3 p4 p5
                have pl : bE < w1.heap.size := Nat.lt_of_lt_of_le HLT.out hS1.size
                clear hS1; go_simp
                try rfl
              go_simp; refine hWalk_two (i := 6) (j := 10) (by kernel_rfl) ?_ ?_
              · refine next_mk rfl (by rfl) (fun K hK => ?_)
                go_simp; refine (CUS.out _ (UR.out.trans (Up.refl wr).drew)).mono ?_; rintro x wz ⟨rfl, u9⟩
                have HU := Lib.hid ((Up.refl wr).drew.trans u9)
                refine hK _ _ HU.out ?_; clear hK K; refine hWalk_take 7 (by kernel_rfl) rfl (by rfl) ?_; apply Exists.intro; refine ⟨fun w1 hS1 => ?_, ?_⟩
                · clear hS1
                  go_simp
                  try rfl
                go_simp; refine hWalk_take 8 (by kernel_rfl) rfl (by rfl) ?_; apply Exists.intro; refine ⟨fun w1 hS1 => ?_, ?_⟩
                · clear hS1
                  go_simp
                  try rfl
                go_simp; refine hWalk_take 9 (by kernel_rfl) rfl (by rfl) ?_; apply Exists.intro; refine ⟨fun w1 hS1 => ?_, ?_⟩
                · clear hS1
                  go_simp
                  try rfl
                go_simp; refine hWalk_one (i := 10) (by kernel_rfl) (next_mk rfl (by rfl) (fun K hK => ?_))
                have ua := (Up.refl wz).alloc (.cells #[.int .i64 0, .int .i64 0, .int .i64 0] 41)
                go_simp; refine hK _ _ (HU.out.trans ua) ?_; clear hK K ua; refine hWalk_one (i := 11) (by kernel_rfl) (next_mk rfl (by rfl) (fun K hK => ?_)); go_simp
                have ub := (Up.refl wz).alloc (.cells #[.int .i64 ys, .int .i64 yq, .int .i64 yc] 41)
                have UN := Lib.hid (HU.out.trans ub)
                refine hK _ _ UN.out ?_; clear hK K ub; refine hWalk_take 12 (by kernel_rfl) rfl (by rfl) ?_; apply Exists.intro; refine ⟨fun w1 hS1 => ?_, ?_⟩
                · clear hS1
                  go_simp
                  try rfl
                go_simp; refine hWalk_nil (by kernel_rfl) ?_
                have YN := Lib.hid (Cell3.new wz ys yq yc 41)
                have BN := Lib.hid (show b4 ≠ wz.heap.size ∧ b6 ≠ wz.heap.size ∧ b3 ≠ wz.heap.size from by have h1 := X4.out.lt; have h2 := X6.out.lt; have h3 := X3.out.lt; have h4 : wr.heap.size ≤ wz.heap.size := HU.out.size; omega)
                replace X3 := Lib.hid (X3.out.up UN.out)
                replace X4 := Lib.hid (X4.out.up UN.out)
                replace X6 := Lib.hid (X6.out.up UN.out)
                replace UR := Lib.hid (UR.out.trans UN.out)
                clear UN HU
                generalize wz.alloc (.cells #[.int .i64 ys, .int .i64 yq, .int .i64 yc] 41) = Wn at *
                obtain ⟨y0, y1, y2⟩ := And.intro YN.out.c0 (And.intro YN.out.c1 YN.out.c2)
                have yl := YN.out.lt
                obtain ⟨q0, q1, q2⟩ := And.intro X4.out.c0 (And.intro X4.out.c1 X4.out.c2)
                have ql := X4.out.lt
                have qf := X4.out.f
                have K4 := Lib.hid (X4.out.laid' ys yq yc)
                have b64 := B64.out
                replace X6 := Lib.hid (((X6.out.far (p := ⟨b4, 0, none⟩) (by dsimp only; omega) (.int .i64 ys)).far (p := ⟨b4, 1, none⟩) (by dsimp only; omega) (.int .i64 yq)).far (p := ⟨b4, 2, none⟩) (by dsimp only; omega) (.int .i64 yc))
                replace X3 := Lib.hid (X3.out.farU (p := ⟨b4, 0, none⟩) (by dsimp only; omega) (.int .i64 ys) |>.farU (p := ⟨b4, 1, none⟩) (by dsimp only; omega) (.int .i64 yq) |>.farU (p := ⟨b4, 2, none⟩) (by dsimp only; omega) (.int .i64 yc))
                replace UR := Lib.hid (((UR.out.setCell (p := ⟨b4, 0, none⟩) B4.out (.int .i64 ys)).setCell (p := ⟨b4, 1, none⟩) B4.out (.int .i64 yq)).setCell (p := ⟨b4, 2, none⟩) B4.out (.int .i64 yc))
                clear b64
                have hqz : IntKind.i64.wrap ((q : Int) - 1) = (q : Int) - 1 := IntWalk.i64_in _ (by omega)
                go_wp2
                go_roundw
                case rel => exact ⟨⟨q, (q : Int) - 1, ⟨ys, yq, yc⟩, by omega, rfl, rfl, Lib.hid ⟨BA.out, YK.out.1, by have := YK.out.2; have := HB.out.2.2; dsimp only at *; omega⟩, K4, X3, X6⟩, UR.out⟩
                case measure => (simp [intOf]; try omega)
              · refine next_mk rfl (by rfl) (fun K hK => ?_)
                have ua := (Up.refl wr).drew.alloc (.cells #[.int .i64 0, .int .i64 0, .int .i64 0] 41)
                have YA : Hid (Cell3 (wr.drew.alloc (.cells #[.int .i64 0, .int .i64 0, .int .i64 0] 41)) wr.heap.size 0 0 0) := Lib.hid (Cell3.new wr.drew 0 0 0 41)
                go_simp; refine hK _ _ ua ?_; clear hK K; refine hWalk_one (i := 6) (by kernel_rfl) (next_mk rfl (by rfl) (fun K hK => ?_)); go_simp; refine (CUS.out _ (UR.out.trans ua)).mono ?_; rintro x wz ⟨rfl, u9⟩
                have HU := Lib.hid (ua.trans u9)
                refine hK _ _ HU.out ?_; clear hK K
                replace YA := Lib.hid (YA.out.up u9)
                refine hWalk_take 7 (by kernel_rfl) rfl (by rfl) ?_; apply Exists.intro; refine ⟨fun w1 hS1 => ?_, ?_⟩
                · clear hS1
                  go_simp
                  try rfl
                go_simp; refine hWalk_take 8 (by kernel_rfl) rfl (by rfl) ?_; apply Exists.intro; refine ⟨fun w1 hS1 => ?_, ?_⟩
                · clear hS1
                  go_simp
                  try rfl
                go_simp; refine hWalk_take 9 (by kernel_rfl) rfl (by rfl) ?_; apply Exists.intro; refine ⟨fun w1 hS1 => ?_, ?_⟩
                · clear hS1
                  go_simp
                  try rfl
                go_simp; refine hWalk_one (i := 11) (by kernel_rfl) (next_mk rfl (by rfl) (fun K hK => ?_)); obtain ⟨e0, e1, e2⟩ := And.intro YA.out.c0 (And.intro YA.out.c1 YA.out.c2)
                have el := YA.out.lt
                have ef := YA.out.f
                go_simp
                have YN := Lib.hid (YA.out.laid' ys yq yc)
                have hsz : wr.heap.size ≤ wr.heap.size := Nat.le_refl _
                have UN := Lib.hid (((HU.out.setCell (p := ⟨wr.heap.size, 0, none⟩) hsz (.int .i64 ys)).setCell (p := ⟨wr.heap.size, 1, none⟩) hsz (.int .i64 yq)).setCell (p := ⟨wr.heap.size, 2, none⟩) hsz (.int .i64 yc))
                refine hK _ _ UN.out ?_; clear hK K e0 e1 e2 el ef hsz ua; refine hWalk_take 12 (by kernel_rfl) rfl (by rfl) ?_; apply Exists.intro; refine ⟨fun w1 hS1 => ?_, ?_⟩
                · clear hS1
                  go_simp
                  try rfl
                go_simp; refine hWalk_nil (by kernel_rfl) ?_
                have BN := Lib.hid (show b4 ≠ wr.heap.size ∧ b6 ≠ wr.heap.size ∧ b3 ≠ wr.heap.size from by have h1 := X4.out.lt; have h2 := X6.out.lt; have h3 := X3.out.lt; omega)
                replace X3 := Lib.hid (X3.out.up UN.out)
                replace X4 := Lib.hid (X4.out.up UN.out)
                replace X6 := Lib.hid (X6.out.up UN.out)
                replace UR := Lib.hid (UR.out.trans UN.out)
                clear UN HU
                generalize ((wz.setCell ⟨wr.heap.size, 0, none⟩ (.int .i64 ys)).setCell ⟨wr.heap.size, 1, none⟩ (.int .i64 yq)).setCell ⟨wr.heap.size, 2, none⟩ (.int .i64 yc) = Wn at *
                obtain ⟨y0, y1, y2⟩ := And.intro YN.out.c0 (And.intro YN.out.c1 YN.out.c2)
                have yl := YN.out.lt
                obtain ⟨q0, q1, q2⟩ := And.intro X4.out.c0 (And.intro X4.out.c1 X4.out.c2)
                have ql := X4.out.lt
                have qf := X4.out.f
                have K4 := Lib.hid (X4.out.laid' ys yq yc)
                have b64 := B64.out
                replace X6 := Lib.hid (((X6.out.far (p := ⟨b4, 0, none⟩) (by dsimp only; omega) (.int .i64 ys)).far (p := ⟨b4, 1, none⟩) (by dsimp only; omega) (.int .i64 yq)).far (p := ⟨b4, 2, none⟩) (by dsimp only; omega) (.int .i64 yc))
                replace X3 := Lib.hid (X3.out.farU (p := ⟨b4, 0, none⟩) (by dsimp only; omega) (.int .i64 ys) |>.farU (p := ⟨b4, 1, none⟩) (by dsimp only; omega) (.int .i64 yq) |>.farU (p := ⟨b4, 2, none⟩) (by dsimp only; omega) (.int .i64 yc))
                replace UR := Lib.hid (((UR.out.setCell (p := ⟨b4, 0, none⟩) B4.out (.int .i64 ys)).setCell (p := ⟨b4, 1, none⟩) B4.out (.int .i64 yq)).setCell (p := ⟨b4, 2, none⟩) B4.out (.int .i64 yc))
                clear b64
                have hqz : IntKind.i64.wrap ((q : Int) - 1) = (q : Int) - 1 := IntWalk.i64_in _ (by omega)
                go_wp2
                go_roundw
                case rel => exact ⟨⟨q, (q : Int) - 1, ⟨ys, yq, yc⟩, by omega, rfl, rfl, Lib.hid ⟨BA.out, YK.out.1, by have := YK.out.2; have := HB.out.2.2; dsimp only at *; omega⟩, K4, X3, X6⟩, UR.out⟩
                case measure => (simp [intOf]; try omega)
            | none =>
              unfold undoR at CUS; dsimp only at CUS
              go_wp2_with fail
              refine region_hWalk (fun w1 => Up wr w1) 13 (by kernel_rfl) rfl (by kernel_rfl) (Up.refl _).drew ?_; refine hWalk_take 0 (by kernel_rfl) rfl (by rfl) ?_; apply Exists.intro; refine ⟨fun w1 hS1 => ?_, ?_⟩
              · obtain ⟨a0, a1, a2⟩ := And.intro (X3.out.up hS1).c0 (And.intro (X3.out.up hS1).c1 (X3.out.up hS1).c2)
                have al := (X3.out.up hS1).lt
                clear hS1; go_simp
                try rfl
              go_simp; refine hWalk_take 1 (by kernel_rfl) rfl (by rfl) ?_; apply Exists.intro; refine ⟨fun w1 hS1 => ?_, ?_⟩
              · obtain ⟨g0, g1, g2⟩ := And.intro (X4.out.up hS1).c0 (And.intro (X4.out.up hS1).c1 (X4.out.up hS1).c2)
                have gl := (X4.out.up hS1).lt
                clear hS1; go_simp
                try rfl
              go_simp; refine hWalk_take 2 (by kernel_rfl) rfl (by rfl) ?_; apply Exists.intro; refine ⟨fun w1 hS1 => ?_, ?_⟩
              · clear hS1
                go_simp
                try rfl
              go_simp; refine hWalk_take 3 (by kernel_rfl) rfl (by rfl) ?_; apply Exists.intro; refine ⟨fun w1 hS1 => ?_, ?_⟩
              · clear hS1
                go_simp
                try rfl
              go_simp; refine hWalk_take 4 (by kernel_rfl) rfl (by rfl) ?_; apply Exists.intro; refine ⟨fun w1 hS1 => ?_, ?_⟩
              · clear hS1
                go_simp
                try rfl
              go_simp; refine hWalk_take 5 (by kernel_rfl) rfl (by rfl) ?_; apply Exists.intro; refine ⟨fun w1 hS1 => ?_, ?_⟩
              · obtain ⟨p0, p1, p2, p3, p4, p5⟩ := AT.out.up hS1 HLT.out
                dsimp only at p0 p1 p2 p3 p4 p5
                have pl : bE < w1.heap.size := Nat.lt_of_lt_of_le HLT.out hS1.size
                clear hS1; go_simp
                try rfl
              go_simp; refine hWalk_two (i := 6) (j := 10) (by kernel_rfl) ?_ ?_
              · refine next_mk rfl (by rfl) (fun K hK => ?_)
                go_simp; refine (CUS.out _ (UR.out.trans (Up.refl wr).drew)).mono ?_; rintro x wz ⟨rfl, u9⟩
                have HU := Lib.hid ((Up.refl wr).drew.trans u9)
                refine hK _ _ HU.out ?_; clear hK K; refine hWalk_take 7 (by kernel_rfl) rfl (by rfl) ?_; apply Exists.intro; refine ⟨fun w1 hS1 => ?_, ?_⟩
                · clear hS1
                  go_simp
                  try rfl
                go_simp; refine hWalk_take 8 (by kernel_rfl) rfl (by rfl) ?_; apply Exists.intro; refine ⟨fun w1 hS1 => ?_, ?_⟩
                · clear hS1
                  go_simp
                  try rfl
                go_simp; refine hWalk_take 9 (by kernel_rfl) rfl (by rfl) ?_; apply Exists.intro; refine ⟨fun w1 hS1 => ?_, ?_⟩
                · clear hS1
                  go_simp
                  try rfl
                go_simp; refine hWalk_one (i := 10) (by kernel_rfl) (next_mk rfl (by rfl) (fun K hK => ?_))
                have ua := (Up.refl wz).alloc (.cells #[.int .i64 0, .int .i64 0, .int .i64 0] 41)
                go_simp; refine hK _ _ (HU.out.trans ua) ?_; clear hK K ua; refine hWalk_one (i := 11) (by kernel_rfl) (next_mk rfl (by rfl) (fun K hK => ?_)); go_simp
                have ub := (Up.refl wz).alloc (.cells #[.int .i64 0, .int .i64 0, .int .i64 0] 41)
                have UN := Lib.hid (HU.out.trans ub)
                refine hK _ _ UN.out ?_; clear hK K ub; refine hWalk_take 12 (by kernel_rfl) rfl (by rfl) ?_; apply Exists.intro; refine ⟨fun w1 hS1 => ?_, ?_⟩
                · clear hS1
                  go_simp
                  try rfl
                go_simp; refine hWalk_nil (by kernel_rfl) ?_
                have YN := Lib.hid (Cell3.new wz 0 0 0 41)
                have BN := Lib.hid (show b4 ≠ wz.heap.size ∧ b6 ≠ wz.heap.size ∧ b3 ≠ wz.heap.size from by have h1 := X4.out.lt; have h2 := X6.out.lt; have h3 := X3.out.lt; have h4 : wr.heap.size ≤ wz.heap.size := HU.out.size; omega)
                replace X3 := Lib.hid (X3.out.up UN.out)
                replace X4 := Lib.hid (X4.out.up UN.out)
                replace X6 := Lib.hid (X6.out.up UN.out)
                replace UR := Lib.hid (UR.out.trans UN.out)
                clear UN HU
                generalize wz.alloc (.cells #[.int .i64 0, .int .i64 0, .int .i64 0] 41) = Wn at *
                have EQ := Lib.hid (show res = none from by
                  rw [EQR.out, ← List.take_append_drop q es, List.reverse_append, backE_app, BA.out]
                  rfl)
                obtain ⟨d0, d1, d2⟩ := And.intro X6.out.c0 (And.intro X6.out.c1 X6.out.c2)
                have df := X6.out.f
                have dl := X6.out.lt
                obtain ⟨k0, k1, k2⟩ := And.intro (X6.out.laid' 0 0 0).c0 (And.intro (X6.out.laid' 0 0 0).c1 (X6.out.laid' 0 0 0).c2)
                have UE := Lib.hid (((UR.out.setCell (p := ⟨b6, 0, none⟩) B6.out (.int .i64 0)).setCell (p := ⟨b6, 1, none⟩) B6.out (.int .i64 0)).setCell (p := ⟨b6, 2, none⟩) B6.out (.int .i64 0))
                go_wp2
                exact bodyPost_ret (v := .tuple #[.agg #[.int .i64 0, .int .i64 0, .int .i64 0], .bool false]) (by simp [results, Try.results29, go_sem, k0, k1, k2]) rfl ⟨by rw [EQ.out]; rfl, UE.out⟩
              · refine next_mk rfl (by rfl) (fun K hK => ?_)
                have ua := (Up.refl wr).drew.alloc (.cells #[.int .i64 0, .int .i64 0, .int .i64 0] 41)
                have YA : Hid (Cell3 (wr.drew.alloc (.cells #[.int .i64 0, .int .i64 0, .int .i64 0] 41)) wr.heap.size 0 0 0) := Lib.hid (Cell3.new wr.drew 0 0 0 41)
                go_simp; refine hK _ _ ua ?_; clear hK K; refine hWalk_one (i := 6) (by kernel_rfl) (next_mk rfl (by rfl) (fun K hK => ?_)); go_simp; refine (CUS.out _ (UR.out.trans ua)).mono ?_; rintro x wz ⟨rfl, u9⟩
                have HU := Lib.hid (ua.trans u9)
                refine hK _ _ HU.out ?_; clear hK K
                replace YA := Lib.hid (YA.out.up u9)
                refine hWalk_take 7 (by kernel_rfl) rfl (by rfl) ?_; apply Exists.intro; refine ⟨fun w1 hS1 => ?_, ?_⟩
                · clear hS1
                  go_simp
                  try rfl
                go_simp; refine hWalk_take 8 (by kernel_rfl) rfl (by rfl) ?_; apply Exists.intro; refine ⟨fun w1 hS1 => ?_, ?_⟩
                · clear hS1
                  go_simp
                  try rfl
                go_simp; refine hWalk_take 9 (by kernel_rfl) rfl (by rfl) ?_; apply Exists.intro; refine ⟨fun w1 hS1 => ?_, ?_⟩
                · clear hS1
                  go_simp
                  try rfl
                go_simp; refine hWalk_one (i := 11) (by kernel_rfl) (next_mk rfl (by rfl) (fun K hK => ?_)); obtain ⟨e0, e1, e2⟩ := And.intro YA.out.c0 (And.intro YA.out.c1 YA.out.c2)
                have el := YA.out.lt
                have ef := YA.out.f
                go_simp
                have YN := Lib.hid (YA.out.laid' 0 0 0)
                have hsz : wr.heap.size ≤ wr.heap.size := Nat.le_refl _
                have UN := Lib.hid (((HU.out.setCell (p := ⟨wr.heap.size, 0, none⟩) hsz (.int .i64 0)).setCell (p := ⟨wr.heap.size, 1, none⟩) hsz (.int .i64 0)).setCell (p := ⟨wr.heap.size, 2, none⟩) hsz (.int .i64 0))
                refine hK _ _ UN.out ?_; clear hK K e0 e1 e2 el ef hsz ua; refine hWalk_take 12 (by kernel_rfl) rfl (by rfl) ?_; apply Exists.intro; refine ⟨fun w1 hS1 => ?_, ?_⟩
                · clear hS1
                  go_simp
                  try rfl
                go_simp; refine hWalk_nil (by kernel_rfl) ?_
                have BN := Lib.hid (show b4 ≠ wr.heap.size ∧ b6 ≠ wr.heap.size ∧ b3 ≠ wr.heap.size from by have h1 := X4.out.lt; have h2 := X6.out.lt; have h3 := X3.out.lt; omega)
                replace X3 := Lib.hid (X3.out.up UN.out)
                replace X4 := Lib.hid (X4.out.up UN.out)
                replace X6 := Lib.hid (X6.out.up UN.out)
                replace UR := Lib.hid (UR.out.trans UN.out)
                clear UN HU
                generalize ((wz.setCell ⟨wr.heap.size, 0, none⟩ (.int .i64 0)).setCell ⟨wr.heap.size, 1, none⟩ (.int .i64 0)).setCell ⟨wr.heap.size, 2, none⟩ (.int .i64 0) = Wn at *
                have EQ := Lib.hid (show res = none from by
                  rw [EQR.out, ← List.take_append_drop q es, List.reverse_append, backE_app, BA.out]
                  rfl)
                obtain ⟨d0, d1, d2⟩ := And.intro X6.out.c0 (And.intro X6.out.c1 X6.out.c2)
                have df := X6.out.f
                have dl := X6.out.lt
                obtain ⟨k0, k1, k2⟩ := And.intro (X6.out.laid' 0 0 0).c0 (And.intro (X6.out.laid' 0 0 0).c1 (X6.out.laid' 0 0 0).c2)
                have UE := Lib.hid (((UR.out.setCell (p := ⟨b6, 0, none⟩) B6.out (.int .i64 0)).setCell (p := ⟨b6, 1, none⟩) B6.out (.int .i64 0)).setCell (p := ⟨b6, 2, none⟩) B6.out (.int .i64 0))
                go_wp2
                exact bodyPost_ret (v := .tuple #[.agg #[.int .i64 0, .int .i64 0, .int .i64 0], .bool false]) (by simp [results, Try.results29, go_sem, k0, k1, k2]) rfl ⟨by rw [EQ.out]; rfl, UE.out⟩
          · obtain rfl : p = 0 := by omega
            have hz0 : decide ((0 : Int) ≤ z) = false := decide_eq_false (by omega)
            have hz1 : ¬ (0 : Int) ≤ z := by omega
            clear hz
            have EQ := Lib.hid (show res = some ⟨cs, cq, ct⟩ from by
              rw [EQR.out]
              exact HB.out.1)
            obtain ⟨q0, q1, q2⟩ := And.intro X4.out.c0 (And.intro X4.out.c1 X4.out.c2)
            have ql := X4.out.lt
            obtain ⟨d0, d1, d2⟩ := And.intro X6.out.c0 (And.intro X6.out.c1 X6.out.c2)
            have df := X6.out.f
            have dl := X6.out.lt
            obtain ⟨k0, k1, k2⟩ := And.intro (X6.out.laid' cs cq ct).c0 (And.intro (X6.out.laid' cs cq ct).c1 (X6.out.laid' cs cq ct).c2)
            have UE := Lib.hid (((UR.out.setCell (p := ⟨b6, 0, none⟩) B6.out (.int .i64 cs)).setCell (p := ⟨b6, 1, none⟩) B6.out (.int .i64 cq)).setCell (p := ⟨b6, 2, none⟩) B6.out (.int .i64 ct))
            go_wp2
            exact bodyPost_ret (v := .tuple #[.agg #[.int .i64 cs, .int .i64 cq, .int .i64 ct], .bool true]) (by simp [results, Try.results29, go_sem, k0, k1, k2]) rfl ⟨by rw [EQ.out]; rfl, UE.out⟩
  · have i4 : (100 : Int) < len := by omega
    have EQ := Lib.hid (show res = none from UD.out.trans (by rw [decide_eq_false (show ¬ es.length ≤ 100 by rw [HE.out.1]; exact hlen)]; simp))
    clear UD; go_wp2
    exact bodyPost_ret (v := .tuple #[.agg #[.int .i64 0, .int .i64 0, .int .i64 0], .bool false]) (by simp [results, Try.results29, go_sem]) rfl ⟨by rw [EQ.out]; rfl, (((Up.refl w).alloc _).alloc _).alloc _⟩
end Go.Proofs.Ytakmlfgkppekoaa

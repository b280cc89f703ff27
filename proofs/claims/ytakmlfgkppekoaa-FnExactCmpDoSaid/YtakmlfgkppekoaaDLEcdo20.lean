/-
  What impl.CmpDo returns, in one sentence: the new state and what is sent in a new block, nothing where one of the three is not ok; for every model that lies in memory.
-/
import Derived.Test.YtakmlfgkppekoaaDLEcdo02
import Derived.Test.YtakmlfgkppekoaaDLEcdo19
namespace Go.Proofs.Ytakmlfgkppekoaa
set_option maxRecDepth 100000
open Go.RowKit
def ImplDoPost (m : Mdl) (s : Cst) (e : Evt) (w : World) (x : Ending) (w' : World) : Prop :=
  ∃ v, x = .returned (.tuple #[(doM m s e).1.v, v]) ∧ w'.ownsRow w.heap.size 45 6 v (doM m s e).2.length (flat (doM m s e).2) ∧ Up w w'
set_option maxHeartbeats 8000000 in
theorem implCmpDo_any (A : Option Addr) (n c : Nat) (B : Option Addr) (k d : Nat) (m : Mdl) (s : Cst) (e : Evt) (w : World) (hM : MdlV w A n B k m) :
    Calls Try.prog 37 #[.agg #[.slice A n c, .slice B k d, .int .i64 m.til], s.v, e.v] w (ImplDoPost m s e w) := by
  have hnr := hM.rules.1
  obtain ⟨et, eto, efr, esq, ekd, edt⟩ := e
  have MB := Lib.hid (show mayB m s ⟨et, eto, efr, esq, ekd, edt⟩ = (mdlB m && cstB s && (okB ⟨et, eto, efr, esq, ekd, edt⟩ m.rules.length && decide (et ≤ m.til))) by simp only [mayB, Bool.and_assoc])
  have CM := Lib.hid (fun W (u : Up w W) => newMachine_any A n c B k d m W (hM.up u))
  have CC := Lib.hid (fun W => implCst_any s W)
  have CD := Lib.hid (fun mb W (h : Mach W mb m) ho => process_any mb m.rules.length m s ⟨et, eto, efr, esq, ekd, edt⟩ W h ho)
  have U0 := Lib.hid ((((Up.refl w).alloc (.cells #[.slice A n c, .slice B k d, .int .i64 m.til] 33)).alloc (.cells #[.int .i64 s.s, .int .i64 s.sq, .int .i64 s.ct] 41)).alloc (.cells #[.int .i64 et, .int .i64 eto, .int .i64 efr, .int .i64 esq, .int .i64 ekd, .int .i64 edt] 45) |>.alloc (.cells #[.int .i64 0, .int .i64 0, .int .i64 0] 41))
  have X3 := Lib.hid ((((Box3.new w (.slice A n c) (.slice B k d) (.int .i64 m.til) 33).up ((Up.refl _).alloc (.cells #[.int .i64 s.s, .int .i64 s.sq, .int .i64 s.ct] 41))).up ((Up.refl _).alloc (.cells #[.int .i64 et, .int .i64 eto, .int .i64 efr, .int .i64 esq, .int .i64 ekd, .int .i64 edt] 45))).up ((Up.refl _).alloc (.cells #[.int .i64 0, .int .i64 0, .int .i64 0] 41)))
  have X4 := Lib.hid (((Box3.new (w.alloc (.cells #[.slice A n c, .slice B k d, .int .i64 m.til] 33)) (.int .i64 s.s) (.int .i64 s.sq) (.int .i64 s.ct) 41).up ((Up.refl _).alloc (.cells #[.int .i64 et, .int .i64 eto, .int .i64 efr, .int .i64 esq, .int .i64 ekd, .int .i64 edt] 45))).up ((Up.refl _).alloc (.cells #[.int .i64 0, .int .i64 0, .int .i64 0] 41)))
  have X5 := Lib.hid ((Box.new ((w.alloc (.cells #[.slice A n c, .slice B k d, .int .i64 m.til] 33)).alloc (.cells #[.int .i64 s.s, .int .i64 s.sq, .int .i64 s.ct] 41)) ⟨et, eto, efr, esq, ekd, edt⟩ 45).up ((Up.refl _).alloc (.cells #[.int .i64 0, .int .i64 0, .int .i64 0] 41)))
  have X6 := Lib.hid (Cell3.new (((w.alloc (.cells #[.slice A n c, .slice B k d, .int .i64 m.til] 33)).alloc (.cells #[.int .i64 s.s, .int .i64 s.sq, .int .i64 s.ct] 41)).alloc (.cells #[.int .i64 et, .int .i64 eto, .int .i64 efr, .int .i64 esq, .int .i64 ekd, .int .i64 edt] 45)) 0 0 0 41)
  simp only [World.size_alloc] at X4 X5 X6
  generalize hmb : mdlB m = g1 at MB
  have HG1 := Lib.hid hmb
  generalize hcb : cstB s = g2 at MB CC
  unfold Cst.v at CC CD ⊢; unfold Evt.v at CD ⊢; dsimp only at CC CD ⊢; clear hM hnr hmb hcb
  go_enter Try.func37, Try.ntmps37
  go_wp2_with fail
  refine (CM.out _ U0.out).mono ?_; rintro x w1 ⟨u1, ho⟩
  have UU := Lib.hid (U0.out.trans u1)
  have X4 := Lib.hid (X4.out.up u1)
  have X5 := Lib.hid (X5.out.up u1)
  have X6 := Lib.hid (X6.out.up u1)
  generalize hb6 : w.heap.size + 1 + 1 + 1 = b6 at X6 ⊢
  have hb6w : w.heap.size ≤ b6 := by omega
  clear u1
  rcases ho with ⟨hg, rfl⟩ | ⟨hg, mb, rfl, hmbw, hmach⟩
  · obtain rfl : g1 = false := HG1.out.symm.trans hg
    clear hg
    have DN := Lib.hid (show doM m s ⟨et, eto, efr, esq, ekd, edt⟩ = (⟨0, 0, 0⟩, []) by unfold doM; rw [if_neg (by rw [MB.out]; simp)])
    obtain ⟨q0, q1, q2⟩ := And.intro X6.out.c0 (And.intro X6.out.c1 X6.out.c2)
    have qf := X6.out.f
    have ql := X6.out.lt
    have XA := (X6.out.laid' 0 0 0).up ((Up.refl _).alloc (.cells #[.map none, .int .i64 0, .int .i64 0] 106))
    obtain ⟨k0, k1, k2⟩ := And.intro XA.c0 (And.intro XA.c1 XA.c2)
    have UE := Lib.hid ((((UU.out.setCell (p := ⟨b6, 0, none⟩) hb6w (.int .i64 0)).setCell (p := ⟨b6, 1, none⟩) hb6w (.int .i64 0)).setCell (p := ⟨b6, 2, none⟩) hb6w (.int .i64 0)).alloc (.cells #[.map none, .int .i64 0, .int .i64 0] 106))
    clear XA; go_wp2
    exact bodyPost_ret (v := .tuple #[.agg #[.int .i64 0, .int .i64 0, .int .i64 0], .slice none 0 0]) (by simp [results, Try.results37, go_sem, k0, k1, k2]) rfl (by
      unfold ImplDoPost; rw [DN.out]
      exact ⟨.slice none 0 0, rfl, ⟨rfl, .inl ⟨rfl, rfl⟩⟩, UE.out⟩)
  · obtain rfl : g1 = true := HG1.out.symm.trans hg
    have HMA := Lib.hid hmach
    clear hg hmach hmbw; obtain ⟨p0, p1, p2⟩ := And.intro X4.out.c0 (And.intro X4.out.c1 X4.out.c2)
    have pl := X4.out.lt
    have u3 : Up w1 (w1.alloc (.cells #[.map (some mb), .int .i64 m.rules.length, .int .i64 m.til] 106)) := (Up.refl _).alloc _
    have X7 := Lib.hid (Box3.new w1 (.map (some mb)) (.int .i64 m.rules.length) (.int .i64 m.til) 106)
    go_wp2_with fail
    refine (CC.out _).mono ?_; rintro x w2 ⟨rfl, u2⟩
    have X7 := Lib.hid (X7.out.up u2)
    have u2 := u3.trans u2
    have UU := Lib.hid (UU.out.trans u2)
    have X4 := Lib.hid (X4.out.up u2)
    have X5 := Lib.hid (X5.out.up u2)
    have X6 := Lib.hid (X6.out.up u2)
    have HMA := Lib.hid (HMA.out.up u2)
    clear u2 u3 p0 p1 p2 pl
    generalize w1.heap.size = b8 at X7 ⊢
    cases g2
    · have DN := Lib.hid (show doM m s ⟨et, eto, efr, esq, ekd, edt⟩ = (⟨0, 0, 0⟩, []) by unfold doM; rw [if_neg (by rw [MB.out]; simp)])
      obtain ⟨q0, q1, q2⟩ := And.intro X6.out.c0 (And.intro X6.out.c1 X6.out.c2)
      have qf := X6.out.f
      have ql := X6.out.lt
      have XA := (X6.out.laid' 0 0 0).up (Up.refl _)
      obtain ⟨k0, k1, k2⟩ := And.intro XA.c0 (And.intro XA.c1 XA.c2)
      have UE := Lib.hid ((((UU.out.setCell (p := ⟨b6, 0, none⟩) hb6w (.int .i64 0)).setCell (p := ⟨b6, 1, none⟩) hb6w (.int .i64 0)).setCell (p := ⟨b6, 2, none⟩) hb6w (.int .i64 0)))
      clear XA; go_wp2
      exact bodyPost_ret (v := .tuple #[.agg #[.int .i64 0, .int .i64 0, .int .i64 0], .slice none 0 0]) (by simp [results, Try.results37, go_sem, k0, k1, k2]) rfl (by
        unfold ImplDoPost; rw [DN.out]
        exact ⟨.slice none 0 0, rfl, ⟨rfl, .inl ⟨rfl, rfl⟩⟩, UE.out⟩)
    · obtain ⟨t0, t1, t2⟩ := And.intro X7.out.c0 (And.intro X7.out.c1 X7.out.c2)
      obtain ⟨⟨y0, y1, y2, y3, y4, y5⟩, -⟩ := X5.out.mk6
      have TK := Lib.hid (fun W => takes_any _ m.rules.length m.til ⟨et, eto, efr, esq, ekd, edt⟩ (some mb) rfl W)
      generalize hok : (okB ⟨et, eto, efr, esq, ekd, edt⟩ m.rules.length && decide (et ≤ m.til)) = g3 at MB
      have HOK := Lib.hid hok
      have TK2 := Lib.hid (fun W => (show Calls Try.prog 84 #[.agg #[.map (some mb), .int .i64 m.rules.length, .int .i64 m.til], .agg #[.int .i64 et, .int .i64 eto, .int .i64 efr, .int .i64 esq, .int .i64 ekd, .int .i64 edt]] W fun z w' => z = .returned (.bool g3) ∧ Up W w' by have h := TK.out W; rw [HOK.out] at h; exact h))
      clear TK hok
      go_wp2_with fail
      refine (TK2.out _).mono ?_; rintro x w3 ⟨rfl, u2⟩
      have X7 := Lib.hid (X7.out.up u2)
      have UU := Lib.hid (UU.out.trans u2)
      have X4 := Lib.hid (X4.out.up u2)
      have X5 := Lib.hid (X5.out.up u2)
      have X6 := Lib.hid (X6.out.up u2)
      have HMA := Lib.hid (HMA.out.up u2)
      clear u2 t0 t1 t2 y0 y1 y2 y3 y4 y5
      cases g3
      · have DN := Lib.hid (show doM m s ⟨et, eto, efr, esq, ekd, edt⟩ = (⟨0, 0, 0⟩, []) by unfold doM; rw [if_neg (by rw [MB.out]; simp)])
        obtain ⟨q0, q1, q2⟩ := And.intro X6.out.c0 (And.intro X6.out.c1 X6.out.c2)
        have qf := X6.out.f
        have ql := X6.out.lt
        have XA := (X6.out.laid' 0 0 0).up (Up.refl _)
        obtain ⟨k0, k1, k2⟩ := And.intro XA.c0 (And.intro XA.c1 XA.c2)
        have UE := Lib.hid ((((UU.out.setCell (p := ⟨b6, 0, none⟩) hb6w (.int .i64 0)).setCell (p := ⟨b6, 1, none⟩) hb6w (.int .i64 0)).setCell (p := ⟨b6, 2, none⟩) hb6w (.int .i64 0)))
        clear XA; go_wp2
        exact bodyPost_ret (v := .tuple #[.agg #[.int .i64 0, .int .i64 0, .int .i64 0], .slice none 0 0]) (by simp [results, Try.results37, go_sem, k0, k1, k2]) rfl (by
          unfold ImplDoPost; rw [DN.out]
          exact ⟨.slice none 0 0, rfl, ⟨rfl, .inl ⟨rfl, rfl⟩⟩, UE.out⟩)
      · obtain ⟨p0, p1, p2⟩ := And.intro X4.out.c0 (And.intro X4.out.c1 X4.out.c2)
        obtain ⟨t0, t1, t2⟩ := And.intro X7.out.c0 (And.intro X7.out.c1 X7.out.c2); obtain ⟨⟨y0, y1, y2, y3, y4, y5⟩, -⟩ := X5.out.mk6
        have HM1 : mayB m s ⟨et, eto, efr, esq, ekd, edt⟩ = true := by rw [MB.out]; rfl
        have DD := Lib.hid (show doM m s ⟨et, eto, efr, esq, ekd, edt⟩ = doE m s ⟨et, eto, efr, esq, ekd, edt⟩ from if_pos HM1)
        have CD := Lib.hid (CD.out mb w3 HMA.out HM1)
        clear HM1
        go_wp2_with fail
        refine CD.out.mono ?_; rintro x w4 ⟨v, rfl, ho, u4⟩; rw [← DD.out] at ho ⊢
        generalize hdm : doM m s ⟨et, eto, efr, esq, ekd, edt⟩ = dm at ho ⊢
        obtain ⟨⟨z0, z1, z2⟩, out⟩ := dm; unfold Cst.v; dsimp only at ho ⊢
        have HD := Lib.hid hdm
        have hl3 : b6 < w3.heap.size := X6.out.lt
        have X6 := Lib.hid (X6.out.up u4)
        have hw3 := UU.out.size
        have UU := Lib.hid (UU.out.trans u4)
        obtain ⟨q0, q1, q2⟩ := And.intro X6.out.c0 (And.intro X6.out.c1 X6.out.c2)
        have qf := X6.out.f
        have ql := X6.out.lt
        obtain ⟨k0, k1, k2⟩ := And.intro (X6.out.laid' z0 z1 z2).c0 (And.intro (X6.out.laid' z0 z1 z2).c1 (X6.out.laid' z0 z1 z2).c2)
        have UE := Lib.hid (((UU.out.setCell (p := ⟨b6, 0, none⟩) hb6w (.int .i64 z0)).setCell (p := ⟨b6, 1, none⟩) hb6w (.int .i64 z1)).setCell (p := ⟨b6, 2, none⟩) hb6w (.int .i64 z2))
        have b67 : ∀ j, (⟨b6, j, none⟩ : Addr).block < w3.heap.size := fun j => hl3
        have OZ := Lib.hid (own_mono (ownsRow_setCell_below (ownsRow_setCell_below (ownsRow_setCell_below ho (b67 0) (.int .i64 z0)) (b67 1) (.int .i64 z1)) (b67 2) (.int .i64 z2)) hw3)
        clear u4 ho hdm b67; go_wp2
        exact bodyPost_ret (v := .tuple #[.agg #[.int .i64 z0, .int .i64 z1, .int .i64 z2], v]) (by simp [results, Try.results37, go_sem, k0, k1, k2]) rfl (by
          unfold ImplDoPost; rw [HD.out]
          exact ⟨v, rfl, OZ.out, UE.out⟩)
end Go.Proofs.Ytakmlfgkppekoaa

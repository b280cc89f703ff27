/-
  What DrawCmpUndo returns, in one sentence: some model in memory, some component and some event, over new blocks; for every code.
-/
import Derived.Test.YtakmlfgkppekoaaDLCud15
import Derived.Test.YtakmlfgkppekoaaDLCud21
namespace Go.Proofs.Ytakmlfgkppekoaa
set_option maxRecDepth 100000
open Go.RowKit
/-- What DrawCmpUndo gives. -/
def DrawnCU (w : World) (x : Ending) (w' : World) : Prop :=
  ∃ (A : Option Addr) (n c : Nat) (B : Option Addr) (k d : Nat) (m : Mdl) (s : Cst) (e : Evt), x = .returned (.tuple #[.agg #[.slice A n c, .slice B k d, .int .i64 m.til], s.v, e.v]) ∧ MdlV w' A n B k m ∧ (n ≤ 32 ∧ n ≤ c ∧ c ≤ 9223372036854775807) ∧ (s.ct ≤ 2000000 ∧ e.ok) ∧ Up w w'
set_option maxHeartbeats 8000000 in
theorem drawCud_any (A : Option Addr) (n cap : Nat) (w : World) (hc : n ≤ cap) (hmax : cap ≤ 9223372036854775807) (hB : Bys w A n w.heap.size) :
    Calls Try.prog 36 #[.slice A n cap] w (DrawnCU w) := by
  have HB := Lib.hid hB
  clear hB
  go_enter Try.func36, Try.ntmps36
  go_wp2_with fail
  have U0 := Lib.hid ((((Up.refl w).alloc (.cells #[.slice none 0 0, .slice none 0 0, .int .i64 0] 33)).alloc (.cells #[.int .i64 0, .int .i64 0, .int .i64 0] 41)).alloc (.cells #[.int .i64 0, .int .i64 0, .int .i64 0, .int .i64 0, .int .i64 0, .int .i64 0] 45))
  have X2 := Lib.hid (((Blk.new w #[.slice none 0 0, .slice none 0 0, .int .i64 0] 33).alloc (.cells #[.int .i64 0, .int .i64 0, .int .i64 0] 41)).alloc (.cells #[.int .i64 0, .int .i64 0, .int .i64 0, .int .i64 0, .int .i64 0, .int .i64 0] 45))
  have X3 := Lib.hid ((Blk.new (w.alloc (.cells #[.slice none 0 0, .slice none 0 0, .int .i64 0] 33)) #[.int .i64 0, .int .i64 0, .int .i64 0] 41).alloc (.cells #[.int .i64 0, .int .i64 0, .int .i64 0, .int .i64 0, .int .i64 0, .int .i64 0] 45))
  have X4 := Lib.hid (Blk.new ((w.alloc (.cells #[.slice none 0 0, .slice none 0 0, .int .i64 0] 33)).alloc (.cells #[.int .i64 0, .int .i64 0, .int .i64 0] 41)) #[.int .i64 0, .int .i64 0, .int .i64 0, .int .i64 0, .int .i64 0, .int .i64 0] 45)
  simp only [World.size_alloc] at X3 X4
  generalize ((w.alloc (.cells #[.slice none 0 0, .slice none 0 0, .int .i64 0] 33)).alloc (.cells #[.int .i64 0, .int .i64 0, .int .i64 0] 41)).alloc (.cells #[.int .i64 0, .int .i64 0, .int .i64 0, .int .i64 0, .int .i64 0, .int .i64 0] 45) = W0 at *
  generalize hb2 : w.heap.size = b2 at *
  generalize hb3 : b2 + 1 = b3 at *
  generalize hb4 : b3 + 1 = b4 at *
  have BY := Lib.hid (fun W (u : Up w W) => (show Bys W A n W.heap.size from fun h0 => by
    obtain ⟨b, off, hA, hb, hcc⟩ := HB.out.keep (fun b o hb => u.cells b o (by omega)) h0
    exact ⟨b, off, hA, by have := u.size; omega, hcc⟩))
  clear HB; refine (drawCD_sm A n cap _ hc hmax (BY.out _ U0.out)).mono ?_; rintro x w1 ⟨A1, n1, c1, B1, k1, d1, m, ⟨ss, sq, st⟩, ⟨et, eto, efr, esq, ekd, edt⟩, rfl, MV, hn, ⟨hct, hok⟩, u1⟩
  have MV1 := Lib.hid MV
  replace MV := MV _ (Sml.of_up (Up.refl _))
  have B40 := Lib.hid (show b4 < W0.heap.size from X4.out.lt)
  have S01 := Lib.hid u1.size
  have HN := Lib.hid hn
  have HOK := Lib.hid hok
  have HCT := Lib.hid (show st ≤ 1000000 from hct)
  have U1 := Lib.hid (U0.out.trans u1)
  have SQ := Lib.hid (fun W (u : Up w1 W) => specCmpDo_any A1 n1 c1 B1 k1 d1 m ⟨ss, sq, st⟩ ⟨et, eto, efr, esq, ekd, edt⟩ W (MV.up u))
  have CTD := Lib.hid (show (doM m ⟨ss, sq, st⟩ ⟨et, eto, efr, esq, ekd, edt⟩).1.ct ≤ 2000000 from by
    unfold doM
    split
    · rename_i hmay
      have hf := may_facts m ⟨ss, sq, st⟩ ⟨et, eto, efr, esq, ekd, edt⟩ (by dsimp only at hct ⊢; omega) hmay
      have h1 := hf.ct
      rw [doM, if_pos hmay] at h1; rw [h1]; dsimp only at hct ⊢
      omega
    · dsimp only
      omega)
  unfold DoPost at SQ
  generalize doM m ⟨ss, sq, st⟩ ⟨et, eto, efr, esq, ekd, edt⟩ = dm at SQ CTD
  obtain ⟨⟨r0, r1, r2⟩, L1⟩ := dm; unfold Cst.v Evt.v at SQ; unfold Cst.v Evt.v; dsimp only at SQ CTD ⊢; clear MV hn hok hct
  have TIL := Lib.hid (rfl : m.til = m.til)
  generalize htl : m.til = til at SQ TIL ⊢
  replace TIL := Lib.hid htl
  clear htl
  replace X2 := Lib.hid ((((X2.out.up u1).alloc (.cells #[.slice A1 n1 c1, .slice B1 k1 d1, .int .i64 til] 33)).alloc (.cells #[.int .i64 ss, .int .i64 sq, .int .i64 st] 41)).alloc (.cells #[.int .i64 et, .int .i64 eto, .int .i64 efr, .int .i64 esq, .int .i64 ekd, .int .i64 edt] 45))
  replace X3 := Lib.hid ((((X3.out.up u1).alloc (.cells #[.slice A1 n1 c1, .slice B1 k1 d1, .int .i64 til] 33)).alloc (.cells #[.int .i64 ss, .int .i64 sq, .int .i64 st] 41)).alloc (.cells #[.int .i64 et, .int .i64 eto, .int .i64 efr, .int .i64 esq, .int .i64 ekd, .int .i64 edt] 45))
  replace X4 := Lib.hid ((((X4.out.up u1).alloc (.cells #[.slice A1 n1 c1, .slice B1 k1 d1, .int .i64 til] 33)).alloc (.cells #[.int .i64 ss, .int .i64 sq, .int .i64 st] 41)).alloc (.cells #[.int .i64 et, .int .i64 eto, .int .i64 efr, .int .i64 esq, .int .i64 ekd, .int .i64 edt] 45))
  have X5 := Lib.hid (((Blk.new w1 #[.slice A1 n1 c1, .slice B1 k1 d1, .int .i64 til] 33).alloc (.cells #[.int .i64 ss, .int .i64 sq, .int .i64 st] 41)).alloc (.cells #[.int .i64 et, .int .i64 eto, .int .i64 efr, .int .i64 esq, .int .i64 ekd, .int .i64 edt] 45))
  have X6 := Lib.hid ((Blk.new (w1.alloc (.cells #[.slice A1 n1 c1, .slice B1 k1 d1, .int .i64 til] 33)) #[.int .i64 ss, .int .i64 sq, .int .i64 st] 41).alloc (.cells #[.int .i64 et, .int .i64 eto, .int .i64 efr, .int .i64 esq, .int .i64 ekd, .int .i64 edt] 45))
  have X7 := Lib.hid (Blk.new ((w1.alloc (.cells #[.slice A1 n1 c1, .slice B1 k1 d1, .int .i64 til] 33)).alloc (.cells #[.int .i64 ss, .int .i64 sq, .int .i64 st] 41)) #[.int .i64 et, .int .i64 eto, .int .i64 efr, .int .i64 esq, .int .i64 ekd, .int .i64 edt] 45)
  have U13 := Lib.hid ((((Up.refl w1).alloc (.cells #[.slice A1 n1 c1, .slice B1 k1 d1, .int .i64 til] 33)).alloc (.cells #[.int .i64 ss, .int .i64 sq, .int .i64 st] 41)).alloc (.cells #[.int .i64 et, .int .i64 eto, .int .i64 efr, .int .i64 esq, .int .i64 ekd, .int .i64 edt] 45))
  have BS := Lib.hid (show b4 < w1.heap.size from by have := B40.out; have h2 := u1.size; omega)
  simp only [World.size_alloc] at X6 X7; clear u1
  go_wp2_with fail
  generalize ((w1.alloc (.cells #[.slice A1 n1 c1, .slice B1 k1 d1, .int .i64 til] 33)).alloc (.cells #[.int .i64 ss, .int .i64 sq, .int .i64 st] 41)).alloc (.cells #[.int .i64 et, .int .i64 eto, .int .i64 efr, .int .i64 esq, .int .i64 ekd, .int .i64 edt] 45) = W2 at *
  generalize hb5 : w1.heap.size = b5 at *
  generalize hb6 : b5 + 1 = b6 at *
  generalize hb7 : b6 + 1 = b7 at *
  have BB := Lib.hid (show (b2 < b3 ∧ b3 < b4 ∧ b4 < b5 ∧ b5 < b6 ∧ b6 < b7) ∧ w.heap.size ≤ b2 from by have := BS.out; omega)
  have UU := Lib.hid (U1.out.trans U13.out)
  refine (open_any A n cap _ hc hmax (BY.out _ UU.out)).mono ?_; rintro x wO ⟨g, rfl, hg, r1_, u2⟩
  have R1 := Lib.hid r1_
  have U2 := Lib.hid u2
  clear u2 r1_ BY
  go_wp2_with fail
  refine (pick_any g 0 3 _ (by unfold I64; omega) (by omega) R1.out).mono ?_; rintro x w4 ⟨z, rfl, z0, z9, R4, m4⟩
  have U4 := Lib.hid (show Up W2 w4 from m4.up U2.out hg)
  clear R4 m4 R1 U2
  replace UU := Lib.hid (UU.out.trans U4.out)
  have U14 := Lib.hid (U13.out.trans U4.out)
  replace X2 := Lib.hid (X2.out.up U4.out)
  replace X3 := Lib.hid (X3.out.up U4.out)
  replace X4 := Lib.hid (X4.out.up U4.out)
  replace X5 := Lib.hid (X5.out.up U4.out)
  replace X6 := Lib.hid (X6.out.up U4.out)
  replace X7 := Lib.hid (X7.out.up U4.out)
  clear U4 U13 U1 U0
  by_cases hz : 0 < z
  · obtain ⟨m0, m1, m2⟩ := And.intro (X5.out.cell (j := 0) rfl) (And.intro (X5.out.cell (j := 1) rfl) (X5.out.cell (j := 2) rfl))
    have ml := X5.out.lt
    obtain ⟨s0, s1, s2⟩ := And.intro (X6.out.cell (j := 0) rfl) (And.intro (X6.out.cell (j := 1) rfl) (X6.out.cell (j := 2) rfl))
    have sl := X6.out.lt
    obtain ⟨v0, v1, v2⟩ := And.intro (X7.out.cell (j := 0) rfl) (And.intro (X7.out.cell (j := 1) rfl) (X7.out.cell (j := 2) rfl)); obtain ⟨v3, v4, v5⟩ := And.intro (X7.out.cell (j := 3) rfl) (And.intro (X7.out.cell (j := 4) rfl) (X7.out.cell (j := 5) rfl))
    have vl := X7.out.lt
    go_wp2_with fail
    refine (SQ.out _ U14.out).mono ?_; rintro x w5 ⟨AL, cL, rfl, -, -, -, u5⟩
    replace UU := Lib.hid (UU.out.trans u5)
    have U15 := Lib.hid (U14.out.trans u5)
    replace X2 := Lib.hid (X2.out.up u5)
    replace X3 := Lib.hid (X3.out.up u5)
    replace X4 := Lib.hid (X4.out.up u5)
    replace X5 := Lib.hid (X5.out.up u5)
    replace X6 := Lib.hid (X6.out.up u5)
    replace X7 := Lib.hid (X7.out.up u5)
    clear u5 m0 m1 m2 ml s0 s1 s2 sl v0 v1 v2 v3 v4 v5 vl SQ U14; obtain ⟨s0, s1, s2⟩ := And.intro (X6.out.cell (j := 0) rfl) (And.intro (X6.out.cell (j := 1) rfl) (X6.out.cell (j := 2) rfl))
    have sl := X6.out.lt
    have sf := X6.out.frozen
    have bb := BB.out
    have hb61 : w1.heap.size ≤ b6 := by omega
    have U16 := Lib.hid (((U15.out.setCell (p := ⟨b6, 0, none⟩) hb61 (.int .i64 r0)).setCell (p := ⟨b6, 1, none⟩) hb61 (.int .i64 r1)).setCell (p := ⟨b6, 2, none⟩) hb61 (.int .i64 r2))
    have SM := Lib.hid (Sml.of_up (lo := W0.heap.size) U16.out)
    clear hb61
    replace X2 := Lib.hid (((X2.out.far (b' := b6) 0 (.int .i64 r0) (by omega)).far (b' := b6) 1 (.int .i64 r1) (by omega)).far (b' := b6) 2 (.int .i64 r2) (by omega))
    replace X3 := Lib.hid (((X3.out.far (b' := b6) 0 (.int .i64 r0) (by omega)).far (b' := b6) 1 (.int .i64 r1) (by omega)).far (b' := b6) 2 (.int .i64 r2) (by omega))
    replace X4 := Lib.hid (((X4.out.far (b' := b6) 0 (.int .i64 r0) (by omega)).far (b' := b6) 1 (.int .i64 r1) (by omega)).far (b' := b6) 2 (.int .i64 r2) (by omega))
    replace X5 := Lib.hid (((X5.out.far (b' := b6) 0 (.int .i64 r0) (by omega)).far (b' := b6) 1 (.int .i64 r1) (by omega)).far (b' := b6) 2 (.int .i64 r2) (by omega))
    replace X6 := Lib.hid (((X6.out.set 0 (.int .i64 r0)).set 1 (.int .i64 r1)).set 2 (.int .i64 r2))
    replace X7 := Lib.hid (((X7.out.far (b' := b6) 0 (.int .i64 r0) (by omega)).far (b' := b6) 1 (.int .i64 r1) (by omega)).far (b' := b6) 2 (.int .i64 r2) (by omega))
    replace UU := Lib.hid (((UU.out.setCell (p := ⟨b6, 0, none⟩) (by dsimp only; omega) (.int .i64 r0)).setCell (p := ⟨b6, 1, none⟩) (by dsimp only; omega) (.int .i64 r1)).setCell (p := ⟨b6, 2, none⟩) (by dsimp only; omega) (.int .i64 r2))
    clear bb
    go_wp2_with fail
    generalize ((w5.setCell ⟨b6, 0, none⟩ (.int .i64 r0)).setCell ⟨b6, 1, none⟩ (.int .i64 r1)).setCell ⟨b6, 2, none⟩ (.int .i64 r2) = W5 at *
    have bb := BB.out
    refine region_mixH (fun w' => Blk w' b5 33 #[.slice A1 n1 c1, .slice B1 k1 d1, .int .i64 til] ∧ Blk w' b6 41 #[.int .i64 r0, .int .i64 r1, .int .i64 r2] ∧ Blk w' b7 45 #[.int .i64 et, .int .i64 eto, .int .i64 efr, .int .i64 esq, .int .i64 ekd, .int .i64 edt]) [(0, true), (1, true), (2, true), (3, false), (4, false), (5, false)] (by kernel_rfl) (by kernel_rfl) ⟨X5.out, X6.out, X7.out⟩ ?_
    replace X2 := Lib.hid (X2.out.up ((Up.refl _).drew))
    replace X3 := Lib.hid (X3.out.up ((Up.refl _).drew))
    replace X4 := Lib.hid (X4.out.up ((Up.refl _).drew))
    replace X5 := Lib.hid (X5.out.up ((Up.refl _).drew))
    replace X6 := Lib.hid (X6.out.up ((Up.refl _).drew))
    replace X7 := Lib.hid (X7.out.up ((Up.refl _).drew))
    replace UU := Lib.hid UU.out.drew
    replace SM := Lib.hid (SM.out.trans (Sml.of_up (Up.refl _).drew))
    generalize W5.drew = Wa at *
    refine mixH_take rfl (by rfl) ?_; apply Exists.intro; refine ⟨fun w1 hS1 => ?_, ?_⟩
    · obtain ⟨m0, m1, m2⟩ := And.intro (hS1.1.cell (j := 0) rfl) (And.intro (hS1.1.cell (j := 1) rfl) (hS1.1.cell (j := 2) rfl))
      have ml := hS1.1.lt
      clear hS1; go_simp
      try rfl
    go_simp; refine mixH_take rfl (by rfl) ?_; apply Exists.intro; refine ⟨fun w1 hS1 => ?_, ?_⟩
    · obtain ⟨m0, m1, m2⟩ := And.intro (hS1.2.1.cell (j := 0) rfl) (And.intro (hS1.2.1.cell (j := 1) rfl) (hS1.2.1.cell (j := 2) rfl))
      have ml := hS1.2.1.lt
      clear hS1; go_simp
      try rfl
    go_simp; refine mixH_take rfl (by rfl) ?_; apply Exists.intro; refine ⟨fun w1 hS1 => ?_, ?_⟩
    · obtain ⟨m0, m1, m2⟩ := And.intro (hS1.2.2.cell (j := 0) rfl) (And.intro (hS1.2.2.cell (j := 1) rfl) (hS1.2.2.cell (j := 2) rfl))
      obtain ⟨m3, m4, m5⟩ := And.intro (hS1.2.2.cell (j := 3) rfl) (And.intro (hS1.2.2.cell (j := 4) rfl) (hS1.2.2.cell (j := 5) rfl))
      have ml := hS1.2.2.lt
      clear hS1; go_simp
      try rfl
    go_simp; refine mixH_go rfl (by rfl) (fun K hK => ?_); obtain ⟨a0, a1, a2⟩ := And.intro (X2.out.cell (j := 0) rfl) (And.intro (X2.out.cell (j := 1) rfl) (X2.out.cell (j := 2) rfl))
    have al := X2.out.lt
    have af := X2.out.frozen
    go_simp
    replace X2 := Lib.hid (((X2.out.set 0 (.slice A1 n1 c1)).set 1 (.slice B1 k1 d1)).set 2 (.int .i64 til))
    replace X3 := Lib.hid (((X3.out.far (b' := b2) 0 (.slice A1 n1 c1) (by omega)).far (b' := b2) 1 (.slice B1 k1 d1) (by omega)).far (b' := b2) 2 (.int .i64 til) (by omega))
    replace X4 := Lib.hid (((X4.out.far (b' := b2) 0 (.slice A1 n1 c1) (by omega)).far (b' := b2) 1 (.slice B1 k1 d1) (by omega)).far (b' := b2) 2 (.int .i64 til) (by omega))
    replace X5 := Lib.hid (((X5.out.far (b' := b2) 0 (.slice A1 n1 c1) (by omega)).far (b' := b2) 1 (.slice B1 k1 d1) (by omega)).far (b' := b2) 2 (.int .i64 til) (by omega))
    replace X6 := Lib.hid (((X6.out.far (b' := b2) 0 (.slice A1 n1 c1) (by omega)).far (b' := b2) 1 (.slice B1 k1 d1) (by omega)).far (b' := b2) 2 (.int .i64 til) (by omega))
    replace X7 := Lib.hid (((X7.out.far (b' := b2) 0 (.slice A1 n1 c1) (by omega)).far (b' := b2) 1 (.slice B1 k1 d1) (by omega)).far (b' := b2) 2 (.int .i64 til) (by omega))
    replace UU := Lib.hid (((UU.out.setCell (p := ⟨b2, 0, none⟩) (by dsimp only; omega) (.slice A1 n1 c1)).setCell (p := ⟨b2, 1, none⟩) (by dsimp only; omega) (.slice B1 k1 d1)).setCell (p := ⟨b2, 2, none⟩) (by dsimp only; omega) (.int .i64 til))
    replace SM := Lib.hid (((SM.out.set (b := b2) (o := 0) (u := .slice A1 n1 c1) (by have := B40.out; omega)).set (b := b2) (o := 1) (u := .slice B1 k1 d1) (by have := B40.out; omega)).set (b := b2) (o := 2) (u := .int .i64 til) (by have := B40.out; omega))
    refine hK _ _ ⟨X5.out, X6.out, X7.out⟩ ?_; clear hK K a0 a1 a2 al af
    generalize (((Wa.setCell ⟨b2, 0, none⟩ (.slice A1 n1 c1)).setCell ⟨b2, 1, none⟩ (.slice B1 k1 d1)).setCell ⟨b2, 2, none⟩ (.int .i64 til)) = Wb at *
    refine mixH_go rfl (by rfl) (fun K hK => ?_); obtain ⟨a0, a1, a2⟩ := And.intro (X3.out.cell (j := 0) rfl) (And.intro (X3.out.cell (j := 1) rfl) (X3.out.cell (j := 2) rfl))
    have al := X3.out.lt
    have af := X3.out.frozen
    go_simp
    replace X2 := Lib.hid (((X2.out.far (b' := b3) 0 (.int .i64 r0) (by omega)).far (b' := b3) 1 (.int .i64 r1) (by omega)).far (b' := b3) 2 (.int .i64 r2) (by omega))
    replace X3 := Lib.hid (((X3.out.set 0 (.int .i64 r0)).set 1 (.int .i64 r1)).set 2 (.int .i64 r2))
    replace X4 := Lib.hid (((X4.out.far (b' := b3) 0 (.int .i64 r0) (by omega)).far (b' := b3) 1 (.int .i64 r1) (by omega)).far (b' := b3) 2 (.int .i64 r2) (by omega))
    replace X5 := Lib.hid (((X5.out.far (b' := b3) 0 (.int .i64 r0) (by omega)).far (b' := b3) 1 (.int .i64 r1) (by omega)).far (b' := b3) 2 (.int .i64 r2) (by omega))
    replace X6 := Lib.hid (((X6.out.far (b' := b3) 0 (.int .i64 r0) (by omega)).far (b' := b3) 1 (.int .i64 r1) (by omega)).far (b' := b3) 2 (.int .i64 r2) (by omega))
    replace X7 := Lib.hid (((X7.out.far (b' := b3) 0 (.int .i64 r0) (by omega)).far (b' := b3) 1 (.int .i64 r1) (by omega)).far (b' := b3) 2 (.int .i64 r2) (by omega))
    replace UU := Lib.hid (((UU.out.setCell (p := ⟨b3, 0, none⟩) (by dsimp only; omega) (.int .i64 r0)).setCell (p := ⟨b3, 1, none⟩) (by dsimp only; omega) (.int .i64 r1)).setCell (p := ⟨b3, 2, none⟩) (by dsimp only; omega) (.int .i64 r2))
    replace SM := Lib.hid (((SM.out.set (b := b3) (o := 0) (u := .int .i64 r0) (by have := B40.out; omega)).set (b := b3) (o := 1) (u := .int .i64 r1) (by have := B40.out; omega)).set (b := b3) (o := 2) (u := .int .i64 r2) (by have := B40.out; omega))
    refine hK _ _ ⟨X5.out, X6.out, X7.out⟩ ?_; clear hK K a0 a1 a2 al af
    generalize (((Wb.setCell ⟨b3, 0, none⟩ (.int .i64 r0)).setCell ⟨b3, 1, none⟩ (.int .i64 r1)).setCell ⟨b3, 2, none⟩ (.int .i64 r2)) = Wc at *
    refine mixH_go rfl (by rfl) (fun K hK => ?_); obtain ⟨a0, a1, a2⟩ := And.intro (X4.out.cell (j := 0) rfl) (And.intro (X4.out.cell (j := 1) rfl) (X4.out.cell (j := 2) rfl)); obtain ⟨a3, a4, a5⟩ := And.intro (X4.out.cell (j := 3) rfl) (And.intro (X4.out.cell (j := 4) rfl) (X4.out.cell (j := 5) rfl))
    have al := X4.out.lt
    have af := X4.out.frozen
    go_simp
    replace X2 := Lib.hid ((((((X2.out.far (b' := b4) 0 (.int .i64 et) (by omega)).far (b' := b4) 1 (.int .i64 eto) (by omega)).far (b' := b4) 2 (.int .i64 efr) (by omega)).far (b' := b4) 3 (.int .i64 esq) (by omega)).far (b' := b4) 4 (.int .i64 ekd) (by omega)).far (b' := b4) 5 (.int .i64 edt) (by omega))
    replace X3 := Lib.hid ((((((X3.out.far (b' := b4) 0 (.int .i64 et) (by omega)).far (b' := b4) 1 (.int .i64 eto) (by omega)).far (b' := b4) 2 (.int .i64 efr) (by omega)).far (b' := b4) 3 (.int .i64 esq) (by omega)).far (b' := b4) 4 (.int .i64 ekd) (by omega)).far (b' := b4) 5 (.int .i64 edt) (by omega))
    replace X4 := Lib.hid ((((((X4.out.set 0 (.int .i64 et)).set 1 (.int .i64 eto)).set 2 (.int .i64 efr)).set 3 (.int .i64 esq)).set 4 (.int .i64 ekd)).set 5 (.int .i64 edt))
    replace X5 := Lib.hid ((((((X5.out.far (b' := b4) 0 (.int .i64 et) (by omega)).far (b' := b4) 1 (.int .i64 eto) (by omega)).far (b' := b4) 2 (.int .i64 efr) (by omega)).far (b' := b4) 3 (.int .i64 esq) (by omega)).far (b' := b4) 4 (.int .i64 ekd) (by omega)).far (b' := b4) 5 (.int .i64 edt) (by omega))
    replace X6 := Lib.hid ((((((X6.out.far (b' := b4) 0 (.int .i64 et) (by omega)).far (b' := b4) 1 (.int .i64 eto) (by omega)).far (b' := b4) 2 (.int .i64 efr) (by omega)).far (b' := b4) 3 (.int .i64 esq) (by omega)).far (b' := b4) 4 (.int .i64 ekd) (by omega)).far (b' := b4) 5 (.int .i64 edt) (by omega))
    replace X7 := Lib.hid ((((((X7.out.far (b' := b4) 0 (.int .i64 et) (by omega)).far (b' := b4) 1 (.int .i64 eto) (by omega)).far (b' := b4) 2 (.int .i64 efr) (by omega)).far (b' := b4) 3 (.int .i64 esq) (by omega)).far (b' := b4) 4 (.int .i64 ekd) (by omega)).far (b' := b4) 5 (.int .i64 edt) (by omega))
    replace UU := Lib.hid ((((((UU.out.setCell (p := ⟨b4, 0, none⟩) (by dsimp only; omega) (.int .i64 et)).setCell (p := ⟨b4, 1, none⟩) (by dsimp only; omega) (.int .i64 eto)).setCell (p := ⟨b4, 2, none⟩) (by dsimp only; omega) (.int .i64 efr)).setCell (p := ⟨b4, 3, none⟩) (by dsimp only; omega) (.int .i64 esq)).setCell (p := ⟨b4, 4, none⟩) (by dsimp only; omega) (.int .i64 ekd)).setCell (p := ⟨b4, 5, none⟩) (by dsimp only; omega) (.int .i64 edt))
    replace SM := Lib.hid ((((((SM.out.set (b := b4) (o := 0) (u := .int .i64 et) (by have := B40.out; omega)).set (b := b4) (o := 1) (u := .int .i64 eto) (by have := B40.out; omega)).set (b := b4) (o := 2) (u := .int .i64 efr) (by have := B40.out; omega)).set (b := b4) (o := 3) (u := .int .i64 esq) (by have := B40.out; omega)).set (b := b4) (o := 4) (u := .int .i64 ekd) (by have := B40.out; omega)).set (b := b4) (o := 5) (u := .int .i64 edt) (by have := B40.out; omega))
    refine hK _ _ ⟨X5.out, X6.out, X7.out⟩ ?_; clear hK K a0 a1 a2 al af a3 a4 a5
    generalize ((((((Wc.setCell ⟨b4, 0, none⟩ (.int .i64 et)).setCell ⟨b4, 1, none⟩ (.int .i64 eto)).setCell ⟨b4, 2, none⟩ (.int .i64 efr)).setCell ⟨b4, 3, none⟩ (.int .i64 esq)).setCell ⟨b4, 4, none⟩ (.int .i64 ekd)).setCell ⟨b4, 5, none⟩ (.int .i64 edt)) = Wd at *
    refine mixH_nil ?_; obtain ⟨kk0, kk1, kk2⟩ := And.intro (X2.out.cell (j := 0) rfl) (And.intro (X2.out.cell (j := 1) rfl) (X2.out.cell (j := 2) rfl)); obtain ⟨kk3, kk4, kk5⟩ := And.intro (X3.out.cell (j := 0) rfl) (And.intro (X3.out.cell (j := 1) rfl) (X3.out.cell (j := 2) rfl)); obtain ⟨kk6, kk7, kk8⟩ := And.intro (X4.out.cell (j := 0) rfl) (And.intro (X4.out.cell (j := 1) rfl) (X4.out.cell (j := 2) rfl)); obtain ⟨kk9, kk10, kk11⟩ := And.intro (X4.out.cell (j := 3) rfl) (And.intro (X4.out.cell (j := 4) rfl) (X4.out.cell (j := 5) rfl)); clear bb; go_wp2
    exact bodyPost_ret (v := .tuple #[.agg #[.slice A1 n1 c1, .slice B1 k1 d1, .int .i64 til], .agg #[.int .i64 r0, .int .i64 r1, .int .i64 r2], .agg #[.int .i64 et, .int .i64 eto, .int .i64 efr, .int .i64 esq, .int .i64 ekd, .int .i64 edt]]) (by simp [results, Try.results36, go_sem, kk0, kk1, kk2, kk3, kk4, kk5, kk6, kk7, kk8, kk9, kk10, kk11]) rfl
      ⟨A1, n1, c1, B1, k1, d1, m, ⟨r0, r1, r2⟩, ⟨et, eto, efr, esq, ekd, edt⟩, by rw [TIL.out]; rfl, MV1.out _ SM.out, HN.out, ⟨CTD.out, HOK.out⟩, UU.out⟩
  · have SM := Lib.hid (Sml.of_up (lo := W0.heap.size) U14.out)
    go_wp2_with fail
    generalize w4 = W5 at *
    have bb := BB.out
    refine region_mixH (fun w' => Blk w' b5 33 #[.slice A1 n1 c1, .slice B1 k1 d1, .int .i64 til] ∧ Blk w' b6 41 #[.int .i64 ss, .int .i64 sq, .int .i64 st] ∧ Blk w' b7 45 #[.int .i64 et, .int .i64 eto, .int .i64 efr, .int .i64 esq, .int .i64 ekd, .int .i64 edt]) [(0, true), (1, true), (2, true), (3, false), (4, false), (5, false)] (by kernel_rfl) (by kernel_rfl) ⟨X5.out, X6.out, X7.out⟩ ?_
    replace X2 := Lib.hid (X2.out.up ((Up.refl _).drew))
    replace X3 := Lib.hid (X3.out.up ((Up.refl _).drew))
    replace X4 := Lib.hid (X4.out.up ((Up.refl _).drew))
    replace X5 := Lib.hid (X5.out.up ((Up.refl _).drew))
    replace X6 := Lib.hid (X6.out.up ((Up.refl _).drew))
    replace X7 := Lib.hid (X7.out.up ((Up.refl _).drew))
    replace UU := Lib.hid UU.out.drew
    replace SM := Lib.hid (SM.out.trans (Sml.of_up (Up.refl _).drew))
    generalize W5.drew = Wa at *
    refine mixH_take rfl (by rfl) ?_; apply Exists.intro; refine ⟨fun w1 hS1 => ?_, ?_⟩
    · obtain ⟨m0, m1, m2⟩ := And.intro (hS1.1.cell (j := 0) rfl) (And.intro (hS1.1.cell (j := 1) rfl) (hS1.1.cell (j := 2) rfl))
      have ml := hS1.1.lt
      clear hS1; go_simp
      try rfl
    go_simp; refine mixH_take rfl (by rfl) ?_; apply Exists.intro; refine ⟨fun w1 hS1 => ?_, ?_⟩
    · obtain ⟨m0, m1, m2⟩ := And.intro (hS1.2.1.cell (j := 0) rfl) (And.intro (hS1.2.1.cell (j := 1) rfl) (hS1.2.1.cell (j := 2) rfl))
      have ml := hS1.2.1.lt
      clear hS1; go_simp
      try rfl
    go_simp; refine mixH_take rfl (by rfl) ?_; apply Exists.intro; refine ⟨fun w1 hS1 => ?_, ?_⟩
    · obtain ⟨m0, m1, m2⟩ := And.intro (hS1.2.2.cell (j := 0) rfl) (And.intro (hS1.2.2.cell (j := 1) rfl) (hS1.2.2.cell (j := 2) rfl))
      obtain ⟨m3, m4, m5⟩ := And.intro (hS1.2.2.cell (j := 3) rfl) (And.intro (hS1.2.2.cell (j := 4) rfl) (hS1.2.2.cell (j := 5) rfl))
      have ml := hS1.2.2.lt
      clear hS1; go_simp
      try rfl
    go_simp; refine mixH_go rfl (by rfl) (fun K hK => ?_); obtain ⟨a0, a1, a2⟩ := And.intro (X2.out.cell (j := 0) rfl) (And.intro (X2.out.cell (j := 1) rfl) (X2.out.cell (j := 2) rfl))
    have al := X2.out.lt
    have af := X2.out.frozen
    go_simp
    replace X2 := Lib.hid (((X2.out.set 0 (.slice A1 n1 c1)).set 1 (.slice B1 k1 d1)).set 2 (.int .i64 til))
    replace X3 := Lib.hid (((X3.out.far (b' := b2) 0 (.slice A1 n1 c1) (by omega)).far (b' := b2) 1 (.slice B1 k1 d1) (by omega)).far (b' := b2) 2 (.int .i64 til) (by omega))
    replace X4 := Lib.hid (((X4.out.far (b' := b2) 0 (.slice A1 n1 c1) (by omega)).far (b' := b2) 1 (.slice B1 k1 d1) (by omega)).far (b' := b2) 2 (.int .i64 til) (by omega))
    replace X5 := Lib.hid (((X5.out.far (b' := b2) 0 (.slice A1 n1 c1) (by omega)).far (b' := b2) 1 (.slice B1 k1 d1) (by omega)).far (b' := b2) 2 (.int .i64 til) (by omega))
    replace X6 := Lib.hid (((X6.out.far (b' := b2) 0 (.slice A1 n1 c1) (by omega)).far (b' := b2) 1 (.slice B1 k1 d1) (by omega)).far (b' := b2) 2 (.int .i64 til) (by omega))
    replace X7 := Lib.hid (((X7.out.far (b' := b2) 0 (.slice A1 n1 c1) (by omega)).far (b' := b2) 1 (.slice B1 k1 d1) (by omega)).far (b' := b2) 2 (.int .i64 til) (by omega))
    replace UU := Lib.hid (((UU.out.setCell (p := ⟨b2, 0, none⟩) (by dsimp only; omega) (.slice A1 n1 c1)).setCell (p := ⟨b2, 1, none⟩) (by dsimp only; omega) (.slice B1 k1 d1)).setCell (p := ⟨b2, 2, none⟩) (by dsimp only; omega) (.int .i64 til))
    replace SM := Lib.hid (((SM.out.set (b := b2) (o := 0) (u := .slice A1 n1 c1) (by have := B40.out; omega)).set (b := b2) (o := 1) (u := .slice B1 k1 d1) (by have := B40.out; omega)).set (b := b2) (o := 2) (u := .int .i64 til) (by have := B40.out; omega))
    refine hK _ _ ⟨X5.out, X6.out, X7.out⟩ ?_; clear hK K a0 a1 a2 al af
    generalize (((Wa.setCell ⟨b2, 0, none⟩ (.slice A1 n1 c1)).setCell ⟨b2, 1, none⟩ (.slice B1 k1 d1)).setCell ⟨b2, 2, none⟩ (.int .i64 til)) = Wb at *
    refine mixH_go rfl (by rfl) (fun K hK => ?_); obtain ⟨a0, a1, a2⟩ := And.intro (X3.out.cell (j := 0) rfl) (And.intro (X3.out.cell (j := 1) rfl) (X3.out.cell (j := 2) rfl))
    have al := X3.out.lt
    have af := X3.out.frozen
    go_simp
    replace X2 := Lib.hid (((X2.out.far (b' := b3) 0 (.int .i64 ss) (by omega)).far (b' := b3) 1 (.int .i64 sq) (by omega)).far (b' := b3) 2 (.int .i64 st) (by omega))
    replace X3 := Lib.hid (((X3.out.set 0 (.int .i64 ss)).set 1 (.int .i64 sq)).set 2 (.int .i64 st))
    replace X4 := Lib.hid (((X4.out.far (b' := b3) 0 (.int .i64 ss) (by omega)).far (b' := b3) 1 (.int .i64 sq) (by omega)).far (b' := b3) 2 (.int .i64 st) (by omega))
    replace X5 := Lib.hid (((X5.out.far (b' := b3) 0 (.int .i64 ss) (by omega)).far (b' := b3) 1 (.int .i64 sq) (by omega)).far (b' := b3) 2 (.int .i64 st) (by omega))
    replace X6 := Lib.hid (((X6.out.far (b' := b3) 0 (.int .i64 ss) (by omega)).far (b' := b3) 1 (.int .i64 sq) (by omega)).far (b' := b3) 2 (.int .i64 st) (by omega))
    replace X7 := Lib.hid (((X7.out.far (b' := b3) 0 (.int .i64 ss) (by omega)).far (b' := b3) 1 (.int .i64 sq) (by omega)).far (b' := b3) 2 (.int .i64 st) (by omega))
    replace UU := Lib.hid (((UU.out.setCell (p := ⟨b3, 0, none⟩) (by dsimp only; omega) (.int .i64 ss)).setCell (p := ⟨b3, 1, none⟩) (by dsimp only; omega) (.int .i64 sq)).setCell (p := ⟨b3, 2, none⟩) (by dsimp only; omega) (.int .i64 st))
    replace SM := Lib.hid (((SM.out.set (b := b3) (o := 0) (u := .int .i64 ss) (by have := B40.out; omega)).set (b := b3) (o := 1) (u := .int .i64 sq) (by have := B40.out; omega)).set (b := b3) (o := 2) (u := .int .i64 st) (by have := B40.out; omega))
    refine hK _ _ ⟨X5.out, X6.out, X7.out⟩ ?_; clear hK K a0 a1 a2 al af
    generalize (((Wb.setCell ⟨b3, 0, none⟩ (.int .i64 ss)).setCell ⟨b3, 1, none⟩ (.int .i64 sq)).setCell ⟨b3, 2, none⟩ (.int .i64 st)) = Wc at *
    refine mixH_go rfl (by rfl) (fun K hK => ?_); obtain ⟨a0, a1, a2⟩ := And.intro (X4.out.cell (j := 0) rfl) (And.intro (X4.out.cell (j := 1) rfl) (X4.out.cell (j := 2) rfl)); obtain ⟨a3, a4, a5⟩ := And.intro (X4.out.cell (j := 3) rfl) (And.intro (X4.out.cell (j := 4) rfl) (X4.out.cell (j := 5) rfl))
    have al := X4.out.lt
    have af := X4.out.frozen
    go_simp
    replace X2 := Lib.hid ((((((X2.out.far (b' := b4) 0 (.int .i64 et) (by omega)).far (b' := b4) 1 (.int .i64 eto) (by omega)).far (b' := b4) 2 (.int .i64 efr) (by omega)).far (b' := b4) 3 (.int .i64 esq) (by omega)).far (b' := b4) 4 (.int .i64 ekd) (by omega)).far (b' := b4) 5 (.int .i64 edt) (by omega))
    replace X3 := Lib.hid ((((((X3.out.far (b' := b4) 0 (.int .i64 et) (by omega)).far (b' := b4) 1 (.int .i64 eto) (by omega)).far (b' := b4) 2 (.int .i64 efr) (by omega)).far (b' := b4) 3 (.int .i64 esq) (by omega)).far (b' := b4) 4 (.int .i64 ekd) (by omega)).far (b' := b4) 5 (.int .i64 edt) (by omega))
    replace X4 := Lib.hid ((((((X4.out.set 0 (.int .i64 et)).set 1 (.int .i64 eto)).set 2 (.int .i64 efr)).set 3 (.int .i64 esq)).set 4 (.int .i64 ekd)).set 5 (.int .i64 edt))
    replace X5 := Lib.hid ((((((X5.out.far (b' := b4) 0 (.int .i64 et) (by omega)).far (b' := b4) 1 (.int .i64 eto) (by omega)).far (b' := b4) 2 (.int .i64 efr) (by omega)).far (b' := b4) 3 (.int .i64 esq) (by omega)).far (b' := b4) 4 (.int .i64 ekd) (by omega)).far (b' := b4) 5 (.int .i64 edt) (by omega))
    replace X6 := Lib.hid ((((((X6.out.far (b' := b4) 0 (.int .i64 et) (by omega)).far (b' := b4) 1 (.int .i64 eto) (by omega)).far (b' := b4) 2 (.int .i64 efr) (by omega)).far (b' := b4) 3 (.int .i64 esq) (by omega)).far (b' := b4) 4 (.int .i64 ekd) (by omega)).far (b' := b4) 5 (.int .i64 edt) (by omega))
    replace X7 := Lib.hid ((((((X7.out.far (b' := b4) 0 (.int .i64 et) (by omega)).far (b' := b4) 1 (.int .i64 eto) (by omega)).far (b' := b4) 2 (.int .i64 efr) (by omega)).far (b' := b4) 3 (.int .i64 esq) (by omega)).far (b' := b4) 4 (.int .i64 ekd) (by omega)).far (b' := b4) 5 (.int .i64 edt) (by omega))
    replace UU := Lib.hid ((((((UU.out.setCell (p := ⟨b4, 0, none⟩) (by dsimp only; omega) (.int .i64 et)).setCell (p := ⟨b4, 1, none⟩) (by dsimp only; omega) (.int .i64 eto)).setCell (p := ⟨b4, 2, none⟩) (by dsimp only; omega) (.int .i64 efr)).setCell (p := ⟨b4, 3, none⟩) (by dsimp only; omega) (.int .i64 esq)).setCell (p := ⟨b4, 4, none⟩) (by dsimp only; omega) (.int .i64 ekd)).setCell (p := ⟨b4, 5, none⟩) (by dsimp only; omega) (.int .i64 edt))
    replace SM := Lib.hid ((((((SM.out.set (b := b4) (o := 0) (u := .int .i64 et) (by have := B40.out; omega)).set (b := b4) (o := 1) (u := .int .i64 eto) (by have := B40.out; omega)).set (b := b4) (o := 2) (u := .int .i64 efr) (by have := B40.out; omega)).set (b := b4) (o := 3) (u := .int .i64 esq) (by have := B40.out; omega)).set (b := b4) (o := 4) (u := .int .i64 ekd) (by have := B40.out; omega)).set (b := b4) (o := 5) (u := .int .i64 edt) (by have := B40.out; omega))
    refine hK _ _ ⟨X5.out, X6.out, X7.out⟩ ?_; clear hK K a0 a1 a2 al af a3 a4 a5
    generalize ((((((Wc.setCell ⟨b4, 0, none⟩ (.int .i64 et)).setCell ⟨b4, 1, none⟩ (.int .i64 eto)).setCell ⟨b4, 2, none⟩ (.int .i64 efr)).setCell ⟨b4, 3, none⟩ (.int .i64 esq)).setCell ⟨b4, 4, none⟩ (.int .i64 ekd)).setCell ⟨b4, 5, none⟩ (.int .i64 edt)) = Wd at *
    refine mixH_nil ?_; obtain ⟨kk0, kk1, kk2⟩ := And.intro (X2.out.cell (j := 0) rfl) (And.intro (X2.out.cell (j := 1) rfl) (X2.out.cell (j := 2) rfl)); obtain ⟨kk3, kk4, kk5⟩ := And.intro (X3.out.cell (j := 0) rfl) (And.intro (X3.out.cell (j := 1) rfl) (X3.out.cell (j := 2) rfl)); obtain ⟨kk6, kk7, kk8⟩ := And.intro (X4.out.cell (j := 0) rfl) (And.intro (X4.out.cell (j := 1) rfl) (X4.out.cell (j := 2) rfl)); obtain ⟨kk9, kk10, kk11⟩ := And.intro (X4.out.cell (j := 3) rfl) (And.intro (X4.out.cell (j := 4) rfl) (X4.out.cell (j := 5) rfl)); clear bb; go_wp2
    exact bodyPost_ret (v := .tuple #[.agg #[.slice A1 n1 c1, .slice B1 k1 d1, .int .i64 til], .agg #[.int .i64 ss, .int .i64 sq, .int .i64 st], .agg #[.int .i64 et, .int .i64 eto, .int .i64 efr, .int .i64 esq, .int .i64 ekd, .int .i64 edt]]) (by simp [results, Try.results36, go_sem, kk0, kk1, kk2, kk3, kk4, kk5, kk6, kk7, kk8, kk9, kk10, kk11]) rfl
      ⟨A1, n1, c1, B1, k1, d1, m, ⟨ss, sq, st⟩, ⟨et, eto, efr, esq, ekd, edt⟩, by rw [TIL.out]; rfl, MV1.out _ SM.out, HN.out, ⟨by have := HCT.out; dsimp only; omega, HOK.out⟩, UU.out⟩
end Go.Proofs.Ytakmlfgkppekoaa

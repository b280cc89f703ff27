/-
  What DrawSeqStep and DrawWinEvents give, in one sentence: a model and a simulator in rows of its own, with new blocks alone; for every code that lies in memory.
  What DrawWinEvents gives, in one sentence: a model and a simulator in rows of its own, with new blocks alone; for every code that lies in memory.
  The least delay of a component's sends to another one, in one sentence: by the rules in their order it is what it is kind by kind; no condition beyond the rules' own bounds.
  The least delay of all sends of a model, in one sentence: component by component what it is over all pairs; no condition.
  What impl.CmbLook gives, in one sentence: the least delay of the first component's sends to the second, but at most the end and one, and -1 for a model that is none or a component that does not exist; for every model that lies in memory.
-/
import Derived.Test.YtklldniapombiaaDLWev13
import Derived.Test.YtklldniapombiaaDLWev20
import Derived.Test.YtklldniapombiaaDLWev21
import Derived.Test.YtklldniapombiaaDLWev35
namespace Go.Proofs.Ytklldniapombiaa
set_option maxRecDepth 100000
open Go.RowKit
theorem Sml.rise {lo lo' : Nat} {a b : World} (h : Sml lo a b) (k : lo ≤ lo') : Sml lo' a b := ⟨h.size, fun j h1 h2 => h.block j (Nat.le_trans k h1) h2⟩
/-- What a drawer of a model and a simulator gives. -/
def DrawnSS (w : World) (x : Ending) (w' : World) : Prop :=
  ∃ (A : Option Addr) (n c : Nat) (B : Option Addr) (k d : Nat) (m : Mdl) (Ac : Option Addr) (nc cc : Nat) (Aw : Option Addr) (nw cw : Nat) (Al : Option Addr) (nl cl : Nat) (s : Sq),
    x = .returned (.tuple #[.agg #[.slice A n c, .slice B k d, .int .i64 m.til], .agg #[.slice Ac nc cc, .slice Aw nw cw, .slice Al nl cl]]) ∧ (∀ w2, Sml w.heap.size w' w2 → MdlV w2 A n B k m) ∧ SqRw w' w.heap.size Ac nc cc Aw nw cw Al nl cl s ∧ (n ≤ 32 ∧ n ≤ c ∧ c ≤ 9223372036854775807) ∧ (nc ≤ 40 ∧ nw ≤ 600 ∧ nl ≤ 60) ∧ (-1 ≤ m.til ∧ m.til ≤ 100) ∧ Up w w'
set_option maxHeartbeats 8000000 in
theorem drawSS_any (A : Option Addr) (n cap : Nat) (w : World) (hc : n ≤ cap) (hmax : cap ≤ 9223372036854775807) (hB : Bys w A n w.heap.size) :
    Calls Try.prog 89 #[.slice A n cap] w (DrawnSS w) := by
  have HB := Lib.hid hB
  clear hB
  go_enter Try.func89, Try.ntmps89
  go_wp2_with fail
  have U0 := Lib.hid (((Up.refl w).alloc (.cells #[.slice none 0 0, .slice none 0 0, .int .i64 0] 36)).alloc (.cells #[.slice none 0 0, .slice none 0 0, .slice none 0 0] 62))
  have R2 := Lib.hid ((Blk.new w #[.slice none 0 0, .slice none 0 0, .int .i64 0] 36).alloc (.cells #[.slice none 0 0, .slice none 0 0, .slice none 0 0] 62))
  have R3 := Lib.hid (Blk.new (w.alloc (.cells #[.slice none 0 0, .slice none 0 0, .int .i64 0] 36)) #[.slice none 0 0, .slice none 0 0, .slice none 0 0] 62)
  simp only [World.size_alloc] at R3
  generalize hW0 : (w.alloc (.cells #[.slice none 0 0, .slice none 0 0, .int .i64 0] 36)).alloc (.cells #[.slice none 0 0, .slice none 0 0, .slice none 0 0] 62) = W0 at *
  have hs0 : W0.heap.size = w.heap.size + 2 := by rw [← hW0]; simp
  have HB0 : Bys W0 A n W0.heap.size := fun h0 => by
    obtain ⟨b, off, hA, hb, hcc⟩ := HB.out.keep (fun b o hb => U0.out.cells b o hb) h0
    exact ⟨b, off, hA, by omega, hcc⟩
  clear hW0; refine (open_any A n cap _ hc hmax HB0).mono ?_; rintro x wO ⟨g, rfl, hg, r1, u1⟩
  have hgO := r1.lt
  have R1 := Lib.hid r1
  have U1 := Lib.hid (U0.out.trans u1)
  have R2 := Lib.hid (R2.out.up u1)
  have R3 := Lib.hid (R3.out.up u1)
  have hOs : W0.heap.size ≤ wO.heap.size := u1.size
  clear u1 r1 HB0 U0 HB
  go_wp2_with fail
  refine (model_any g 0 20 _ ⟨by omega, by omega⟩ (by omega) R1.out).mono ?_; rintro x w2 ⟨A, n, c, B, k, d, m, rfl, MV, hnn, _, htt, _, r2, m2⟩
  have HNC := Lib.hid hnn
  have HT := Lib.hid htt
  have M2 := Lib.hid MV
  have R2 := Lib.hid (R2.out.mv m2 (by omega))
  have R3 := Lib.hid (R3.out.mv m2 (by omega))
  have hs2 : wO.heap.size ≤ w2.heap.size := m2.size
  have U2 := Lib.hid (show Up w w2 from m2.up U1.out (by omega))
  have RX := Lib.hid r2
  clear MV m2 r2 R1 hnn htt
  have ua := (Up.refl w2).alloc (.cells #[.slice A n c, .slice B k d, .int .i64 m.til] 36)
  have BM := Lib.hid (Blk.new w2 #[.slice A n c, .slice B k d, .int .i64 m.til] 36)
  have R2 := Lib.hid (R2.out.up ua)
  have R3 := Lib.hid (R3.out.up ua)
  have RX := Lib.hid (RX.out.up ua)
  have UA := Lib.hid ua
  clear ua
  go_wp2_with fail
  refine region_hWalk (fun w1 => Blk w1 w2.heap.size 36 #[.slice A n c, .slice B k d, .int .i64 m.til]) 6 (by kernel_rfl) rfl (by kernel_rfl) (BM.out.up (Up.refl _).drew) ?_
  have ud := (UA.out.drew)
  have R2 := Lib.hid (R2.out.up (Up.refl _).drew)
  have R3 := Lib.hid (R3.out.up (Up.refl _).drew)
  have RX := Lib.hid (RX.out.up (Up.refl _).drew)
  have BM := Lib.hid (BM.out.up (Up.refl _).drew)
  have UA := Lib.hid ud
  clear ud
  generalize (w2.alloc (.cells #[.slice A n c, .slice B k d, .int .i64 m.til] 36)).drew = wd at *
  generalize hb5 : w2.heap.size = b5 at *
  refine hWalk_take 0 (by kernel_rfl) rfl (by rfl) ?_; apply Exists.intro; refine ⟨fun w1 hS1 => ?_, ?_⟩
  · obtain ⟨m0, m1, m2⟩ := And.intro (hS1.cell (j := 0) rfl) (And.intro (hS1.cell (j := 1) rfl) (hS1.cell (j := 2) rfl))
    have lm := hS1.lt
    clear hS1; go_simp
    try rfl
  go_simp; refine hWalk_take 1 (by kernel_rfl) rfl (by rfl) ?_; apply Exists.intro; refine ⟨fun w1 hS1 => ?_, ?_⟩
  · clear hS1
    go_simp
    try rfl
  go_simp; refine hWalk_take 2 (by kernel_rfl) rfl (by rfl) ?_; apply Exists.intro; refine ⟨fun w1 hS1 => ?_, ?_⟩
  · obtain ⟨m0, m1, m2⟩ := And.intro (hS1.cell (j := 0) rfl) (And.intro (hS1.cell (j := 1) rfl) (hS1.cell (j := 2) rfl))
    have lm := hS1.lt
    clear hS1; go_simp
    try rfl
  go_simp; refine hWalk_one (i := 3) (by kernel_rfl) (next_mk rfl (by rfl) (fun K hK => ?_)); go_simp; refine (l20Seq_any g 2000 9 A n c B k d m wd ⟨by omega, by omega⟩ (by omega) RX.out (fun w9 h9 => M2.out w9 ((Sml.of_up UA.out).trans (Sml.of_mv h9 (by omega)))) (by have := HNC.out; omega)).mono ?_; rintro x w4 ⟨Ac, nc, cc, Aw, nw, cw, Al, nl, cl, s, rfl, sq, hs, _, m4⟩
  have HS := Lib.hid hs
  have SQ := Lib.hid sq
  have hwd := UA.out.size
  have R2 := Lib.hid (R2.out.mv m4 (by omega))
  have R3 := Lib.hid (R3.out.mv m4 (by omega))
  have BM := Lib.hid (BM.out.mv m4 (by omega))
  have SM := Lib.hid ((Sml.of_up (lo := wO.heap.size) UA.out).trans (Sml.of_mv m4 (by omega)))
  have UM := Lib.hid (show Up w w4 from m4.up (U2.out.trans UA.out) (by omega))
  refine hK _ _ BM.out ?_; clear hK K sq hs m4 UA U2 RX; obtain ⟨p0, p1, p2⟩ := And.intro (R2.out.cell (j := 0) rfl) (And.intro (R2.out.cell (j := 1) rfl) (R2.out.cell (j := 2) rfl))
  have lp := R2.out.lt
  have fp := R2.out.frozen
  have S1 := SQ.out.far (o := 0) (u := .slice A n c) R2.out (by decide)
  have S2 := S1.far (o := 1) (u := .slice B k d) (R2.out.set 0 _) (by decide)
  replace SQ := Lib.hid (S2.far (o := 2) (u := .int .i64 m.til) ((R2.out.set 0 _).set 1 _) (by decide))
  clear S1 S2
  replace R2 := Lib.hid (((R2.out.set 0 (.slice A n c)).set 1 (.slice B k d)).set 2 (.int .i64 m.til))
  replace R3 := Lib.hid (((R3.out.far (b' := w.heap.size) 0 (.slice A n c) (by omega)).far (b' := w.heap.size) 1 (.slice B k d) (by omega)).far (b' := w.heap.size) 2 (.int .i64 m.til) (by omega))
  replace BM := Lib.hid (((BM.out.far (b' := w.heap.size) 0 (.slice A n c) (by omega)).far (b' := w.heap.size) 1 (.slice B k d) (by omega)).far (b' := w.heap.size) 2 (.int .i64 m.til) (by omega))
  replace SM := Lib.hid (((SM.out.set (b := w.heap.size) (o := 0) (u := .slice A n c) (by omega)).set (b := w.heap.size) (o := 1) (u := .slice B k d) (by omega)).set (b := w.heap.size) (o := 2) (u := .int .i64 m.til) (by omega))
  replace UM := Lib.hid (((UM.out.setCell (p := ⟨w.heap.size, 0, none⟩) (by dsimp only; omega) (.slice A n c)).setCell (p := ⟨w.heap.size, 1, none⟩) (by dsimp only; omega) (.slice B k d)).setCell (p := ⟨w.heap.size, 2, none⟩) (by dsimp only; omega) (.int .i64 m.til))
  refine hWalk_one (i := 4) (by kernel_rfl) (next_mk rfl (by rfl) (fun K hK => ?_)); go_simp; refine hK _ _ BM.out ?_; clear hK K p0 p1 p2 lp fp; obtain ⟨p0, p1, p2⟩ := And.intro (R3.out.cell (j := 0) rfl) (And.intro (R3.out.cell (j := 1) rfl) (R3.out.cell (j := 2) rfl))
  have lp := R3.out.lt
  have fp := R3.out.frozen
  have S1 := SQ.out.far (o := 0) (u := .slice Ac nc cc) R3.out (by decide)
  have S2 := S1.far (o := 1) (u := .slice Aw nw cw) (R3.out.set 0 _) (by decide)
  replace SQ := Lib.hid (S2.far (o := 2) (u := .slice Al nl cl) ((R3.out.set 0 _).set 1 _) (by decide))
  clear S1 S2
  replace R2 := Lib.hid (((R2.out.far (b' := (w.heap.size + 1)) 0 (.slice Ac nc cc) (by omega)).far (b' := (w.heap.size + 1)) 1 (.slice Aw nw cw) (by omega)).far (b' := (w.heap.size + 1)) 2 (.slice Al nl cl) (by omega))
  replace R3 := Lib.hid (((R3.out.set 0 (.slice Ac nc cc)).set 1 (.slice Aw nw cw)).set 2 (.slice Al nl cl))
  replace BM := Lib.hid (((BM.out.far (b' := (w.heap.size + 1)) 0 (.slice Ac nc cc) (by omega)).far (b' := (w.heap.size + 1)) 1 (.slice Aw nw cw) (by omega)).far (b' := (w.heap.size + 1)) 2 (.slice Al nl cl) (by omega))
  replace SM := Lib.hid (((SM.out.set (b := (w.heap.size + 1)) (o := 0) (u := .slice Ac nc cc) (by omega)).set (b := (w.heap.size + 1)) (o := 1) (u := .slice Aw nw cw) (by omega)).set (b := (w.heap.size + 1)) (o := 2) (u := .slice Al nl cl) (by omega))
  replace UM := Lib.hid (((UM.out.setCell (p := ⟨(w.heap.size + 1), 0, none⟩) (by dsimp only; omega) (.slice Ac nc cc)).setCell (p := ⟨(w.heap.size + 1), 1, none⟩) (by dsimp only; omega) (.slice Aw nw cw)).setCell (p := ⟨(w.heap.size + 1), 2, none⟩) (by dsimp only; omega) (.slice Al nl cl))
  refine hWalk_one (i := 5) (by kernel_rfl) (next_mk rfl (by rfl) (fun K hK => ?_)); go_simp; refine hK _ _ BM.out ?_; clear hK K p0 p1 p2 lp fp; refine hWalk_nil (by kernel_rfl) ?_; obtain ⟨k0, k1, k2⟩ := And.intro (R2.out.cell (j := 0) rfl) (And.intro (R2.out.cell (j := 1) rfl) (R2.out.cell (j := 2) rfl)); obtain ⟨j0, j1, j2⟩ := And.intro (R3.out.cell (j := 0) rfl) (And.intro (R3.out.cell (j := 1) rfl) (R3.out.cell (j := 2) rfl))
  have lk := R2.out.lt
  have lj := R3.out.lt
  go_wp2
  exact bodyPost_ret (v := .tuple #[.agg #[.slice A n c, .slice B k d, .int .i64 m.til], .agg #[.slice Ac nc cc, .slice Aw nw cw, .slice Al nl cl]]) (by simp [results, Try.results89, go_sem, k0, k1, k2, j0, j1, j2]) rfl ⟨A, n, c, B, k, d, m, Ac, nc, cc, Aw, nw, cw, Al, nl, cl, s, rfl, fun w9 h9 => M2.out w9 (SM.out.trans (h9.rise (by omega))), SQ.out.mono (by omega), HNC.out, HS.out, HT.out, UM.out⟩
end Go.Proofs.Ytklldniapombiaa

namespace Go.Proofs.Ytklldniapombiaa
set_option maxRecDepth 100000
open Go.RowKit
set_option maxHeartbeats 8000000 in
theorem drawWE_any (A : Option Addr) (n cap : Nat) (w : World) (hc : n ≤ cap) (hmax : cap ≤ 9223372036854775807) (hB : Bys w A n w.heap.size) :
    Calls Try.prog 34 #[.slice A n cap] w (DrawnSS w) := by
  have HB := Lib.hid hB
  clear hB
  go_enter Try.func34, Try.ntmps34
  go_wp2_with fail
  have U0 := Lib.hid (((Up.refl w).alloc (.cells #[.slice none 0 0, .slice none 0 0, .int .i64 0] 36)).alloc (.cells #[.slice none 0 0, .slice none 0 0, .slice none 0 0] 62))
  have R2 := Lib.hid ((Blk.new w #[.slice none 0 0, .slice none 0 0, .int .i64 0] 36).alloc (.cells #[.slice none 0 0, .slice none 0 0, .slice none 0 0] 62))
  have R3 := Lib.hid (Blk.new (w.alloc (.cells #[.slice none 0 0, .slice none 0 0, .int .i64 0] 36)) #[.slice none 0 0, .slice none 0 0, .slice none 0 0] 62)
  simp only [World.size_alloc] at R3
  generalize hW0 : (w.alloc (.cells #[.slice none 0 0, .slice none 0 0, .int .i64 0] 36)).alloc (.cells #[.slice none 0 0, .slice none 0 0, .slice none 0 0] 62) = W0 at *
  have hs0 : W0.heap.size = w.heap.size + 2 := by rw [← hW0]; simp
  have HB0 : Bys W0 A n W0.heap.size := fun h0 => by
    obtain ⟨b, off, hA, hb, hcc⟩ := HB.out.keep (fun b o hb => U0.out.cells b o hb) h0
    exact ⟨b, off, hA, by omega, hcc⟩
  clear hW0; refine (drawSS_any A n cap _ hc hmax HB0).mono ?_; rintro x w4 ⟨A, n, c, B, k, d, m, Ac, nc, cc, Aw, nw, cw, Al, nl, cl, s, rfl, mv, sq, hnc, hs, ht, u4⟩
  have MV := Lib.hid mv
  have SQ := Lib.hid sq
  have HNC := Lib.hid hnc
  have HS := Lib.hid hs
  have HT := Lib.hid ht
  have UM := Lib.hid (U0.out.trans u4)
  have R2 := Lib.hid (R2.out.up u4)
  have R3 := Lib.hid (R3.out.up u4)
  have h4 := u4.size
  clear mv sq hnc hs ht U0 HB0 HB u4; obtain ⟨p0, p1, p2⟩ := And.intro (R2.out.cell (j := 0) rfl) (And.intro (R2.out.cell (j := 1) rfl) (R2.out.cell (j := 2) rfl)); obtain ⟨q0, q1, q2⟩ := And.intro (R3.out.cell (j := 0) rfl) (And.intro (R3.out.cell (j := 1) rfl) (R3.out.cell (j := 2) rfl))
  have lp := R2.out.lt
  have lq := R3.out.lt
  have fp := R2.out.frozen
  have fq := R3.out.frozen
  have SM := Lib.hid (Sml.of_up (lo := W0.heap.size) (Up.refl w4))
  go_wp2_with fail
  have S1 := SQ.out.far (o := 0) (u := .slice A n c) R2.out (by decide)
  have S2 := S1.far (o := 1) (u := .slice B k d) (R2.out.set 0 _) (by decide)
  replace SQ := Lib.hid (S2.far (o := 2) (u := .int .i64 m.til) ((R2.out.set 0 _).set 1 _) (by decide))
  clear S1 S2
  replace R2 := Lib.hid (((R2.out.set 0 (.slice A n c)).set 1 (.slice B k d)).set 2 (.int .i64 m.til))
  replace R3 := Lib.hid (((R3.out.far (b' := w.heap.size) 0 (.slice A n c) (by omega)).far (b' := w.heap.size) 1 (.slice B k d) (by omega)).far (b' := w.heap.size) 2 (.int .i64 m.til) (by omega))
  replace SM := Lib.hid (((SM.out.set (b := w.heap.size) (o := 0) (u := .slice A n c) (by omega)).set (b := w.heap.size) (o := 1) (u := .slice B k d) (by omega)).set (b := w.heap.size) (o := 2) (u := .int .i64 m.til) (by omega))
  replace UM := Lib.hid (((UM.out.setCell (p := ⟨w.heap.size, 0, none⟩) (by dsimp only; omega) (.slice A n c)).setCell (p := ⟨w.heap.size, 1, none⟩) (by dsimp only; omega) (.slice B k d)).setCell (p := ⟨w.heap.size, 2, none⟩) (by dsimp only; omega) (.int .i64 m.til))
  have S1 := SQ.out.far (o := 0) (u := .slice Ac nc cc) R3.out (by decide)
  have S2 := S1.far (o := 1) (u := .slice Aw nw cw) (R3.out.set 0 _) (by decide)
  replace SQ := Lib.hid (S2.far (o := 2) (u := .slice Al nl cl) ((R3.out.set 0 _).set 1 _) (by decide))
  clear S1 S2
  replace R2 := Lib.hid (((R2.out.far (b' := (w.heap.size + 1)) 0 (.slice Ac nc cc) (by omega)).far (b' := (w.heap.size + 1)) 1 (.slice Aw nw cw) (by omega)).far (b' := (w.heap.size + 1)) 2 (.slice Al nl cl) (by omega))
  replace R3 := Lib.hid (((R3.out.set 0 (.slice Ac nc cc)).set 1 (.slice Aw nw cw)).set 2 (.slice Al nl cl))
  replace SM := Lib.hid (((SM.out.set (b := (w.heap.size + 1)) (o := 0) (u := .slice Ac nc cc) (by omega)).set (b := (w.heap.size + 1)) (o := 1) (u := .slice Aw nw cw) (by omega)).set (b := (w.heap.size + 1)) (o := 2) (u := .slice Al nl cl) (by omega))
  replace UM := Lib.hid (((UM.out.setCell (p := ⟨(w.heap.size + 1), 0, none⟩) (by dsimp only; omega) (.slice Ac nc cc)).setCell (p := ⟨(w.heap.size + 1), 1, none⟩) (by dsimp only; omega) (.slice Aw nw cw)).setCell (p := ⟨(w.heap.size + 1), 2, none⟩) (by dsimp only; omega) (.slice Al nl cl))
  clear p0 p1 p2 q0 q1 q2 lp lq fp fq; obtain ⟨k0, k1, k2⟩ := And.intro (R2.out.cell (j := 0) rfl) (And.intro (R2.out.cell (j := 1) rfl) (R2.out.cell (j := 2) rfl)); obtain ⟨j0, j1, j2⟩ := And.intro (R3.out.cell (j := 0) rfl) (And.intro (R3.out.cell (j := 1) rfl) (R3.out.cell (j := 2) rfl))
  have lk := R2.out.lt
  have lj := R3.out.lt
  exact bodyPost_ret (v := .tuple #[.agg #[.slice A n c, .slice B k d, .int .i64 m.til], .agg #[.slice Ac nc cc, .slice Aw nw cw, .slice Al nl cl]]) (by simp [results, Try.results34, go_sem, k0, k1, k2, j0, j1, j2]) rfl ⟨A, n, c, B, k, d, m, Ac, nc, cc, Aw, nw, cw, Al, nl, cl, s, rfl, fun w9 h9 => MV.out w9 (SM.out.trans (h9.rise (by omega))), SQ.out.mono (by omega), HNC.out, HS.out, HT.out, UM.out⟩
end Go.Proofs.Ytklldniapombiaa

namespace Go.Proofs.Ytklldniapombiaa
set_option maxRecDepth 100000
open Go.RowKit
/-- The least delay of the sends to one component, but at most l. -/
def lkS (to : Int) : Int → List Evt → Int
  | l, [] => l
  | l, s :: ss => lkS to (if s.t = to then min l s.to else l) ss
def lkR (to : Int) : Int → List Rule → Int
  | l, [] => l
  | l, r :: rs => lkR to (lkS to l r.sends) rs
def lkO (to l : Int) : Option Rule → Int
  | none => l
  | some r => lkS to l r.sends
/-- Kind by kind: n kinds from k on. -/
def lkU (to : Int) : Nat → Int → Int → List Rule → Int
  | 0, _, l, _ => l
  | n + 1, k, l, rs => lkU to n (k + 1) (lkO to l (ruleOf k rs)) rs
theorem lkU_step (to : Int) (n : Nat) (k l : Int) (rs : List Rule) : lkU to (n + 1) k l rs = lkU to n (k + 1) (lkO to l (ruleOf k rs)) rs := rfl
theorem lkU_zero (to : Int) (k l : Int) (rs : List Rule) : lkU to 0 k l rs = l := rfl
theorem lkU_skip (to : Int) (r : Rule) (rs : List Rule) : ∀ (n : Nat) (k l : Int), r.kd < k → lkU to n k l (r :: rs) = lkU to n k l rs
  | 0, _, _, _ => rfl
  | n + 1, k, l, h => by
    rw [lkU, lkU, lkU_skip to r rs n (k + 1) _ (by omega), show ruleOf k (r :: rs) = ruleOf k rs by rw [ruleOf]; exact if_neg (by omega)]
theorem lkU_none (to : Int) : ∀ (n : Nat) (k l : Int), lkU to n k l [] = l
  | 0, _, _ => rfl
  | n + 1, k, l => by rw [lkU, ruleOf, lkO, lkU_none to n]
theorem ruleOf_past {many kd : Int} {bf : Int} {rs : List Rule} (h : rulesB many bf rs = true) (hk : kd ≤ bf) : ruleOf kd rs = none := by
  rw [← lastOf_ruleOf h]
  exact lastOf_past h hk
theorem lkU_lkR {many to : Int} : ∀ (n : Nat) (k l : Int) (rs : List Rule), rulesB many (k - 1) rs = true → k + n = 3 → lkU to n k l rs = lkR to l rs
  | n, k, l, [], _, _ => by rw [lkU_none]; rfl
  | 0, k, l, r :: rs, h, hk => by
    rw [rulesB, Bool.and_eq_true, Bool.and_eq_true] at h
    have k1 := of_decide_eq_true h.1.1
    have k2 := h.1.2
    simp only [ruleB, Bool.and_eq_true, inB_iff] at k2
    omega
  | n + 1, k, l, r :: rs, h, hk => by
    have h' := h
    rw [rulesB, Bool.and_eq_true, Bool.and_eq_true] at h
    have k1 := of_decide_eq_true h.1.1
    by_cases e : r.kd = k
    · rw [lkU, show ruleOf k (r :: rs) = some r by rw [ruleOf]; exact if_pos e, lkO, lkU_skip to r rs n (k + 1) _ (by omega), lkR]
      have h2 := h.2
      rw [e] at h2
      exact lkU_lkR n (k + 1) _ rs (by rw [show k + 1 - 1 = k by omega]; exact h2) (by omega)
    · have hb : rulesB many k (r :: rs) = true := by
        rw [rulesB, Bool.and_eq_true, Bool.and_eq_true]
        exact ⟨⟨decide_eq_true (by omega), h.1.2⟩, h.2⟩
      rw [lkU, ruleOf_past hb (by omega), lkO]
      exact lkU_lkR n (k + 1) l (r :: rs) (by rw [show k + 1 - 1 = k by omega]; exact hb) (by omega)
theorem drop_get {α : Type} {d : α} (es : List α) (k : Nat) (h : k < es.length) : es.drop k = es.getD k d :: es.drop (k + 1) := by
  rw [List.drop_eq_getElem_cons h]; simp [h]
theorem lkS_drop (to l : Int) (es : List Evt) (k : Nat) (h : k < es.length) : lkS to l (es.drop k) = lkS to (if (es.getD k default).t = to then min l (es.getD k default).to else l) (es.drop (k + 1)) := by
  rw [drop_get (d := default) es k h, lkS]
theorem lkS_end (to l : Int) (es : List Evt) (k : Nat) (h : es.length ≤ k) : lkS to l (es.drop k) = l := by
  rw [List.drop_of_length_le h]
  rfl
theorem lkR_drop (to l : Int) (rs : List Rule) (k : Nat) (h : k < rs.length) : lkR to l (rs.drop k) = lkR to (lkS to l (rs.getD k default).sends) (rs.drop (k + 1)) := by
  rw [drop_get (d := default) rs k h, lkR]
theorem lkR_end (to l : Int) (rs : List Rule) (k : Nat) (h : rs.length ≤ k) : lkR to l (rs.drop k) = l := by
  rw [List.drop_of_length_le h]
  rfl
theorem lkS_le (to : Int) : ∀ (es : List Evt) (l : Int), lkS to l es ≤ l
  | [], l => by rw [lkS]; omega
  | s :: ss, l => by
    rw [lkS]
    have := lkS_le to ss (if s.t = to then min l s.to else l)
    split at this <;> split <;> omega
theorem lkR_le (to : Int) : ∀ (rs : List Rule) (l : Int), lkR to l rs ≤ l
  | [], l => by rw [lkR]; omega
  | r :: rs, l => by
    rw [lkR]
    have := lkR_le to rs (lkS to l r.sends)
    have := lkS_le to r.sends l
    omega
end Go.Proofs.Ytklldniapombiaa

namespace Go.Proofs.Ytklldniapombiaa
set_option maxRecDepth 100000
open Go.RowKit
/-- The lookahead between two components that exist. -/
def lkM (m : Mdl) (fr to : Int) : Int := lkR to (m.til + 1) (m.rules.getD fr.toNat [])
def wjV (g : Int → Int → Int) (fr : Int) : Nat → Nat → Int → Int
  | 0, _, l => l
  | n + 1, j, l => wjV g fr n (j + 1) (min l (g fr j))
def wiV (g : Int → Int → Int) (N : Nat) : Nat → Nat → Int → Int
  | 0, _, l => l
  | n + 1, i, l => wiV g N n (i + 1) (wjV g i N 0 l)
theorem wjV_at {g : Int → Int → Int} {fr : Int} {N p : Nat} {y : Int} (h : p < N) : wjV g fr (N - p) p y = wjV g fr (N - (p + 1)) (p + 1) (min y (g fr p)) := by
  rw [show N - p = (N - (p + 1)) + 1 by omega]
  rfl
theorem wjV_end {g : Int → Int → Int} {fr : Int} {N p : Nat} {y : Int} (h : N ≤ p) : wjV g fr (N - p) p y = y := by
  rw [show N - p = 0 by omega]
  rfl
theorem wiV_at {g : Int → Int → Int} {N M p : Nat} {y : Int} (h : p < N) : wiV g M (N - p) p y = wiV g M (N - (p + 1)) (p + 1) (wjV g p M 0 y) := by
  rw [show N - p = (N - (p + 1)) + 1 by omega]
  rfl
theorem wiV_end {g : Int → Int → Int} {N M p : Nat} {y : Int} (h : N ≤ p) : wiV g M (N - p) p y = y := by
  rw [show N - p = 0 by omega]
  rfl
def winL (m : Mdl) : Int := wiV (lkM m) m.rules.length m.rules.length 0 (m.til + 1)
/-- What WinLook gives. -/
def winV (m : Mdl) : Int := if mdlB m then winL m else -1
theorem wjV_low {g : Int → Int → Int} {fr : Int} : ∀ (n j : Nat) (l : Int), 1 ≤ l → (∀ q : Nat, j ≤ q → q < j + n → 1 ≤ g fr q) → 1 ≤ wjV g fr n j l
  | 0, _, _, h, _ => h
  | n + 1, j, l, h, hg => wjV_low n (j + 1) _ (by have := hg j (by omega) (by omega); omega) (fun q h1 h2 => hg q (by omega) (by omega))
theorem wiV_low {g : Int → Int → Int} {N : Nat} : ∀ (n i : Nat) (l : Int), 1 ≤ l → (∀ p q : Nat, i ≤ p → p < i + n → q < N → 1 ≤ g p q) → 1 ≤ wiV g N n i l
  | 0, _, _, h, _ => h
  | n + 1, i, l, h, hg => wiV_low n (i + 1) _ (wjV_low N 0 l h (fun q _ h2 => hg i q (by omega) (by omega) (by omega))) (fun p q h1 h2 h3 => hg p q (by omega) (by omega) h3)
theorem wjV_le {g : Int → Int → Int} {fr : Int} : ∀ (n j : Nat) (l : Int), wjV g fr n j l ≤ l
  | 0, _, l => Int.le_refl l
  | n + 1, j, l => Int.le_trans (wjV_le n (j + 1) _) (by omega)
theorem wiV_le {g : Int → Int → Int} {N : Nat} : ∀ (n i : Nat) (l : Int), wiV g N n i l ≤ l
  | 0, _, l => Int.le_refl l
  | n + 1, i, l => Int.le_trans (wiV_le n (i + 1) _) (wjV_le N 0 l)
end Go.Proofs.Ytklldniapombiaa

namespace Go.Proofs.Ytklldniapombiaa
set_option maxRecDepth 100000
open Go.RowKit
theorem RMap.look1 {w : World} {b n : Nat} {f : Int → Int → Option Value} (h : RMap w b n f) (c k : Int) (hc : I64 c) (hk : I64 k) :
    (Instr.lookup 107 (.map (some b)) (.agg #[.int .i64 c, .int .i64 k]) false).run Try.prog w = .ok ((f c k).getD ZRv) w := by
  obtain ⟨D, ho, _, hr⟩ := h; obtain ⟨l, hl⟩ := key_ex c k hc hk; obtain ⟨h1, h2⟩ := hr c k l hl; obtain ⟨v, ps, hrun, hv⟩ := ho.lookup keyLaw Try.underlying107 (zeroRule w) (zd := .held ZRv) (zp := []) rfl hl
  have e : v = (f c k).getD ZRv := by
    rw [h1 (.held ZRv)] at hv; simp only [valR, Option.some.injEq, Prod.mk.injEq] at hv
    cases hf : f c k with
    | none => rw [hf] at hv; simpa using hv.1
    | some u => rw [hf] at hv; simpa using hv.1
  rw [← e]
  exact hrun
/-- A rule looked up without a word whether it is there: its sends, or none. -/
theorem Mach.look1 {w W : World} {b : Nat} {m : Mdl} (h : Mach w b m) (u : Up w W) (c k : Int) (hc : I64 c) (hk : I64 k) (h0 : 0 ≤ c) :
    ∃ kd ra rb rc A n cp ss, (Instr.lookup 107 (.map (some b)) (.agg #[.int .i64 c, .int .i64 k]) false).run Try.prog W = .ok (.agg #[.int .i64 kd, .int .i64 ra, .int .i64 rb, .int .i64 rc, .slice A n cp]) W ∧
      n ≤ 9223372036854775807 ∧ Evs W A n ss ∧ ∀ to l, lkO to l (ruleOf k (m.rules.getD c.toNat [])) = lkS to l ss := by
  obtain ⟨N, f, h1, h2⟩ := h
  have hr := h2 c k
  rw [if_pos h0] at hr
  have hl := (h1.up u).look1 c k hc hk
  cases ho : ruleOf k (m.rules.getD c.toNat []) with
  | none =>
    rw [ho] at hr; unfold RowV at hr; dsimp only at hr; rw [hr] at hl
    exact ⟨0, 0, 0, 0, none, 0, 0, [], hl, by omega, Evs.none_ W, fun _ _ => rfl⟩
  | some r =>
    rw [ho] at hr; obtain ⟨A, n, cp, e, hn, he⟩ := hr; rw [e] at hl
    exact ⟨r.kd, r.a, r.b, r.c, A, n, cp, r.sends, hl, hn, he.up u, fun _ _ => rfl⟩
theorem neverL_any (mb : Option Nat) (many til : Int) (w : World) (h0 : 0 ≤ til ∧ til ≤ 99) :
    Calls Try.prog 120 #[.agg #[.map mb, .int .i64 many, .int .i64 til]] w fun x w' => x = .returned (.int .i64 (til + 1)) ∧ Up w w' := by
  have i1 : IntKind.i64.wrap (til + 1) = til + 1 := IntWalk.i64_in _ (by omega)
  go_enter Try.func120, Try.ntmps120
  go_wp2; go_ret
  exact ⟨rfl, (Up.refl w).alloc _⟩
set_option maxHeartbeats 4000000 in
theorem look_any (mb : Nat) (many : Int) (m : Mdl) (fr to : Int) (w : World) (hM : Mach w mb m) (hm : mdlB m = true) (h0 : 0 ≤ fr) (h1 : fr < m.rules.length) :
    Calls Try.prog 74 #[.agg #[.map (some mb), .int .i64 many, .int .i64 m.til], .int .i64 fr, .int .i64 to] w fun x w' => x = .returned (.int .i64 (lkR to (m.til + 1) (m.rules.getD fr.toNat []))) ∧ Up w w' := by
  have few := mdlB_few hm
  have RB := Lib.hid (mdlB_row hm fr.toNat (by omega))
  have HM := Lib.hid hM
  have TL := mdlB_til hm
  have CN := Lib.hid (fun W => neverL_any (some mb) many m.til W TL)
  have LK := Lib.hid (fun W (u : Up w W) q (hq : 0 ≤ q ∧ q ≤ 2) => HM.out.look1 u fr q (by unfold I64; omega) (by unfold I64; omega) h0)
  have TG := Lib.hid (lkU_lkR (many := m.rules.length) (to := to) 3 0 (m.til + 1) (m.rules.getD fr.toNat []) RB.out (by omega))
  generalize m.rules.getD fr.toNat [] = rs at RB LK TG ⊢
  generalize lkR to (m.til + 1) rs = R at TG ⊢
  generalize m.til = til at *
  have X2 := Lib.hid (Box3.new w (.map (some mb)) (.int .i64 many) (.int .i64 til) 109)
  have U0 := Lib.hid ((Up.refl w).alloc (.cells #[.map (some mb), .int .i64 many, .int .i64 til] 109))
  clear hM hm RB
  go_enter Try.func74, Try.ntmps74
  go_wp2_with fail
  refine (CN.out _).mono ?_; rintro x w1 ⟨rfl, u1⟩
  have U1 := Lib.hid (U0.out.trans u1)
  have X2 := Lib.hid (X2.out.up u1)
  clear u1 U0 CN; go_wp2
  go_loopw [7, 13] (fun l i wr => (∃ (q : Nat) (z : Int), q ≤ 3 ∧ i = .int .i64 q ∧ l = .int .i64 z ∧ Hid (lkU to (3 - q) q z rs = R)) ∧ Up w1 wr) (fun _ i _ => 3 - (intOf i).toNat)
  case atStart => exact ⟨⟨0, til + 1, by omega, rfl, rfl, TG⟩, Up.refl _⟩
  case round =>
    obtain ⟨⟨q, z, hq, rfl, rfl, HT⟩, ur⟩ := hrel
    have UR := Lib.hid ur
    have x2 := X2.out.up ur
    obtain ⟨q0, q1, q2⟩ := And.intro x2.c0 (And.intro x2.c1 x2.c2)
    have lt2_ := x2.lt
    clear ur x2
    by_cases hlt : q < 3
    · obtain ⟨kd, ra, rb, rc, A, n, cp, ss, hrun, hn, he, hlk⟩ := LK.out wr (U1.out.trans UR.out) q (by omega)
      have HE := Lib.hid he
      have HS := Lib.hid (hlk to z)
      have i4 : (q : Int) < 3 := by omega
      have ST := Lib.hid (show lkU to (3 - (q + 1)) ((q + 1 : Nat) : Int) (lkS to z ss) rs = R by
        have := HT.out
        rw [show 3 - q = (3 - (q + 1)) + 1 by omega, lkU_step, HS.out] at this; rw [← this]
        congr 1)
      clear he hlk HT HS
      have FL := fun W : World => (show (Instr.field 166 (.agg #[.int .i64 kd, .int .i64 ra, .int .i64 rb, .int .i64 rc, .slice A n cp]) 4).run Try.prog W = .ok (.slice A n cp) W from rfl)
      go_wp2; clear q0 q1 q2 lt2_ hrun
      have H0 := Lib.hid (show lkS to z (ss.drop 0) = lkS to z ss from rfl)
      generalize lkS to z ss = S at ST H0
      go_loopw [7, 24] (fun l i wj => (∃ (p : Nat) (y : Int), p ≤ n ∧ i = .int .i64 p ∧ l = .int .i64 y ∧ Hid (lkS to y (ss.drop p) = S)) ∧ Up wr wj) (fun _ i _ => n - (intOf i).toNat)
      case atStart => exact ⟨⟨0, z, by omega, rfl, rfl, H0⟩, Up.refl _⟩
      case round =>
        obtain ⟨⟨p, y, hp, rfl, rfl, HY⟩, uj⟩ := hrel
        have UJ := Lib.hid uj
        have ee := HE.out.up uj
        clear uj
        by_cases hlp : p < n
        · obtain ⟨b, off, hA, hb, hc⟩ := ee.2 (by omega)
          subst hA
          have a0 := hc p hlp
          have DR := Lib.hid (lkS_drop to y ss p (by rw [ee.1]; exact hlp))
          clear hc ee
          generalize ss.getD p default = e at a0 DR
          obtain ⟨et, eto, efr, esq, ekd, edt⟩ := e; unfold EvAt at a0; dsimp only at a0 DR; obtain ⟨p0, p1, p2, p3, p4, p5⟩ := a0
          have i4 : (p : Int) < n := by omega
          have UX := Lib.hid (UJ.out.alloc (.cells #[.int .i64 et, .int .i64 eto, .int .i64 efr, .int .i64 esq, .int .i64 ekd, .int .i64 edt] 168))
          by_cases hto : et = to
          · have HZ := Lib.hid (show lkS to (min y eto) (ss.drop (p + 1)) = S by rw [← HY.out, DR.out, if_pos hto])
            subst hto
            by_cases hmin : y ≤ eto
            · rw [show min y eto = y by omega] at HZ
              go_wp2
              go_roundw
              case rel => exact ⟨⟨p + 1, y, by omega, by go_num, rfl, HZ⟩, UX.out⟩
              case measure => simp [intOf]; omega
            · rw [show min y eto = eto by omega] at HZ
              go_wp2
              go_roundw
              case rel => exact ⟨⟨p + 1, eto, by omega, by go_num, by rw [if_pos (by omega)], HZ⟩, UX.out⟩
              case measure => simp [intOf]; omega
          · have HZ := Lib.hid (show lkS to y (ss.drop (p + 1)) = S by rw [← HY.out, DR.out, if_neg hto])
            go_wp2
            go_roundw
            case rel => exact ⟨⟨p + 1, y, by omega, by go_num, rfl, HZ⟩, UX.out⟩
            case measure => simp [intOf]; omega
        · have EN := lkS_end to y ss p (by rw [ee.1]; omega)
          rw [HY.out] at EN; subst EN
          have i4 : ¬ (p : Int) < n := by omega
          go_wp2
          go_roundw
          case rel => exact ⟨⟨q + 1, S, by omega, by go_num, rfl, ST⟩, UR.out.trans UJ.out⟩
          case measure => simp [intOf]; omega
    · obtain rfl : q = 3 := by omega
      have hz : z = R := by have := HT.out; rw [show 3 - 3 = 0 by omega, lkU_zero] at this; exact this
      subst hz; go_wp2; go_ret
      exact ⟨rfl, U1.out.trans UR.out⟩
end Go.Proofs.Ytklldniapombiaa

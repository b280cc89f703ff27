/-
  What slices.Collect returns of the window's iterator, in one sentence: a new slice of the events before the end of the window; for every row of events in memory.
  What impl.WinEvents returns, in one sentence: the pending events before the end of the window, in a slice of its own, or none for a simulator that is none; for every model and simulator in memory.
-/
import Derived.Test.YtklldniapombiaaDLWev02
import Derived.Test.YtklldniapombiaaDLWev27
import Derived.Test.YtklldniapombiaaDLWev28
import Derived.Test.YtklldniapombiaaDLWev37
import Derived.Test.YtklldniapombiaaDLWev40
namespace Go.Proofs.Ytklldniapombiaa
set_option maxRecDepth 100000
open Go.RowKit Go.Shelf
attribute [local go_sem] Oper.semAt_some
theorem wnd_stops (n : Nat) (hn : 1 ≤ n) (w : World) (Bs Bd : Nat) (A : Option Addr) (len cap : Nat) (wd : Int) (hwd : 0 ≤ wd ∧ wd ≤ 1000) (es : List Evt) (hE : Evs w A len es) (hlen : len ≤ 1048576) (ht : ∀ j, j < len → 0 ≤ (es.getD j default).t ∧ (es.getD j default).t ≤ 1000) (hbs : Bs < w.heap.size) (hbd : Bd < w.heap.size) (hBs : w.cell? ⟨Bs, 0, none⟩ = some (.slice A len cap)) (hBd : w.cell? ⟨Bd, 0, none⟩ = some (.int .i64 wd)) :
    SeqStopsK Fence.wide n Try.prog 137 #[.pointer (some ⟨Bs, 0, none⟩), .pointer (some ⟨Bd, 0, none⟩)] (fun x : Evt => #[x.v]) (Below w.heap.size) (fun ys => ys = winE wd es) (fun _ => True) len w := fun l J Jx W hW hJ _ hY h0 =>
  wnd1_in Fence.wide n trivial rfl hn l Bs Bd A len cap wd hwd es w hE hlen ht hbs hbd hBs hBd J Jx hY W hW
    (fun s X X' hs u => hJ s X X' none hs ⟨u.os, u.tape, u.output, u.size, fun k hk _ => u.block k hk⟩ (fun r e => by cases e)) h0
theorem one_cells {W : World} {g t : Nat} {e : Evt} (h : W.heap[g]? = some (.cells e.c6.toArray t (0, 0))) : ∀ j u, (flat [e])[j]? = some u → W.cell? ((⟨g, 0, none⟩ : Addr).add j) = some u := fun j u hu => by
  have ad : (⟨g, 0, none⟩ : Addr).add j = ⟨g, j, none⟩ := by
    unfold Addr.add
    split <;> simp_all
  rw [ad, cell_of_row _ _ j _ _ _ h, ← hu]; simp [flat]
theorem winE_len (wd : Int) (es : List Evt) : (winE wd es).length ≤ es.length := by
  unfold winE
  exact (List.takeWhile_prefix _).length_le
set_option maxHeartbeats 8000000 in
theorem appendSeq_in (w : World) (Bs Bd : Nat) (A : Option Addr) (len cap : Nat) (wd : Int) (hwd : 0 ≤ wd ∧ wd ≤ 1000) (es : List Evt) (hE : Evs w A len es) (hlen : len ≤ 1048576) (ht : ∀ j, j < len → 0 ≤ (es.getD j default).t ∧ (es.getD j default).t ≤ 1000) (hbs : Bs < w.heap.size) (hbd : Bd < w.heap.size) (hBs : w.cell? ⟨Bs, 0, none⟩ = some (.slice A len cap)) (hBd : w.cell? ⟨Bd, 0, none⟩ = some (.int .i64 wd)) :
    CallsIn Fence.wide 8 Try.prog 136 #[.slice none 0 0, .func (.func 137) #[] #[.pointer (some ⟨Bs, 0, none⟩), .pointer (some ⟨Bd, 0, none⟩)]] w fun e w' => ∃ v, e = .returned v ∧ w'.ownsRow w.heap.size 74 6 v (winE wd es).length (flat (winE wd es)) ∧ Up w w' := by
  obtain ⟨i0, hi0, hz0, hz1, hz2⟩ := info_parts info74; refine callsIn_of_wp_marks Try.func136 rfl trivial ?_ rfl; simp only [Try.ntmps136, List.size_toArray, List.length_cons, List.length_nil, Nat.reduceAdd, Nat.reduceSub, Array.replicate_succ, Array.replicate_zero, List.push_toArray, List.append_toArray, List.nil_append, List.cons_append]
  gi_wp2
  have hB0 : Below w.heap.size w (w.alloc (.cells #[.slice none 0 0] 34)) := (Below.refl _ w).alloc (Nat.le_refl _) _
  have bS := Boxed.new w 34 (.slice none 0 0)
  have hsz : (w.alloc (.cells #[.slice none 0 0] 34)).heap.size = w.heap.size + 1 := by simp
  obtain ⟨W0, hW0⟩ : ∃ W0, w.alloc (.cells #[.slice none 0 0] 34) = W0 := ⟨_, rfl⟩; rw [hW0] at hB0 bS hsz ⊢; clear hW0
  refine wpIn_rangeFunc_ownH rfl (by omega) (gf := 137) (lb := #[.pointer (some ⟨Bs, 0, none⟩), .pointer (some ⟨Bd, 0, none⟩)]) rfl trivial (enters_of Try.func137 (by kernel_rfl) rfl)
    (wnd_stops _ (by omega) w Bs Bd A len cap wd hwd es hE hlen ht hbs hbd hBs hBd) belowK_t (belowK_b (by omega)) hB0 (fun _ => rfl)
    (fun pre W => (∃ v, Boxed W w.heap.size 34 v ∧ W.ownsRow w.heap.size 74 6 v pre.length (flat pre) ∧ True) ∧ Below w.heap.size w W)
    (fun _ _ _ => False)
    (OwnFrom.and (Own.from (holdsRow_own w.heap.size w.heap.size 34 74 6 (fun pre : List Evt => pre.length) (fun pre => flat pre) (fun _ _ => True)) _) (ownFrom_below (Nat.le_refl _) (by omega)))
    (fun _ _ _ _ _ h _ _ => h)
    ⟨⟨_, bS, World.ownsRow_nil _ _ _ _, trivial⟩, hB0⟩
    (fun x a' W => ∃ Bx, w.heap.size < Bx ∧ W.heap[Bx]? = some (.cells #[.int .i64 x.t, .int .i64 x.to, .int .i64 x.fr, .int .i64 x.sq, .int .i64 x.kd, .int .i64 x.dt] 74 (0, 0)) ∧ a' = { tmps := #[.slice none 0 0, .func (.func 137) #[] #[.pointer (some ⟨Bs, 0, none⟩), .pointer (some ⟨Bd, 0, none⟩)], .pointer (some ⟨w.heap.size, 0, none⟩), undef, .slice none 0 0, .pointer (some ⟨Bx, 0, none⟩), .func (.func 137) #[] #[.pointer (some ⟨Bs, 0, none⟩), .pointer (some ⟨Bd, 0, none⟩)], .agg #[.int .i64 x.t, .int .i64 x.to, .int .i64 x.fr, .int .i64 x.sq, .int .i64 x.kd, .int .i64 x.dt], undef, undef, undef, undef, undef], defers := [] })
    ?hAx ?assign ?body ?done ?stop
  case hAx =>
    rintro x a' s X Y row ⟨Bx, h1, h2, h3⟩ hg hr; refine ⟨Bx, h1, (hg.block Bx (Array.getElem?_eq_some_iff.1 h2).1 (fun e => ?_)).trans h2, h3⟩; obtain ⟨_, o, ho, hc⟩ := hr Bx e.symm; rw [h2] at ho
    cases ho
    cases hc
  case assign =>
    rintro l pre x W K ⟨⟨v, hv, hrow, _⟩, hb⟩ hK; obtain ⟨et, eto, efr, esq, ekd, edt⟩ := x; unfold Evt.v; dsimp only
    gi_wp2
    refine hK _ _ ((KeepsOthers.alloc _ _).from _) ((Below.refl _ W).alloc hb.size _) ⟨⟨v, hv.alloc _, hrow.alloc _, trivial⟩, hb.alloc (by have := hb.size; omega) _⟩ ⟨W.heap.size, ?_, World.alloc_heap_new W _, rfl⟩
    have := hv.lt
    omega
  case body =>
    rintro l pre x a' W hl ⟨r, hr⟩ ⟨⟨v, hv, hrow, _⟩, hb⟩ ⟨Bx, hBx, hx, rfl⟩ hlt; obtain ⟨et, eto, efr, esq, ekd, edt⟩ := x; dsimp only at hx ⊢
    have cv := hv.cell
    have k0 : W.cell? ⟨Bx, 0, none⟩ = some (.int .i64 et) := cell_of_row _ _ 0 _ _ _ hx
    have k1 : W.cell? ⟨Bx, 1, none⟩ = some (.int .i64 eto) := cell_of_row _ _ 1 _ _ _ hx
    have k2 : W.cell? ⟨Bx, 2, none⟩ = some (.int .i64 efr) := cell_of_row _ _ 2 _ _ _ hx
    have k3 : W.cell? ⟨Bx, 3, none⟩ = some (.int .i64 esq) := cell_of_row _ _ 3 _ _ _ hx
    have k4 : W.cell? ⟨Bx, 4, none⟩ = some (.int .i64 ekd) := cell_of_row _ _ 4 _ _ _ hx
    have k5 : W.cell? ⟨Bx, 5, none⟩ = some (.int .i64 edt) := cell_of_row _ _ 5 _ _ _ hx
    have hv1 := hv.lt
    have hbx : Bx < W.heap.size := (Array.getElem?_eq_some_iff.1 hx).1
    have hnew := heap_alloc_new W (.cells #[.int .i64 et, .int .i64 eto, .int .i64 efr, .int .i64 esq, .int .i64 ekd, .int .i64 edt] 74)
    gi_wp2_with (gi_at_builtin; refine wpListIn_append_own _ rfl (.tmp 8) (.tmp 10) 34 rfl w.heap.size 74 i0 _ 6 48 Try.underlying34 hi0 hz0 hz1 hz2 rfl (by decide) v pre.length (flat pre) rfl (hrow.alloc _) ⟨W.heap.size, 0, none⟩ 1 1 (flat [⟨et, eto, efr, esq, ekd, edt⟩]) rfl rfl (one_cells (e := ⟨et, eto, efr, esq, ekd, edt⟩) hnew) (flat_one _) (by simp only [maxLen]; omega) (by omega) (by have := hb.size; simp; omega) ?_; intro v' w1 hown' hgrow _; obtain ⟨g', cap', rfl⟩ := ownsRow_succ hown'; obtain ⟨hv1, hv2, hr2, hk2, hb2⟩ := hv.appended (by decide) hrow hb.size (Nat.le_refl _) hown' hgrow; have hc1 := hv1.cell; have hf1 := hv1.frozen)
    refine ⟨hk2.from _, hb2, ⟨_, hv2, ?_, trivial⟩, hb.trans hb2⟩; rw [List.length_append, flat_app]
    exact hr2
  case done =>
    rintro D ys W hD rfl ⟨⟨v, hv, hrow, _⟩, hb⟩ hK
    have hc := hv.cell
    have hl := hv.lt
    gi_wp2
    refine ⟨by simp, .inl ⟨_, _, rfl, run_takeDeferred hK, ?_⟩⟩
    exact ⟨_, results_tmp rfl _ _ _, v, rfl, ownsRow_putObj hrow _ hK rfl, hb.trans (belowK_b (w := w) (Nat.le_refl _) W D _ _ (by omega) hK rfl rfl)⟩
  case stop =>
    rintro D c pre W _ _ h _
    exact h.elim
end Go.Proofs.Ytklldniapombiaa

namespace Go.Proofs.Ytklldniapombiaa
set_option maxRecDepth 100000
open Go.RowKit
theorem winL_in {m : Mdl} (hm : mdlB m = true) : 0 ≤ winL m ∧ winL m ≤ 1000 := by
  have TL := mdlB_til hm
  have h1 : 1 ≤ winL m := by
    unfold winL; refine wiV_low _ _ _ (by omega) (fun p q _ hp hq => ?_); unfold lkM
    exact lkR_low _ (-1) _ _ (mdlB_row hm _ (by omega)) (by omega)
  have h2 : winL m ≤ m.til + 1 := by
    unfold winL
    exact wiV_le _ _ _
  omega
/-- What WinEvents gives. -/
def wevV (m : Mdl) (n nc : Nat) (s : Sq) : List Evt := if sqS m n nc s then winE (winL m) s.wait else []
theorem fit_times {many til : Int} {nc : Nat} {s : Sq} (h : fitB many til nc s = true) (j : Nat) (hj : j < s.wait.length) : 0 ≤ (s.wait.getD j default).t ∧ (s.wait.getD j default).t ≤ 1000 := by
  unfold fitB at h; simp only [Bool.and_eq_true] at h
  have := List.all_eq_true.1 h.2.2.2.1 (s.wait.getD j default) (by
    rw [List.getD, List.getElem?_eq_getElem hj]
    exact List.getElem_mem hj)
  unfold takB okB at this; simp only [Bool.and_eq_true, inB_iff] at this
  omega
set_option maxHeartbeats 2000000 in
theorem collect_any (w : World) (Bs Bd : Nat) (A : Option Addr) (len cap : Nat) (wd : Int) (hwd : 0 ≤ wd ∧ wd ≤ 1000) (es : List Evt) (hE : Evs w A len es) (hlen : len ≤ 1048576) (ht : ∀ j, j < len → 0 ≤ (es.getD j default).t ∧ (es.getD j default).t ≤ 1000) (hbs : Bs < w.heap.size) (hbd : Bd < w.heap.size) (hBs : w.cell? ⟨Bs, 0, none⟩ = some (.slice A len cap)) (hBd : w.cell? ⟨Bd, 0, none⟩ = some (.int .i64 wd)) :
    Calls Try.prog 81 #[.func (.func 137) #[] #[.pointer (some ⟨Bs, 0, none⟩), .pointer (some ⟨Bd, 0, none⟩)]] w fun x w' => ∃ v, x = .returned v ∧ w'.ownsRow w.heap.size 74 6 v (winE wd es).length (flat (winE wd es)) ∧ Up w w' := by
  have C := Lib.hid (callsIn_wide.1 (appendSeq_in w Bs Bd A len cap wd hwd es hE hlen ht hbs hbd hBs hBd))
  clear hE ht hBs hBd
  go_enter Try.func81, Try.ntmps81
  go_wp2_with fail
  refine C.out.mono ?_; rintro x w1 ⟨v, rfl, ho, u⟩
  have HO := Lib.hid ho
  have U := Lib.hid u
  clear ho u; go_wp2; go_ret
  exact ⟨v, rfl, HO.out, U.out⟩
/-- What machine.window gives: an iterator over two boxes. -/
def WinIt (m : Mdl) (A : Option Addr) (n c : Nat) (w : World) (x : Ending) (w' : World) : Prop :=
  ∃ Bs Bd, x = .returned (.func (.func 137) #[] #[.pointer (some ⟨Bs, 0, none⟩), .pointer (some ⟨Bd, 0, none⟩)]) ∧ Bs < w'.heap.size ∧ Bd < w'.heap.size ∧ w'.cell? ⟨Bs, 0, none⟩ = some (.slice A n c) ∧ w'.cell? ⟨Bd, 0, none⟩ = some (.int .i64 (winL m)) ∧ Up w w'
set_option maxHeartbeats 4000000 in
theorem window_any (mb : Nat) (m : Mdl) (A : Option Addr) (n c : Nat) (w : World) (hM : Mach w mb m) (hm : mdlB m = true) :
    Calls Try.prog 82 #[.agg #[.map (some mb), .int .i64 m.rules.length, .int .i64 m.til], .slice A n c] w (WinIt m A n c w) := by
  have CL := Lib.hid (fun W (u : Up w W) => leastLook_any mb m W (hM.up u) hm)
  have X3 := Lib.hid (Blk.new (w.alloc (.cells #[.map (some mb), .int .i64 m.rules.length, .int .i64 m.til] 109)) #[.slice A n c] 34)
  have U0 := Lib.hid (((Up.refl w).alloc (.cells #[.map (some mb), .int .i64 m.rules.length, .int .i64 m.til] 109)).alloc (.cells #[.slice A n c] 34))
  simp only [World.size_alloc] at X3; unfold WinIt
  generalize winL m = z at CL ⊢
  generalize m.rules.length = N at *
  generalize m.til = til at *
  clear hM hm
  go_enter Try.func82, Try.ntmps82
  go_wp2_with fail
  refine (CL.out _ U0.out).mono ?_; rintro x w1 ⟨rfl, u⟩
  have U1 := Lib.hid (U0.out.trans u)
  have X4 := Lib.hid ((X3.out.up u).alloc (.cells #[.int .i64 z] 3))
  have X5 := Lib.hid (Blk.new w1 #[.int .i64 z] 3)
  have U2 := Lib.hid ((U0.out.trans u).alloc (.cells #[.int .i64 z] 3))
  clear u U0 X3; go_wp2
  exact bodyPost_ret (v := .func (.func 137) #[] #[.pointer (some ⟨w.heap.size + 1, 0, none⟩), .pointer (some ⟨w1.heap.size, 0, none⟩)]) (by simp [results, Try.results82, go_sem]) rfl
    ⟨_, _, rfl, X4.out.lt, X5.out.lt, X4.out.cell (j := 0) rfl, X5.out.cell (j := 0) rfl, U2.out⟩
set_option maxHeartbeats 4000000 in
theorem implWev_any (A : Option Addr) (n c : Nat) (B : Option Addr) (k d : Nat) (m : Mdl) (Ac : Option Addr) (nc cc : Nat) (Aw : Option Addr) (nw cw : Nat) (Al : Option Addr) (nl cl : Nat) (s : Sq) (w : World) (hM : MdlV w A n B k m) (hS : ShortSq nc nw nl) (hV : SqV w Ac nc Aw nw Al nl s) :
    Calls Try.prog 27 #[.agg #[.slice A n c, .slice B k d, .int .i64 m.til], .agg #[.slice Ac nc cc, .slice Aw nw cw, .slice Al nl cl]] w fun x w' => ∃ v, x = .returned v ∧ w'.ownsRow w.heap.size 74 6 v (wevV m n nc s).length (flat (wevV m n nc s)) ∧ Up w w' := by
  have RB := Lib.hid (show sqS m n nc s = (mdlB m && fitB m.rules.length m.til nc s) by rw [hM.rules.1]; exact sqS_fit m n nc s)
  have CM := Lib.hid (fun W (u : Up w W) => newMachine_any A n c B k d m W (hM.up u))
  have CF := Lib.hid (fun mp W (u : Up w W) => fits_any mp m.rules.length m.til Ac nc cc Aw nw cw Al nl cl s W hS (hV.up u))
  have EW := Lib.hid hV.wait
  have NW6 := Lib.hid (show nw ≤ 1048576 from hS.w)
  have FT := Lib.hid (fun (h : fitB m.rules.length m.til nc s = true) (j : Nat) (hj : j < nw) => fit_times h j (by rw [hV.wait.1]; exact hj))
  have WV := Lib.hid (show wevV m n nc s = if sqS m n nc s then winE (winL m) s.wait else [] from rfl)
  generalize wevV m n nc s = V at WV ⊢
  generalize sqS m n nc s = res at RB WV
  generalize fitB m.rules.length m.til nc s = g at RB CF FT
  have B1 := Box3.new (w.alloc (.cells #[.slice A n c, .slice B k d, .int .i64 m.til] 36)) (.slice Ac nc cc) (.slice Aw nw cw) (.slice Al nl cl) 62
  simp only [World.size_alloc] at B1
  have U0 := Lib.hid (((Up.refl w).alloc (.cells #[.slice A n c, .slice B k d, .int .i64 m.til] 36)).alloc (.cells #[.slice Ac nc cc, .slice Aw nw cw, .slice Al nl cl] 62))
  have B1 := Lib.hid B1
  clear hM hV hS; unfold MachPost at CM
  go_enter Try.func27, Try.ntmps27
  go_wp2_with fail
  generalize (w.alloc (.cells #[.slice A n c, .slice B k d, .int .i64 m.til] 36)).alloc (.cells #[.slice Ac nc cc, .slice Aw nw cw, .slice Al nl cl] 62) = W at *
  generalize hb1 : w.heap.size + 1 = b1 at *
  clear hb1; refine (CM.out _ U0.out).mono ?_; rintro x w1 ⟨u1, h⟩
  have U1 := Lib.hid (U0.out.trans u1)
  have B1 := Lib.hid (B1.out.up u1)
  clear u1 CM
  rcases h with ⟨hm, rfl⟩ | ⟨hm, b, rfl, _, hMa⟩
  · have RT := Lib.hid (show V = [] by rw [WV.out, RB.out, hm]; rfl)
    have UE := Lib.hid (U1.out.alloc (.cells #[.map none, .int .i64 0, .int .i64 0] 109))
    clear hm RB; go_wp2; go_ret
    exact ⟨_, rfl, by rw [RT.out]; exact World.ownsRow_nil _ _ _ _, UE.out⟩
  · have RT := Lib.hid (show res = g by rw [RB.out, hm]; rfl)
    have ua := (Up.refl w1).alloc (.cells #[.map (some b), .int .i64 m.rules.length, .int .i64 m.til] 109)
    have BM := Lib.hid (Blk.new w1 #[.map (some b), .int .i64 m.rules.length, .int .i64 m.til] 109)
    have B1 := Lib.hid (B1.out.up ua)
    have U1 := Lib.hid (U1.out.trans ua)
    have MA := Lib.hid (hMa.up ua)
    have WD := winL_in hm
    have CW := Lib.hid (fun W' (u : Up (w1.alloc (.cells #[.map (some b), .int .i64 m.rules.length, .int .i64 m.til] 109)) W') => window_any b m Aw nw cw W' (MA.out.up u) hm)
    unfold WinIt at CW
    generalize winL m = wd at WD CW WV
    generalize m.rules.length = N at *
    generalize m.til = til at *
    obtain ⟨p0, p1, p2⟩ := And.intro B1.out.c0 (And.intro B1.out.c1 B1.out.c2)
    have lp := B1.out.lt
    clear hm RB ua hMa
    go_wp2_with fail
    generalize w1.alloc (.cells #[.map (some b), .int .i64 N, .int .i64 til] 109) = W1 at *
    generalize w1.heap.size = bm at *
    refine (CF.out (some b) _ U1.out).mono ?_; rintro x w2 ⟨rfl, u2⟩
    have UE := Lib.hid (U1.out.trans u2)
    have U2 := Lib.hid u2
    replace B1 := Lib.hid (B1.out.up u2)
    replace BM := Lib.hid (BM.out.up u2)
    clear u2 p0 p1 p2 lp
    cases g
    · have VT := Lib.hid (show V = [] by rw [WV.out, RT.out]; rfl)
      go_wp2; go_ret
      exact ⟨_, rfl, by rw [VT.out]; exact World.ownsRow_nil _ _ _ _, UE.out⟩
    · have VT := Lib.hid (show V = winE wd s.wait by rw [WV.out, RT.out]; rfl)
      have FT1 := Lib.hid (FT.out rfl)
      clear FT CF WV RT; obtain ⟨p0, p1, p2⟩ := And.intro B1.out.c0 (And.intro B1.out.c1 B1.out.c2)
      have lp := B1.out.lt
      obtain ⟨m0, m1, m2⟩ := And.intro (BM.out.cell (j := 0) rfl) (And.intro (BM.out.cell (j := 1) rfl) (BM.out.cell (j := 2) rfl))
      have lm := BM.out.lt
      go_wp2_with fail
      refine (CW.out _ U2.out).mono ?_; rintro x w3 ⟨Bs, Bd, rfl, hs, hd, cs, cd, u3⟩
      have UF := Lib.hid (UE.out.trans u3)
      have CC := Lib.hid (collect_any w3 Bs Bd Aw nw cw wd WD s.wait (EW.out.up UF.out) NW6.out FT1.out hs hd cs cd)
      clear p0 p1 p2 lp m0 m1 m2 lm hs hd cs cd u3
      go_wp2_with fail
      refine CC.out.mono ?_; rintro x w4 ⟨v, rfl, ho, u4⟩
      have HO := Lib.hid (own_mono ho UF.out.size)
      have UG := Lib.hid (UF.out.trans u4)
      clear ho u4 CC; go_wp2; go_ret
      exact ⟨v, rfl, by rw [VT.out]; exact HO.out, UG.out⟩
end Go.Proofs.Ytklldniapombiaa

/-
  What spec.WinEvents returns, in one sentence: the pending events before the end of the window, in a slice of its own, or none for a simulator that is none; for every model and simulator in memory.
  What FnWinEvents asks of the lists, in one sentence: a window is a front of the pending events that ends at its width, and what its events send comes no earlier than that.
  What FnExactWinEvents returns, in one sentence: true, with new blocks alone; for every model and every simulator that lie in memory.
-/
import Derived.Deep.RegionHeld3
import Derived.Test.YtklldniapombiaaDLWev06
import Derived.Test.YtklldniapombiaaDLWev07
import Derived.Test.YtklldniapombiaaDLWev14
import Derived.Test.YtklldniapombiaaDLWev16
import Derived.Test.YtklldniapombiaaDLWev17
import Derived.Test.YtklldniapombiaaDLWev21
import Derived.Test.YtklldniapombiaaDLWev25
import Derived.Test.YtklldniapombiaaDLWev31
import Derived.Test.YtklldniapombiaaDLWev37
import Derived.Test.YtklldniapombiaaDLWev41
namespace Go.Proofs.Ytklldniapombiaa
set_option maxRecDepth 100000
open Go.RowKit
theorem filter_takeW (top : Int) : ∀ es : List Evt, es.Pairwise (fun a b => a.t ≤ b.t) → es.filter (fun e => decide (e.t < top)) = es.takeWhile (fun e => decide (e.t < top))
  | [], _ => rfl
  | e :: es, h => by
    have hp := List.pairwise_cons.1 h
    rw [List.filter_cons, List.takeWhile_cons]
    by_cases he : e.t < top
    · rw [if_pos (by simpa using he), if_pos (by simpa using he), filter_takeW top es hp.2]
    · rw [if_neg (by simpa using he), if_neg (by simpa using he)]
      refine List.filter_eq_nil_iff.2 fun x hx => ?_
      have := hp.1 x hx
      simp only [decide_eq_true_eq]
      omega
theorem rise_times : ∀ l : List Evt, riseB l = true → l.Pairwise (fun a b => a.t ≤ b.t)
  | l, h => by
    have key : ∀ l : List Evt, riseB l = true → l.Pairwise (fun a b => ltE a b = true) := fun l => by
      induction l with
      | nil => exact fun _ => List.Pairwise.nil
      | cons a r ih =>
        intro h
        cases r with
        | nil => exact List.Pairwise.cons (fun _ h => absurd h (by simp)) List.Pairwise.nil
        | cons b r =>
          rw [riseB, Bool.and_eq_true] at h
          have ih := ih h.2
          refine List.Pairwise.cons (fun x hx => ?_) ih
          rcases List.mem_cons.1 hx with rfl | hx
          · exact h.1
          · exact ltE_trans _ _ _ h.1 ((List.pairwise_cons.1 ih).1 x hx)
    exact (key l h).imp (fun hab => ltE_time _ _ (ltE_asym _ _ hab))
/-- Of the first i events those ahead of a time. -/
def ahE (top : Int) (es : List Evt) (i : Nat) : List Evt := (es.take i).filter (fun e => decide (e.t < top))
theorem ahE_yes {top : Int} {es : List Evt} {i : Nat} (h : i < es.length) (ht : (es.getD i default).t < top) : ahE top es (i + 1) = ahE top es i ++ [es.getD i default] := by
  unfold ahE; rw [take_getD es i h, List.filter_append]
  congr 1
  rw [List.filter_cons, if_pos (by simpa using ht), List.filter_nil]
theorem ahE_no {top : Int} {es : List Evt} {i : Nat} (h : i < es.length) (ht : ¬ (es.getD i default).t < top) : ahE top es (i + 1) = ahE top es i := by
  unfold ahE; rw [take_getD es i h, List.filter_append, List.filter_cons, if_neg (by simpa using ht), List.filter_nil, List.append_nil]
theorem ahE_len (top : Int) (es : List Evt) (i : Nat) : (ahE top es i).length ≤ es.length := Nat.le_trans (List.length_filter_le _ _) (by rw [List.length_take]; omega)
theorem ahE_all {m : Mdl} {n nc : Nat} {s : Sq} (h : sqS m n nc s = true) : ahE ((s.wait.getD 0 default).t + winL m) s.wait s.wait.length = winE (winL m) s.wait := by
  unfold sqS at h; simp only [Bool.and_eq_true] at h; unfold ahE winE; rw [List.take_length]
  exact filter_takeW _ _ (rise_times _ h.2.2.1)
theorem own_geW {w : World} {b e size n : Nat} {v : Value} {xs : List Value} (h : w.ownsRow b e size v n xs) : ∀ x, v.ownBlock = some x → b ≤ x := fun x hx => by
  rcases h.2 with ⟨rfl, _⟩ | ⟨g, cap, cur, rfl, hg, hb, _⟩
  · cases hx
  injection hx with hx
  have hx : g = x := hx
  omega
theorem own_litE (w : World) (lo : Nat) (e : TypeId) (size : Nat) (h : lo ≤ w.heap.size) : (w.alloc (.cells #[] e)).ownsRow lo e size (.slice (some ⟨w.heap.size, 0, none⟩) 0 0) 0 [] :=
  ⟨by simp, .inr ⟨w.heap.size, 0, #[], rfl, h, heap_alloc_new w _, Nat.le_refl _, Nat.zero_le _, by simp, by simp⟩⟩
theorem evs_new (w : World) (et eto efr esq ekd edt : Int) : Reads (w.alloc (.cells #[.int .i64 et, .int .i64 eto, .int .i64 efr, .int .i64 esq, .int .i64 ekd, .int .i64 edt] 74)) (w.alloc (.cells #[.int .i64 et, .int .i64 eto, .int .i64 efr, .int .i64 esq, .int .i64 ekd, .int .i64 edt] 74)).heap.size 6 (some ⟨w.heap.size, 0, none⟩) 1 (flat [⟨et, eto, efr, esq, ekd, edt⟩]) := by
  have hb := Blk.new w #[.int .i64 et, .int .i64 eto, .int .i64 efr, .int .i64 esq, .int .i64 ekd, .int .i64 edt] 74
  exact ev1_reads (by simp) ⟨hb.cell (j := 0) rfl, hb.cell (j := 1) rfl, hb.cell (j := 2) rfl, hb.cell (j := 3) rfl, hb.cell (j := 4) rfl, hb.cell (j := 5) rfl⟩
set_option maxHeartbeats 4000000 in
theorem l10Top_any (A : Option Addr) (n c : Nat) (B : Option Addr) (k d : Nat) (m : Mdl) (Ac : Option Addr) (nc cc : Nat) (Aw : Option Addr) (nw cw : Nat) (Al : Option Addr) (nl cl : Nat) (s : Sq) (w : World) (hM : MdlV w A n B k m) (hm : mdlB m = true) (hE : Evs w Aw nw s.wait) (h0 : 0 < nw) (ht : 0 ≤ (s.wait.getD 0 default).t ∧ (s.wait.getD 0 default).t ≤ 1000) :
    Calls Try.prog 77 #[.agg #[.slice A n c, .slice B k d, .int .i64 m.til], .agg #[.slice Ac nc cc, .slice Aw nw cw, .slice Al nl cl]] w fun x w' => x = .returned (.int .i64 ((s.wait.getD 0 default).t + winL m)) ∧ Up w w' := by
  have WD := winL_in hm
  have U0 := Lib.hid (((Up.refl w).alloc (.cells #[.slice A n c, .slice B k d, .int .i64 m.til] 36)).alloc (.cells #[.slice Ac nc cc, .slice Aw nw cw, .slice Al nl cl] 62))
  have CW := Lib.hid (fun W (u : Up ((w.alloc (.cells #[.slice A n c, .slice B k d, .int .i64 m.til] 36)).alloc (.cells #[.slice Ac nc cc, .slice Aw nw cw, .slice Al nl cl] 62)) W) => show Calls Try.prog 19 #[.agg #[.slice A n c, .slice B k d, .int .i64 m.til]] W (fun x w' => x = .returned (.int .i64 (winL m)) ∧ Up W w') from (specWin_any A n c B k d m W (hM.up (U0.out.trans u))).mono (by
    rintro x w' ⟨rfl, u⟩; refine ⟨?_, u⟩; unfold winV
    rw [if_pos hm]))
  obtain ⟨b, off, hA, hb, hc⟩ := hE.2 h0; subst hA
  have p0 := (hc 0 h0).1
  rw [Nat.zero_mul, Nat.add_zero] at p0
  generalize (s.wait.getD 0 default).t = y at ht p0 ⊢
  generalize winL m = z at WD CW ⊢
  generalize m.til = til at *
  have B2 := Lib.hid ((Blk.new w #[.slice A n c, .slice B k d, .int .i64 til] 36).alloc (.cells #[.slice Ac nc cc, .slice (some ⟨b, off, none⟩) nw cw, .slice Al nl cl] 62))
  have B3 := Lib.hid (Blk.new (w.alloc (.cells #[.slice A n c, .slice B k d, .int .i64 til] 36)) #[.slice Ac nc cc, .slice (some ⟨b, off, none⟩) nw cw, .slice Al nl cl] 62)
  simp only [World.size_alloc] at B3
  have i5 : IntKind.i64.wrap (y + z) = y + z := IntWalk.i64_in _ (by omega)
  have P0 := (U0.out.cells _ _ hb).trans p0
  have hb' := Nat.lt_of_lt_of_le hb U0.out.size
  clear hM hE hc p0 hb
  go_enter Try.func77, Try.ntmps77
  go_wp2_with fail
  generalize (w.alloc (.cells #[.slice A n c, .slice B k d, .int .i64 til] 36)).alloc (.cells #[.slice Ac nc cc, .slice (some ⟨b, off, none⟩) nw cw, .slice Al nl cl] 62) = W at *
  generalize w.heap.size + 1 = b3 at *
  generalize w.heap.size = b2 at *
  obtain ⟨q0, q1, q2⟩ := And.intro (B2.out.cell (j := 0) rfl) (And.intro (B2.out.cell (j := 1) rfl) (B2.out.cell (j := 2) rfl)); obtain ⟨c0, c1, c2⟩ := And.intro (B3.out.cell (j := 0) rfl) (And.intro (B3.out.cell (j := 1) rfl) (B3.out.cell (j := 2) rfl))
  have l2 := B2.out.lt
  have l3 := B3.out.lt
  refine region_qw (by kernel_rfl) (by kernel_rfl) ?_; refine qWalk_step ?_; intro K hK; go_simp; apply Exists.intro; refine And.intro ?_ ?_
  · intro w1 hw1
    try go_simp
    try rfl
  try go_simp
  refine hK _ ?_; clear hK K; refine qWalk_step ?_; intro K hK; go_simp; apply Exists.intro; refine And.intro ?_ ?_
  · intro w1 hw1
    obtain ⟨hc, hf, hz⟩ := hw1.facts
    try simp at hz
    try go_simp
    try rfl
  try go_simp
  refine hK _ ?_; clear hK K; refine qWalk_step ?_; intro K hK; go_simp; apply Exists.intro; refine And.intro ?_ ?_
  · intro w1 hw1
    try go_simp
    try rfl
  try go_simp
  refine hK _ ?_; clear hK K; refine qWalk_step ?_; intro K hK; go_simp; apply Exists.intro; refine And.intro ?_ ?_
  · intro w1 hw1
    try go_simp
    try rfl
  try go_simp
  refine hK _ ?_; clear hK K; refine qWalk_step ?_; intro K hK; go_simp; apply Exists.intro; refine And.intro ?_ ?_
  · intro w1 hw1
    obtain ⟨hc, hf, hz⟩ := hw1.facts
    try simp at hz
    try go_simp
    try rfl
  try go_simp
  refine hK _ ?_; clear hK K; refine qWalk_step ?_; intro K hK; go_simp; apply Exists.intro; refine And.intro ?_ ?_
  · intro w1 hw1
    obtain ⟨hc, hf, hz⟩ := hw1.facts
    try simp at hz
    try go_simp
    try rfl
  try go_simp
  refine hK _ ?_; clear hK K; refine qWalk_step ?_; intro K hK; go_simp; apply Exists.intro; refine And.intro ?_ ?_
  · intro w1 hw1
    try go_simp
    exact up_call hw1 (CW.out _ hw1)
  try go_simp
  refine hK _ ?_; clear hK K; refine qWalk_step ?_; intro K hK; go_simp; apply Exists.intro; refine And.intro ?_ ?_
  · intro w1 hw1
    try go_simp
    try rfl
  try go_simp
  refine hK _ ?_; clear hK K; refine qWalk_step ?_; intro K hK; go_simp; apply Exists.intro; refine And.intro ?_ ?_
  · intro w1 hw1
    try go_simp
    try rfl
  try go_simp
  refine hK _ ?_; clear hK K; refine qWalk_nil ?_; intro wA uA
  have UA := Lib.hid (U0.out.trans uA)
  clear uA q0 q1 q2 c0 c1 c2 l2 l3; go_wp2; go_ret
  exact ⟨rfl, UA.out⟩
set_option maxHeartbeats 8000000 in
theorem specWev_any (A : Option Addr) (n c : Nat) (B : Option Addr) (k d : Nat) (m : Mdl) (Ac : Option Addr) (nc cc : Nat) (Aw : Option Addr) (nw cw : Nat) (Al : Option Addr) (nl cl : Nat) (s : Sq) (w : World) (hM : MdlV w A n B k m) (hS : ShortSq nc nw nl) (hV : SqV w Ac nc Aw nw Al nl s) :
    Calls Try.prog 25 #[.agg #[.slice A n c, .slice B k d, .int .i64 m.til], .agg #[.slice Ac nc cc, .slice Aw nw cw, .slice Al nl cl]] w fun x w' => ∃ v, x = .returned v ∧ w'.ownsRow w.heap.size 74 6 v (wevV m n nc s).length (flat (wevV m n nc s)) ∧ Up w w' := by
  obtain ⟨i0, hi0, hz0, hz1, hz2⟩ := info_parts info74
  have INF := Lib.hid (And.intro hi0 (And.intro hz0 (And.intro hz1 hz2)))
  have SIX := Lib.hid (show 0 < 6 by omega)
  clear hi0 hz0 hz1 hz2
  have CQ := Lib.hid (fun W (u : Up w W) => specSeqOk_any A n c B k d m Ac nc cc Aw nw cw Al nl cl s W (hM.up u) hS (hV.up u))
  have CT := Lib.hid (fun W (u : Up w W) hm h0 ht => l10Top_any A n c B k d m Ac nc cc Aw nw cw Al nl cl s W (hM.up u) hm (hV.wait.up u) h0 ht)
  have EW := Lib.hid hV.wait
  have NW6 := Lib.hid (show nw ≤ 1048576 from hS.w)
  have SP := Lib.hid (fun (h : sqS m n nc s = true) => show mdlB m = true ∧ (∀ j, j < nw → 0 ≤ (s.wait.getD j default).t ∧ (s.wait.getD j default).t ≤ 1000) from by
    have h' := h
    rw [sqS_fit, Bool.and_eq_true] at h'
    exact ⟨h'.1, fun j hj => fit_times h'.2 j (by rw [hV.wait.1]; exact hj)⟩)
  have AL := Lib.hid (fun (h : sqS m n nc s = true) => ahE_all h)
  have WV := Lib.hid (show wevV m n nc s = if sqS m n nc s then winE (winL m) s.wait else [] from rfl)
  generalize wevV m n nc s = V at WV ⊢
  generalize sqS m n nc s = res at CQ WV SP AL
  have U0 := Lib.hid ((((Up.refl w).alloc (.cells #[.slice A n c, .slice B k d, .int .i64 m.til] 36)).alloc (.cells #[.slice Ac nc cc, .slice Aw nw cw, .slice Al nl cl] 62)).alloc (.cells #[] 74))
  have UB := Lib.hid (((Up.refl w).alloc (.cells #[.slice A n c, .slice B k d, .int .i64 m.til] 36)).alloc (.cells #[.slice Ac nc cc, .slice Aw nw cw, .slice Al nl cl] 62))
  have UL := Lib.hid ((Up.refl ((w.alloc (.cells #[.slice A n c, .slice B k d, .int .i64 m.til] 36)).alloc (.cells #[.slice Ac nc cc, .slice Aw nw cw, .slice Al nl cl] 62))).alloc (.cells #[] 74))
  have B2 := Lib.hid (((Blk.new w #[.slice A n c, .slice B k d, .int .i64 m.til] 36).alloc (.cells #[.slice Ac nc cc, .slice Aw nw cw, .slice Al nl cl] 62)))
  have B3 := Lib.hid ((Blk.new (w.alloc (.cells #[.slice A n c, .slice B k d, .int .i64 m.til] 36)) #[.slice Ac nc cc, .slice Aw nw cw, .slice Al nl cl] 62))
  have LT := Lib.hid (own_litE ((w.alloc (.cells #[.slice A n c, .slice B k d, .int .i64 m.til] 36)).alloc (.cells #[.slice Ac nc cc, .slice Aw nw cw, .slice Al nl cl] 62)) ((w.alloc (.cells #[.slice A n c, .slice B k d, .int .i64 m.til] 36)).alloc (.cells #[.slice Ac nc cc, .slice Aw nw cw, .slice Al nl cl] 62)).heap.size 74 6 (Nat.le_refl _))
  have HWB := Lib.hid (show w.heap.size + 1 + 1 = ((w.alloc (.cells #[.slice A n c, .slice B k d, .int .i64 m.til] 36)).alloc (.cells #[.slice Ac nc cc, .slice Aw nw cw, .slice Al nl cl] 62)).heap.size by simp)
  simp only [World.size_alloc] at B3
  generalize m.til = til at *
  clear hM hS hV
  go_enter Try.func25, Try.ntmps25
  obtain ⟨q0, q1, q2⟩ := And.intro ((B2.out.up UL.out).cell (j := 0) rfl) (And.intro ((B2.out.up UL.out).cell (j := 1) rfl) ((B2.out.up UL.out).cell (j := 2) rfl)); obtain ⟨c0, c1, c2⟩ := And.intro ((B3.out.up UL.out).cell (j := 0) rfl) (And.intro ((B3.out.up UL.out).cell (j := 1) rfl) ((B3.out.up UL.out).cell (j := 2) rfl))
  have l2 := (B2.out.up UL.out).lt
  have l3 := (B3.out.up UL.out).lt
  simp only [World.size_alloc] at l2 l3
  go_wp2_with fail
  simp only [World.size_alloc] at LT
  generalize (w.alloc (.cells #[.slice A n c, .slice B k d, .int .i64 til] 36)).alloc (.cells #[.slice Ac nc cc, .slice Aw nw cw, .slice Al nl cl] 62) = Wb at *
  generalize Wb.alloc (.cells #[] 74) = W0 at *
  generalize hg : w.heap.size + 1 + 1 = g at *
  generalize hb3 : w.heap.size + 1 = b3 at *
  generalize hb2 : w.heap.size = b2 at *
  clear q0 q1 q2 c0 c1 c2 l2 l3; refine (CQ.out _ U0.out).mono ?_; rintro x w1 ⟨rfl, u1⟩
  have U1 := Lib.hid (UL.out.trans u1)
  have L1 := Lib.hid (own_up LT.out u1)
  have S2 := Lib.hid (B2.out.up U1.out)
  have S3 := Lib.hid (B3.out.up U1.out)
  clear u1 LT
  cases res
  · have VT := Lib.hid (show V = [] by rw [WV.out]; rfl)
    go_wp2; go_ret
    exact ⟨_, rfl, by rw [VT.out]; exact own_mono L1.out (by have := HWB.out; omega), UB.out.trans U1.out⟩
  · have VT := Lib.hid (show V = winE (winL m) s.wait by rw [WV.out]; rfl)
    have SP1 := Lib.hid (SP.out rfl)
    have AL1 := Lib.hid (AL.out rfl)
    obtain ⟨c0, c1, c2⟩ := And.intro (S3.out.cell (j := 0) rfl) (And.intro (S3.out.cell (j := 1) rfl) (S3.out.cell (j := 2) rfl))
    have l3 := S3.out.lt
    clear SP AL WV CQ
    by_cases hn0 : nw = 0
    · subst hn0
      have VN := Lib.hid (show V = [] by
        rw [VT.out, List.length_eq_zero_iff.1 EW.out.1]
        rfl)
      go_wp2; go_ret
      exact ⟨_, rfl, by rw [VN.out]; exact own_mono L1.out (by have := HWB.out; omega), UB.out.trans U1.out⟩
    · have i3 : ¬ (nw : Int) = 0 := by omega
      have i30 : (nw : Int) ≠ 0 := by omega
      have bz : ((nw : Int) == 0) = false := by simp [hn0]
      have hnw := NW6.out
      have CT1 := Lib.hid (fun W (u : Up w W) => CT.out W u SP1.out.1 (by omega) (SP1.out.2 0 (by omega)))
      generalize (s.wait.getD 0 default).t + winL m = top at CT1 AL1
      clear CT; go_wp2; clear c0 c1 c2 l3
      go_loopw [5, 6] (fun vo vi wr => (∃ q : Nat, q ≤ nw ∧ vi = .int .i64 q ∧ Hid (wr.ownsRow Wb.heap.size 74 6 vo (ahE top s.wait q).length (flat (ahE top s.wait q)))) ∧ Up Wb wr) (fun _ vi _ => nw - (intOf vi).toNat)
      case atStart => exact ⟨⟨0, by omega, rfl, Lib.hid (by rw [← HWB.out]; exact L1.out)⟩, U1.out⟩
      case round =>
        obtain ⟨⟨q, hq, rfl, HO⟩, ur⟩ := hrel
        have UR := Lib.hid ur
        have R2 := Lib.hid (B2.out.up ur)
        have R3 := Lib.hid (B3.out.up ur)
        have UW := Lib.hid (UB.out.trans ur)
        clear ur; obtain ⟨q0, q1, q2⟩ := And.intro (R2.out.cell (j := 0) rfl) (And.intro (R2.out.cell (j := 1) rfl) (R2.out.cell (j := 2) rfl)); obtain ⟨c0, c1, c2⟩ := And.intro (R3.out.cell (j := 0) rfl) (And.intro (R3.out.cell (j := 1) rfl) (R3.out.cell (j := 2) rfl))
        have l2 := R2.out.lt
        have l3 := R3.out.lt
        by_cases hlt : q < nw
        · obtain ⟨b, off, hA, hb, hc⟩ := (EW.out.up UW.out).2 (by omega)
          subst hA
          have a0 := hc q hlt
          have LQ := Lib.hid (show q < s.wait.length by rw [EW.out.1]; exact hlt)
          obtain ⟨x, hx⟩ : ∃ x, x = s.wait.getD q default := ⟨_, rfl⟩; rw [← hx] at a0
          have HX := Lib.hid hx
          clear hx hc; obtain ⟨et, eto, efr, esq, ekd, edt⟩ := x; obtain ⟨p0, p1, p2, p3, p4, p5⟩ := a0; dsimp only at p0 p1 p2 p3 p4 p5
          have i4 : (q : Int) < nw := by omega
          have i7 : IntKind.i64.wrap ((q : Int) + 1) = (q : Int) + 1 := IntWalk.i64_in _ (by omega)
          have CT := Lib.hid (fun W (u : Up wr W) => CT1.out W (UW.out.trans u))
          go_wp2_with fail
          refine region_qw (by kernel_rfl) (by kernel_rfl) ?_; refine qWalk_step ?_; intro K hK; go_simp; apply Exists.intro; refine And.intro ?_ ?_
          · intro w1 hw1
            try go_simp
            try rfl
          try go_simp
          refine hK _ ?_; clear hK K; refine qWalk_step ?_; intro K hK; go_simp; apply Exists.intro; refine And.intro ?_ ?_
          · intro w1 hw1
            obtain ⟨hc, hf, hz⟩ := hw1.facts
            try simp at hz
            try go_simp
            try rfl
          try go_simp
          refine hK _ ?_; clear hK K; refine qWalk_step ?_; intro K hK; go_simp; apply Exists.intro; refine And.intro ?_ ?_
          · intro w1 hw1
            try go_simp
            try rfl
          try go_simp
          refine hK _ ?_; clear hK K; refine qWalk_step ?_; intro K hK; go_simp; apply Exists.intro; refine And.intro ?_ ?_
          · intro w1 hw1
            try go_simp
            try rfl
          try go_simp
          refine hK _ ?_; clear hK K; refine qWalk_step ?_; intro K hK; go_simp; apply Exists.intro; refine And.intro ?_ ?_
          · intro w1 hw1
            try go_simp
            try rfl
          try go_simp
          refine hK _ ?_; clear hK K; refine qWalk_step ?_; intro K hK; go_simp; apply Exists.intro; refine And.intro ?_ ?_
          · intro w1 hw1
            obtain ⟨hc, hf, hz⟩ := hw1.facts
            try simp at hz
            try go_simp
            try rfl
          try go_simp
          refine hK _ ?_; clear hK K; refine qWalk_step ?_; intro K hK; go_simp; apply Exists.intro; refine And.intro ?_ ?_
          · intro w1 hw1
            obtain ⟨hc, hf, hz⟩ := hw1.facts
            try simp at hz
            try go_simp
            try rfl
          try go_simp
          refine hK _ ?_; clear hK K; refine qWalk_step ?_; intro K hK; go_simp; apply Exists.intro; refine And.intro ?_ ?_
          · intro w1 hw1
            obtain ⟨hc, hf, hz⟩ := hw1.facts
            try simp at hz
            try go_simp
            try rfl
          try go_simp
          refine hK _ ?_; clear hK K; refine qWalk_step ?_; intro K hK; go_simp; apply Exists.intro; refine And.intro ?_ ?_
          · intro w1 hw1
            try go_simp
            exact up_call hw1 (CT.out _ hw1)
          try go_simp
          refine hK _ ?_; clear hK K; refine qWalk_step ?_; intro K hK; go_simp; apply Exists.intro; refine And.intro ?_ ?_
          · intro w1 hw1
            try go_simp
            try rfl
          try go_simp
          refine hK _ ?_; clear hK K; refine qWalk_nil ?_; intro wA uA
          have UA := Lib.hid (UR.out.trans uA)
          have HOA := Lib.hid (own_up HO.out uA)
          replace p0 := (uA.cells _ _ hb).trans p0
          replace p1 := (uA.cells _ _ hb).trans p1
          replace p2 := (uA.cells _ _ hb).trans p2
          replace p3 := (uA.cells _ _ hb).trans p3
          replace p4 := (uA.cells _ _ hb).trans p4
          replace p5 := (uA.cells _ _ hb).trans p5
          replace hb := Nat.lt_of_lt_of_le hb uA.size
          have T2 := Lib.hid (R2.out.up uA)
          have T3 := Lib.hid (R3.out.up uA)
          clear uA q0 q1 q2 c0 c1 c2 l2 l3
          by_cases htop : et < top
          · obtain ⟨c0, c1, c2⟩ := And.intro (T3.out.cell (j := 0) rfl) (And.intro (T3.out.cell (j := 1) rfl) (T3.out.cell (j := 2) rfl))
            have l3 := T3.out.lt
            have ua := (Up.refl wA).alloc (.cells #[.int .i64 et, .int .i64 eto, .int .i64 efr, .int .i64 esq, .int .i64 ekd, .int .i64 edt] 74)
            have OW := Lib.hid (own_up HOA.out ua)
            have RD := Lib.hid (evs_new wA et eto efr esq ekd edt)
            have UX := Lib.hid (UA.out.trans ua)
            have HMX := Lib.hid (show (ahE top s.wait q).length + 1 ≤ maxLen by have := ahE_len top s.wait q; have := EW.out.1; simp only [maxLen]; omega)
            have HBY := Lib.hid (show ((ahE top s.wait q).length + 1) * 48 ≤ 140737488355328 by have := ahE_len top s.wait q; have := EW.out.1; omega)
            have HBS := Lib.hid UX.out.size
            have STP := Lib.hid (ahE_yes (top := top) LQ.out (by rw [← HX.out]; exact htop))
            clear ua
            go_wp2_with (at_builtin; refine wpList_append_any (P := Try.prog) _ rfl (.tmp 36) (.tmp 42) 34 rfl Wb.heap.size 74 i0 _ 6 48 Try.underlying34 INF.out.1 INF.out.2.1 INF.out.2.2.1 INF.out.2.2.2 rfl SIX.out u5 (ahE top s.wait q).length (flat (ahE top s.wait q)) rfl OW.out _ (some ⟨wA.heap.size, 0, none⟩) 1 1 (flat [⟨et, eto, efr, esq, ekd, edt⟩]) rfl RD.out (flat_one _) HMX.out HBY.out HBS.out ?_; intro v6 w6 ho6 hg6 _)
            have HO6 := Lib.hid ho6
            have HG6 := Lib.hid hg6
            clear ho6 hg6
            go_roundw
            case rel =>
              refine ⟨⟨q + 1, by omega, by go_num, Lib.hid ?_⟩, UX.out.grown HG6.out (fun k hk => own_geW OW.out k hk)⟩; rw [STP.out, ← HX.out, List.length_append, flat_app]
              exact HO6.out
            case measure => simp [intOf]; omega
          · have STP := Lib.hid (ahE_no (top := top) LQ.out (by rw [← HX.out]; exact htop))
            go_wp2
            go_roundw
            case rel => exact ⟨⟨q + 1, by omega, by go_num, by rw [STP.out]; exact HOA⟩, UA.out⟩
            case measure => simp [intOf]; omega
        · obtain rfl : q = nw := by omega
          have i4 : ¬ (q : Int) < q := by omega
          have HV := Lib.hid (show ahE top s.wait q = V by rw [VT.out, ← AL1.out, EW.out.1])
          go_wp2; go_ret
          exact ⟨_, rfl, by rw [← HV.out]; exact own_mono HO.out (by have := HWB.out; omega), UW.out⟩
end Go.Proofs.Ytklldniapombiaa

namespace Go.Proofs.Ytklldniapombiaa
set_option maxRecDepth 100000
theorem wjV_each {g : Int → Int → Int} {fr : Int} : ∀ (n j : Nat) (l : Int) (q : Nat), j ≤ q → q < j + n → wjV g fr n j l ≤ g fr q
  | 0, _, _, _, h1, h2 => by omega
  | n + 1, j, l, q, h1, h2 => by
    rw [wjV]
    rcases Nat.eq_or_lt_of_le h1 with rfl | h
    · exact Int.le_trans (wjV_le n (j + 1) _) (by omega)
    · exact wjV_each n (j + 1) _ q h (by omega)
theorem wiV_each {g : Int → Int → Int} {N : Nat} : ∀ (n i : Nat) (l : Int) (p q : Nat), i ≤ p → p < i + n → q < N → wiV g N n i l ≤ g p q
  | 0, _, _, _, _, h1, h2, _ => by omega
  | n + 1, i, l, p, q, h1, h2, h3 => by
    rw [wiV]
    rcases Nat.eq_or_lt_of_le h1 with rfl | h
    · exact Int.le_trans (wiV_le n (i + 1) _) (wjV_each N 0 l q (by omega) (by omega))
    · exact wiV_each n (i + 1) _ p q h (by omega) h3
theorem rulesB_sends {many : Int} : ∀ {bf : Int} {rs : List Rule}, rulesB many bf rs = true → ∀ r ∈ rs, ∀ x ∈ r.sends, sndB x many = true
  | _, [], _, r, hr, _, _ => by cases hr
  | bf, r0 :: rs, h, r, hr, x, hx => by
    rw [rulesB, Bool.and_eq_true, Bool.and_eq_true] at h
    rcases List.mem_cons.1 hr with rfl | hr
    · have k2 := h.1.2
      simp only [ruleB, Bool.and_eq_true, List.all_eq_true] at k2
      exact k2.1.1.1.1.1 x hx
    · exact rulesB_sends h.2 r hr x hx
/-- What an event sends comes no earlier than the least lookahead behind it. -/
theorem send_far {m : Mdl} (hm : mdlB m = true) (c : Cst) (e : Evt) (he : 0 ≤ e.to ∧ e.to < m.rules.length) (y : Evt) (hy : y ∈ (doM m c e).2) : e.t + winL m ≤ y.t := by
  unfold doM at hy
  split at hy
  · unfold doE at hy
    split at hy
    · simp at hy
    · rename_i r hr
      obtain ⟨x, hx, _, hyt⟩ := sendsE_from _ _ _ _ _ _ hy
      have hmem := inRule hr
      have hs := rulesB_sends (mdlB_row hm e.to.toNat (by omega)) r hmem x hx
      have hxt : 0 ≤ x.t ∧ x.t ≤ (m.rules.length : Int) - 1 := by
        unfold sndB at hs; simp only [Bool.and_eq_true, inB_iff] at hs
        omega
      have h1 : lkM m e.to x.t ≤ x.to := lkR_each x.t _ _ r x hmem hx rfl
      have h2 := wiV_each (g := lkM m) (N := m.rules.length) m.rules.length 0 (m.til + 1) e.to.toNat x.t.toNat (by omega) (by omega) (by omega)
      rw [Int.toNat_of_nonneg he.1, Int.toNat_of_nonneg hxt.1] at h2
      have h3 : winL m ≤ lkM m e.to x.t := h2
      omega
  · simp at hy
theorem takeW_next {p : Evt → Bool} : ∀ (es : List Evt), (es.takeWhile p).length < es.length → p (es.getD (es.takeWhile p).length default) = false
  | [], h => absurd h (by simp)
  | e :: es, h => by
    by_cases h0 : p e = true
    · rw [List.takeWhile_cons, if_pos h0] at h ⊢
      simpa using takeW_next es (by simpa using h)
    · rw [List.takeWhile_cons, if_neg h0]
      simpa using h0
theorem winE_stop {wd : Int} {es : List Evt} (h : (winE wd es).length < es.length) : (es.getD 0 default).t + wd ≤ (es.getD (winE wd es).length default).t := by
  have := takeW_next es h
  simp only [decide_eq_false_iff_not] at this
  have h2 : (winE wd es).length = (es.takeWhile (fun e => decide (e.t < (es.getD 0 default).t + wd))).length := rfl
  rw [h2]
  omega
theorem winE_take (wd : Int) (es : List Evt) : winE wd es = es.take (winE wd es).length := List.prefix_iff_eq_take.1 (List.takeWhile_prefix _)
theorem winE_one {wd : Int} {es : List Evt} (h : 0 < es.length) (hw : 0 < wd) : 0 < (winE wd es).length := by
  cases es with
  | nil => simp at h
  | cons e es =>
    unfold winE; rw [List.takeWhile_cons, if_pos (by simp; omega)]; simp
/-- All that FnWinEvents asks of a window. -/
theorem wev_all {m : Mdl} {n nc : Nat} {s : Sq} (hn : m.rules.length = n) (hs : sqS m n nc s = true) (h0 : 0 < s.wait.length) :
    nc = n ∧ winV m = winL m ∧ (1 ≤ winL m ∧ winL m ≤ 1000) ∧ (0 ≤ (s.wait.getD 0 default).t ∧ (s.wait.getD 0 default).t ≤ 99) ∧
      0 < (wevV m n nc s).length ∧ (wevV m n nc s).length ≤ s.wait.length ∧ wevV m n nc s = s.wait.take (wevV m n nc s).length ∧
      ((wevV m n nc s).length = s.wait.length ∨ (s.wait.getD 0 default).t + winL m ≤ (s.wait.getD (wevV m n nc s).length default).t) ∧
      ∀ i, i < (wevV m n nc s).length → (0 ≤ ((wevV m n nc s).getD i default).to ∧ ((wevV m n nc s).getD i default).to < n) ∧
        ∀ c, ∀ y ∈ (doM m c ((wevV m n nc s).getD i default)).2, (s.wait.getD 0 default).t + winL m ≤ y.t := by
  have hV : wevV m n nc s = winE (winL m) s.wait := by unfold wevV; rw [if_pos hs]
  have hr := rise_times _ (show riseB s.wait = true by unfold sqS at hs; simp only [Bool.and_eq_true] at hs; exact hs.2.2.1)
  have h := hs
  unfold sqS at h; simp only [Bool.and_eq_true, decide_eq_true_eq] at h
  have hm := h.1
  have hl : 1 ≤ winL m := by
    unfold winL; refine wiV_low _ _ _ (by have := mdlB_til hm; omega) (fun p q _ hp hq => ?_); unfold lkM
    exact lkR_low _ (-1) _ _ (mdlB_row hm _ (by omega)) (by have := mdlB_til hm; omega)
  have hl2 := (winL_in hm).2
  have ok : ∀ j, j < s.wait.length → (0 ≤ (s.wait.getD j default).t ∧ (s.wait.getD j default).t ≤ 99) ∧ 0 ≤ (s.wait.getD j default).to ∧ (s.wait.getD j default).to < n := fun j hj => by
    have := List.all_eq_true.1 h.2.2.2.2.1 (s.wait.getD j default) (by
      rw [List.getD, List.getElem?_eq_getElem hj]
      exact List.getElem_mem hj)
    unfold takB okB at this; simp only [Bool.and_eq_true, inB_iff, decide_eq_true_eq] at this
    omega
  rw [hV]
  have hlen := winE_len (winL m) s.wait
  have ht := winE_take (winL m) s.wait
  have hget : ∀ i, i < (winE (winL m) s.wait).length → (winE (winL m) s.wait).getD i default = s.wait.getD i default := fun i hi => by
    rw [ht]; simp only [List.getD]; rw [List.getElem?_take_of_lt hi]
  refine ⟨h.2.1, by unfold winV; rw [if_pos hm], ⟨hl, hl2⟩, (ok 0 h0).1, winE_one h0 (by omega), hlen, ht, ?_, fun i hi => ?_⟩
  · rcases Nat.lt_or_ge (winE (winL m) s.wait).length s.wait.length with hh | hh
    · exact .inr (winE_stop hh)
    · exact .inl (by omega)
  · rw [hget i hi]
    have hi' : i < s.wait.length := by omega
    refine ⟨(ok i hi').2, fun c y hy => ?_⟩
    have hf := send_far hm c _ (by have := (ok i hi').2; rw [hn]; omega) y hy
    have hle : (s.wait.getD 0 default).t ≤ (s.wait.getD i default).t := by
      rcases Nat.eq_zero_or_pos i with rfl | hp
      · exact Int.le_refl _
      · have := List.pairwise_iff_getElem.1 hr 0 i h0 hi' hp
        simpa [List.getD, List.getElem?_eq_getElem h0, List.getElem?_eq_getElem hi'] using this
    omega
theorem wev_none {m : Mdl} {n nc : Nat} {s : Sq} (h : sqS m n nc s = false ∨ s.wait = []) : wevV m n nc s = [] := by
  unfold wevV
  split
  · rename_i hs
    rcases h with h | h
    · rw [hs] at h
      cases h
    · rw [h]
      rfl
  · rfl
end Go.Proofs.Ytklldniapombiaa

namespace Go.Proofs.Ytklldniapombiaa
set_option maxRecDepth 100000
open Go.RowKit
theorem wevV_few {m : Mdl} {n nc nw : Nat} {s : Sq} (hn : s.wait.length = nw) (hw : nw ≤ 1048576) : (wevV m n nc s).length ≤ 1048576 := by
  unfold wevV
  split
  · have := winE_len (winL m) s.wait
    omega
  · simp
end Go.Proofs.Ytklldniapombiaa

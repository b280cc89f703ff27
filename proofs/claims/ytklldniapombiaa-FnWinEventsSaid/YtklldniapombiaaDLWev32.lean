/-
  What spec.SeqStep returns, in one sentence: the simulator behind a step and if there was one, or zero values and false; for every model and every simulator that lie in memory.
-/
import Derived.Test.YtklldniapombiaaDLWev25
import Derived.Test.YtklldniapombiaaDLWev28
import Derived.Test.YtklldniapombiaaDLWev29
import Derived.Test.YtklldniapombiaaDLWev31
namespace Go.Proofs.Ytklldniapombiaa
set_option maxRecDepth 100000
open Go.RowKit
/-- What a step of the reference leaves, of any simulator. -/
def L3F (lo : Nat) (R : Sq × Bool) (z w : World) (vc0 vl0 : Value) (x : Ending) (w' : World) : Prop :=
  Up z w' ∧ (∀ b, b < w.heap.size → (∀ x, vc0.ownBlock = some x → x ≠ b) → (∀ x, vl0.ownBlock = some x → x ≠ b) → w'.heap[b]? = w.heap[b]?) ∧ w.heap.size ≤ w'.heap.size ∧ ∃ vc vw vl, x = .returned (.tuple #[.agg #[vc, vw, vl], .bool R.2]) ∧
    w'.ownsRow lo 76 3 vc R.1.comps.length (flat3 R.1.comps) ∧ w'.ownsRow lo 74 6 vw R.1.wait.length (flat R.1.wait) ∧ w'.ownsRow lo 180 7 vl R.1.log.length (flat7 R.1.log)
set_option maxHeartbeats 4000000 in
theorem specL3_none (vm vc vl : Value) (Aw : Option Addr) (cw : Nat) (A : Option Addr) (an ac : Nat) (B : Option Addr) (bk bd : Nat) (til : Int) (hm : vm = .agg #[.slice A an ac, .slice B bk bd, .int .i64 til]) (Ac Al : Option Addr) (nc cc nl cl : Nat) (hc : vc = .slice Ac nc cc) (hl : vl = .slice Al nl cl) (w : World) :
    Calls Try.prog 191 #[vm, .agg #[vc, .slice Aw 0 cw, vl]] w fun x w' => x = .returned (.tuple #[.agg #[vc, .slice Aw 0 cw, vl], .bool false]) ∧ Up w w' := by
  subst hm hc hl
  have XS := BoxF.new (w.alloc (.cells #[.slice A an ac, .slice B bk bd, .int .i64 til] 36)) (.slice Ac nc cc) (.slice Aw 0 cw) (.slice Al nl cl) 62
  have XR := BoxF.new ((w.alloc (.cells #[.slice A an ac, .slice B bk bd, .int .i64 til] 36)).alloc (.cells #[.slice Ac nc cc, .slice Aw 0 cw, .slice Al nl cl] 62)) (.slice none 0 0) (.slice none 0 0) (.slice none 0 0) 62
  simp only [World.size_alloc] at XS XR
  have UW := Lib.hid ((((Up.refl w).alloc (.cells #[.slice A an ac, .slice B bk bd, .int .i64 til] 36)).alloc (.cells #[.slice Ac nc cc, .slice Aw 0 cw, .slice Al nl cl] 62)).alloc (.cells #[.slice none 0 0, .slice none 0 0, .slice none 0 0] 62))
  have XS := Lib.hid (XS.up ((Up.refl _).alloc (.cells #[.slice none 0 0, .slice none 0 0, .slice none 0 0] 62)))
  have XR := Lib.hid XR
  go_enter Try.func191, Try.ntmps191
  go_upto_region 1 with fail
  generalize ((w.alloc (.cells #[.slice A an ac, .slice B bk bd, .int .i64 til] 36)).alloc (.cells #[.slice Ac nc cc, .slice Aw 0 cw, .slice Al nl cl] 62)).alloc (.cells #[.slice none 0 0, .slice none 0 0, .slice none 0 0] 62) = W at *
  generalize hb4 : w.heap.size + 1 + 1 = b4 at *
  generalize hb3 : w.heap.size + 1 = b3 at *
  have ne34 : ¬ b3 = b4 := by omega
  have ne43 : ¬ b4 = b3 := by omega
  have W4 := Lib.hid (show w.heap.size ≤ b4 by omega)
  clear hb4 hb3; obtain ⟨c0, c1, c2⟩ := And.intro XS.out.k.c0 (And.intro XS.out.k.c1 XS.out.k.c2)
  have sl := XS.out.k.lt
  obtain ⟨y0, y1, y2⟩ := And.intro XR.out.k.c0 (And.intro XR.out.k.c1 XR.out.k.c2)
  have yl := XR.out.k.lt
  have yf := XR.out.f
  have LB := XR.out.laid (.slice Ac nc cc) (.slice Aw 0 cw) (.slice Al nl cl)
  obtain ⟨k0, k1, k2⟩ := And.intro LB.c0 (And.intro LB.c1 LB.c2)
  have M4 := ((((Up.refl W).mv b4).setCell (o := 0) (.slice Ac nc cc)).setCell (o := 1) (.slice Aw 0 cw) |>.setCell (o := 2) (.slice Al nl cl))
  have UE := Lib.hid (M4.up UW.out W4.out)
  clear LB M4; go_wp2
  exact bodyPost_ret (v := .tuple #[.agg #[.slice Ac nc cc, .slice Aw 0 cw, .slice Al nl cl], .bool false]) (by simp [results, Try.results191, go_sem, k0, k1, k2]) rfl ⟨rfl, UE.out⟩
theorem specL3_full (A : Option Addr) (an ac : Nat) (B : Option Addr) (bk bd : Nat) (m : Mdl) (lo nc nw nl : Nat) (s : Sq) (vc vw vl : Value) (z w : World) (hM : MdlV z A an B bk m) (hU : Up z w) (hz : z.heap.size ≤ lo) (hm : mdlB m = true) (hF : fitB m.rules.length m.til nc s = true)
    (hL : s.comps.length = nc ∧ s.wait.length = nw ∧ s.log.length = nl) (hc : w.ownsRow lo 76 3 vc nc (flat3 s.comps)) (hw : w.ownsRow lo 74 6 vw nw (flat s.wait)) (hl : w.ownsRow lo 180 7 vl nl (flat7 s.log)) (hlo : lo ≤ w.heap.size) (hn : nw ≤ 1049000) (hnl : nl ≤ 1100000) :
    Calls Try.prog 191 #[.agg #[.slice A an ac, .slice B bk bd, .int .i64 m.til], .agg #[vc, vw, vl]] w (L3F lo (stpS m s) z w vc vl) := by
  obtain ⟨h1, h2, h3⟩ := hL; subst h1 h2 h3; unfold L3F stpS
  rcases hs : s.wait with _ | ⟨e, r⟩
  · obtain ⟨-, Ac, cc, rfl, -, -⟩ := own3_slice hc
    obtain ⟨-, Al, cl, rfl, -, -⟩ := own7_slice hl; rw [hs] at hw; obtain ⟨-, Aw, cw, rfl, -, -⟩ := own_slice hw; refine (specL3_none _ _ _ Aw cw A an ac B bk bd m.til rfl Ac Al _ cc _ cl rfl rfl w).mono ?_; rintro x w' ⟨rfl, u⟩; refine ⟨hU.trans u, fun b h1 _ _ => u.below.block b h1, u.size, _, _, _, rfl, own_up hc u, ?_, own_up hl u⟩; dsimp only; rw [hs]
    exact own_up hw u
  · obtain ⟨hto, hok⟩ := fit_first hm hF rfl hs
    have hd := doE_len (c := s.comps.getD e.to.toNat default) (e := e) hm
    rw [hs] at hw; rw [hs, List.length_cons] at hn; refine (specL3_any A an ac B bk bd m lo s.comps.length s.log.length r.length s.comps e r s.log vc vw vl z w hM hU hz hc hw hl hlo hto hok hn (by omega) (by omega)).mono ?_; rintro x w' ⟨u, fr, sz, vc', vw', vl', rfl, o1, o2, o3⟩; refine ⟨u, fr, sz, vc', vw', vl', rfl, ?_, ?_, ?_⟩
    · dsimp only
      rw [List.length_set]
      exact o1
    · dsimp only
      rw [insAll_len, Nat.add_comm]
      exact o2
    · dsimp only
      rw [List.length_append]
      exact o3
theorem stpR_few {m : Mdl} {n nc nw nl : Nat} {s : Sq} (hn : m.rules.length = n) (hL : s.comps.length = nc ∧ s.wait.length = nw ∧ s.log.length = nl) (hs : nc + nw + nl ≤ 1048576) : (stpR m n nc s).1.comps.length ≤ 1048576 ∧ (stpR m n nc s).1.wait.length ≤ 1048576 ∧ (stpR m n nc s).1.log.length ≤ 1048576 := by
  obtain ⟨h1, h2, h3⟩ := hL; unfold stpR
  split
  · rename_i ht
    have ht2 := ht
    rw [sqS_fit] at ht; simp only [Bool.and_eq_true] at ht
    have hf := mdlB_few ht.1
    have hnc : nc = n := by
      have := ht.2
      unfold fitB at this; simp only [Bool.and_eq_true, decide_eq_true_eq] at this
      omega
    unfold stpS
    split
    · exact ⟨by dsimp only; omega, by dsimp only; omega, by dsimp only; omega⟩
    · rename_i e r hw
      have hd := doE_len (c := s.comps.getD e.to.toNat default) (e := e) ht.1
      dsimp only; rw [List.length_set, insAll_len, List.length_append]; rw [hw, List.length_cons] at h2; simp only [List.length_cons, List.length_nil]
      omega
  · simp
/-- Two results: a simulator in rows of the call's own, and a truth value. -/
def StW (lo : Nat) (R : Sq × Bool) (x : Ending) (w' : World) : Prop :=
  ∃ Ac cc Aw cw Al cl, x = .returned (.tuple #[.agg #[.slice Ac R.1.comps.length cc, .slice Aw R.1.wait.length cw, .slice Al R.1.log.length cl], .bool R.2]) ∧ w'.ownsRow lo 76 3 (.slice Ac R.1.comps.length cc) R.1.comps.length (flat3 R.1.comps) ∧
    w'.ownsRow lo 74 6 (.slice Aw R.1.wait.length cw) R.1.wait.length (flat R.1.wait) ∧ w'.ownsRow lo 180 7 (.slice Al R.1.log.length cl) R.1.log.length (flat7 R.1.log)
set_option maxHeartbeats 8000000 in
theorem specSeqStep_own (A : Option Addr) (n c : Nat) (B : Option Addr) (k d : Nat) (m : Mdl) (Ac : Option Addr) (nc cc : Nat) (Aw : Option Addr) (nw cw : Nat) (Al : Option Addr) (nl cl : Nat) (s : Sq) (w : World) (hM : MdlV w A n B k m) (hS : ShortSq nc nw nl) (hV : SqV w Ac nc Aw nw Al nl s) (hs : nc + nw + nl ≤ 1048576) :
    Calls Try.prog 169 #[.agg #[.slice A n c, .slice B k d, .int .i64 m.til], .agg #[.slice Ac nc cc, .slice Aw nw cw, .slice Al nl cl]] w fun x w' => StW w.heap.size (stpR m n nc s) x w' ∧ Up w w' := by
  have FEW := stpR_few hM.rules.1 ⟨hV.comps.1, hV.wait.1, hV.log.1⟩ hs
  have FEW := Lib.hid (show (stpR m n nc s).1.comps.length ≤ 2000000 ∧ (stpR m n nc s).1.wait.length ≤ 2000000 ∧ (stpR m n nc s).1.log.length ≤ 2000000 by omega)
  have CK := Lib.hid (fun W (u : Up w W) => specSeqOk_any A n c B k d m Ac nc cc Aw nw cw Al nl cl s W (hM.up u) hS (hV.up u))
  have HM := Lib.hid hM
  have HV := Lib.hid hV
  have HS := Lib.hid hS
  have HL := Lib.hid (And.intro hV.comps.1 (And.intro hV.wait.1 hV.log.1))
  have HR1 := Lib.hid hM.rules.1
  have B0 := Box3.new w (.slice A n c) (.slice B k d) (.int .i64 m.til) 36
  have B1 := Box3.new (w.alloc (.cells #[.slice A n c, .slice B k d, .int .i64 m.til] 36)) (.slice Ac nc cc) (.slice Aw nw cw) (.slice Al nl cl) 62
  have XR := BoxF.new ((w.alloc (.cells #[.slice A n c, .slice B k d, .int .i64 m.til] 36)).alloc (.cells #[.slice Ac nc cc, .slice Aw nw cw, .slice Al nl cl] 62)) (.slice none 0 0) (.slice none 0 0) (.slice none 0 0) 62
  simp only [World.size_alloc] at B1 XR
  have UW := Lib.hid ((((Up.refl w).alloc (.cells #[.slice A n c, .slice B k d, .int .i64 m.til] 36)).alloc (.cells #[.slice Ac nc cc, .slice Aw nw cw, .slice Al nl cl] 62)).alloc (.cells #[.slice none 0 0, .slice none 0 0, .slice none 0 0] 62))
  have B0 := Lib.hid (B0.up (((Up.refl _).alloc (.cells #[.slice Ac nc cc, .slice Aw nw cw, .slice Al nl cl] 62)).alloc (.cells #[.slice none 0 0, .slice none 0 0, .slice none 0 0] 62)))
  have B1 := Lib.hid (B1.up ((Up.refl _).alloc (.cells #[.slice none 0 0, .slice none 0 0, .slice none 0 0] 62)))
  have XR := Lib.hid XR
  clear hM hS hV hs
  go_enter Try.func169, Try.ntmps169
  go_wp2_with fail
  generalize ((w.alloc (.cells #[.slice A n c, .slice B k d, .int .i64 m.til] 36)).alloc (.cells #[.slice Ac nc cc, .slice Aw nw cw, .slice Al nl cl] 62)).alloc (.cells #[.slice none 0 0, .slice none 0 0, .slice none 0 0] 62) = W at *
  generalize hb2 : w.heap.size + 1 + 1 = b2 at *
  generalize hb1 : w.heap.size + 1 = b1 at *
  generalize hb0 : w.heap.size = b0 at *
  have HB2 := Lib.hid (show b0 ≤ b2 by omega)
  clear hb2 hb1
  have HB0 := Lib.hid hb0
  clear hb0
  have HB2 := Lib.hid (show w.heap.size ≤ b2 by have := HB0.out; have := HB2.out; omega)
  refine (CK.out _ UW.out).mono ?_; rintro x w3 ⟨rfl, u⟩
  have B0 := Lib.hid (B0.out.up u)
  have B1 := Lib.hid (B1.out.up u)
  have XR := Lib.hid (XR.out.up u)
  have UW := Lib.hid (UW.out.trans u)
  clear u CK
  cases ht : sqS m n nc s
  · have RE : stpR m n nc s = (⟨[], [], []⟩, false) := by unfold stpR; rw [if_neg (by rw [ht]; exact Bool.false_ne_true)]
    have RE := Lib.hid RE
    obtain ⟨q0, q1, q2⟩ := And.intro XR.out.k.c0 (And.intro XR.out.k.c1 XR.out.k.c2)
    have rl := XR.out.k.lt
    have rf := XR.out.f
    have LR := XR.out.laid (.slice none 0 0) (.slice none 0 0) (.slice none 0 0)
    obtain ⟨k0, k1, k2⟩ := And.intro LR.c0 (And.intro LR.c1 LR.c2)
    have MR := ((((Up.refl w3).mv b2).setCell (o := 0) (.slice none 0 0)).setCell (o := 1) (.slice none 0 0) |>.setCell (o := 2) (.slice none 0 0))
    have UG := Lib.hid (MR.up UW.out HB2.out)
    clear LR MR FEW; go_wp2
    exact bodyPost_ret (v := .tuple #[.agg #[.slice none 0 0, .slice none 0 0, .slice none 0 0], .bool false]) (by simp [results, Try.results169, go_sem, k0, k1, k2]) rfl ⟨by rw [RE.out]; exact ⟨none, 0, none, 0, none, 0, rfl, World.ownsRow_nil _ _ _ _, World.ownsRow_nil _ _ _ _, World.ownsRow_nil _ _ _ _⟩, UG.out⟩
  · have RE : stpR m n nc s = stpS m s := by unfold stpR; rw [if_pos ht]
    have hb : mdlB m = true ∧ fitB m.rules.length m.til nc s = true := by
      rw [sqS_fit] at ht; simp only [Bool.and_eq_true] at ht; rw [HR1.out]
      exact ht
    rw [RE] at FEW
    have RE := Lib.hid RE
    have CC := Lib.hid (fun W (u : Up w3 W) => specCopy_any Ac nc cc Aw nw cw Al nl cl s W (HV.out.up (UW.out.trans u)) (by obtain ⟨h1, h2, h3⟩ := HS.out; omega))
    have CT := Lib.hid (fun A1 c1 A2 c2 A3 c3 W (u : Up w3 W) (o1 : W.ownsRow w3.heap.size 76 3 (.slice A1 nc c1) nc (flat3 s.comps)) (o2 : W.ownsRow w3.heap.size 74 6 (.slice A2 nw c2) nw (flat s.wait)) (o3 : W.ownsRow w3.heap.size 180 7 (.slice A3 nl c3) nl (flat7 s.log)) =>
      specL3_full A n c B k d m w3.heap.size nc nw nl s _ _ _ w3 W (HM.out.up UW.out) u (Nat.le_refl _) hb.1 hb.2 HL.out o1 o2 o3 u.size (by obtain ⟨h1, h2, h3⟩ := HS.out; omega) (by obtain ⟨h1, h2, h3⟩ := HS.out; omega))
    unfold L3F at CT
    have LR2 := Lib.hid XR.out.k.lt
    generalize stpS m s = R at *
    clear ht hb HM HV HS HL
    go_wp2_with fail
    refine region_plan (fun W => Up w3 W) (.take 0 (.take 1 (.two 2 (.two 3 (.take 4 (.take 5 (.take 6 (.one 7 (.one 8 (.one 9 .nil)))))) 7 (.one 3 (.take 4 (.take 5 (.take 6 (.one 8 (.one 9 .nil))))))) 7 (.one 2 (.one 3 (.take 4 (.take 5 (.take 6 (.one 8 (.one 9 .nil)))))))))) (by kernel_rfl) (by kernel_rfl) ((Up.refl _).drew) ?_; refine plan_take rfl (by rfl) ?_; apply Exists.intro; refine ⟨fun w1 hS1 => ?_, ?_⟩
    · obtain ⟨q0, q1, q2⟩ := And.intro (B0.out.up hS1).c0 (And.intro (B0.out.up hS1).c1 (B0.out.up hS1).c2)
      clear hS1; go_simp
      try rfl
    go_simp; refine plan_take rfl (by rfl) ?_; apply Exists.intro; refine ⟨fun w1 hS1 => ?_, ?_⟩
    · obtain ⟨q0, q1, q2⟩ := And.intro (B1.out.up hS1).c0 (And.intro (B1.out.up hS1).c1 (B1.out.up hS1).c2)
      clear hS1; go_simp
      try rfl
    go_simp; refine plan_two ?_ ?_
    · refine plan_go rfl (by rfl) (fun K hK => ?_)
      go_simp; refine (CC.out _ ((Up.refl w3).drew)).mono ?_; rintro x wa ⟨⟨v, rfl, h3⟩, ua⟩; obtain ⟨A1, c1, A2, c2, A3, c3, rfl, o1, o2, o3⟩ := h3
      have Sa : Up w3 wa := ((Up.refl w3).drew).trans ua
      have m1 := own_mono o1 (show w3.heap.size ≤ _ from ((Up.refl w3).drew).size)
      have m2 := own_mono o2 (show w3.heap.size ≤ _ from ((Up.refl w3).drew).size)
      have m3 := own_mono o3 (show w3.heap.size ≤ _ from ((Up.refl w3).drew).size)
      clear o1 o2 o3; refine hK _ _ Sa ?_; clear hK K; go_simp; refine plan_two ?_ ?_
      · refine plan_go rfl (by rfl) (fun K hK => ?_)
        go_simp; refine (CT.out A1 c1 A2 c2 A3 c3 _ (Sa) m1 m2 m3).mono ?_; rintro x wb ⟨ub, fr, sz, vc, vw, vl, rfl, r1, r2, r3⟩; refine hK _ _ ub ?_; clear hK K; go_simp; refine plan_take rfl (by rfl) ?_; apply Exists.intro; refine ⟨fun w1 hS1 => ?_, ?_⟩
        · clear hS1
          go_simp
          try rfl
        go_simp; refine plan_take rfl (by rfl) ?_; apply Exists.intro; refine ⟨fun w1 hS1 => ?_, ?_⟩
        · clear hS1
          go_simp
          try rfl
        go_simp; refine plan_take rfl (by rfl) ?_; apply Exists.intro; refine ⟨fun w1 hS1 => ?_, ?_⟩
        · clear hS1
          go_simp
          try rfl
        go_simp; refine plan_go rfl (by rfl) (fun K hK => ?_); go_simp; refine hK _ _ (ub.alloc _) ?_; clear hK K; go_simp
        have r1 := own_up r1 ((Up.refl wb).alloc (.cells #[.slice none 0 0, .slice none 0 0, .slice none 0 0] 62))
        have r2 := own_up r2 ((Up.refl wb).alloc (.cells #[.slice none 0 0, .slice none 0 0, .slice none 0 0] 62))
        have r3 := own_up r3 ((Up.refl wb).alloc (.cells #[.slice none 0 0, .slice none 0 0, .slice none 0 0] 62))
        have XB := BoxF.new wb (.slice none 0 0) (.slice none 0 0) (.slice none 0 0) 62
        have TG := heap_alloc_new wb (.cells #[.slice none 0 0, .slice none 0 0, .slice none 0 0] 62)
        have UE := ub.alloc (.cells #[.slice none 0 0, .slice none 0 0, .slice none 0 0] 62)
        have LOB : w3.heap.size ≤ wb.heap.size := ub.size
        clear ub fr sz m1 m2 m3 Sa ua
        generalize hWE : wb.alloc (.cells #[.slice none 0 0, .slice none 0 0, .slice none 0 0] 62) = WE at *
        generalize hbE : wb.heap.size = b at *
        clear hWE hbE; obtain ⟨lc, Ac1, cc1, rfl, -, -⟩ := own3_slice r1; obtain ⟨lw, Aw1, cw1, rfl, -, -⟩ := own_slice r2; obtain ⟨ll, Al1, cl1, rfl, -, -⟩ := own7_slice r3; obtain ⟨b0c, b1c, b2c⟩ := And.intro XB.k.c0 (And.intro XB.k.c1 XB.k.c2)
        have bl := XB.k.lt
        have bf := XB.f
        have F1 := own_off r1 TG (by decide)
        have F2 := own_off r2 TG (by decide)
        have F3 := own_off r3 TG (by decide)
        have LB := Lib.hid (XB.laid (.slice Ac1 R.1.comps.length cc1) (.slice Aw1 R.1.wait.length cw1) (.slice Al1 R.1.log.length cl1))
        have MX := ((((Up.refl WE).mv b).setCell (o := 0) (.slice Ac1 R.1.comps.length cc1)).setCell (o := 1) (.slice Aw1 R.1.wait.length cw1) |>.setCell (o := 2) (.slice Al1 R.1.log.length cl1))
        have US := Lib.hid (MX.up UE LOB)
        have O1 := Lib.hid (own_keep r1 (fun x hx hl => MX.block x hl (F1 x hx)))
        have O2 := Lib.hid (own_keep r2 (fun x hx hl => MX.block x hl (F2 x hx)))
        have O3 := Lib.hid (own_keep r3 (fun x hx hl => MX.block x hl (F3 x hx)))
        clear F1 F2 F3 MX r1 r2 r3
        have S8 := US.out
        refine plan_go rfl (by rfl) (fun K hK => ?_); go_simp; refine hK _ _ US.out ?_; clear hK K; refine plan_go rfl (by rfl) (fun K hK => ?_); go_simp; refine hK _ _ US.out ?_; clear hK K; refine plan_nil ?_; clear b0c b1c b2c bf XB TG UE LOB S8
        generalize ((WE.setCell ⟨b, 0, none⟩ (.slice Ac1 R.1.comps.length cc1)).setCell ⟨b, 1, none⟩ (.slice Aw1 R.1.wait.length cw1)).setCell ⟨b, 2, none⟩ (.slice Al1 R.1.log.length cl1) = WS at *
        clear bl; obtain ⟨u0, u1, u2⟩ := And.intro LB.out.c0 (And.intro LB.out.c1 LB.out.c2)
        have bl := LB.out.lt
        have CD := Lib.hid (specCopy_any Ac1 _ cc1 Aw1 _ cw1 Al1 _ cl1 R.1 WS ⟨own3_csts O1.out, own_evs O2.out, own7_recs O3.out⟩ FEW.out)
        go_wp2_with fail
        refine CD.out.mono ?_; rintro x w9 ⟨⟨v, rfl, h3⟩, u9⟩; obtain ⟨A1, c1, A2, c2, A3, c3, rfl, o1, o2, o3⟩ := h3
        have U9 := US.out.trans u9
        have XR := Lib.hid (XR.out.up U9)
        have OO := Lib.hid (And.intro o1 (And.intro o2 o3))
        have UF := Lib.hid (UW.out.trans U9)
        have SZ9 := Lib.hid (show w3.heap.size ≤ WS.heap.size from US.out.size)
        clear o1 o2 o3 U9 u9 u0 u1 u2 bl CD lc lw ll O1 O2 O3 LB US; obtain ⟨q0, q1, q2⟩ := And.intro XR.out.k.c0 (And.intro XR.out.k.c1 XR.out.k.c2)
        have rl := XR.out.k.lt
        have rf := XR.out.f
        have LR := XR.out.laid (.slice A1 R.1.comps.length c1) (.slice A2 R.1.wait.length c2) (.slice A3 R.1.log.length c3)
        obtain ⟨k0, k1, k2⟩ := And.intro LR.c0 (And.intro LR.c1 LR.c2)
        have MR := ((((Up.refl w9).mv b2).setCell (o := 0) (.slice A1 R.1.comps.length c1)).setCell (o := 1) (.slice A2 R.1.wait.length c2) |>.setCell (o := 2) (.slice A3 R.1.log.length c3))
        have UG := Lib.hid (MR.up UF.out HB2.out)
        have LO9 := Lib.hid (show b2 < WS.heap.size by have := LR2.out; have := SZ9.out; omega)
        have Q1 := Lib.hid (own_mono (own_keep OO.out.1 (fun x hx hl => MR.block x hl (by have := (own_ge OO.out.1 x hx).1; have := LO9.out; omega))) (show w.heap.size ≤ WS.heap.size by have := LO9.out; have := HB2.out; omega))
        have Q2 := Lib.hid (own_mono (own_keep OO.out.2.1 (fun x hx hl => MR.block x hl (by have := (own_ge OO.out.2.1 x hx).1; have := LO9.out; omega))) (show w.heap.size ≤ WS.heap.size by have := LO9.out; have := HB2.out; omega))
        have Q3 := Lib.hid (own_mono (own_keep OO.out.2.2 (fun x hx hl => MR.block x hl (by have := (own_ge OO.out.2.2 x hx).1; have := LO9.out; omega))) (show w.heap.size ≤ WS.heap.size by have := LO9.out; have := HB2.out; omega))
        clear LR MR OO UF; go_wp2
        exact bodyPost_ret (v := .tuple #[.agg #[.slice A1 R.1.comps.length c1, .slice A2 R.1.wait.length c2, .slice A3 R.1.log.length c3], .bool R.2]) (by simp [results, Try.results169, go_sem, k0, k1, k2]) rfl ⟨by rw [RE.out]; exact ⟨A1, c1, A2, c2, A3, c3, rfl, Q1.out, Q2.out, Q3.out⟩, UG.out⟩
      · refine plan_go rfl (by rfl) (fun K hK => ?_)
        go_simp; refine hK _ _ (Sa.alloc _) ?_; clear hK K; go_simp
        have m1 := own_up m1 ((Up.refl wa).alloc (.cells #[.slice none 0 0, .slice none 0 0, .slice none 0 0] 62))
        have m2 := own_up m2 ((Up.refl wa).alloc (.cells #[.slice none 0 0, .slice none 0 0, .slice none 0 0] 62))
        have m3 := own_up m3 ((Up.refl wa).alloc (.cells #[.slice none 0 0, .slice none 0 0, .slice none 0 0] 62))
        have XB0 := BoxF.new wa (.slice none 0 0) (.slice none 0 0) (.slice none 0 0) 62
        have TG0 := heap_alloc_new wa (.cells #[.slice none 0 0, .slice none 0 0, .slice none 0 0] 62)
        have LOB : w3.heap.size ≤ wa.heap.size := Sa.size
        have Sb := Sa.alloc (.cells #[.slice none 0 0, .slice none 0 0, .slice none 0 0] 62)
        refine plan_go rfl (by rfl) (fun K hK => ?_); go_simp; refine (CT.out A1 c1 A2 c2 A3 c3 _ (Sb) m1 m2 m3).mono ?_; rintro x wb ⟨ub, fr, sz, vc, vw, vl, rfl, r1, r2, r3⟩; refine hK _ _ ub ?_; clear hK K; go_simp; refine plan_take rfl (by rfl) ?_; apply Exists.intro; refine ⟨fun w1 hS1 => ?_, ?_⟩
        · clear hS1
          go_simp
          try rfl
        go_simp; refine plan_take rfl (by rfl) ?_; apply Exists.intro; refine ⟨fun w1 hS1 => ?_, ?_⟩
        · clear hS1
          go_simp
          try rfl
        go_simp; refine plan_take rfl (by rfl) ?_; apply Exists.intro; refine ⟨fun w1 hS1 => ?_, ?_⟩
        · clear hS1
          go_simp
          try rfl
        go_simp
        have bq := fr _ XB0.k.lt (own_off m1 TG0 (by decide)) (own_off m3 TG0 (by decide))
        have XB := XB0.keepB sz bq
        have TG := bq.trans TG0
        have UE := ub
        clear bq fr sz m1 m2 m3 XB0 TG0 ub; clear Sa Sb ua
        generalize hbE : wa.heap.size = b at *
        clear hbE
        have hWE : wb = wb := rfl
        clear hWE; obtain ⟨lc, Ac1, cc1, rfl, -, -⟩ := own3_slice r1; obtain ⟨lw, Aw1, cw1, rfl, -, -⟩ := own_slice r2; obtain ⟨ll, Al1, cl1, rfl, -, -⟩ := own7_slice r3; obtain ⟨b0c, b1c, b2c⟩ := And.intro XB.k.c0 (And.intro XB.k.c1 XB.k.c2)
        have bl := XB.k.lt
        have bf := XB.f
        have F1 := own_off r1 TG (by decide)
        have F2 := own_off r2 TG (by decide)
        have F3 := own_off r3 TG (by decide)
        have LB := Lib.hid (XB.laid (.slice Ac1 R.1.comps.length cc1) (.slice Aw1 R.1.wait.length cw1) (.slice Al1 R.1.log.length cl1))
        have MX := ((((Up.refl wb).mv b).setCell (o := 0) (.slice Ac1 R.1.comps.length cc1)).setCell (o := 1) (.slice Aw1 R.1.wait.length cw1) |>.setCell (o := 2) (.slice Al1 R.1.log.length cl1))
        have US := Lib.hid (MX.up UE LOB)
        have O1 := Lib.hid (own_keep r1 (fun x hx hl => MX.block x hl (F1 x hx)))
        have O2 := Lib.hid (own_keep r2 (fun x hx hl => MX.block x hl (F2 x hx)))
        have O3 := Lib.hid (own_keep r3 (fun x hx hl => MX.block x hl (F3 x hx)))
        clear F1 F2 F3 MX r1 r2 r3
        have S8 := US.out
        refine plan_go rfl (by rfl) (fun K hK => ?_); go_simp; refine hK _ _ US.out ?_; clear hK K; refine plan_go rfl (by rfl) (fun K hK => ?_); go_simp; refine hK _ _ US.out ?_; clear hK K; refine plan_nil ?_; clear b0c b1c b2c bf XB TG UE LOB S8
        generalize ((wb.setCell ⟨b, 0, none⟩ (.slice Ac1 R.1.comps.length cc1)).setCell ⟨b, 1, none⟩ (.slice Aw1 R.1.wait.length cw1)).setCell ⟨b, 2, none⟩ (.slice Al1 R.1.log.length cl1) = WS at *
        clear bl; obtain ⟨u0, u1, u2⟩ := And.intro LB.out.c0 (And.intro LB.out.c1 LB.out.c2)
        have bl := LB.out.lt
        have CD := Lib.hid (specCopy_any Ac1 _ cc1 Aw1 _ cw1 Al1 _ cl1 R.1 WS ⟨own3_csts O1.out, own_evs O2.out, own7_recs O3.out⟩ FEW.out)
        go_wp2_with fail
        refine CD.out.mono ?_; rintro x w9 ⟨⟨v, rfl, h3⟩, u9⟩; obtain ⟨A1, c1, A2, c2, A3, c3, rfl, o1, o2, o3⟩ := h3
        have U9 := US.out.trans u9
        have XR := Lib.hid (XR.out.up U9)
        have OO := Lib.hid (And.intro o1 (And.intro o2 o3))
        have UF := Lib.hid (UW.out.trans U9)
        have SZ9 := Lib.hid (show w3.heap.size ≤ WS.heap.size from US.out.size)
        clear o1 o2 o3 U9 u9 u0 u1 u2 bl CD lc lw ll O1 O2 O3 LB US; obtain ⟨q0, q1, q2⟩ := And.intro XR.out.k.c0 (And.intro XR.out.k.c1 XR.out.k.c2)
        have rl := XR.out.k.lt
        have rf := XR.out.f
        have LR := XR.out.laid (.slice A1 R.1.comps.length c1) (.slice A2 R.1.wait.length c2) (.slice A3 R.1.log.length c3)
        obtain ⟨k0, k1, k2⟩ := And.intro LR.c0 (And.intro LR.c1 LR.c2)
        have MR := ((((Up.refl w9).mv b2).setCell (o := 0) (.slice A1 R.1.comps.length c1)).setCell (o := 1) (.slice A2 R.1.wait.length c2) |>.setCell (o := 2) (.slice A3 R.1.log.length c3))
        have UG := Lib.hid (MR.up UF.out HB2.out)
        have LO9 := Lib.hid (show b2 < WS.heap.size by have := LR2.out; have := SZ9.out; omega)
        have Q1 := Lib.hid (own_mono (own_keep OO.out.1 (fun x hx hl => MR.block x hl (by have := (own_ge OO.out.1 x hx).1; have := LO9.out; omega))) (show w.heap.size ≤ WS.heap.size by have := LO9.out; have := HB2.out; omega))
        have Q2 := Lib.hid (own_mono (own_keep OO.out.2.1 (fun x hx hl => MR.block x hl (by have := (own_ge OO.out.2.1 x hx).1; have := LO9.out; omega))) (show w.heap.size ≤ WS.heap.size by have := LO9.out; have := HB2.out; omega))
        have Q3 := Lib.hid (own_mono (own_keep OO.out.2.2 (fun x hx hl => MR.block x hl (by have := (own_ge OO.out.2.2 x hx).1; have := LO9.out; omega))) (show w.heap.size ≤ WS.heap.size by have := LO9.out; have := HB2.out; omega))
        clear LR MR OO UF; go_wp2
        exact bodyPost_ret (v := .tuple #[.agg #[.slice A1 R.1.comps.length c1, .slice A2 R.1.wait.length c2, .slice A3 R.1.log.length c3], .bool R.2]) (by simp [results, Try.results169, go_sem, k0, k1, k2]) rfl ⟨by rw [RE.out]; exact ⟨A1, c1, A2, c2, A3, c3, rfl, Q1.out, Q2.out, Q3.out⟩, UG.out⟩
    · refine plan_go rfl (by rfl) (fun K hK => ?_)
      go_simp; refine hK _ _ ((Up.refl w3).drew.alloc _) ?_; clear hK K; go_simp; refine plan_go rfl (by rfl) (fun K hK => ?_); go_simp; refine (CC.out _ ((Up.refl w3).drew.alloc (.cells #[.slice none 0 0, .slice none 0 0, .slice none 0 0] 62))).mono ?_; rintro x wa ⟨⟨v, rfl, h3⟩, ua⟩; obtain ⟨A1, c1, A2, c2, A3, c3, rfl, o1, o2, o3⟩ := h3
      have Sa : Up w3 wa := ((Up.refl w3).drew.alloc (.cells #[.slice none 0 0, .slice none 0 0, .slice none 0 0] 62)).trans ua
      have m1 := own_mono o1 (show w3.heap.size ≤ _ from ((Up.refl w3).drew.alloc (.cells #[.slice none 0 0, .slice none 0 0, .slice none 0 0] 62)).size)
      have m2 := own_mono o2 (show w3.heap.size ≤ _ from ((Up.refl w3).drew.alloc (.cells #[.slice none 0 0, .slice none 0 0, .slice none 0 0] 62)).size)
      have m3 := own_mono o3 (show w3.heap.size ≤ _ from ((Up.refl w3).drew.alloc (.cells #[.slice none 0 0, .slice none 0 0, .slice none 0 0] 62)).size)
      clear o1 o2 o3; refine hK _ _ Sa ?_; clear hK K; go_simp
      have XB0 : BoxF wa w3.heap.size (.slice none 0 0) (.slice none 0 0) (.slice none 0 0) := (BoxF.new w3.drew (.slice none 0 0) (.slice none 0 0) (.slice none 0 0) 62).up ua
      have TG0 : wa.heap[w3.heap.size]? = some (.cells #[.slice none 0 0, .slice none 0 0, .slice none 0 0] 62) := (ua.below.block _ (show w3.drew.heap.size < (w3.drew.alloc (.cells #[.slice none 0 0, .slice none 0 0, .slice none 0 0] 62)).heap.size by simp)).trans (heap_alloc_new w3.drew (.cells #[.slice none 0 0, .slice none 0 0, .slice none 0 0] 62))
      have LOB : w3.heap.size ≤ w3.heap.size := Nat.le_refl _
      refine plan_go rfl (by rfl) (fun K hK => ?_); go_simp; refine (CT.out A1 c1 A2 c2 A3 c3 _ (Sa) m1 m2 m3).mono ?_; rintro x wb ⟨ub, fr, sz, vc, vw, vl, rfl, r1, r2, r3⟩; refine hK _ _ ub ?_; clear hK K; go_simp; refine plan_take rfl (by rfl) ?_; apply Exists.intro; refine ⟨fun w1 hS1 => ?_, ?_⟩
      · clear hS1
        go_simp
        try rfl
      go_simp; refine plan_take rfl (by rfl) ?_; apply Exists.intro; refine ⟨fun w1 hS1 => ?_, ?_⟩
      · clear hS1
        go_simp
        try rfl
      go_simp; refine plan_take rfl (by rfl) ?_; apply Exists.intro; refine ⟨fun w1 hS1 => ?_, ?_⟩
      · clear hS1
        go_simp
        try rfl
      go_simp
      have bq := fr _ XB0.k.lt (own_off m1 TG0 (by decide)) (own_off m3 TG0 (by decide))
      have XB := XB0.keepB sz bq
      have TG := bq.trans TG0
      have UE := ub
      clear bq fr sz m1 m2 m3 XB0 TG0 ub; clear Sa ua
      generalize hbE : w3.heap.size = b at *
      have LOB := Nat.le_of_eq hbE
      obtain ⟨lc, Ac1, cc1, rfl, -, -⟩ := own3_slice r1; obtain ⟨lw, Aw1, cw1, rfl, -, -⟩ := own_slice r2; obtain ⟨ll, Al1, cl1, rfl, -, -⟩ := own7_slice r3; obtain ⟨b0c, b1c, b2c⟩ := And.intro XB.k.c0 (And.intro XB.k.c1 XB.k.c2)
      have bl := XB.k.lt
      have bf := XB.f
      have F1 := own_off r1 TG (by decide)
      have F2 := own_off r2 TG (by decide)
      have F3 := own_off r3 TG (by decide)
      have LB := Lib.hid (XB.laid (.slice Ac1 R.1.comps.length cc1) (.slice Aw1 R.1.wait.length cw1) (.slice Al1 R.1.log.length cl1))
      have MX := ((((Up.refl wb).mv b).setCell (o := 0) (.slice Ac1 R.1.comps.length cc1)).setCell (o := 1) (.slice Aw1 R.1.wait.length cw1) |>.setCell (o := 2) (.slice Al1 R.1.log.length cl1))
      have US := Lib.hid (MX.up UE LOB)
      have O1 := Lib.hid (own_keep r1 (fun x hx hl => MX.block x hl (F1 x hx)))
      have O2 := Lib.hid (own_keep r2 (fun x hx hl => MX.block x hl (F2 x hx)))
      have O3 := Lib.hid (own_keep r3 (fun x hx hl => MX.block x hl (F3 x hx)))
      clear F1 F2 F3 MX r1 r2 r3
      have S8 := US.out
      refine plan_go rfl (by rfl) (fun K hK => ?_); go_simp; refine hK _ _ US.out ?_; clear hK K; refine plan_go rfl (by rfl) (fun K hK => ?_); go_simp; refine hK _ _ US.out ?_; clear hK K; refine plan_nil ?_; clear b0c b1c b2c bf XB TG UE LOB S8
      generalize ((wb.setCell ⟨b, 0, none⟩ (.slice Ac1 R.1.comps.length cc1)).setCell ⟨b, 1, none⟩ (.slice Aw1 R.1.wait.length cw1)).setCell ⟨b, 2, none⟩ (.slice Al1 R.1.log.length cl1) = WS at *
      clear bl; obtain ⟨u0, u1, u2⟩ := And.intro LB.out.c0 (And.intro LB.out.c1 LB.out.c2)
      have bl := LB.out.lt
      have CD := Lib.hid (specCopy_any Ac1 _ cc1 Aw1 _ cw1 Al1 _ cl1 R.1 WS ⟨own3_csts O1.out, own_evs O2.out, own7_recs O3.out⟩ FEW.out)
      go_wp2_with fail
      refine CD.out.mono ?_; rintro x w9 ⟨⟨v, rfl, h3⟩, u9⟩; obtain ⟨A1, c1, A2, c2, A3, c3, rfl, o1, o2, o3⟩ := h3
      have U9 := US.out.trans u9
      have XR := Lib.hid (XR.out.up U9)
      have OO := Lib.hid (And.intro o1 (And.intro o2 o3))
      have UF := Lib.hid (UW.out.trans U9)
      have SZ9 := Lib.hid (show w3.heap.size ≤ WS.heap.size from US.out.size)
      clear o1 o2 o3 U9 u9 u0 u1 u2 bl CD lc lw ll O1 O2 O3 LB US; obtain ⟨q0, q1, q2⟩ := And.intro XR.out.k.c0 (And.intro XR.out.k.c1 XR.out.k.c2)
      have rl := XR.out.k.lt
      have rf := XR.out.f
      have LR := XR.out.laid (.slice A1 R.1.comps.length c1) (.slice A2 R.1.wait.length c2) (.slice A3 R.1.log.length c3)
      obtain ⟨k0, k1, k2⟩ := And.intro LR.c0 (And.intro LR.c1 LR.c2)
      have MR := ((((Up.refl w9).mv b2).setCell (o := 0) (.slice A1 R.1.comps.length c1)).setCell (o := 1) (.slice A2 R.1.wait.length c2) |>.setCell (o := 2) (.slice A3 R.1.log.length c3))
      have UG := Lib.hid (MR.up UF.out HB2.out)
      have LO9 := Lib.hid (show b2 < WS.heap.size by have := LR2.out; have := SZ9.out; omega)
      have Q1 := Lib.hid (own_mono (own_keep OO.out.1 (fun x hx hl => MR.block x hl (by have := (own_ge OO.out.1 x hx).1; have := LO9.out; omega))) (show w.heap.size ≤ WS.heap.size by have := LO9.out; have := HB2.out; omega))
      have Q2 := Lib.hid (own_mono (own_keep OO.out.2.1 (fun x hx hl => MR.block x hl (by have := (own_ge OO.out.2.1 x hx).1; have := LO9.out; omega))) (show w.heap.size ≤ WS.heap.size by have := LO9.out; have := HB2.out; omega))
      have Q3 := Lib.hid (own_mono (own_keep OO.out.2.2 (fun x hx hl => MR.block x hl (by have := (own_ge OO.out.2.2 x hx).1; have := LO9.out; omega))) (show w.heap.size ≤ WS.heap.size by have := LO9.out; have := HB2.out; omega))
      clear LR MR OO UF; go_wp2
      exact bodyPost_ret (v := .tuple #[.agg #[.slice A1 R.1.comps.length c1, .slice A2 R.1.wait.length c2, .slice A3 R.1.log.length c3], .bool R.2]) (by simp [results, Try.results169, go_sem, k0, k1, k2]) rfl ⟨by rw [RE.out]; exact ⟨A1, c1, A2, c2, A3, c3, rfl, Q1.out, Q2.out, Q3.out⟩, UG.out⟩
end Go.Proofs.Ytklldniapombiaa

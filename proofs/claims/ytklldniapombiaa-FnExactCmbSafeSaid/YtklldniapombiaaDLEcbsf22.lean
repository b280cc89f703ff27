/-
  What FnExactCmbSafe returns, in one sentence: true, with new blocks alone; for every model and every simulation that lie in memory.
  Records in a row of the call's own, in one sentence: their cells one behind the other, and what is read off again; for every list.
  What slices.Grow and slices.Concat return of slices of records, in one sentence: a new slice of all of them, one behind the other; for every row of slices that lies in memory.
  Marks on a conservative simulation of the call's own, in one sentence: they are laid in its blocks alone, and found again as long as these are not written; for every simulation without records whose slices lie in blocks of their own.
  Rows of the call's own are kept, in one sentence: where their block is as it was they are; rows of other elements lie apart; no condition is made.
-/
import Derived.Deep.RegionHeld3
import Derived.Lib.AppendZeros
import Derived.Test.YtklldniapombiaaDLEcbsf01
import Derived.Test.YtklldniapombiaaDLEcbsf03
import Derived.Test.YtklldniapombiaaDLEcbsf05
import Derived.Test.YtklldniapombiaaDLEcbsf07
import Derived.Test.YtklldniapombiaaDLEcbsf08
import Derived.Test.YtklldniapombiaaDLEcbsf09
import Derived.Test.YtklldniapombiaaDLEcbsf11
import Derived.Test.YtklldniapombiaaDLEcbsf12
import Derived.Test.YtklldniapombiaaDLEcbsf13
import Derived.Test.YtklldniapombiaaDLEcbsf16
import Derived.Test.YtklldniapombiaaDLEcbsf19
import Derived.Test.YtklldniapombiaaDLEcbsf21
namespace Go.Proofs.Ytklldniapombiaa
set_option maxRecDepth 100000
open Go.RowKit
theorem blk2_ups {w w' : World} {b c : Nat} {x0 x1 y0 y1 : Value} (u : Up w w')
    (h : b < w.heap.size ∧ c < w.heap.size ∧ w.cell? ⟨b, 0, none⟩ = some x0 ∧ w.cell? ⟨b, 1, none⟩ = some x1 ∧ w.cell? ⟨c, 0, none⟩ = some y0 ∧ w.cell? ⟨c, 1, none⟩ = some y1) :
    b < w'.heap.size ∧ c < w'.heap.size ∧ w'.cell? ⟨b, 0, none⟩ = some x0 ∧ w'.cell? ⟨b, 1, none⟩ = some x1 ∧ w'.cell? ⟨c, 0, none⟩ = some y0 ∧ w'.cell? ⟨c, 1, none⟩ = some y1 := by
  obtain ⟨h0, h1, k0, k1, l0, l1⟩ := h
  have := u.size
  exact ⟨by omega, by omega, (u.cells _ _ h0).trans k0, (u.cells _ _ h0).trans k1, (u.cells _ _ h1).trans l0, (u.cells _ _ h1).trans l1⟩
theorem two_ups {w w' : World} {b0 b1 : Nat} {x0 x1 x2 y0 y1 y2 : Value} (u : Up w w')
    (h : b0 < w.heap.size ∧ b1 < w.heap.size ∧ w.cell? ⟨b0, 0, none⟩ = some x0 ∧ w.cell? ⟨b0, 1, none⟩ = some x1 ∧ w.cell? ⟨b0, 2, none⟩ = some x2 ∧ w.cell? ⟨b1, 0, none⟩ = some y0 ∧ w.cell? ⟨b1, 1, none⟩ = some y1 ∧ w.cell? ⟨b1, 2, none⟩ = some y2) :
    b0 < w'.heap.size ∧ b1 < w'.heap.size ∧ w'.cell? ⟨b0, 0, none⟩ = some x0 ∧ w'.cell? ⟨b0, 1, none⟩ = some x1 ∧ w'.cell? ⟨b0, 2, none⟩ = some x2 ∧ w'.cell? ⟨b1, 0, none⟩ = some y0 ∧ w'.cell? ⟨b1, 1, none⟩ = some y1 ∧ w'.cell? ⟨b1, 2, none⟩ = some y2 := by
  obtain ⟨h0, h1, k0, k1, k2, l0, l1, l2⟩ := h
  have := u.size
  exact ⟨by omega, by omega, (u.cells _ _ h0).trans k0, (u.cells _ _ h0).trans k1, (u.cells _ _ h0).trans k2, (u.cells _ _ h1).trans l0, (u.cells _ _ h1).trans l1, (u.cells _ _ h1).trans l2⟩
def IsMs (m : Mdl) (til : Int) (n k : Nat) (v : Value) (w : World) : Prop := ∃ A B, v = .agg #[.slice A n n, .slice B k k, .int .i64 til] ∧ MdlV w A n B k m
theorem IsMs.up {m : Mdl} {til : Int} {n k : Nat} {v : Value} {w w' : World} (h : IsMs m til n k v w) (u : Up w w') : IsMs m til n k v w' := by
  obtain ⟨A, B, h0, h1⟩ := h
  exact ⟨A, B, h0, h1.up u⟩
def IsCs (nh nl : Nat) (hs : List Ch) (ls : List (List Rec)) (v : Value) (w : World) : Prop := ∃ ga gb : Nat, v = .agg #[.slice (some ⟨ga, 0, none⟩) nh nh, .slice (some ⟨gb, 0, none⟩) nl nl] ∧ CbV w (some ⟨ga, 0, none⟩) nh (some ⟨gb, 0, none⟩) nl hs ls
theorem IsCs.up {nh nl : Nat} {hs : List Ch} {ls : List (List Rec)} {v : Value} {w w' : World} (h : IsCs nh nl hs ls v w) (u : Up w w') : IsCs nh nl hs ls v w' := by
  obtain ⟨ga, gb, h0, h1⟩ := h
  exact ⟨ga, gb, h0, h1.up u⟩
theorem newCs {hs : List Ch} {ls : List (List Rec)} {nh nl ga gb lo : Nat} {w : World} (h1 : ChsF w lo ga nh hs) (h2 : LgsF w lo gb nl ls) (hS : ShortCb hs ls) : CbV w (some ⟨ga, 0, none⟩) nh (some ⟨gb, 0, none⟩) nl hs ls :=
  ⟨h1.chs, h2.lgs, by rw [← h1.len]; exact hS.hosts.few, by rw [← h2.len]; exact hS.logs.few⟩
def csA (VM VH : Value) (m : Mdl) (til at_ : Int) (n k nh nl : Nat) (hs : List Ch) (ls : List (List Rec)) (r : Int) (i : Nat) (v : Value) (w : World) : Prop :=
  if i = 22 then v = VM else if i = 23 then IsMs m til n k v w else if i = 24 then v = VH else if i = 25 then IsCs nh nl hs ls v w else if i = 26 then v = .int .i64 at_ else if i = 27 then v = .int .i64 r else True
theorem csA_22 (VM VH : Value) (m : Mdl) (til at_ : Int) (n k nh nl : Nat) (hs : List Ch) (ls : List (List Rec)) (r : Int) (v : Value) (w : World) : csA VM VH m til at_ n k nh nl hs ls r 22 v w = (v = VM) := by simp [csA]
theorem csA_23 (VM VH : Value) (m : Mdl) (til at_ : Int) (n k nh nl : Nat) (hs : List Ch) (ls : List (List Rec)) (r : Int) (v : Value) (w : World) : csA VM VH m til at_ n k nh nl hs ls r 23 v w = (IsMs m til n k v w) := by simp [csA]
theorem csA_24 (VM VH : Value) (m : Mdl) (til at_ : Int) (n k nh nl : Nat) (hs : List Ch) (ls : List (List Rec)) (r : Int) (v : Value) (w : World) : csA VM VH m til at_ n k nh nl hs ls r 24 v w = (v = VH) := by simp [csA]
theorem csA_25 (VM VH : Value) (m : Mdl) (til at_ : Int) (n k nh nl : Nat) (hs : List Ch) (ls : List (List Rec)) (r : Int) (v : Value) (w : World) : csA VM VH m til at_ n k nh nl hs ls r 25 v w = (IsCs nh nl hs ls v w) := by simp [csA]
theorem csA_26 (VM VH : Value) (m : Mdl) (til at_ : Int) (n k nh nl : Nat) (hs : List Ch) (ls : List (List Rec)) (r : Int) (v : Value) (w : World) : csA VM VH m til at_ n k nh nl hs ls r 26 v w = (v = .int .i64 at_) := by simp [csA]
theorem csA_27 (VM VH : Value) (m : Mdl) (til at_ : Int) (n k nh nl : Nat) (hs : List Ch) (ls : List (List Rec)) (r : Int) (v : Value) (w : World) : csA VM VH m til at_ n k nh nl hs ls r 27 v w = (v = .int .i64 r) := by simp [csA]
theorem csA_up (VM VH : Value) (m : Mdl) (til at_ : Int) (n k nh nl : Nat) (hs : List Ch) (ls : List (List Rec)) (r : Int) (i : Nat) {v : Value} {w w' : World} (h : csA VM VH m til at_ n k nh nl hs ls r i v w) (u : Up w w') : csA VM VH m til at_ n k nh nl hs ls r i v w' := by
  unfold csA at h ⊢
  by_cases h22 : i = 22
  · rw [if_pos h22] at h ⊢
    exact h
  rw [if_neg h22] at h ⊢
  by_cases h23 : i = 23
  · rw [if_pos h23] at h ⊢
    exact h.up u
  rw [if_neg h23] at h ⊢
  by_cases h24 : i = 24
  · rw [if_pos h24] at h ⊢
    exact h
  rw [if_neg h24] at h ⊢
  by_cases h25 : i = 25
  · rw [if_pos h25] at h ⊢
    exact h.up u
  rw [if_neg h25] at h ⊢
  by_cases h26 : i = 26
  · rw [if_pos h26] at h ⊢
    exact h
  rw [if_neg h26] at h ⊢
  by_cases h27 : i = 27
  · rw [if_pos h27] at h ⊢
    exact h
  rw [if_neg h27] at h ⊢
  exact trivial
set_option maxHeartbeats 16000000 in
theorem walkEcbsf_of (HC : CauSays) (v : Value) (m : Mdl) (v' : Value) (cb : List Ch × List (List Rec)) (at_ : Int) {w : World} (h0 : ∃ A n c B k d, v = .agg #[.slice A n c, .slice B k d, .int .i64 m.til] ∧ MdlV w A n B k m)
    (h1 : ∃ HA nh hc LB nl lc, v' = .agg #[.slice HA nh hc, .slice LB nl lc] ∧ CbW w HA nh LB nl cb.1 cb.2) :
    Calls Try.prog 3 #[v, v', .int .i64 at_] w fun x w' => x = .returned (.bool true) ∧ Up w w' := by
  obtain ⟨A, n, c, B, k, d, rfl, hM⟩ := h0; obtain ⟨HA, nh, hc, LB, nl, lc, rfl, hV⟩ := h1; obtain ⟨hs, ls⟩ := cb; dsimp only at hV
  have hk := hM.big
  have CS := Lib.hid (fun W (u : Up w W) => szMdl_any A n c B k d m W (hM.up u))
  have CT := Lib.hid (fun W (u : Up w W) hS => toMdl_any A n c B k d m W (hM.up u) hS)
  have CE := Lib.hid (fun A n c B k d A' n' c' B' k' d' W (h1 : MdlV W A n B k m) (h2 : MdlV W A' n' B' k' m) (hS : FitM m) => eqMdl_any A n c B k d m A' n' c' B' k' d' m W h1 h2 hS)
  rw [decide_eq_true (rfl : m = m)] at CE
  have CZ := Lib.hid (fun l W (u : Up w W) a b => szCmb_any HA nh hc LB nl lc hs ls l W a b (hV.up u))
  have CQ := Lib.hid (fun W (u : Up w W) hS => toCmb_any HA nh hc LB nl lc hs ls W ((hV.up u).v hS))
  have CV := Lib.hid (fun a1 a2 b1 b2 W (h1 : CbV W a1 nh a2 nl hs ls) (h2 : CbV W b1 nh b2 nl hs ls) => eqCb_same a1 nh nh a2 nl nl b1 nh b2 nl hs ls W h1 h2)
  unfold NewCmb at CQ
  have CP := Lib.hid (fun A B a1 a2 W (h : MdlV W A n B k m) (hv : CbV W a1 nh a2 nl hs ls) => specCbSafe_any A n n B k k m a1 nh nh a2 nl nl hs ls at_ W h hv)
  have CI := Lib.hid (fun A B a1 a2 W (h : MdlV W A n B k m) (hv : CbV W a1 nh a2 nl hs ls) => implCbSafe_of HC A n n B k k m a1 nh nh a2 nl nl hs ls at_ W h hv)
  clear hM hV
  generalize safV m hs ls at_ = r at CP CI
  have bne0 : (r != r) = false := by simp
  unfold NewMdl at CT
  generalize htil : m.til = til at *
  have B0 := Lib.hid ((Box3.new w (.slice A n c) (.slice B k d) (.int .i64 til) 25).up ((Up.refl _).alloc (.cells #[.slice HA nh hc, .slice LB nl lc] 29)))
  have B1 := Lib.hid (Blk.new (w.alloc (.cells #[.slice A n c, .slice B k d, .int .i64 til] 25)) #[.slice HA nh hc, .slice LB nl lc] 29)
  simp only [World.size_alloc] at B1
  have UC := Lib.hid (((Up.refl w).alloc (.cells #[.slice A n c, .slice B k d, .int .i64 til] 25)).alloc (.cells #[.slice HA nh hc, .slice LB nl lc] 29))
  go_enter Try.func3, Try.ntmps3
  go_wp2_with fail
  generalize (w.alloc (.cells #[.slice A n c, .slice B k d, .int .i64 til] 25)).alloc (.cells #[.slice HA nh hc, .slice LB nl lc] 29) = W at *
  generalize hb1 : w.heap.size + 1 = b1 at *
  generalize hb0 : w.heap.size = b0 at *
  clear hb1 hb0; refine (CS.out _ UC.out).mono ?_; rintro x wA ⟨z, rfl, hz, u1⟩
  replace UC := Lib.hid (UC.out.trans u1)
  replace B0 := Lib.hid (B0.out.up u1)
  replace B1 := Lib.hid (B1.out.up u1)
  clear u1
  rcases hz with rfl | ⟨z0, z1, hS⟩
  · go_wp2
    go_ret
    exact ⟨rfl, UC.out⟩
  have SH := Lib.hid hS
  have j0 : ¬ z < 0 := by omega
  clear hS
  have y0 := B1.out.cell (j := 0) rfl; have y1 := B1.out.cell (j := 1) rfl; have ly := B1.out.lt
  go_wp2_with fail
  clear y0 y1 ly; refine (CZ.out z _ UC.out z0 z1).mono ?_; rintro x wB ⟨y, rfl, hz, u1⟩
  replace UC := Lib.hid (UC.out.trans u1)
  replace B0 := Lib.hid (B0.out.up u1)
  replace B1 := Lib.hid (B1.out.up u1)
  clear u1
  rcases hz with rfl | ⟨y0, y1, hS⟩
  · go_wp2
    go_ret
    exact ⟨rfl, UC.out⟩
  have SS := Lib.hid hS
  have j1 : ¬ y < 0 := by omega
  clear hS
  go_wp2_with fail
  generalize wB = W0 at *
  refine region_relyT 6 [] [(6, false)] [22, 23, 24, 25, 26, 27] 6 (fun _ wX => Up W0 wX) Up (fun i v w => csA (.agg #[.slice A n c, .slice B k d, .int .i64 til]) (.agg #[.slice HA nh hc, .slice LB nl lc]) m til at_ n k nh nl hs ls r i v w) (by kernel_rfl) (by kernel_rfl) (by kernel_rfl) (by kernel_rfl) ((Up.refl _).drew) (fun slot_ _ _ _ h u => csA_up (.agg #[.slice A n c, .slice B k d, .int .i64 til]) (.agg #[.slice HA nh hc, .slice LB nl lc]) m til at_ n k nh nl hs ls r slot_ h u) ?_ ?_ ?_
  · simp only [List.take_succ_cons, List.take_zero]
    refine stepsT_op (by kernel_rfl) ?_ ?_
    · intro X w1_ k1 hG hdep
      obtain ⟨q0, q1, q2⟩ := And.intro (B0.out.up hG).c0 (And.intro (B0.out.up hG).c1 (B0.out.up hG).c2); simp only [opW_def, mixT]; go_simp
      exact ⟨⟨_, by first | rfl | simp [Act.put], Up.refl _, hG, (show csA (.agg #[.slice A n c, .slice B k d, .int .i64 til]) (.agg #[.slice HA nh hc, .slice LB nl lc]) m til at_ n k nh nl hs ls r 22 _ _ from by first | (rw [csA_22]; exact rfl) | rw [csA_22])⟩⟩
    refine stepsT_op (by kernel_rfl) ?_ ?_
    · intro X w1_ k1 hG hdep
      have e22 : csA (.agg #[.slice A n c, .slice B k d, .int .i64 til]) (.agg #[.slice HA nh hc, .slice LB nl lc]) m til at_ n k nh nl hs ls r 22 (X 22) w1_ := hdep 22 (by decide +kernel)
      rw [csA_22] at e22; simp only [opW_def, mixT, e22]; go_simp; refine (CT.out _ (UC.out.trans hG) SH.out).mono ?_; rintro x wZ ⟨g1, g2, rfl, _, _, o1, o2, u⟩
      exact ⟨⟨_, by first | rfl | simp [Act.put], u, hG.trans u, (show csA (.agg #[.slice A n c, .slice B k d, .int .i64 til]) (.agg #[.slice HA nh hc, .slice LB nl lc]) m til at_ n k nh nl hs ls r 23 _ _ from by first | (rw [csA_23]; exact ⟨_, _, rfl, NewMdl.v o1 o2 hk⟩) | rw [csA_23])⟩⟩
    refine stepsT_op (by kernel_rfl) ?_ ?_
    · intro X w1_ k1 hG hdep
      have y0 := (B1.out.up hG).cell (j := 0) rfl; have y1 := (B1.out.up hG).cell (j := 1) rfl; have ly := (B1.out.up hG).lt
      simp only [opW_def, mixT]; go_simp
      exact ⟨⟨_, by first | rfl | simp [Act.put], Up.refl _, hG, (show csA (.agg #[.slice A n c, .slice B k d, .int .i64 til]) (.agg #[.slice HA nh hc, .slice LB nl lc]) m til at_ n k nh nl hs ls r 24 _ _ from by first | (rw [csA_24]; exact rfl) | rw [csA_24])⟩⟩
    refine stepsT_op (by kernel_rfl) ?_ ?_
    · intro X w1_ k1 hG hdep
      have e24 : csA (.agg #[.slice A n c, .slice B k d, .int .i64 til]) (.agg #[.slice HA nh hc, .slice LB nl lc]) m til at_ n k nh nl hs ls r 24 (X 24) w1_ := hdep 24 (by decide +kernel)
      rw [csA_24] at e24; simp only [opW_def, mixT, e24]; go_simp; refine (CQ.out _ (UC.out.trans hG) SS.out).mono ?_; rintro x wZ ⟨ga, gb, rfl, v1, v2, u⟩
      exact ⟨⟨_, by first | rfl | simp [Act.put], u, hG.trans u, (show csA (.agg #[.slice A n c, .slice B k d, .int .i64 til]) (.agg #[.slice HA nh hc, .slice LB nl lc]) m til at_ n k nh nl hs ls r 25 _ _ from by first | (rw [csA_25]; exact ⟨_, _, rfl, newCs v1 v2 SS.out⟩) | rw [csA_25])⟩⟩
    refine stepsT_op (by kernel_rfl) ?_ ?_
    · intro X w1_ k1 hG hdep
      simp only [opW_def, mixT]; go_simp
      exact ⟨⟨_, by first | rfl | simp [Act.put], Up.refl _, hG, (show csA (.agg #[.slice A n c, .slice B k d, .int .i64 til]) (.agg #[.slice HA nh hc, .slice LB nl lc]) m til at_ n k nh nl hs ls r 26 _ _ from by first | (rw [csA_26]; exact rfl) | rw [csA_26])⟩⟩
    refine stepsT_op (by kernel_rfl) ?_ ?_
    · intro X w1_ k1 hG hdep
      have e23 : csA (.agg #[.slice A n c, .slice B k d, .int .i64 til]) (.agg #[.slice HA nh hc, .slice LB nl lc]) m til at_ n k nh nl hs ls r 23 (X 23) w1_ := hdep 23 (by decide +kernel)
      rw [csA_23] at e23; obtain ⟨A1, B2, e23, mv⟩ := e23
      have e25 : csA (.agg #[.slice A n c, .slice B k d, .int .i64 til]) (.agg #[.slice HA nh hc, .slice LB nl lc]) m til at_ n k nh nl hs ls r 25 (X 25) w1_ := hdep 25 (by decide +kernel)
      rw [csA_25] at e25; obtain ⟨ga, gb, e25, sv⟩ := e25
      have e26 : csA (.agg #[.slice A n c, .slice B k d, .int .i64 til]) (.agg #[.slice HA nh hc, .slice LB nl lc]) m til at_ n k nh nl hs ls r 26 (X 26) w1_ := hdep 26 (by decide +kernel)
      rw [csA_26] at e26; simp only [opW_def, mixT, e23, e25, e26]; go_simp; refine (CP.out _ _ _ _ w1_ mv sv).mono ?_; rintro x wZ ⟨rfl, u⟩
      exact ⟨⟨_, by first | rfl | simp [Act.put], u, hG.trans u, (show csA (.agg #[.slice A n c, .slice B k d, .int .i64 til]) (.agg #[.slice HA nh hc, .slice LB nl lc]) m til at_ n k nh nl hs ls r 27 _ _ from by first | (rw [csA_27]; exact rfl) | rw [csA_27])⟩⟩
    exact trivial
  · intro h p _ hp
    cases hp
  · intro X wX hG hR
    have e27 : csA (.agg #[.slice A n c, .slice B k d, .int .i64 til]) (.agg #[.slice HA nh hc, .slice LB nl lc]) m til at_ n k nh nl hs ls r 27 (X 27) wX := hR 5 (by omega)
    rw [csA_27] at e27; simp only [mixT, e27]
    replace UC := Lib.hid (UC.out.trans hG)
    replace B0 := Lib.hid (B0.out.up hG)
    replace B1 := Lib.hid (B1.out.up hG)
    clear hR hG e27; refine mix_go rfl (by rfl) (fun K hK => ?_); go_simp; refine hK _ _ ?_; clear hK K; refine mix_nil ?_; obtain ⟨p0, p1, p2⟩ := And.intro B0.out.c0 (And.intro B0.out.c1 B0.out.c2)
    go_wp2_with fail
    refine (CT.out _ UC.out SH.out).mono ?_; rintro x w3 ⟨g1, g2, rfl, _, _, o1, o2, u3⟩
    have ua := (Up.refl w3).alloc (.cells #[.slice (some ⟨g1, 0, none⟩) n n, .slice (some ⟨g2, 0, none⟩) k k, .int .i64 til] 36)
    have X7 := Lib.hid (Box3.new w3 (.slice (some ⟨g1, 0, none⟩) n n) (.slice (some ⟨g2, 0, none⟩) k k) (.int .i64 til) 36)
    have V7 := Lib.hid ((NewMdl.v o1 o2 hk).up ua)
    have u := u3.trans ua
    replace UC := Lib.hid (UC.out.trans u)
    replace B0 := Lib.hid (B0.out.up u)
    replace B1 := Lib.hid (B1.out.up u)
    clear o1 o2 u3 ua u p0 p1 p2
    have y0 := B1.out.cell (j := 0) rfl; have y1 := B1.out.cell (j := 1) rfl; have ly := B1.out.lt
    go_wp2_with fail
    clear y0 y1 ly
    generalize hb7 : w3.heap.size = b7 at *
    generalize w3.alloc (.cells #[.slice (some ⟨g1, 0, none⟩) n n, .slice (some ⟨g2, 0, none⟩) k k, .int .i64 til] 36) = W3 at *
    clear hb7; refine (CQ.out _ UC.out SS.out).mono ?_; rintro x w4 ⟨g3, g4, rfl, v1, v2, u4⟩
    have ua := (Up.refl w4).alloc (.cells #[.slice (some ⟨g3, 0, none⟩) nh nh, .slice (some ⟨g4, 0, none⟩) nl nl] 41)
    have X8 := Lib.hid (Blk.new w4 #[.slice (some ⟨g3, 0, none⟩) nh nh, .slice (some ⟨g4, 0, none⟩) nl nl] 41)
    have V8 := Lib.hid ((newCs v1 v2 SS.out).up ua)
    have u := u4.trans ua
    replace UC := Lib.hid (UC.out.trans u)
    replace B0 := Lib.hid (B0.out.up u)
    replace B1 := Lib.hid (B1.out.up u)
    replace X7 := Lib.hid (X7.out.up u)
    replace V7 := Lib.hid (V7.out.up u)
    clear v1 v2 u4 ua u; obtain ⟨p0, p1, p2⟩ := And.intro X7.out.c0 (And.intro X7.out.c1 X7.out.c2)
    have p3 := X7.out.lt
    go_wp2_with fail
    generalize hb8 : w4.heap.size = b8 at *
    generalize w4.alloc (.cells #[.slice (some ⟨g3, 0, none⟩) nh nh, .slice (some ⟨g4, 0, none⟩) nl nl] 41) = W4 at *
    clear hb8; refine (CI.out _ _ _ _ _ V7.out V8.out).mono ?_; rintro x w5 ⟨rfl, u⟩
    replace UC := Lib.hid (UC.out.trans u)
    replace B0 := Lib.hid (B0.out.up u)
    replace B1 := Lib.hid (B1.out.up u)
    replace X7 := Lib.hid (X7.out.up u)
    replace V7 := Lib.hid (V7.out.up u)
    replace X8 := Lib.hid (X8.out.up u)
    replace V8 := Lib.hid (V8.out.up u)
    clear u p0 p1 p2 p3
    go_wp2_with fail
    have HB := And.intro B0.out.lt (And.intro X7.out.lt (And.intro B0.out.c0 (And.intro B0.out.c1 (And.intro B0.out.c2 (And.intro X7.out.c0 (And.intro X7.out.c1 X7.out.c2))))))
    have HH := Lib.hid HB
    obtain ⟨l0, l1, q0, q1, q2, r0, r1, r2⟩ := HB
    go_region_held3 (fun w' => b0 < w'.heap.size ∧ b7 < w'.heap.size ∧ w'.cell? ⟨b0, 0, none⟩ = some (.slice A n c) ∧ w'.cell? ⟨b0, 1, none⟩ = some (.slice B k d) ∧ w'.cell? ⟨b0, 2, none⟩ = some (.int .i64 til) ∧ w'.cell? ⟨b7, 0, none⟩ = some (.slice (some ⟨g1, 0, none⟩) n n) ∧ w'.cell? ⟨b7, 1, none⟩ = some (.slice (some ⟨g2, 0, none⟩) k k) ∧ w'.cell? ⟨b7, 2, none⟩ = some (.int .i64 til))
      (first | (exact HH.out) | (exact two_ups uF (by assumption)) | (exact two_ups uE (by assumption)))
      (first
        | (go_at_call 14; refine (CT.out _ (UC.out.trans (Up.refl _).drew) SH.out).mono ?_; rintro x wE ⟨gm, gn, rfl, hg5, hg6, o5, o6, uE⟩; have VE := Lib.hid (NewMdl.v o5 o6 hk); clear o5 o6)
        | (go_at_call 17; refine (CE.out _ n n _ k k _ n n _ k k _ (V7.out.up ((Up.refl _).drew.trans uE)) VE.out SH.out.fit).mono ?_; rintro x wF ⟨rfl, uF⟩))
    have u := ((Up.refl w5).drew.trans uE).trans uF
    replace UC := Lib.hid (UC.out.trans u)
    replace B1 := Lib.hid (B1.out.up u)
    replace X8 := Lib.hid (X8.out.up u)
    replace V8 := Lib.hid (V8.out.up u)
    clear u uE uF l0 l1 q0 q1 q2 r0 r1 r2 VE V7 X7 HH B0
    go_wp2_with fail
    have HB : b1 < wF.heap.size ∧ b8 < wF.heap.size ∧ wF.cell? ⟨b1, 0, none⟩ = some (.slice HA nh hc) ∧ wF.cell? ⟨b1, 1, none⟩ = some (.slice LB nl lc) ∧ wF.cell? ⟨b8, 0, none⟩ = some (.slice (some ⟨g3, 0, none⟩) nh nh) ∧ wF.cell? ⟨b8, 1, none⟩ = some (.slice (some ⟨g4, 0, none⟩) nl nl) := And.intro B1.out.lt (And.intro X8.out.lt (And.intro (B1.out.cell (j := 0) rfl) (And.intro (B1.out.cell (j := 1) rfl) (And.intro (X8.out.cell (j := 0) rfl) (X8.out.cell (j := 1) rfl)))))
    have HH := Lib.hid HB
    obtain ⟨l0, l1, q0, q1, r0, r1⟩ := HB
    go_region_held3 (fun w' => b1 < w'.heap.size ∧ b8 < w'.heap.size ∧ w'.cell? ⟨b1, 0, none⟩ = some (.slice HA nh hc) ∧ w'.cell? ⟨b1, 1, none⟩ = some (.slice LB nl lc) ∧ w'.cell? ⟨b8, 0, none⟩ = some (.slice (some ⟨g3, 0, none⟩) nh nh) ∧ w'.cell? ⟨b8, 1, none⟩ = some (.slice (some ⟨g4, 0, none⟩) nl nl))
      (first | (exact blk2_ups (Up.refl _).drew HH.out) | (exact blk2_ups uF (by assumption)) | (exact blk2_ups uE (by assumption)))
      (first
        | (go_at_call 15; refine (CQ.out _ (UC.out.trans (Up.refl _).drew) SS.out).mono ?_; rintro x wE ⟨g7, g8, rfl, v1, v2, uE⟩; have VE := Lib.hid (newCs v1 v2 SS.out); clear v1 v2)
        | (go_at_call 18; refine (CV.out _ _ _ _ _ (V8.out.up ((Up.refl _).drew.trans uE)) VE.out).mono ?_; rintro x wF ⟨rfl, uF⟩))
    have UE := Lib.hid (UC.out.trans (((Up.refl _).drew.trans uE).trans uF))
    clear uE uF l0 l1 q0 q1 r0 r1; go_wp2; go_ret
    exact ⟨rfl, UE.out⟩
end Go.Proofs.Ytklldniapombiaa

namespace Go.Proofs.Ytklldniapombiaa
set_option maxRecDepth 100000
open Go.RowKit
def Rec.c7 (r : Rec) : List Value := [.int .i64 r.ev.t, .int .i64 r.ev.to, .int .i64 r.ev.fr, .int .i64 r.ev.sq, .int .i64 r.ev.kd, .int .i64 r.ev.dt, .int .i64 r.s]
def flat7 : List Rec → List Value
  | [] => []
  | e :: r => e.c7 ++ flat7 r
theorem flat7_len : ∀ es : List Rec, (flat7 es).length = es.length * 7
  | [] => rfl
  | e :: r => by
    rw [flat7, List.length_append, flat7_len r]; simp [Rec.c7]
    omega
theorem flat7_app : ∀ es fs : List Rec, flat7 (es ++ fs) = flat7 es ++ flat7 fs
  | [], _ => rfl
  | e :: r, fs => by rw [List.cons_append, flat7, flat7_app r fs, flat7, List.append_assoc]
theorem flat7_get : ∀ (es : List Rec) (i k : Nat), i < es.length → k < 7 → (flat7 es)[i * 7 + k]? = (es.getD i default).c7[k]?
  | [], i, _, hi, _ => absurd hi (by simp)
  | e :: r, 0, k, _, hk => by
    rw [flat7, Nat.zero_mul, Nat.zero_add, List.getElem?_append_left (by simpa [Rec.c7] using hk)]
    rfl
  | e :: r, i + 1, k, hi, hk => by
    have hl : e.c7.length = 7 := rfl
    rw [flat7, List.getElem?_append_right (by omega), hl, show (i + 1) * 7 + k - 7 = i * 7 + k by omega, flat7_get r i k (by simpa using hi) hk]
    rfl
theorem flat7_one (es : List Rec) : ∀ u ∈ flat7 es, u.oneCell' = true := by
  induction es with
  | nil => intro u hu; cases hu
  | cons e r ih =>
    intro u hu; rw [flat7, List.mem_append] at hu
    rcases hu with hu | hu
    · simp only [Rec.c7, List.mem_cons, List.not_mem_nil, or_false] at hu
      rcases hu with rfl | rfl | rfl | rfl | rfl | rfl | rfl <;> rfl
    · exact ih u hu
theorem own7_recs {w : World} {base e n c : Nat} {A : Option Addr} {es : List Rec} (h : w.ownsRow base e 7 (.slice A n c) n (flat7 es)) : Recs w A n es := by
  have hl : es.length = n := by have := h.1; rw [flat7_len] at this; omega
  refine ⟨hl, fun hn => ?_⟩; obtain ⟨g, cap, hv, _, hlt⟩ := h.form hn
  injection hv with hA _ hcap
  subst hA hcap; refine ⟨g, 0, rfl, hlt, fun i hi => ?_⟩
  have f : ∀ k, k < 7 → w.cell? ⟨g, 0 + i * 7 + k, none⟩ = (es.getD i default).c7[k]? := fun k hk => by
    rw [Nat.zero_add, h.cellAt (i * 7 + k) (by omega), flat7_get es i k (by omega) hk]
  exact ⟨f 0 (by omega), f 1 (by omega), f 2 (by omega), f 3 (by omega), f 4 (by omega), f 5 (by omega), f 6 (by omega)⟩
theorem own7_slice {w : World} {base e n : Nat} {v : Value} {es : List Rec} (h : w.ownsRow base e 7 v n (flat7 es)) : n = es.length ∧ ∃ A c, v = .slice A n c ∧ n ≤ c ∧ c ≤ 9223372036854775807 := by
  have hl : es.length = n := by have := h.1; rw [flat7_len] at this; omega
  refine ⟨hl.symm, ?_⟩
  rcases h.2 with ⟨rfl, rfl⟩ | ⟨g, cap, cur, rfl, _, _, hnc, hm, _⟩
  · exact ⟨none, 0, rfl, Nat.le_refl _, by omega⟩
  · exact ⟨_, cap, rfl, hnc, by unfold maxLen at hm; omega⟩
end Go.Proofs.Ytklldniapombiaa

namespace Go.Proofs.Ytklldniapombiaa
set_option maxRecDepth 100000
open Go.RowKit
theorem RecAt.at7 {w : World} {b o k : Nat} {r : Rec} {u : Value} (h : RecAt w b o r) (hk : k < 7) (hu : r.c7[k]? = some u) : w.cell? ⟨b, o + k, none⟩ = some u := by
  obtain ⟨h0, h1, h2, h3, h4, h5, h6⟩ := h
  have e : k = 0 ∨ k = 1 ∨ k = 2 ∨ k = 3 ∨ k = 4 ∨ k = 5 ∨ k = 6 := by omega
  rcases e with rfl | rfl | rfl | rfl | rfl | rfl | rfl
  · exact h0.trans hu
  · exact h1.trans hu
  · exact h2.trans hu
  · exact h3.trans hu
  · exact h4.trans hu
  · exact h5.trans hu
  · exact h6.trans hu
theorem Recs.reads {w : World} {A : Option Addr} {n : Nat} {es : List Rec} (h : Recs w A n es) : Reads w w.heap.size 7 A n (flat7 es) := by
  refine ⟨by rw [flat7_len, h.1], fun hn => ?_⟩; obtain ⟨b, off, hA, hb, hc⟩ := h.2 hn; refine ⟨_, hA, hb, fun j u hu => ?_⟩
  have hj : j < (flat7 es).length := (List.getElem?_eq_some_iff.1 hu).1
  rw [flat7_len, h.1] at hj
  have e : j = j / 7 * 7 + j % 7 := by omega
  have hi : j / 7 < n := by omega
  rw [e, flat7_get es _ _ (by rw [h.1]; exact hi) (by omega)] at hu
  have := (hc _ hi).at7 (by omega) hu
  have ad : (⟨b, off, none⟩ : Addr).add j = ⟨b, off + j / 7 * 7 + j % 7, none⟩ := by
    unfold Addr.add
    split
    · rename_i h0; subst h0; rfl
    · rw [Nat.add_assoc, ← e]
  rw [ad]
  exact this
/-- The new slice that a function hands back. -/
def NewRc (es : List Rec) (w : World) (x : Ending) (w' : World) : Prop :=
  ∃ A c, x = .returned (.slice A es.length c) ∧ es.length ≤ c ∧ c ≤ 9223372036854775807 ∧ Recs w' A es.length es ∧ w'.ownsRow w.heap.size 180 7 (.slice A es.length c) es.length (flat7 es) ∧ Up w w'
theorem NewRc.of_own {w w' : World} {n : Nat} {v : Value} {es : List Rec} (h : w'.ownsRow w.heap.size 180 7 v n (flat7 es)) (u : Up w w') : NewRc es w (.returned v) w' := by
  obtain ⟨rfl, A, c, rfl, hc, hm⟩ := own7_slice h
  exact ⟨A, c, rfl, hc, hm, own7_recs h, h, u⟩
def GrownRc (w : World) (x : Ending) (w' : World) : Prop := ∃ v, x = .returned v ∧ w'.ownsRow w.heap.size 180 7 v 0 (flat7 []) ∧ Up w w'
theorem zerosR_size (z : Array Value) (n : Nat) : (Builtin.zeroCells z n).size = n * z.size := by simp [Builtin.zeroCells]
set_option maxHeartbeats 4000000 in
theorem growR_any (n : Nat) (w : World) (hn : n ≤ 2000000000) : Calls Try.prog 176 #[.slice none 0 0, .int .i64 n] w (GrownRc w) := by
  obtain ⟨i0, hi0, hz0, hz1, hz2⟩ := info_parts info180
  have INF := Lib.hid (And.intro hi0 (And.intro hz0 (And.intro hz1 hz2)))
  clear hi0 hz0 hz1 hz2
  by_cases h0 : n = 0
  · subst h0
    go_enter Try.func176, Try.ntmps176
    go_wp2; go_ret
    exact ⟨_, rfl, ⟨rfl, .inl ⟨rfl, rfl⟩⟩, Up.refl _⟩
  · have p0 : 0 < n := by omega
    have p1 : (0 : Int) < n := by omega
    have p2 : ¬ (n : Int) < 0 := by omega
    have h48 : n * i0.bytes ≤ 281474976710656 := by rw [INF.out.2.2.2]; omega
    have RUN := Lib.hid (fun ty W => Lib.run_append_nil_zeros (P := Try.prog) W 60 3 ty 180 i0 _ .i64 .i64 Try.underlying60 Try.underlying3 INF.out.1 INF.out.2.1 n p0 (by rw [INF.out.2.2.1]; omega) (by omega) h48)
    clear h48
    go_enter Try.func176, Try.ntmps176
    go_wp2_with (at_builtin; refine Lib.wpList_append_run _ rfl (.tmp 20) (.tmp 21) 60 3 rfl _ _ rfl rfl _ _ (RUN.out _ _) ?_)
    go_ret; refine ⟨_, rfl, ⟨rfl, .inr ⟨w.heap.size, grownCap w n 0 180, _, rfl, Nat.le_refl _, heap_alloc_new w.drew _, Nat.zero_le _, grownCap_le_maxLen _ _ _ _ (by simp only [maxLen]; omega), ?_, rfl⟩⟩, (Up.refl w).drew.alloc _⟩
    have := grownCap_ge w n 0 180
    rw [Array.size_append, zerosR_size, zerosR_size]; simp
    omega
/-- The block b holds one slice for each list. -/
def PartsR (w : World) (b : Nat) (L : List (List Rec)) : Prop :=
  ∀ j, j < L.length → ∃ A c, w.cell? ⟨b, j, none⟩ = some (.slice A (L.getD j []).length c) ∧ Recs w A (L.getD j []).length (L.getD j [])
theorem flatR_step (L : List (List Rec)) (k : Nat) (h : k < L.length) : (L.take (k + 1)).flatten = (L.take k).flatten ++ L.getD k [] := by
  rw [List.take_succ_eq_append_getElem h, List.flatten_append]; simp [h]
theorem flatR_le (L : List (List Rec)) (k : Nat) : (L.take k).flatten.length ≤ L.flatten.length := by
  have : L.flatten = (L.take k).flatten ++ (L.drop k).flatten := by rw [← List.flatten_append, List.take_append_drop]
  rw [this, List.length_append]
  omega
theorem flatR_end (L : List (List Rec)) (k : Nat) (h : L.length ≤ k) : (L.take k).flatten = L.flatten := by rw [List.take_of_length_le h]
set_option maxHeartbeats 4000000 in
theorem concatR_any (b cap : Nat) (L : List (List Rec)) (w : World) (hL : L.length ≤ 1000000) (hb : b < w.heap.size) (hP : PartsR w b L) (hT : L.flatten.length ≤ 1000000000) :
    Calls Try.prog 147 #[.slice (some ⟨b, 0, none⟩) L.length cap] w (NewRc L.flatten w) := by
  obtain ⟨i0, hi0, hz0, hz1, hz2⟩ := info_parts info180
  have INF := Lib.hid (And.intro hi0 (And.intro hz0 (And.intro hz1 hz2)))
  have SIX := Lib.hid (show 0 < 7 by omega)
  have HP := Lib.hid hP
  have FS := Lib.hid (flatR_step L)
  have FL := Lib.hid (flatR_le L)
  have FE := Lib.hid (flatR_end L)
  have HT := Lib.hid hT
  clear hi0 hz0 hz1 hz2 hP hT
  go_enter Try.func147, Try.ntmps147
  go_wp2
  go_loopw [3, 11] (fun s i wr => (∃ k : Nat, k ≤ L.length ∧ i = .int .i64 k ∧ s = .int .i64 ((L.take k).flatten.length : Nat)) ∧ Up w wr) (fun _ i _ => L.length - (intOf i).toNat)
  case atStart => exact ⟨⟨0, by omega, rfl, rfl⟩, Up.refl _⟩
  case round =>
    obtain ⟨⟨k, hk, rfl, rfl⟩, ur⟩ := hrel
    by_cases hlt : k < L.length
    · obtain ⟨A, c, hcell, _⟩ := HP.out k hlt
      have cell' := (ur.cells b k hb).trans hcell
      clear hcell
      have st := congrArg List.length (FS.out k hlt)
      rw [List.length_append] at st
      have le := FL.out (k + 1)
      have ht := HT.out
      generalize (L.getD k []).length = m at st cell'
      generalize hs2 : (L.take (k + 1)).flatten.length = s2 at st le
      have HS2 := Lib.hid hs2
      clear hs2
      generalize (L.take k).flatten.length = s at st
      have ST := Lib.hid st
      have sm : s + m ≤ 1000000000 := by omega
      clear st le ht
      have i3 : (k : Int) < L.length := by omega
      have i4 : IntKind.i64.wrap ((s : Int) + m) = (s : Int) + m := IntWalk.i64_in _ (by omega)
      have i5 : ¬ (s : Int) + m < 0 := by omega
      have hb' : b < wr.heap.size := by have := ur.size; omega
      go_wp2
      go_roundw
      case rel => exact ⟨⟨k + 1, by omega, by go_num, by rw [HS2.out, ST.out]; simp⟩, ur⟩
      case measure => simp [intOf]; omega
    · have i3 : ¬ (k : Int) < L.length := by omega
      rw [FE.out k (by omega)]
      have ht := HT.out
      generalize hN : L.flatten.length = N at ht
      have HN := Lib.hid hN
      clear hN
      go_wp2_with fail
      refine (growR_any N _ (by omega)).mono ?_; rintro x w1 ⟨v1, rfl, o1, u1⟩
      have O1 := Lib.hid (own_mono o1 ur.size)
      have U1 := Lib.hid (ur.trans u1)
      clear o1 u1 ur i3 hk ht
      go_wp2_with fail
      go_loopw [6, 27] (fun v i wr => (∃ k : Nat, k ≤ L.length ∧ i = .int .i64 k ∧ wr.ownsRow w.heap.size 180 7 v (L.take k).flatten.length (flat7 (L.take k).flatten)) ∧ Up w wr) (fun _ i _ => L.length - (intOf i).toNat)
      case atStart => exact ⟨⟨0, by omega, rfl, O1.out⟩, U1.out⟩
      case round =>
        obtain ⟨⟨k, hk, rfl, ho⟩, ur⟩ := hrel
        have HO := Lib.hid ho
        clear ho U1
        by_cases hlt : k < L.length
        · obtain ⟨A, c, hcell, hev⟩ := HP.out k hlt
          have cell' := (ur.cells b k hb).trans hcell
          have RD := Lib.hid (hev.up ur).reads
          clear hcell hev
          have fk := FS.out k hlt
          have st := congrArg List.length (FS.out k hlt)
          rw [List.length_append] at st
          generalize L.getD k [] = es at cell' RD fk st
          have FK := Lib.hid fk
          clear fk
          have ht := HT.out
          have le := FL.out (k + 1)
          have HMX := Lib.hid (show (L.take k).flatten.length + es.length ≤ maxLen by simp only [maxLen]; omega)
          have HBY := Lib.hid (show ((L.take k).flatten.length + es.length) * 56 ≤ 140737488355328 by omega)
          have HBS := Lib.hid ur.size
          have ST := Lib.hid st
          clear st ht le
          have i3 : (k : Int) < L.length := by omega
          have hb' : b < wr.heap.size := by have := HBS.out; omega
          go_wp2_with (at_builtin; refine wpList_append_any _ rfl (.tmp 31) (.tmp 32) 60 rfl w.heap.size 180 i0 _ 7 56 Try.underlying60 INF.out.1 INF.out.2.1 INF.out.2.2.1 INF.out.2.2.2 rfl SIX.out _ _ _ rfl HO.out _ _ _ _ (flat7 es) rfl RD.out (flat7_one _) HMX.out HBY.out HBS.out ?_; intro v2 w2 ho2 hg2 _)
          have HO2 := Lib.hid ho2
          have HG2 := Lib.hid hg2
          clear ho2 hg2
          go_roundw
          case rel => exact ⟨⟨k + 1, by omega, by go_num, by rw [FK.out, flat7_app, List.length_append]; exact HO2.out⟩, ur.grown HG2.out (fun j hj => (HO.out.lt j hj).1)⟩
          case measure => simp [intOf]; omega
        · have i3 : ¬ (k : Int) < L.length := by omega
          have HO2 := Lib.hid (show wr.ownsRow w.heap.size 180 7 _ L.flatten.length (flat7 L.flatten) from FE.out k (by omega) ▸ HO.out)
          go_wp2; go_ret
          exact NewRc.of_own HO2.out ur
end Go.Proofs.Ytklldniapombiaa

namespace Go.Proofs.Ytklldniapombiaa
set_option maxRecDepth 100000
open Go.RowKit
/-- A host's two slices. -/
structure Hd where
  A : Option Addr
  n : Nat
  c : Nat
  B : Option Addr
  k : Nat
  d : Nat
section
variable {lo g n : Nat} {hd : Nat → Hd} {a w w' : World}
end
end Go.Proofs.Ytklldniapombiaa

namespace Go.Proofs.Ytklldniapombiaa
set_option maxRecDepth 100000
open Go.RowKit
theorem own_keep {w w' : World} {b e size n : Nat} {v : Value} {xs : List Value} (h : w.ownsRow b e size v n xs) (k : ∀ g, v.ownBlock = some g → g < w.heap.size → w'.heap[g]? = w.heap[g]?) : w'.ownsRow b e size v n xs := by
  refine ⟨h.1, ?_⟩
  rcases h.2 with h0 | ⟨g, cap, cur, rfl, hg, hb, hr⟩
  · exact .inl h0
  · exact .inr ⟨g, cap, cur, rfl, hg, (k g rfl (Array.getElem?_eq_some_iff.1 hb).1).trans hb, hr⟩
/-- A row and a block of another kind lie apart. -/
theorem own_off {w : World} {b e size n p : Nat} {v : Value} {xs : List Value} {cur : Array Value} {e' : Nat} {fz : Nat × Nat} (h : w.ownsRow b e size v n xs) (hp : w.heap[p]? = some (.cells cur e' fz)) (he : e ≠ e') : ∀ g, v.ownBlock = some g → g ≠ p := fun g h1 h2 => by
  subst h2
  rcases h.2 with ⟨rfl, _⟩ | ⟨g1, cap, cur', rfl, _, hb, _⟩
  · cases h1
  injection h1 with h1
  have h1 : g1 = g := h1
  subst h1; rw [hb] at hp
  injection hp with hp
  injection hp with _ hp _
  exact he hp
end Go.Proofs.Ytklldniapombiaa

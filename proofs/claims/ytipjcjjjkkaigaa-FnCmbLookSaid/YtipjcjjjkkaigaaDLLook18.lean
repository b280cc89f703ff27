/-
  What spec.CmbLook gives, in one sentence: the least delay of the first component's sends to the second, but at most the end and one, and -1 for a model that is none or a component that does not exist; for every model that lies in memory.
  What a component sends, in one sentence: valid events from it, later, not behind the end, with rising numbers from its own on; for every list of valid sends.
  The least delay, in one sentence: it is at most every delay of a send to the component, it is one of them or the bound, and what a component sends comes later by a delay; no condition.
  What l20Cmp gives, in one sentence: a component state of three small numbers, and the reader some steps further; for every reader.
-/
import Derived.Test.YtipjcjjjkkaigaaDLLook06
import Derived.Test.YtipjcjjjkkaigaaDLLook08
import Derived.Test.YtipjcjjjkkaigaaDLLook09
import Derived.Test.YtipjcjjjkkaigaaDLLook14
import Derived.Test.YtipjcjjjkkaigaaDLLook15
import Derived.Test.YtipjcjjjkkaigaaDLLook17
namespace Go.Proofs.Ytipjcjjjkkaigaa
set_option maxRecDepth 100000
open Go.RowKit
set_option maxHeartbeats 4000000 in
theorem l9Look_any (A : Option Addr) (n c : Nat) (B : Option Addr) (k d : Nat) (m : Mdl) (fr to : Int) (w : World) (hM : MdlV w A n B k m) (hm : mdlB m = true) (h0 : 0 ≤ fr) (h1 : fr < m.rules.length) :
    Calls Try.prog 68 #[.agg #[.slice A n c, .slice B k d, .int .i64 m.til], .int .i64 fr, .int .i64 to] w fun x w' => x = .returned (.int .i64 (lkR to (m.til + 1) (m.rules.getD fr.toNat []))) ∧ Up w w' := by
  have few := mdlB_few hm
  have TL := mdlB_til hm
  have hRB := mdlB_row hm fr.toNat (by omega)
  have hLN := hM.rules.1
  obtain ⟨b, off, hA, hb, hc⟩ := hM.rules.2.2 (by omega); subst hA; obtain ⟨A', n', c', cell, hrs⟩ := hc fr.toNat (by omega)
  have HRS := Lib.hid hrs
  have hn3 : n' ≤ 3 := by
    have h := rulesB_len hRB (by omega) (by omega)
    have := hrs.1
    omega
  have TG := Lib.hid (show lkR to (m.til + 1) ((m.rules.getD fr.toNat []).drop 0) = lkR to (m.til + 1) (m.rules.getD fr.toNat []) from rfl)
  have LR := Lib.hid hrs.1
  have CELL := Lib.hid (show w.cell? ⟨b, off + fr.toNat, none⟩ = some (.slice A' n' c') from cell)
  have BLT := Lib.hid hb
  have hfr : fr < n := by omega
  clear hc cell hrs hM few
  generalize m.rules.getD fr.toNat [] = rs at TG LR HRS hRB ⊢
  generalize lkR to (m.til + 1) rs = R at TG ⊢
  clear hm hRB
  generalize m.til = til at *
  obtain ⟨q_, hq_⟩ := Int.eq_ofNat_of_zero_le h0; subst hq_; rw [Int.toNat_natCast] at CELL; clear hLN h1
  have X2 := Lib.hid (Box3.new w (.slice (some ⟨b, off, none⟩) n c) (.slice B k d) (.int .i64 til) 38)
  have U0 := Lib.hid ((Up.refl w).alloc (.cells #[.slice (some ⟨b, off, none⟩) n c, .slice B k d, .int .i64 til] 38))
  have hb' : b < w.heap.size := BLT.out
  have i1 : IntKind.i64.wrap (til + 1) = til + 1 := IntWalk.i64_in _ (by omega)
  have j0 : ¬ (q_ : Int) < 0 := by omega
  obtain ⟨q0, q1, q2⟩ := And.intro X2.out.c0 (And.intro X2.out.c1 X2.out.c2)
  have lt2_ := X2.out.lt
  go_enter Try.func68, Try.ntmps68
  go_wp2; clear q0 q1 q2 lt2_
  have W0 := U0
  go_loopw [7, 8] (fun l i wr => (∃ (q : Nat) (z : Int), q ≤ n' ∧ i = .int .i64 q ∧ l = .int .i64 z ∧ Hid (lkR to z (rs.drop q) = R)) ∧ Up (w.alloc (.cells #[.slice (some ⟨b, off, none⟩) n c, .slice B k d, .int .i64 til] 38)) wr) (fun _ i _ => n' - (intOf i).toNat)
  case atStart => exact ⟨⟨0, til + 1, by omega, rfl, rfl, TG⟩, Up.refl _⟩
  case round =>
    obtain ⟨⟨q, z, hq, rfl, rfl, HT⟩, ur⟩ := hrel; obtain ⟨wo, hwo⟩ : ∃ W, W = wr := ⟨_, rfl⟩; subst hwo
    have UR := Lib.hid (U0.out.trans ur)
    have UR0 := Lib.hid ur
    have x2 := X2.out.up ur
    obtain ⟨q0, q1, q2⟩ := And.intro x2.c0 (And.intro x2.c1 x2.c2)
    have lt2_ := x2.lt
    have X3 := Lib.hid x2
    have cell := (UR.out.cells _ _ BLT.out).trans CELL.out
    have hbr : b < wo.heap.size := by have := UR.out.size; omega
    clear ur x2
    by_cases hlt : q < n'
    · obtain ⟨b2, off2, hA2, hb2, hc2⟩ := (HRS.out.up UR.out).2.2 (by omega)
      subst hA2
      have at2 := hc2 q hlt
      have DR := Lib.hid (lkR_drop to z rs q (by rw [LR.out]; exact hlt))
      clear hc2
      generalize rs.getD q default = r at at2 DR
      obtain ⟨kd, ra, rb, rc, ss⟩ := r; obtain ⟨A3, n3, c3, ⟨r0, r1, r2, r3, r4⟩, hn3', he3⟩ := at2; dsimp only at r0 r1 r2 r3 r4 DR he3
      have HE := Lib.hid he3
      have R4 := Lib.hid r4
      have i4 : (q : Int) < n' := by omega
      have ST := Lib.hid (show lkR to (lkS to z ss) (rs.drop (q + 1)) = R by rw [← HT.out, DR.out])
      have H0 := Lib.hid (show lkS to z (ss.drop 0) = lkS to z ss from rfl)
      generalize lkS to z ss = S at ST H0
      clear he3 HT DR; go_wp2; clear q0 q1 q2 lt2_ r0 r1 r2 r3 r4
      go_loopw [7, 9] (fun l i wj => (∃ (p : Nat) (y : Int), p ≤ n3 ∧ i = .int .i64 p ∧ l = .int .i64 y ∧ Hid (lkS to y (ss.drop p) = S)) ∧ Up wo wj) (fun _ i _ => n3 - (intOf i).toNat)
      case atStart => exact ⟨⟨0, z, by omega, rfl, rfl, H0⟩, Up.refl _⟩
      case round =>
        obtain ⟨⟨p, y, hp, rfl, rfl, HY⟩, uj⟩ := hrel
        have UJ := Lib.hid uj
        have ee := HE.out.up uj
        have x4 := X3.out.up uj
        obtain ⟨q0, q1, q2⟩ := And.intro x4.c0 (And.intro x4.c1 x4.c2)
        have lt2_ := x4.lt
        have cell2 := (uj.cells _ _ hbr).trans cell
        have r4 := (uj.cells _ _ hb2).trans R4.out
        have hbj : b < wr.heap.size := by have := uj.size; omega
        have hb2j : b2 < wr.heap.size := by have := uj.size; omega
        clear uj x4
        by_cases hlp : p < n3
        · obtain ⟨b3, off3, hA3, hb3, hc3⟩ := ee.2 (by omega)
          subst hA3
          have a0 := hc3 p hlp
          have DR := Lib.hid (lkS_drop to y ss p (by rw [ee.1]; exact hlp))
          clear hc3 ee
          generalize ss.getD p default = e at a0 DR
          obtain ⟨et, eto, efr, esq, ekd, edt⟩ := e; unfold EvAt at a0; dsimp only at a0 DR; obtain ⟨p0, p1, p2, p3, p4, p5⟩ := a0
          have i5 : (p : Int) < n3 := by omega
          have i6 : IntKind.i64.wrap ((p : Int) + 1) = (p : Int) + 1 := IntWalk.i64_in _ (by omega)
          have UX := Lib.hid (UJ.out.alloc (.cells #[.int .i64 et, .int .i64 eto, .int .i64 efr, .int .i64 esq, .int .i64 ekd, .int .i64 edt] 72))
          by_cases hto : et = to
          · have HZ := Lib.hid (show lkS to (min y eto) (ss.drop (p + 1)) = S by rw [← HY.out, DR.out, if_pos hto])
            subst hto
            by_cases hmin : y ≤ eto
            · rw [show min y eto = y by omega] at HZ
              go_wp2
              go_roundw
              case rel => exact ⟨⟨p + 1, y, by omega, by go_num, rfl, HZ⟩, UX.out⟩
              case measure => simp [intOf]; omega
            · rw [show min y eto = eto by omega] at HZ
              go_wp2
              go_roundw
              case rel => exact ⟨⟨p + 1, eto, by omega, by go_num, by rw [if_pos (by omega)], HZ⟩, UX.out⟩
              case measure => simp [intOf]; omega
          · have HZ := Lib.hid (show lkS to y (ss.drop (p + 1)) = S by rw [← HY.out, DR.out, if_neg hto])
            go_wp2
            go_roundw
            case rel => exact ⟨⟨p + 1, y, by omega, by go_num, rfl, HZ⟩, UX.out⟩
            case measure => simp [intOf]; omega
        · have EN := lkS_end to y ss p (by rw [ee.1]; omega)
          rw [HY.out] at EN; subst EN
          have i5 : ¬ (p : Int) < n3 := by omega
          have i6 : IntKind.i64.wrap ((q : Int) + 1) = (q : Int) + 1 := IntWalk.i64_in _ (by omega)
          go_wp2
          go_roundw
          case rel => exact ⟨⟨q + 1, S, by omega, by go_num, rfl, ST⟩, UR0.out.trans UJ.out⟩
          case measure => simp [intOf]; omega
    · have EN := lkR_end to z rs q (by rw [LR.out]; omega)
      rw [HT.out] at EN; subst EN
      have i4 : ¬ (q : Int) < n' := by omega
      go_wp2; go_ret
      exact ⟨rfl, UR.out⟩
theorem l1In_upL (v lo hi : Int) (W : World) : Calls Try.prog 41 #[.int .i64 v, .int .i64 lo, .int .i64 hi] W fun x w' => x = .returned (.bool (inB v lo hi)) ∧ w' = W :=
  (l1In_any v lo hi W).mono (by rintro x w' ⟨rfl, rfl⟩; exact ⟨rfl, rfl⟩)
set_option maxHeartbeats 4000000 in
theorem specLook_any (A : Option Addr) (n c : Nat) (B : Option Addr) (k d : Nat) (m : Mdl) (fr to : Int) (w : World) (h : MdlV w A n B k m) :
    Calls Try.prog 24 #[.agg #[.slice A n c, .slice B k d, .int .i64 m.til], .int .i64 fr, .int .i64 to] w fun x w' => x = .returned (.int .i64 (lookV m fr to)) ∧ Up w w' := by
  have CM := Lib.hid (fun W (u : Up w W) => specMdl_any A n c B k d m W (h.up u))
  have CK := Lib.hid (fun W (u : Up w W) hm h0 h1 => l9Look_any A n c B k d m fr to W (h.up u) hm h0 h1)
  have FEW := Lib.hid (fun hm => mdlB_few (m := m) hm)
  have NL := Lib.hid h.rules.1
  have X2 := Lib.hid (Box3.new w (.slice A n c) (.slice B k d) (.int .i64 m.til) 38)
  have U0 := Lib.hid ((Up.refl w).alloc (.cells #[.slice A n c, .slice B k d, .int .i64 m.til] 38))
  have LV := Lib.hid (show lookV m fr to = if mdlB m && inB fr 0 ((n : Int) - 1) && inB to 0 ((n : Int) - 1) then lkR to (m.til + 1) (m.rules.getD fr.toNat []) else -1 by rw [← NL.out]; rfl)
  rw [NL.out] at CK FEW; clear h NL
  generalize mdlB m = bm at CM CK FEW LV
  go_enter Try.func24, Try.ntmps24
  go_wp2_with fail
  refine (CM.out _ U0.out).mono ?_; rintro x w1 ⟨rfl, u1⟩
  have U1 := Lib.hid (U0.out.trans u1)
  have x2 := X2.out.up u1
  clear u1 CM
  cases bm
  · go_wp2
    go_ret
    exact ⟨congrArg (fun z => Ending.returned (.int .i64 z)) LV.out.symm, U1.out⟩
  · have few := FEW.out rfl
    obtain ⟨q0, q1, q2⟩ := And.intro x2.c0 (And.intro x2.c1 x2.c2)
    have lt2_ := x2.lt
    have IN := Lib.hid (inB_iff (n := fr) (lo := 0) (hi := (n : Int) - 1))
    have CF := Lib.hid (fun W => l1In_upL fr 0 ((n : Int) - 1) W)
    have CT := Lib.hid (fun W => l1In_upL to 0 ((n : Int) - 1) W)
    have i1 : IntKind.i64.wrap ((n : Int) - 1) = (n : Int) - 1 := IntWalk.i64_in _ (by omega)
    generalize inB to 0 ((n : Int) - 1) = b2 at LV CT
    generalize inB fr 0 ((n : Int) - 1) = b1 at LV CF IN
    generalize hR : lkR to (m.til + 1) (m.rules.getD fr.toNat []) = R at LV CK
    cases b1
    · go_wp2_with fail
      refine (CF.out _).mono ?_; rintro x w2 ⟨rfl, rfl⟩; go_wp2; go_ret
      exact ⟨congrArg (fun z => Ending.returned (.int .i64 z)) LV.out.symm, U1.out⟩
    · have INF := Lib.hid (IN.out.1 rfl)
      cases b2
      · go_wp2_with fail
        refine (CF.out _).mono ?_; rintro x w2 ⟨rfl, rfl⟩
        go_wp2_with fail
        refine (CT.out _).mono ?_; rintro x w2 ⟨rfl, rfl⟩; go_wp2; go_ret
        exact ⟨congrArg (fun z => Ending.returned (.int .i64 z)) LV.out.symm, U1.out⟩
      · go_wp2_with fail
        refine (CF.out _).mono ?_; rintro x w2 ⟨rfl, rfl⟩
        go_wp2_with fail
        refine (CT.out _).mono ?_; rintro x w2 ⟨rfl, rfl⟩
        go_wp2_with fail
        refine (CK.out _ U1.out trivial (by have := INF.out; omega) (by have := INF.out; omega)).mono ?_; rintro x w2 ⟨rfl, u2⟩; go_wp2; go_ret
        exact ⟨congrArg (fun z => Ending.returned (.int .i64 z)) LV.out.symm, U1.out.trans u2⟩
end Go.Proofs.Ytipjcjjjkkaigaa

namespace Go.Proofs.Ytipjcjjjkkaigaa
set_option maxRecDepth 100000
open Go.RowKit
/-- One event that is sent. -/
structure SentF (til many : Int) (e : Evt) (lo hi : Int) (x : Evt) : Prop where
  sq : lo ≤ x.sq ∧ x.sq < hi
  fr : x.fr = e.to
  t : e.t < x.t ∧ x.t ≤ til
  to_ : 0 ≤ x.to ∧ x.to < many
  kd : 0 ≤ x.kd ∧ x.kd ≤ 2
  dt : 0 ≤ x.dt ∧ x.dt ≤ 96
structure SendsF (til many : Int) (e : Evt) (q q' : Int) (n : Nat) (L : List Evt) : Prop where
  len : q + L.length ≤ q'
  top : q' ≤ 12
  few : q' ≤ q + n
  each : ∀ i, i < L.length → SentF til many e (q + i) q' (L.getD i default)
  rise : ∀ i j, j < i → i < L.length → (L.getD j default).sq < (L.getD i default).sq
theorem sendsE_facts (til s many : Int) (e : Evt) : ∀ (xs : List Evt) (q : Int), (∀ x ∈ xs, sndB x many = true) → 0 ≤ q → q ≤ 12 → SendsF til many e q (sendsE til s e xs q).2 xs.length (sendsE til s e xs q).1
  | [], q, _, _, h1 => by
    simp only [sendsE]
    exact ⟨by simp, h1, by simp, fun i hi => by simp at hi, fun i j _ hi => by simp at hi⟩
  | x :: xs, q, hx, h0, h1 => by
    have hb := hx x List.mem_cons_self
    have hr : ∀ y ∈ xs, sndB y many = true := fun y hy => hx y (List.mem_cons_of_mem _ hy)
    unfold sndB at hb; simp only [Bool.and_eq_true, inB_iff] at hb; rw [sendsE]
    by_cases hs : s % x.kd ≠ x.dt ∨ q = 12
    · rw [if_pos hs]
      have ih := sendsE_facts til s many e xs q hr h0 h1
      exact ⟨ih.len, ih.top, by have := ih.few; rw [List.length_cons]; omega, ih.each, ih.rise⟩
    · rw [if_neg hs]
      have hq : q ≠ 12 := fun h => hs (.inr h)
      have ih := sendsE_facts til s many e xs (q + 1) hr (by omega) (by omega)
      by_cases ht : e.t + x.to ≤ til
      · rw [if_pos ht]
        have hl := ih.len
        refine ⟨by rw [List.length_cons]; dsimp only; omega, ih.top, by have := ih.few; rw [List.length_cons]; dsimp only; omega, fun i hi => ?_, fun i j hji hi => ?_⟩
        · cases i with
          | zero =>
            have hz : SentF til many e (q + ((0 : Nat) : Int)) (sendsE til s e xs (q + 1)).2 ⟨e.t + x.to, x.t, e.to, q, x.fr, (s + x.sq) % 97⟩ :=
              ⟨⟨by dsimp only; omega, by dsimp only; omega⟩, rfl, ⟨by dsimp only; omega, ht⟩, ⟨by dsimp only; omega, by dsimp only; omega⟩, ⟨by dsimp only; omega, by dsimp only; omega⟩, ⟨by dsimp only; omega, by dsimp only; omega⟩⟩
            exact hz
          | succ i =>
            have h := ih.each i (by simpa using hi)
            exact ⟨⟨by have := h.sq.1; rw [List.getD_cons_succ]; omega, h.sq.2⟩, h.fr, h.t, h.to_, h.kd, h.dt⟩
        · cases i with
          | zero => omega
          | succ i =>
            have hi' : i < (sendsE til s e xs (q + 1)).1.length := by simpa using hi
            cases j with
            | zero =>
              have h := (ih.each i hi').sq.1
              rw [List.getD_cons_succ, List.getD_cons_zero]; dsimp only
              omega
            | succ j => exact ih.rise i j (by omega) hi'
      · rw [if_neg ht]
        exact ⟨by have := ih.len; omega, ih.top, by have := ih.few; rw [List.length_cons]; omega, fun i hi => by
          have h := ih.each i hi
          exact ⟨⟨by have := h.sq.1; omega, h.sq.2⟩, h.fr, h.t, h.to_, h.kd, h.dt⟩, ih.rise⟩
end Go.Proofs.Ytipjcjjjkkaigaa

namespace Go.Proofs.Ytipjcjjjkkaigaa
set_option maxRecDepth 100000
open Go.RowKit
theorem lkS_each (to : Int) : ∀ (es : List Evt) (l : Int) (x : Evt), x ∈ es → x.t = to → lkS to l es ≤ x.to
  | [], _, _, h, _ => absurd h (by simp)
  | s :: ss, l, x, h, hx => by
    rw [lkS]
    rcases List.mem_cons.1 h with rfl | h
    · rw [if_pos hx]
      have := lkS_le to ss (min l x.to)
      omega
    · exact lkS_each to ss _ x h hx
theorem lkR_each (to : Int) : ∀ (rs : List Rule) (l : Int) (r : Rule) (x : Evt), r ∈ rs → x ∈ r.sends → x.t = to → lkR to l rs ≤ x.to
  | [], _, _, _, h, _, _ => absurd h (by simp)
  | s :: ss, l, r, x, h, hs, hx => by
    rw [lkR]
    rcases List.mem_cons.1 h with rfl | h
    · have := lkR_le to ss (lkS to l r.sends)
      have := lkS_each to r.sends l x hs hx
      omega
    · exact lkR_each to ss _ r x h hs hx
theorem lkS_low {many : Int} (to : Int) : ∀ (es : List Evt) (l : Int), (∀ x ∈ es, sndB x many = true) → 1 ≤ l → 1 ≤ lkS to l es
  | [], l, _, h => by rw [lkS]; exact h
  | s :: ss, l, hs, h => by
    rw [lkS]
    have hb := hs s List.mem_cons_self
    unfold sndB at hb; simp only [Bool.and_eq_true, inB_iff] at hb; refine lkS_low to ss _ (fun x hx => hs x (List.mem_cons_of_mem _ hx)) ?_
    split <;> omega
theorem lkR_low {many : Int} (to : Int) : ∀ (bf : Int) (rs : List Rule) (l : Int), rulesB many bf rs = true → 1 ≤ l → 1 ≤ lkR to l rs
  | _, [], l, _, h => by rw [lkR]; exact h
  | bf, r :: rs, l, hr, h => by
    rw [lkR]; rw [rulesB, Bool.and_eq_true, Bool.and_eq_true] at hr
    have k2 := hr.1.2
    simp only [ruleB, Bool.and_eq_true, List.all_eq_true] at k2
    exact lkR_low to r.kd rs _ hr.2 (lkS_low (many := many) to r.sends l k2.1.1.1.1.1 h)
/-- What is sent comes from a send. -/
theorem sendsE_from (til s : Int) (e : Evt) : ∀ (xs : List Evt) (q : Int) (y : Evt), y ∈ (sendsE til s e xs q).1 → ∃ x ∈ xs, y.to = x.t ∧ y.t = e.t + x.to
  | [], _, _, h => by simp [sendsE] at h
  | x :: xs, q, y, h => by
    rw [sendsE] at h
    split at h
    · obtain ⟨z, h1, h2⟩ := sendsE_from til s e xs q y h
      exact ⟨z, List.mem_cons_of_mem _ h1, h2⟩
    · split at h
      · rcases List.mem_cons.1 h with rfl | h
        · exact ⟨x, List.mem_cons_self, rfl, rfl⟩
        · obtain ⟨z, h1, h2⟩ := sendsE_from til s e xs (q + 1) y h
          exact ⟨z, List.mem_cons_of_mem _ h1, h2⟩
      · obtain ⟨z, h1, h2⟩ := sendsE_from til s e xs (q + 1) y h
        exact ⟨z, List.mem_cons_of_mem _ h1, h2⟩
end Go.Proofs.Ytipjcjjjkkaigaa

namespace Go.Proofs.Ytipjcjjjkkaigaa
set_option maxRecDepth 100000
open Go.RowKit
def IsPtr (g : Nat) (v : Value) (_ : World) : Prop := v = .pointer (some ⟨g, 0, none⟩)
def IsN (lo hi : Int) (v : Value) (_ : World) : Prop := ∃ z : Int, v = .int .i64 z ∧ lo ≤ z ∧ z ≤ hi
/-- A new slice of two small numbers. -/
def IsTwo (g B : Nat) (v : Value) (w : World) : Prop :=
  ∃ (b : Nat) (x y : Int), v = .slice (some ⟨b, 0, none⟩) 2 2 ∧ b ≠ g ∧ B ≤ b ∧ b < w.heap.size ∧ w.cell? ⟨b, 0, none⟩ = some (.int .i64 x) ∧ w.cell? ⟨b, 1, none⟩ = some (.int .i64 y) ∧ (-1000000 ≤ x ∧ x ≤ 1000000) ∧ (-1000000 ≤ y ∧ y ≤ 1000000)
/-- The place of one. -/
def IsCell (g : Nat) (v : Value) (w : World) : Prop :=
  ∃ (b j : Nat) (x : Int), v = .pointer (some ⟨b, j, none⟩) ∧ b ≠ g ∧ b < w.heap.size ∧ w.cell? ⟨b, j, none⟩ = some (.int .i64 x) ∧ -1000000 ≤ x ∧ x ≤ 1000000
def IsCst (v : Value) (_ : World) : Prop := ∃ x y z : Int, v = .agg #[.int .i64 x, .int .i64 y, .int .i64 z] ∧ (-1000000 ≤ x ∧ x ≤ 1000000) ∧ (-1000000 ≤ y ∧ y ≤ 1000000) ∧ (-1000000 ≤ z ∧ z ≤ 1000000)
/-- A new block of three numbers. -/
def IsNew3 (g B : Nat) (v : Value) (w : World) : Prop :=
  ∃ b : Nat, v = .pointer (some ⟨b, 0, none⟩) ∧ b ≠ g ∧ B ≤ b ∧ b < w.heap.size ∧ (∀ j, j < 3 → ∃ u, w.cell? ⟨b, j, none⟩ = some u) ∧ ∀ j, w.frozen? ⟨b, j, none⟩ = false
theorem IsTwo.mv {g B : Nat} {v : Value} {w w' : World} (h : IsTwo g B v w) (m : Mv g w w') : IsTwo g B v w' := by
  obtain ⟨b, x, y, hv, h1, h2, h3, h4, h5, h6, h7⟩ := h
  exact ⟨b, x, y, hv, h1, h2, Nat.lt_of_lt_of_le h3 m.size, (m.cells _ _ h3 h1).trans h4, (m.cells _ _ h3 h1).trans h5, h6, h7⟩
theorem IsCell.mv {g : Nat} {v : Value} {w w' : World} (h : IsCell g v w) (m : Mv g w w') : IsCell g v w' := by
  obtain ⟨b, j, x, hv, h1, h2, h3, h4⟩ := h
  exact ⟨b, j, x, hv, h1, Nat.lt_of_lt_of_le h2 m.size, (m.cells _ _ h2 h1).trans h3, h4⟩
theorem IsNew3.mv {g B : Nat} {v : Value} {w w' : World} (h : IsNew3 g B v w) (m : Mv g w w') : IsNew3 g B v w' := by
  obtain ⟨b, hv, h1, h2, h3, h4, h5⟩ := h
  exact ⟨b, hv, h1, h2, Nat.lt_of_lt_of_le h3 m.size, fun j hj => by obtain ⟨u, hu⟩ := h4 j hj; exact ⟨u, (m.cells _ _ h3 h1).trans hu⟩, fun j => (m.frozens _ _ h3 h1).trans (h5 j)⟩
/-- The reader within its bound, with so many operations to go. -/
def Left (g B : Nat) (w0 : World) (k : Nat) (w : World) : Prop := (∃ N, N + k ≤ B ∧ Rd w g N) ∧ Mv g w0 w
theorem Left.less {g B k : Nat} {w0 w : World} (h : Left g B w0 (k + 1) w) : Left g B w0 k w := by
  obtain ⟨⟨N, hN, hR⟩, m⟩ := h
  exact ⟨⟨N, by omega, hR⟩, m⟩
theorem Left.mv {g B k : Nat} {w0 w w' : World} (h : Left g B w0 (k + 1) w) (u : Up w w') : Left g B w0 k w' := by
  obtain ⟨⟨N, hN, hR⟩, m⟩ := h
  exact ⟨⟨N, by omega, hR.up u⟩, m.trans (u.mv g)⟩
/-- A pick in such a world. -/
theorem Left.pick {g B k : Nat} {w0 w : World} (h : Left g B w0 (k + 1) w) (hB : B ≤ 1000000) (m : Int) (hm : 0 < m) (hm2 : m ≤ 1000000) :
    Calls Try.prog 61 #[.pointer (some ⟨g, 0, none⟩), .int .i64 m] w fun x w' => ∃ z : Int, x = .returned (.int .i64 z) ∧ (0 ≤ z ∧ z < m) ∧ Mv g w w' ∧ Left g B w0 k w' := by
  obtain ⟨⟨N, hN, hR⟩, mv⟩ := h; refine (pick_any g N m w ⟨by omega, by omega⟩ (by omega) hR).mono ?_; rintro x w' ⟨z, rfl, h0, h1, r, m'⟩
  exact ⟨z, rfl, ⟨h0, by omega⟩, m', ⟨⟨N + 1, by omega, r⟩, mv.trans m'⟩⟩
theorem Rd.lt' {w : World} {g N : Nat} (h : Rd w g N) : g < w.heap.size := by
  obtain ⟨_, _, _, _, _, _, _, _, hg, _⟩ := h
  exact hg
theorem Left.lt {g B k : Nat} {w0 w : World} (h : Left g B w0 k w) : g < w.heap.size := by
  obtain ⟨⟨N, _, hR⟩, _⟩ := h
  exact hR.lt'
theorem IsTwo.new {g B : Nat} (w : World) (x y : Int) (t : TypeId) (hg : g < w.heap.size) (hB : B ≤ w.heap.size) (hx : -1000000 ≤ x ∧ x ≤ 1000000) (hy : -1000000 ≤ y ∧ y ≤ 1000000) :
    IsTwo g B (.slice (some ⟨w.heap.size, 0, none⟩) 2 2) (w.alloc (.cells #[.int .i64 x, .int .i64 y] t)) := by
  have hh := heap_alloc_new w (.cells #[.int .i64 x, .int .i64 y] t)
  exact ⟨w.heap.size, x, y, rfl, by omega, hB, by simp, by rw [cell_of_row _ _ 0 _ _ _ hh]; rfl, by rw [cell_of_row _ _ 1 _ _ _ hh]; rfl, hx, hy⟩
theorem IsNew3.new {g B : Nat} (w : World) (x y z : Value) (t : TypeId) (hg : g < w.heap.size) (hB : B ≤ w.heap.size) :
    IsNew3 g B (.pointer (some ⟨w.heap.size, 0, none⟩)) (w.alloc (.cells #[x, y, z] t)) := by
  have hh := heap_alloc_new w (.cells #[x, y, z] t)
  refine ⟨w.heap.size, rfl, by omega, hB, by simp, fun j hj => ⟨_, by rw [cell_of_row _ _ j _ _ _ hh]; exact Array.getElem?_eq_getElem (by simpa using hj)⟩, fun j => ?_⟩; unfold World.frozen?; rw [hh]; simp
/-- Two numbers in a new block, behind a pick. -/
theorem two_num {w w' : World} {g : Nat} {x y : Int} {t : TypeId} (m : Mv g (w.alloc (.cells #[.int .i64 x, .int .i64 y] t)) w') (hg : g < w.heap.size) {v : Int} (h0 : 0 ≤ v) (h1 : v < 2) :
    ∃ u : Int, (u = x ∨ u = y) ∧ w'.cell? ⟨w.heap.size, v.toNat, none⟩ = some (.int .i64 u) := by
  obtain ⟨t0, t1⟩ := two_at m hg
  have d : v = 0 ∨ v = 1 := by omega
  rcases d with rfl | rfl
  · exact ⟨x, .inl rfl, t0⟩
  · exact ⟨y, .inr rfl, t1⟩
def cmpR (g B : Nat) (d : Nat) : Value → World → Prop :=
  if d = 10 then IsTwo g B else if d = 17 then IsCell g else if d = 21 then IsCst else if d = 5 then IsNew3 g B
  else if d = 12 ∨ d = 14 ∨ d = 16 then IsN 0 1 else if d = 15 then IsN 1 2
  else if d = 6 ∨ d = 8 ∨ d = 11 ∨ d = 13 ∨ d = 19 then IsPtr g else IsN (-1000000) 1000000
theorem cmpR_5 (g B : Nat) : cmpR g B 5 = IsNew3 g B := by simp [cmpR]
theorem cmpR_6 (g B : Nat) : cmpR g B 6 = IsPtr g := by simp [cmpR]
theorem cmpR_7 (g B : Nat) : cmpR g B 7 = IsN (-1000000) 1000000 := by simp [cmpR]
theorem cmpR_8 (g B : Nat) : cmpR g B 8 = IsPtr g := by simp [cmpR]
theorem cmpR_9 (g B : Nat) : cmpR g B 9 = IsN (-1000000) 1000000 := by simp [cmpR]
theorem cmpR_10 (g B : Nat) : cmpR g B 10 = IsTwo g B := by simp [cmpR]
theorem cmpR_11 (g B : Nat) : cmpR g B 11 = IsPtr g := by simp [cmpR]
theorem cmpR_12 (g B : Nat) : cmpR g B 12 = IsN 0 1 := by simp [cmpR]
theorem cmpR_13 (g B : Nat) : cmpR g B 13 = IsPtr g := by simp [cmpR]
theorem cmpR_14 (g B : Nat) : cmpR g B 14 = IsN 0 1 := by simp [cmpR]
theorem cmpR_15 (g B : Nat) : cmpR g B 15 = IsN 1 2 := by simp [cmpR]
theorem cmpR_16 (g B : Nat) : cmpR g B 16 = IsN 0 1 := by simp [cmpR]
theorem cmpR_17 (g B : Nat) : cmpR g B 17 = IsCell g := by simp [cmpR]
theorem cmpR_18 (g B : Nat) : cmpR g B 18 = IsN (-1000000) 1000000 := by simp [cmpR]
theorem cmpR_19 (g B : Nat) : cmpR g B 19 = IsPtr g := by simp [cmpR]
theorem cmpR_20 (g B : Nat) : cmpR g B 20 = IsN (-1000000) 1000000 := by simp [cmpR]
theorem cmpR_21 (g B : Nat) : cmpR g B 21 = IsCst := by simp [cmpR]
theorem cmpR_mv {g B : Nat} (d : Nat) (v : Value) (w w' : World) (h : cmpR g B d v w) (m : Mv g w w') : cmpR g B d v w' := by
  unfold cmpR at h ⊢
  repeat' split
  all_goals simp_all only [if_true, if_false]
  · exact h.mv m
  · exact h.mv m
  · exact h
  · exact h.mv m
  · exact h
  · exact h
  · exact h
  · exact h
end Go.Proofs.Ytipjcjjjkkaigaa

/-
  What impl's startsOf gives, in one sentence: the external events of a component in a new list; for every list of at most six events that lies in memory.
  What impl.HstNew gives, in one sentence: a host that has done nothing, with the external events of its component in a new list; for every model that lies in memory.
-/
import Derived.Test.YtipjcjjjkkaigaaDLHstNew05
import Derived.Test.YtipjcjjjkkaigaaDLHstNew14
import Derived.Test.YtipjcjjjkkaigaaDLHstNew19
namespace Go.Proofs.Ytipjcjjjkkaigaa
set_option maxRecDepth 100000
open Go.RowKit
/-- The first k events that are for one component. -/
def stk (es : List Evt) (comp : Int) (k : Nat) : List Evt := (es.take k).filter (fun e => decide (e.to = comp))
theorem stk_in {es : List Evt} {comp : Int} {k : Nat} (hk : k < es.length) (h : (es.getD k default).to = comp) : stk es comp (k + 1) = stk es comp k ++ [es.getD k default] := by
  unfold stk; rw [take_one es k hk, List.filter_append]
  generalize es.getD k default = x at h ⊢
  simp [h]
theorem stk_out {es : List Evt} {comp : Int} {k : Nat} (hk : k < es.length) (h : (es.getD k default).to ≠ comp) : stk es comp (k + 1) = stk es comp k := by
  unfold stk; rw [take_one es k hk, List.filter_append]
  generalize es.getD k default = x at h ⊢
  simp [h]
theorem stk_len (es : List Evt) (comp : Int) (k : Nat) : (stk es comp k).length ≤ k := by
  unfold stk
  exact Nat.le_trans (List.length_filter_le _ _) (by rw [List.length_take]; omega)
theorem wtk_stk (es : List Evt) (comp : Int) (k : Nat) : wtk es comp k = (stk es comp k).map (fun e => (⟨e, 0⟩ : Rec)) := rfl
/-- The items of the first k events. -/
def itk (es : List Evt) (k : Nat) : List Rec := (es.take k).map (fun e => (⟨e, 0⟩ : Rec))
theorem itk_one {es : List Evt} {k : Nat} (hk : k < es.length) : itk es (k + 1) = itk es k ++ [⟨es.getD k default, 0⟩] := by
  unfold itk; rw [take_one es k hk, List.map_append]
  rfl
theorem itk_len {es : List Evt} {k : Nat} (h : k ≤ es.length) : (itk es k).length = k := by
  unfold itk; rw [List.length_map, List.length_take]
  omega
theorem itk_stk (es : List Evt) (comp : Int) (k : Nat) : itk (stk es comp k) (stk es comp k).length = wtk es comp k := by
  rw [wtk_stk, itk, List.take_length]
set_option maxHeartbeats 4000000 in
theorem starts_any (A : Option Addr) (n c : Nat) (B : Option Addr) (k d : Nat) (es : List Evt) (til comp : Int) (w : World) (h : Evs w B k es) (hk6 : k ≤ 6) :
    Calls Try.prog 44 #[.agg #[.slice A n c, .slice B k d, .int .i64 til], .int .i64 comp] w fun x w' => ∃ v, x = .returned v ∧ w'.ownsRow w.heap.size 51 6 v (stk es comp k).length (flat (stk es comp k)) ∧ Up w w' := by
  obtain ⟨i0, hi0, hz0, hz1, hz2⟩ := info_parts info51
  have INF := Lib.hid (And.intro hi0 (And.intro hz0 (And.intro hz1 hz2)))
  have SIX := Lib.hid (show 0 < 6 by omega)
  clear hi0 hz0 hz1 hz2
  have HS := Lib.hid h
  have LS := Lib.hid h.1
  have WIN := Lib.hid (fun q (hq : q < k) => (stk_in (es := es) (comp := comp) (k := q) (by rw [LS.out]; exact hq)))
  have WOUT := Lib.hid (fun q (hq : q < k) => (stk_out (es := es) (comp := comp) (k := q) (by rw [LS.out]; exact hq)))
  have WL := Lib.hid (fun q => stk_len es comp q)
  have U0 := Lib.hid ((Up.refl w).alloc (.cells #[.slice A n c, .slice B k d, .int .i64 til] 38))
  have B2 := Lib.hid (Blk.new w #[.slice A n c, .slice B k d, .int .i64 til] 38)
  have lt2_ := B2.out.lt
  obtain ⟨q0, q1, q2⟩ := And.intro (B2.out.cell (j := 0) rfl) (And.intro (B2.out.cell (j := 1) rfl) (B2.out.cell (j := 2) rfl)); clear h
  go_enter Try.func44, Try.ntmps44
  go_wp2; clear q0 q1 q2 lt2_ B2
  go_loopw [5, 11] (fun v i wr => (∃ q : Nat, q ≤ k ∧ i = .int .i64 q ∧ wr.ownsRow w.heap.size 51 6 v (stk es comp q).length (flat (stk es comp q))) ∧ Up w wr) (fun _ i _ => k - (intOf i).toNat)
  case atStart => exact ⟨⟨0, by omega, rfl, World.ownsRow_nil _ _ _ _⟩, U0.out⟩
  case round =>
    obtain ⟨⟨q, hq, rfl, hO⟩, ur⟩ := hrel
    have HO := Lib.hid hO
    have UR := Lib.hid ur
    clear hO
    by_cases hlt : q < k
    · obtain ⟨b, off, hA, hb, hc⟩ := HS.out.2 (by omega)
      subst hA
      have a0 := (hc q hlt).up ur hb
      have hb' : b < wr.heap.size := by have := ur.size; omega
      have win := WIN.out q hlt
      have wout := WOUT.out q hlt
      have wl := WL.out q
      clear hc ur
      generalize es.getD q default = e at a0 win wout
      have WI := Lib.hid win
      have WO := Lib.hid wout
      clear win wout; obtain ⟨et, eto, efr, esq, ekd, edt⟩ := e; unfold EvAt at a0; dsimp only at a0; obtain ⟨p0, p1, p2, p3, p4, p5⟩ := a0
      have i4 : (q : Int) < k := by omega
      by_cases hto : eto = comp
      · subst hto
        have HW := Lib.hid (WI.out rfl)
        have UX := Lib.hid ((UR.out.alloc (.cells #[.int .i64 et, .int .i64 eto, .int .i64 efr, .int .i64 esq, .int .i64 ekd, .int .i64 edt] 51)).alloc (.cells #[.int .i64 et, .int .i64 eto, .int .i64 efr, .int .i64 esq, .int .i64 ekd, .int .i64 edt] 51))
        have HOA := Lib.hid (own_up HO.out (((Up.refl wr).alloc (.cells #[.int .i64 et, .int .i64 eto, .int .i64 efr, .int .i64 esq, .int .i64 ekd, .int .i64 edt] 51)).alloc (.cells #[.int .i64 et, .int .i64 eto, .int .i64 efr, .int .i64 esq, .int .i64 ekd, .int .i64 edt] 51)))
        have HR := Lib.hid ((Evs.new (wr.alloc (.cells #[.int .i64 et, .int .i64 eto, .int .i64 efr, .int .i64 esq, .int .i64 ekd, .int .i64 edt] 51)) ⟨et, eto, efr, esq, ekd, edt⟩ 51).reads)
        simp only [World.size_alloc] at HR
        have HBS := Lib.hid (UX.out.size)
        generalize hl : stk es eto q = l at HO HOA HW wl ⊢
        clear hl
        have HMX := Lib.hid (show l.length + 1 ≤ maxLen by simp only [maxLen]; omega)
        have HBY := Lib.hid (show (l.length + 1) * 48 ≤ 140737488355328 by omega)
        go_wp2_with (at_builtin; refine wpList_append_any _ rfl (.tmp 19) (.tmp 21) 36 rfl w.heap.size 51 i0 _ 6 48 Try.underlying36 INF.out.1 INF.out.2.1 INF.out.2.2.1 INF.out.2.2.2 rfl SIX.out _ _ (flat l) rfl HOA.out _ _ 1 1 (flat [⟨et, eto, efr, esq, ekd, edt⟩]) rfl HR.out (flat_one _) HMX.out HBY.out HBS.out ?_; intro v2 w2 ho2 hg2 _)
        have HO2 := Lib.hid (own_snoc ho2 rfl)
        have UN := Lib.hid (UX.out.own HOA.out hg2)
        clear ho2 hg2
        go_roundw
        case rel => exact ⟨⟨q + 1, by omega, by go_num, by rw [HW.out]; exact HO2.out⟩, UN.out⟩
        case measure => simp [intOf]; omega
      · have HW := Lib.hid (WO.out hto)
        have UX := Lib.hid (UR.out.alloc (.cells #[.int .i64 et, .int .i64 eto, .int .i64 efr, .int .i64 esq, .int .i64 ekd, .int .i64 edt] 51))
        have HOA := Lib.hid (own_up HO.out ((Up.refl wr).alloc (.cells #[.int .i64 et, .int .i64 eto, .int .i64 efr, .int .i64 esq, .int .i64 ekd, .int .i64 edt] 51)))
        go_wp2
        go_roundw
        case rel => exact ⟨⟨q + 1, by omega, by go_num, by rw [HW.out]; exact HOA.out⟩, UX.out⟩
        case measure => simp [intOf]; omega
    · obtain rfl : q = k := by omega
      have i4 : ¬ (q : Int) < q := by omega
      go_wp2; go_ret
      exact ⟨_, rfl, HO.out, UR.out⟩
end Go.Proofs.Ytipjcjjjkkaigaa

namespace Go.Proofs.Ytipjcjjjkkaigaa
set_option maxRecDepth 100000
open Go.RowKit
set_option maxHeartbeats 4000000 in
theorem implHsNew_any (A : Option Addr) (n c : Nat) (B : Option Addr) (k d : Nat) (m : Mdl) (comp : Int) (w : World) (h : MdlV w A n B k m) :
    Calls Try.prog 13 #[.agg #[.slice A n c, .slice B k d, .int .i64 m.til], .int .i64 comp] w fun x w' => ∃ v, x = .returned v ∧ HsRes w.heap.size m comp v w' ∧ Up w w' := by
  obtain ⟨i0, hi0, hz0, hz1, hz2⟩ := info_parts info53
  have INF := Lib.hid (And.intro hi0 (And.intro hz0 (And.intro hz1 hz2)))
  have SEV := Lib.hid (show 0 < 7 by omega)
  clear hi0 hz0 hz1 hz2
  have HM := Lib.hid h
  have LS := Lib.hid h.starts.1
  have CM := Lib.hid (fun W (u : Up w W) => implMdl_any A n c B k d m W (h.up u))
  have U0 := Lib.hid (((Up.refl w).alloc (.cells #[.slice A n c, .slice B k d, .int .i64 m.til] 38)).alloc (.cells #[.int .i64 0, .int .i64 0, .int .i64 0, .int .i64 0, .slice none 0 0, .slice none 0 0, .slice none 0 0, .slice none 0 0] 33))
  have B2 := Lib.hid ((Blk.new w #[.slice A n c, .slice B k d, .int .i64 m.til] 38).alloc (.cells #[.int .i64 0, .int .i64 0, .int .i64 0, .int .i64 0, .slice none 0 0, .slice none 0 0, .slice none 0 0, .slice none 0 0] 33))
  have B4 := Lib.hid (Blk.new (w.alloc (.cells #[.slice A n c, .slice B k d, .int .i64 m.til] 38)) #[.int .i64 0, .int .i64 0, .int .i64 0, .int .i64 0, .slice none 0 0, .slice none 0 0, .slice none 0 0, .slice none 0 0] 33)
  simp only [World.size_alloc] at B4
  generalize hmb : mdlB m = g at CM
  have HB := Lib.hid hmb
  clear h hmb
  go_enter Try.func13, Try.ntmps13
  go_wp2_with fail
  refine (CM.out _ U0.out).mono ?_; rintro x w1 ⟨rfl, u1⟩
  have U1 := Lib.hid (U0.out.trans u1)
  replace B2 := Lib.hid (B2.out.up u1)
  replace B4 := Lib.hid (B4.out.up u1)
  have hs4 := B4.out.lt
  have U1w := Lib.hid U1.out
  clear u1
  cases g
  · have HN := Lib.hid (hs0_out (m := m) (comp := comp) HB.out)
    have Q_ := Lib.hid ((((((((B4.out.set 0 (.int .i64 0)).set 1 (.int .i64 0)).set 2 (.int .i64 0)).set 3 (.int .i64 0)).set 4 (.slice none 0 0)).set 5 (.slice none 0 0)).set 6 (.slice none 0 0)).set 7 (.slice none 0 0))
    have UE_ := Lib.hid ((((((((U1.out.setCell (p := ⟨w.heap.size + 1, 0, none⟩) (by dsimp only; omega) (.int .i64 0)).setCell (p := ⟨w.heap.size + 1, 1, none⟩) (by dsimp only; omega) (.int .i64 0)).setCell (p := ⟨w.heap.size + 1, 2, none⟩) (by dsimp only; omega) (.int .i64 0)).setCell (p := ⟨w.heap.size + 1, 3, none⟩) (by dsimp only; omega) (.int .i64 0)).setCell (p := ⟨w.heap.size + 1, 4, none⟩) (by dsimp only; omega) (.slice none 0 0)).setCell (p := ⟨w.heap.size + 1, 5, none⟩) (by dsimp only; omega) (.slice none 0 0)).setCell (p := ⟨w.heap.size + 1, 6, none⟩) (by dsimp only; omega) (.slice none 0 0)).setCell (p := ⟨w.heap.size + 1, 7, none⟩) (by dsimp only; omega) (.slice none 0 0))
    have f_ := B4.out.frozen
    have old0 := B4.out.cell (j := 0) rfl
    have old1 := B4.out.cell (j := 1) rfl
    have old2 := B4.out.cell (j := 2) rfl
    have old3 := B4.out.cell (j := 3) rfl
    have old4 := B4.out.cell (j := 4) rfl
    have old5 := B4.out.cell (j := 5) rfl
    have old6 := B4.out.cell (j := 6) rfl
    have old7 := B4.out.cell (j := 7) rfl
    have k0 := Q_.out.cell (j := 0) rfl
    have k1 := Q_.out.cell (j := 1) rfl
    have k2 := Q_.out.cell (j := 2) rfl
    have k3 := Q_.out.cell (j := 3) rfl
    have k4 := Q_.out.cell (j := 4) rfl
    have k5 := Q_.out.cell (j := 5) rfl
    have k6 := Q_.out.cell (j := 6) rfl
    have k7 := Q_.out.cell (j := 7) rfl
    go_wp2; refine bodyPost_ret (v := .agg #[.int .i64 0, .int .i64 0, .int .i64 0, .int .i64 0, .slice none 0 0, .slice none 0 0, .slice none 0 0, .slice none 0 0]) (by simp [results, Try.results13, go_sem, k0, k1, k2, k3, k4, k5, k6, k7]) rfl ⟨_, rfl, ?_, UE_.out⟩; unfold HsRes; rw [HN.out]
    exact ⟨none, 0, rfl, Nat.le_refl _, by omega, World.ownsRow_nil _ _ _ _⟩
  · have HN := Lib.hid (hs0_in (m := m) (comp := comp) HB.out)
    have hk6 : k ≤ 6 := by have := mdlB_starts HB.out; have := LS.out; omega
    have HS := Lib.hid (HM.out.starts)
    have SA := Lib.hid (fun W (u : Up w W) => starts_any A n c B k d m.starts m.til comp W (HS.out.up u) hk6)
    obtain ⟨q0, q1, q2⟩ := And.intro (B2.out.cell (j := 0) rfl) (And.intro (B2.out.cell (j := 1) rfl) (B2.out.cell (j := 2) rfl))
    have lt2_ := B2.out.lt
    go_wp2_with fail
    refine (SA.out _ U1.out).mono ?_; rintro x w2 ⟨vL, rfl, hoL, u2⟩
    have KL := Lib.hid (stk_len m.starts comp m.starts.length)
    have KW := Lib.hid (itk_stk m.starts comp m.starts.length)
    rw [← LS.out] at hoL hk6
    generalize stk m.starts comp m.starts.length = L at hoL KL KW
    obtain ⟨_, AL, cL, rfl, hcL, hmL⟩ := own_slice hoL
    have EL := Lib.hid (own_evs hoL)
    have U2 := Lib.hid (U1.out.trans u2)
    have hL6 : L.length ≤ 6 := by have := KL.out; omega
    replace B2 := Lib.hid (B2.out.up u2)
    replace B4 := Lib.hid (B4.out.up u2)
    have hs24 := B4.out.lt
    clear hoL q0 q1 q2 lt2_
    have HS := EL
    have WIN := Lib.hid (fun q (hq : q < L.length) => (itk_one (es := L) (k := q) hq))
    have WL := Lib.hid (fun q (hq : q ≤ L.length) => itk_len (es := L) (k := q) hq)
    have U1w := Lib.hid U2.out
    replace U1 := Lib.hid U2.out
    clear u2 U2 SA
    generalize hk' : L.length = k at *
    go_wp2
    go_loopw [5, 16] (fun v i wr => (∃ q : Nat, q ≤ k ∧ i = .int .i64 q ∧ wr.ownsRow w2.heap.size 53 7 v (itk L q).length (flat7 (itk L q))) ∧ Up w2 wr) (fun _ i _ => k - (intOf i).toNat)
    case atStart => exact ⟨⟨0, by omega, rfl, World.ownsRow_nil _ _ _ _⟩, Up.refl _⟩
    case round =>
      obtain ⟨⟨q, hq, rfl, hO⟩, ur⟩ := hrel
      have HO := Lib.hid hO
      have UR := Lib.hid ur
      clear hO
      by_cases hlt : q < k
      · obtain ⟨b, off, hA, hb, hc⟩ := HS.out.2 (by omega)
        subst hA
        have a0 := (hc q hlt).up ur hb
        have hb' : b < wr.heap.size := by have := ur.size; omega
        have win := WIN.out q hlt
        have wl := WL.out q (by omega)
        clear hc ur
        generalize L.getD q default = e at a0 win
        have HW := Lib.hid win
        clear win; obtain ⟨et, eto, efr, esq, ekd, edt⟩ := e; unfold EvAt at a0; dsimp only at a0; obtain ⟨p0, p1, p2, p3, p4, p5⟩ := a0
        have i4 : (q : Int) < k := by omega
        have UX := Lib.hid ((UR.out.alloc (.cells #[.int .i64 et, .int .i64 eto, .int .i64 efr, .int .i64 esq, .int .i64 ekd, .int .i64 edt] 51)).alloc (.cells #[.int .i64 et, .int .i64 eto, .int .i64 efr, .int .i64 esq, .int .i64 ekd, .int .i64 edt, .int .i64 0] 53))
        have HOA := Lib.hid (own_up HO.out (((Up.refl wr).alloc (.cells #[.int .i64 et, .int .i64 eto, .int .i64 efr, .int .i64 esq, .int .i64 ekd, .int .i64 edt] 51)).alloc (.cells #[.int .i64 et, .int .i64 eto, .int .i64 efr, .int .i64 esq, .int .i64 ekd, .int .i64 edt, .int .i64 0] 53)))
        have HR := Lib.hid (reads7_new (wr.alloc (.cells #[.int .i64 et, .int .i64 eto, .int .i64 efr, .int .i64 esq, .int .i64 ekd, .int .i64 edt] 51)) ⟨⟨et, eto, efr, esq, ekd, edt⟩, 0⟩ 53)
        simp only [World.size_alloc] at HR
        have HBS := Lib.hid (UX.out.size)
        generalize hl : itk L q = l at HO HOA HW wl ⊢
        clear hl
        have HMX := Lib.hid (show l.length + 1 ≤ maxLen by simp only [maxLen]; omega)
        have HBY := Lib.hid (show (l.length + 1) * 56 ≤ 140737488355328 by omega)
        go_wp2_with (at_builtin; refine wpList_append_any _ rfl (.tmp 20) (.tmp 23) 30 rfl w2.heap.size 53 i0 _ 7 56 Try.underlying30 INF.out.1 INF.out.2.1 INF.out.2.2.1 INF.out.2.2.2 rfl SEV.out _ _ (flat7 l) rfl HOA.out _ _ 1 1 (flat7 [⟨⟨et, eto, efr, esq, ekd, edt⟩, 0⟩]) rfl HR.out (flat7_one _) HMX.out HBY.out HBS.out ?_; intro v2 w3 ho2 hg2 _)
        have HO2 := Lib.hid (own7_snoc ho2 rfl)
        have UN := Lib.hid (UX.out.own HOA.out hg2)
        clear ho2 hg2
        go_roundw
        case rel => exact ⟨⟨q + 1, by omega, by go_num, by rw [HW.out]; exact HO2.out⟩, UN.out⟩
        case measure => simp [intOf]; omega
      · obtain rfl : q = k := by omega
        have i4 : ¬ (q : Int) < q := by omega
        have HN2 := Lib.hid (show itk L q = hs0 m comp by rw [HN.out]; exact KW.out)
        have ho := HO.out
        rw [HN2.out] at ho; obtain ⟨_, A5, c5, rfl, hc5, hm5⟩ := own7_slice ho
        have HO := Lib.hid ho
        have B4 := Lib.hid (B4.out.up ur)
        have U1 := Lib.hid (U1.out.trans ur)
        clear ho ur
        generalize hn5 : (hs0 m comp).length = n5 at *
        have U1_ := Lib.hid U1w.out
        have MV_ := Lib.hid (((((((((Mv.refl (w.heap.size + 1) wr).setCell (o := 0) (.int .i64 0)).setCell (o := 1) (.int .i64 0)).setCell (o := 2) (.int .i64 0)).setCell (o := 3) (.int .i64 0)).setCell (o := 4) (.slice none 0 0)).setCell (o := 5) (.slice A5 n5 c5)).setCell (o := 6) (.slice none 0 0)).setCell (o := 7) (.slice none 0 0))
        have Q_ := Lib.hid ((((((((B4.out.set 0 (.int .i64 0)).set 1 (.int .i64 0)).set 2 (.int .i64 0)).set 3 (.int .i64 0)).set 4 (.slice none 0 0)).set 5 (.slice A5 n5 c5)).set 6 (.slice none 0 0)).set 7 (.slice none 0 0))
        have UE_ := Lib.hid ((((((((U1.out.setCell (p := ⟨w.heap.size + 1, 0, none⟩) (by dsimp only; omega) (.int .i64 0)).setCell (p := ⟨w.heap.size + 1, 1, none⟩) (by dsimp only; omega) (.int .i64 0)).setCell (p := ⟨w.heap.size + 1, 2, none⟩) (by dsimp only; omega) (.int .i64 0)).setCell (p := ⟨w.heap.size + 1, 3, none⟩) (by dsimp only; omega) (.int .i64 0)).setCell (p := ⟨w.heap.size + 1, 4, none⟩) (by dsimp only; omega) (.slice none 0 0)).setCell (p := ⟨w.heap.size + 1, 5, none⟩) (by dsimp only; omega) (.slice A5 n5 c5)).setCell (p := ⟨w.heap.size + 1, 6, none⟩) (by dsimp only; omega) (.slice none 0 0)).setCell (p := ⟨w.heap.size + 1, 7, none⟩) (by dsimp only; omega) (.slice none 0 0))
        have f_ := B4.out.frozen
        have old0 := B4.out.cell (j := 0) rfl
        have old1 := B4.out.cell (j := 1) rfl
        have old2 := B4.out.cell (j := 2) rfl
        have old3 := B4.out.cell (j := 3) rfl
        have old4 := B4.out.cell (j := 4) rfl
        have old5 := B4.out.cell (j := 5) rfl
        have old6 := B4.out.cell (j := 6) rfl
        have old7 := B4.out.cell (j := 7) rfl
        have k0 := Q_.out.cell (j := 0) rfl
        have k1 := Q_.out.cell (j := 1) rfl
        have k2 := Q_.out.cell (j := 2) rfl
        have k3 := Q_.out.cell (j := 3) rfl
        have k4 := Q_.out.cell (j := 4) rfl
        have k5 := Q_.out.cell (j := 5) rfl
        have k6 := Q_.out.cell (j := 6) rfl
        have k7 := Q_.out.cell (j := 7) rfl
        go_wp2; refine bodyPost_ret (v := .agg #[.int .i64 0, .int .i64 0, .int .i64 0, .int .i64 0, .slice none 0 0, .slice A5 n5 c5, .slice none 0 0, .slice none 0 0]) (by simp [results, Try.results13, go_sem, k0, k1, k2, k3, k4, k5, k6, k7]) rfl ⟨_, rfl, ?_, UE_.out⟩; unfold HsRes; rw [hn5]
        exact ⟨A5, c5, rfl, hc5, hm5, own_mono (own_mv HO.out MV_.out hs24) U1_.out.size⟩
end Go.Proofs.Ytipjcjjjkkaigaa

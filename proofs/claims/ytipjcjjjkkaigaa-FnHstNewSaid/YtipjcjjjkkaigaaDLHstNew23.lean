/-
  What spec.HstNew gives, in one sentence: a host that has done nothing, with the external events of its component in a new list; for every model that lies in memory.
-/
import Derived.Test.YtipjcjjjkkaigaaDLHstNew18
import Derived.Test.YtipjcjjjkkaigaaDLHstNew19
namespace Go.Proofs.Ytipjcjjjkkaigaa
set_option maxRecDepth 100000
open Go.RowKit
/-- Below B0 all is as it was, and the list lies there. -/
structure LowO (B0 : Nat) (l : List Rec) (v : Value) (a w : World) : Prop where
  low : Low B0 a w
  own : w.ownsRow B0 53 7 v l.length (flat7 l)
theorem LowO.mg {B0 : Nat} {l : List Rec} {v : Value} {a w w' : World} {row : List Value} (h : LowO B0 l v a w) (m : MG 53 B0 l.length row w w') : LowO B0 l v a w' := ⟨h.low.mg m, m.own (flat7_len l) h.own⟩
theorem LowO.up {B0 : Nat} {l : List Rec} {v : Value} {a w w' : World} (h : LowO B0 l v a w) (u : Up w w') : LowO B0 l v a w' := ⟨h.low.up u, own_up h.own u⟩
theorem Low.set5 {b : Nat} {a0 a w : World} {u : Value} (h : Low (b + 1) a w) (k : Low b a0 a) : Low b a0 (w.setCell ⟨b, 5, none⟩ u) :=
  ⟨h.os.trans k.os, h.tape.trans k.tape, h.output.trans k.output, by simpa using Nat.le_trans k.size h.size, by have := h.lo; simp; omega, fun j hj => (Below.heap_setCell w ⟨b, 5, none⟩ u j (by dsimp only; omega)).trans ((h.block j (by omega)).trans (k.block j hj))⟩
def rH (B0 b2 b5 q n : Nat) (VW VS PA : Value) (e : Evt) (xs : List Value) (i : Nat) (v : Value) (w : World) : Prop :=
  if i = 0 then (v = .pointer (some ⟨b5, 5, none⟩)) else if i = 1 then (v = VW ∧ w.ownsRow B0 53 7 v n xs) else if i = 2 then (v = .pointer (some ⟨b2, 1, none⟩)) else if i = 3 then (v = VS) else if i = 4 then (v = .int .i64 (q : Int)) else if i = 5 then (v = PA) else if i = 6 then (v = .agg #[.int .i64 e.t, .int .i64 e.to, .int .i64 e.fr, .int .i64 e.sq, .int .i64 e.kd, .int .i64 e.dt]) else if i = 7 then (v = .agg (Rec.c7 ⟨e, 0⟩).toArray) else if i = 8 then (∃ g, v = .slice (some ⟨g, 0, none⟩) 1 1 ∧ B0 ≤ g ∧ w.heap[g]? = some (.cells (Rec.c7 ⟨e, 0⟩).toArray 53 (0, 0))) else if i = 9 then (w.ownsRow B0 53 7 v (n + 1) (xs ++ flat7 [⟨e, 0⟩])) else if i = 10 then (v = .pointer (some ⟨b5, 5, none⟩)) else True
theorem rH_0 {B0 b2 b5 q n : Nat} {VW VS PA : Value} {e : Evt} {xs : List Value} {v : Value} {w : World} : rH B0 b2 b5 q n VW VS PA e xs 0 v w = (v = .pointer (some ⟨b5, 5, none⟩)) := by simp [rH]
theorem rH_1 {B0 b2 b5 q n : Nat} {VW VS PA : Value} {e : Evt} {xs : List Value} {v : Value} {w : World} : rH B0 b2 b5 q n VW VS PA e xs 1 v w = (v = VW ∧ w.ownsRow B0 53 7 v n xs) := by simp [rH]
theorem rH_2 {B0 b2 b5 q n : Nat} {VW VS PA : Value} {e : Evt} {xs : List Value} {v : Value} {w : World} : rH B0 b2 b5 q n VW VS PA e xs 2 v w = (v = .pointer (some ⟨b2, 1, none⟩)) := by simp [rH]
theorem rH_3 {B0 b2 b5 q n : Nat} {VW VS PA : Value} {e : Evt} {xs : List Value} {v : Value} {w : World} : rH B0 b2 b5 q n VW VS PA e xs 3 v w = (v = VS) := by simp [rH]
theorem rH_4 {B0 b2 b5 q n : Nat} {VW VS PA : Value} {e : Evt} {xs : List Value} {v : Value} {w : World} : rH B0 b2 b5 q n VW VS PA e xs 4 v w = (v = .int .i64 (q : Int)) := by simp [rH]
theorem rH_5 {B0 b2 b5 q n : Nat} {VW VS PA : Value} {e : Evt} {xs : List Value} {v : Value} {w : World} : rH B0 b2 b5 q n VW VS PA e xs 5 v w = (v = PA) := by simp [rH]
theorem rH_6 {B0 b2 b5 q n : Nat} {VW VS PA : Value} {e : Evt} {xs : List Value} {v : Value} {w : World} : rH B0 b2 b5 q n VW VS PA e xs 6 v w = (v = .agg #[.int .i64 e.t, .int .i64 e.to, .int .i64 e.fr, .int .i64 e.sq, .int .i64 e.kd, .int .i64 e.dt]) := by simp [rH]
theorem rH_7 {B0 b2 b5 q n : Nat} {VW VS PA : Value} {e : Evt} {xs : List Value} {v : Value} {w : World} : rH B0 b2 b5 q n VW VS PA e xs 7 v w = (v = .agg (Rec.c7 ⟨e, 0⟩).toArray) := by simp [rH]
theorem rH_8 {B0 b2 b5 q n : Nat} {VW VS PA : Value} {e : Evt} {xs : List Value} {v : Value} {w : World} : rH B0 b2 b5 q n VW VS PA e xs 8 v w = (∃ g, v = .slice (some ⟨g, 0, none⟩) 1 1 ∧ B0 ≤ g ∧ w.heap[g]? = some (.cells (Rec.c7 ⟨e, 0⟩).toArray 53 (0, 0))) := by simp [rH]
theorem rH_9 {B0 b2 b5 q n : Nat} {VW VS PA : Value} {e : Evt} {xs : List Value} {v : Value} {w : World} : rH B0 b2 b5 q n VW VS PA e xs 9 v w = (w.ownsRow B0 53 7 v (n + 1) (xs ++ flat7 [⟨e, 0⟩])) := by simp [rH]
theorem rH_10 {B0 b2 b5 q n : Nat} {VW VS PA : Value} {e : Evt} {xs : List Value} {v : Value} {w : World} : rH B0 b2 b5 q n VW VS PA e xs 10 v w = (v = .pointer (some ⟨b5, 5, none⟩)) := by simp [rH]
theorem rH_mg {B0 b2 b5 q n : Nat} {VW VS PA : Value} {e : Evt} {xs : List Value} (hx : xs.length = n * 7) (i : Nat) (v : Value) (w w' : World) (h : rH B0 b2 b5 q n VW VS PA e xs i v w) (m : MG 53 B0 n (flat7 [⟨e, 0⟩]) w w') : rH B0 b2 b5 q n VW VS PA e xs i v w' := by
  unfold rH at h ⊢
  by_cases h0 : i = 0
  · rw [if_pos h0] at h ⊢
    exact h
  rw [if_neg h0] at h ⊢
  by_cases h1 : i = 1
  · rw [if_pos h1] at h ⊢
    exact ⟨h.1, m.own hx h.2⟩
  rw [if_neg h1] at h ⊢
  by_cases h2 : i = 2
  · rw [if_pos h2] at h ⊢
    exact h
  rw [if_neg h2] at h ⊢
  by_cases h3 : i = 3
  · rw [if_pos h3] at h ⊢
    exact h
  rw [if_neg h3] at h ⊢
  by_cases h4 : i = 4
  · rw [if_pos h4] at h ⊢
    exact h
  rw [if_neg h4] at h ⊢
  by_cases h5 : i = 5
  · rw [if_pos h5] at h ⊢
    exact h
  rw [if_neg h5] at h ⊢
  by_cases h6 : i = 6
  · rw [if_pos h6] at h ⊢
    exact h
  rw [if_neg h6] at h ⊢
  by_cases h7 : i = 7
  · rw [if_pos h7] at h ⊢
    exact h
  rw [if_neg h7] at h ⊢
  by_cases h8 : i = 8
  · rw [if_pos h8] at h ⊢
    exact (let ⟨g, h1, h2, h3⟩ := h; ⟨g, h1, h2, m.small h3 (fun hn => by simp only [Rec.c7, List.size_toArray, List.length_cons, List.length_nil]; omega)⟩)
  rw [if_neg h8] at h ⊢
  by_cases h9 : i = 9
  · rw [if_pos h9] at h ⊢
    exact m.own1 hx h
  rw [if_neg h9] at h ⊢
  by_cases h10 : i = 10
  · rw [if_pos h10] at h ⊢
    exact h
  rw [if_neg h10] at h ⊢
  exact trivial
set_option maxHeartbeats 4000000 in
theorem specHsNew_any (A : Option Addr) (n c : Nat) (B : Option Addr) (k d : Nat) (m : Mdl) (comp : Int) (w : World) (h : MdlV w A n B k m) :
    Calls Try.prog 11 #[.agg #[.slice A n c, .slice B k d, .int .i64 m.til], .int .i64 comp] w fun x w' => ∃ v, x = .returned v ∧ HsRes w.heap.size m comp v w' ∧ Up w w' := by
  obtain ⟨i0, hi0, hz0, hz1, hz2⟩ := info_parts info53
  have INF := Lib.hid (And.intro hi0 (And.intro hz0 (And.intro hz1 hz2)))
  clear hi0 hz0 hz1 hz2
  have HM := Lib.hid h
  have LS := Lib.hid h.starts.1
  have CM := Lib.hid (fun W (u : Up w W) => specMdl_any A n c B k d m W (h.up u))
  have U0 := Lib.hid ((((Up.refl w).alloc (.cells #[.slice A n c, .slice B k d, .int .i64 m.til] 38)).alloc (.cells #[.int .i64 0, .int .i64 0, .int .i64 0, .int .i64 0, .slice none 0 0, .slice none 0 0, .slice none 0 0, .slice none 0 0] 33)).alloc (.cells #[.int .i64 0, .int .i64 0, .int .i64 0, .int .i64 0, .slice none 0 0, .slice none 0 0, .slice none 0 0, .slice none 0 0] 33))
  have B2 := Lib.hid (((Blk.new w #[.slice A n c, .slice B k d, .int .i64 m.til] 38).alloc (.cells #[.int .i64 0, .int .i64 0, .int .i64 0, .int .i64 0, .slice none 0 0, .slice none 0 0, .slice none 0 0, .slice none 0 0] 33)).alloc (.cells #[.int .i64 0, .int .i64 0, .int .i64 0, .int .i64 0, .slice none 0 0, .slice none 0 0, .slice none 0 0, .slice none 0 0] 33))
  have B4 := Lib.hid ((Blk.new (w.alloc (.cells #[.slice A n c, .slice B k d, .int .i64 m.til] 38)) #[.int .i64 0, .int .i64 0, .int .i64 0, .int .i64 0, .slice none 0 0, .slice none 0 0, .slice none 0 0, .slice none 0 0] 33).alloc (.cells #[.int .i64 0, .int .i64 0, .int .i64 0, .int .i64 0, .slice none 0 0, .slice none 0 0, .slice none 0 0, .slice none 0 0] 33))
  have B5 := Lib.hid (Blk.new ((w.alloc (.cells #[.slice A n c, .slice B k d, .int .i64 m.til] 38)).alloc (.cells #[.int .i64 0, .int .i64 0, .int .i64 0, .int .i64 0, .slice none 0 0, .slice none 0 0, .slice none 0 0, .slice none 0 0] 33)) #[.int .i64 0, .int .i64 0, .int .i64 0, .int .i64 0, .slice none 0 0, .slice none 0 0, .slice none 0 0, .slice none 0 0] 33)
  simp only [World.size_alloc] at B4 B5
  generalize hmb : mdlB m = g at CM
  have HB := Lib.hid hmb
  clear h hmb
  go_enter Try.func11, Try.ntmps11
  go_wp2_with fail
  refine (CM.out _ U0.out).mono ?_; rintro x w1 ⟨rfl, u1⟩
  have U1 := Lib.hid (U0.out.trans u1)
  replace B2 := Lib.hid (B2.out.up u1)
  replace B4 := Lib.hid (B4.out.up u1)
  replace B5 := Lib.hid (B5.out.up u1)
  have hs5 : w.heap.size + 1 + 1 < w1.heap.size := B5.out.lt
  clear u1
  cases g
  · have HN := Lib.hid (hs0_out (m := m) (comp := comp) HB.out)
    have z0 := B5.out.cell (j := 0) rfl
    have z1 := B5.out.cell (j := 1) rfl
    have z2 := B5.out.cell (j := 2) rfl
    have z3 := B5.out.cell (j := 3) rfl
    have z4 := B5.out.cell (j := 4) rfl
    have z5 := B5.out.cell (j := 5) rfl
    have z6 := B5.out.cell (j := 6) rfl
    have z7 := B5.out.cell (j := 7) rfl
    have Q_ := Lib.hid ((((((((B4.out.set 0 (.int .i64 0)).set 1 (.int .i64 0)).set 2 (.int .i64 0)).set 3 (.int .i64 0)).set 4 (.slice none 0 0)).set 5 (.slice none 0 0)).set 6 (.slice none 0 0)).set 7 (.slice none 0 0))
    have UE_ := Lib.hid ((((((((U1.out.setCell (p := ⟨w.heap.size + 1, 0, none⟩) (by dsimp only; omega) (.int .i64 0)).setCell (p := ⟨w.heap.size + 1, 1, none⟩) (by dsimp only; omega) (.int .i64 0)).setCell (p := ⟨w.heap.size + 1, 2, none⟩) (by dsimp only; omega) (.int .i64 0)).setCell (p := ⟨w.heap.size + 1, 3, none⟩) (by dsimp only; omega) (.int .i64 0)).setCell (p := ⟨w.heap.size + 1, 4, none⟩) (by dsimp only; omega) (.slice none 0 0)).setCell (p := ⟨w.heap.size + 1, 5, none⟩) (by dsimp only; omega) (.slice none 0 0)).setCell (p := ⟨w.heap.size + 1, 6, none⟩) (by dsimp only; omega) (.slice none 0 0)).setCell (p := ⟨w.heap.size + 1, 7, none⟩) (by dsimp only; omega) (.slice none 0 0))
    have f_ := B4.out.frozen
    have old0 := B4.out.cell (j := 0) rfl
    have old1 := B4.out.cell (j := 1) rfl
    have old2 := B4.out.cell (j := 2) rfl
    have old3 := B4.out.cell (j := 3) rfl
    have old4 := B4.out.cell (j := 4) rfl
    have old5 := B4.out.cell (j := 5) rfl
    have old6 := B4.out.cell (j := 6) rfl
    have old7 := B4.out.cell (j := 7) rfl
    have k0 := Q_.out.cell (j := 0) rfl
    have k1 := Q_.out.cell (j := 1) rfl
    have k2 := Q_.out.cell (j := 2) rfl
    have k3 := Q_.out.cell (j := 3) rfl
    have k4 := Q_.out.cell (j := 4) rfl
    have k5 := Q_.out.cell (j := 5) rfl
    have k6 := Q_.out.cell (j := 6) rfl
    have k7 := Q_.out.cell (j := 7) rfl
    go_wp2; refine bodyPost_ret (v := .agg #[.int .i64 0, .int .i64 0, .int .i64 0, .int .i64 0, .slice none 0 0, .slice none 0 0, .slice none 0 0, .slice none 0 0]) (by simp [results, Try.results11, go_sem, k0, k1, k2, k3, k4, k5, k6, k7]) rfl ⟨_, rfl, ?_, UE_.out⟩; unfold HsRes; rw [HN.out]
    exact ⟨none, 0, rfl, Nat.le_refl _, by omega, World.ownsRow_nil _ _ _ _⟩
  · have HN := Lib.hid (hs0_in (m := m) (comp := comp) HB.out)
    have FAR := Lib.hid (hs0_far (m := m) (comp := comp))
    have hn4 : n ≤ 4 := by have := mdlB_few HB.out; have := HM.out.rules.1; omega
    have hk6 : k ≤ 6 := by have := mdlB_starts HB.out; have := LS.out; omega
    rw [HM.out.rules.1] at FAR; obtain ⟨q0, q1, q2⟩ := And.intro (B2.out.cell (j := 0) rfl) (And.intro (B2.out.cell (j := 1) rfl) (B2.out.cell (j := 2) rfl))
    have lt2_ := B2.out.lt
    have CL := Lib.hid (fun W => l1In_any comp 0 ((n : Int) - 1) W)
    generalize inB comp 0 ((n : Int) - 1) = gb at FAR CL
    go_wp2_with fail
    refine (CL.out _).mono ?_; rintro x wL ⟨rfl, rfl⟩; clear q0 q1 q2 lt2_ CL
    cases gb
    · have HN := Lib.hid (FAR.out rfl)
      have z0 := B5.out.cell (j := 0) rfl
      have z1 := B5.out.cell (j := 1) rfl
      have z2 := B5.out.cell (j := 2) rfl
      have z3 := B5.out.cell (j := 3) rfl
      have z4 := B5.out.cell (j := 4) rfl
      have z5 := B5.out.cell (j := 5) rfl
      have z6 := B5.out.cell (j := 6) rfl
      have z7 := B5.out.cell (j := 7) rfl
      have Q_ := Lib.hid ((((((((B4.out.set 0 (.int .i64 0)).set 1 (.int .i64 0)).set 2 (.int .i64 0)).set 3 (.int .i64 0)).set 4 (.slice none 0 0)).set 5 (.slice none 0 0)).set 6 (.slice none 0 0)).set 7 (.slice none 0 0))
      have UE_ := Lib.hid ((((((((U1.out.setCell (p := ⟨w.heap.size + 1, 0, none⟩) (by dsimp only; omega) (.int .i64 0)).setCell (p := ⟨w.heap.size + 1, 1, none⟩) (by dsimp only; omega) (.int .i64 0)).setCell (p := ⟨w.heap.size + 1, 2, none⟩) (by dsimp only; omega) (.int .i64 0)).setCell (p := ⟨w.heap.size + 1, 3, none⟩) (by dsimp only; omega) (.int .i64 0)).setCell (p := ⟨w.heap.size + 1, 4, none⟩) (by dsimp only; omega) (.slice none 0 0)).setCell (p := ⟨w.heap.size + 1, 5, none⟩) (by dsimp only; omega) (.slice none 0 0)).setCell (p := ⟨w.heap.size + 1, 6, none⟩) (by dsimp only; omega) (.slice none 0 0)).setCell (p := ⟨w.heap.size + 1, 7, none⟩) (by dsimp only; omega) (.slice none 0 0))
      have f_ := B4.out.frozen
      have old0 := B4.out.cell (j := 0) rfl
      have old1 := B4.out.cell (j := 1) rfl
      have old2 := B4.out.cell (j := 2) rfl
      have old3 := B4.out.cell (j := 3) rfl
      have old4 := B4.out.cell (j := 4) rfl
      have old5 := B4.out.cell (j := 5) rfl
      have old6 := B4.out.cell (j := 6) rfl
      have old7 := B4.out.cell (j := 7) rfl
      have k0 := Q_.out.cell (j := 0) rfl
      have k1 := Q_.out.cell (j := 1) rfl
      have k2 := Q_.out.cell (j := 2) rfl
      have k3 := Q_.out.cell (j := 3) rfl
      have k4 := Q_.out.cell (j := 4) rfl
      have k5 := Q_.out.cell (j := 5) rfl
      have k6 := Q_.out.cell (j := 6) rfl
      have k7 := Q_.out.cell (j := 7) rfl
      go_wp2; refine bodyPost_ret (v := .agg #[.int .i64 0, .int .i64 0, .int .i64 0, .int .i64 0, .slice none 0 0, .slice none 0 0, .slice none 0 0, .slice none 0 0]) (by simp [results, Try.results11, go_sem, k0, k1, k2, k3, k4, k5, k6, k7]) rfl ⟨_, rfl, ?_, UE_.out⟩; unfold HsRes; rw [HN.out]
      exact ⟨none, 0, rfl, Nat.le_refl _, by omega, World.ownsRow_nil _ _ _ _⟩
    · have HS := Lib.hid (HM.out.starts)
      have WIN := Lib.hid (fun q (hq : q < k) => (wtk_in (es := m.starts) (comp := comp) (k := q) (by rw [LS.out]; exact hq)))
      have WOUT := Lib.hid (fun q (hq : q < k) => (wtk_out (es := m.starts) (comp := comp) (k := q) (by rw [LS.out]; exact hq)))
      have WL := Lib.hid (fun q => wtk_len m.starts comp q)
      go_wp2
      go_loopw [6] (fun i wr => (∃ (q : Nat) (v : Value), q ≤ k ∧ i = .int .i64 q ∧ wr.ownsRow (w.heap.size + 3) 53 7 v (wtk m.starts comp q).length (flat7 (wtk m.starts comp q)) ∧ (0 < (wtk m.starts comp q).length ∨ v = .slice none 0 0) ∧ Blk wr (w.heap.size + 1 + 1) 33 (hsC v)) ∧ Low (w.heap.size + 1 + 1) w1 wr) (fun i _ => k - (intOf i).toNat)
      case atStart => exact ⟨⟨0, .slice none 0 0, by omega, rfl, World.ownsRow_nil _ _ _ _, .inr rfl, B5.out⟩, Low.refl (by omega)⟩
      case round =>
        obtain ⟨⟨q, VW, hq, rfl, hO, hv, h5⟩, lo⟩ := hrel
        have HO := Lib.hid hO
        have HV := Lib.hid hv
        have LO := Lib.hid lo
        replace B5 := Lib.hid h5
        replace B2 := Lib.hid (lo.blk (by omega) B2.out)
        have U2 := Lib.hid (lo.top U1.out (by omega))
        have hsr := lo.lo
        have lt5 := h5.lt
        clear hO hv h5 lo; unfold hsC at B5; obtain ⟨q0, q1, q2⟩ := And.intro (B2.out.cell (j := 0) rfl) (And.intro (B2.out.cell (j := 1) rfl) (B2.out.cell (j := 2) rfl))
        have lt2_ := B2.out.lt
        by_cases hlt : q < k
        · obtain ⟨b, off, hA, hb, hc⟩ := HS.out.2 (by omega)
          subst hA
          have a0 := (hc q hlt).up U2.out hb
          have hb' : b < wr.heap.size := by have := U2.out.size; omega
          have hbB : b < w.heap.size + 3 := by omega
          have win := WIN.out q hlt
          have wout := WOUT.out q hlt
          have wl := WL.out q
          clear hc
          generalize m.starts.getD q default = e at a0 win wout
          have WI := Lib.hid win
          have WO := Lib.hid wout
          clear win wout; obtain ⟨et, eto, efr, esq, ekd, edt⟩ := e; unfold EvAt at a0; dsimp only at a0; obtain ⟨p0, p1, p2, p3, p4, p5⟩ := a0
          have i4 : (q : Int) < k := by omega
          by_cases hto : eto = comp
          · subst hto
            have HW := Lib.hid (WI.out rfl)
            generalize hl : wtk m.starts eto q = l at HO HV HW wl ⊢
            clear hl
            have HMX := Lib.hid (show l.length + 1 ≤ maxLen by simp only [maxLen]; omega)
            have HBY := Lib.hid (show (l.length + 1) * 56 ≤ 140737488355328 by omega)
            go_wp2_with fail
            refine region_relyX 11 [(11, false)] [36, 37, 38, 39, 40, 41, 42, 43, 44, 45, 46] (fun _ => 0) (fun _ w1 => LowO (w.heap.size + 3) l VW wr w1) (MG 53 (w.heap.size + 3) l.length (flat7 [⟨⟨et, eto, efr, esq, ekd, edt⟩, 0⟩])) (rH (w.heap.size + 3) w.heap.size (w.heap.size + 1 + 1) q l.length VW (.slice (some ⟨b, off, none⟩) k d) (.pointer (some ⟨b, off + q * 6, none⟩)) ⟨et, eto, efr, esq, ekd, edt⟩ (flat7 l)) (by kernel_rfl) (by kernel_rfl) (by kernel_rfl) ?_ (rH_mg (flat7_len l)) ?_ ?_
            · exact ⟨(Low.refl (by omega)).drew, own_up HO.out (Up.refl _).drew⟩
            · simp only [List.take_succ_cons, List.take_zero, StepsC]
              refine ⟨?_, ?_, ?_, ?_, ?_, ?_, ?_, ?_, ?_, ?_, ?_, trivial⟩
              · intro X w1 k1 hG hdep
                simp only [opW_def, mixT]; go_simp
                exact ⟨⟨_, by first | rfl | simp [Act.put], MG.of_up (Up.refl _), hG, (show rH (w.heap.size + 3) w.heap.size (w.heap.size + 1 + 1) q l.length VW (.slice (some ⟨b, off, none⟩) k d) (.pointer (some ⟨b, off + q * 6, none⟩)) ⟨et, eto, efr, esq, ekd, edt⟩ (flat7 l) 0 _ _ from by first | (rw [rH_0]; exact rfl) | rw [rH_0])⟩⟩
              · intro X w1 k1 hG hdep
                have e36 : rH (w.heap.size + 3) w.heap.size (w.heap.size + 1 + 1) q l.length VW (.slice (some ⟨b, off, none⟩) k d) (.pointer (some ⟨b, off + q * 6, none⟩)) ⟨et, eto, efr, esq, ekd, edt⟩ (flat7 l) 0 (X 36) w1 := hdep 0 (by decide +kernel)
                rw [rH_0] at e36
                have p5 := (hG.low.blk (by omega) B5.out).cell (j := 5) rfl
                have ow := hG.own
                simp only [opW_def, mixT, e36]; go_simp
                exact ⟨⟨_, by first | rfl | simp [Act.put], MG.of_up (Up.refl _), hG, (show rH (w.heap.size + 3) w.heap.size (w.heap.size + 1 + 1) q l.length VW (.slice (some ⟨b, off, none⟩) k d) (.pointer (some ⟨b, off + q * 6, none⟩)) ⟨et, eto, efr, esq, ekd, edt⟩ (flat7 l) 1 _ _ from by first | (rw [rH_1]; exact ⟨rfl, ow⟩) | rw [rH_1])⟩⟩
              · intro X w1 k1 hG hdep
                simp only [opW_def, mixT]; go_simp
                exact ⟨⟨_, by first | rfl | simp [Act.put], MG.of_up (Up.refl _), hG, (show rH (w.heap.size + 3) w.heap.size (w.heap.size + 1 + 1) q l.length VW (.slice (some ⟨b, off, none⟩) k d) (.pointer (some ⟨b, off + q * 6, none⟩)) ⟨et, eto, efr, esq, ekd, edt⟩ (flat7 l) 2 _ _ from by first | (rw [rH_2]; exact rfl) | rw [rH_2])⟩⟩
              · intro X w1 k1 hG hdep
                have e38 : rH (w.heap.size + 3) w.heap.size (w.heap.size + 1 + 1) q l.length VW (.slice (some ⟨b, off, none⟩) k d) (.pointer (some ⟨b, off + q * 6, none⟩)) ⟨et, eto, efr, esq, ekd, edt⟩ (flat7 l) 2 (X 38) w1 := hdep 2 (by decide +kernel)
                rw [rH_2] at e38
                have pm := (hG.low.blk (by omega) B2.out).cell (j := 1) rfl
                simp only [opW_def, mixT, e38]; go_simp
                exact ⟨⟨_, by first | rfl | simp [Act.put], MG.of_up (Up.refl _), hG, (show rH (w.heap.size + 3) w.heap.size (w.heap.size + 1 + 1) q l.length VW (.slice (some ⟨b, off, none⟩) k d) (.pointer (some ⟨b, off + q * 6, none⟩)) ⟨et, eto, efr, esq, ekd, edt⟩ (flat7 l) 3 _ _ from by first | (rw [rH_3]; exact rfl) | rw [rH_3])⟩⟩
              · intro X w1 k1 hG hdep
                simp only [opW_def, mixT]; go_simp
                exact ⟨⟨_, by first | rfl | simp [Act.put], MG.of_up (Up.refl _), hG, (show rH (w.heap.size + 3) w.heap.size (w.heap.size + 1 + 1) q l.length VW (.slice (some ⟨b, off, none⟩) k d) (.pointer (some ⟨b, off + q * 6, none⟩)) ⟨et, eto, efr, esq, ekd, edt⟩ (flat7 l) 4 _ _ from by first | (rw [rH_4]; exact rfl) | rw [rH_4])⟩⟩
              · intro X w1 k1 hG hdep
                have e39 : rH (w.heap.size + 3) w.heap.size (w.heap.size + 1 + 1) q l.length VW (.slice (some ⟨b, off, none⟩) k d) (.pointer (some ⟨b, off + q * 6, none⟩)) ⟨et, eto, efr, esq, ekd, edt⟩ (flat7 l) 3 (X 39) w1 := hdep 3 (by decide +kernel)
                rw [rH_3] at e39
                have e40 : rH (w.heap.size + 3) w.heap.size (w.heap.size + 1 + 1) q l.length VW (.slice (some ⟨b, off, none⟩) k d) (.pointer (some ⟨b, off + q * 6, none⟩)) ⟨et, eto, efr, esq, ekd, edt⟩ (flat7 l) 4 (X 40) w1 := hdep 4 (by decide +kernel)
                rw [rH_4] at e40; simp only [opW_def, mixT, e39, e40]; go_simp
                exact ⟨⟨_, by first | rfl | simp [Act.put], MG.of_up (Up.refl _), hG, (show rH (w.heap.size + 3) w.heap.size (w.heap.size + 1 + 1) q l.length VW (.slice (some ⟨b, off, none⟩) k d) (.pointer (some ⟨b, off + q * 6, none⟩)) ⟨et, eto, efr, esq, ekd, edt⟩ (flat7 l) 5 _ _ from by first | (rw [rH_5]; exact rfl) | rw [rH_5])⟩⟩
              · intro X w1 k1 hG hdep
                have e41 : rH (w.heap.size + 3) w.heap.size (w.heap.size + 1 + 1) q l.length VW (.slice (some ⟨b, off, none⟩) k d) (.pointer (some ⟨b, off + q * 6, none⟩)) ⟨et, eto, efr, esq, ekd, edt⟩ (flat7 l) 5 (X 41) w1 := hdep 5 (by decide +kernel)
                rw [rH_5] at e41
                have c0 := (hG.low.cells b (off + q * 6) hbB).trans p0
                have c1 := (hG.low.cells b (off + q * 6 + 1) hbB).trans p1
                have c2 := (hG.low.cells b (off + q * 6 + 2) hbB).trans p2
                have c3 := (hG.low.cells b (off + q * 6 + 3) hbB).trans p3
                have c4 := (hG.low.cells b (off + q * 6 + 4) hbB).trans p4
                have c5 := (hG.low.cells b (off + q * 6 + 5) hbB).trans p5
                simp only [opW_def, mixT, e41]; go_simp
                exact ⟨⟨_, by first | rfl | simp [Act.put], MG.of_up (Up.refl _), hG, (show rH (w.heap.size + 3) w.heap.size (w.heap.size + 1 + 1) q l.length VW (.slice (some ⟨b, off, none⟩) k d) (.pointer (some ⟨b, off + q * 6, none⟩)) ⟨et, eto, efr, esq, ekd, edt⟩ (flat7 l) 6 _ _ from by first | (rw [rH_6]; exact rfl) | rw [rH_6])⟩⟩
              · intro X w1 k1 hG hdep
                have e42 : rH (w.heap.size + 3) w.heap.size (w.heap.size + 1 + 1) q l.length VW (.slice (some ⟨b, off, none⟩) k d) (.pointer (some ⟨b, off + q * 6, none⟩)) ⟨et, eto, efr, esq, ekd, edt⟩ (flat7 l) 6 (X 42) w1 := hdep 6 (by decide +kernel)
                rw [rH_6] at e42; simp only [opW_def, mixT, e42]; go_simp
                exact ⟨⟨_, by first | rfl | simp [Act.put], MG.of_up (Up.refl _), hG, (show rH (w.heap.size + 3) w.heap.size (w.heap.size + 1 + 1) q l.length VW (.slice (some ⟨b, off, none⟩) k d) (.pointer (some ⟨b, off + q * 6, none⟩)) ⟨et, eto, efr, esq, ekd, edt⟩ (flat7 l) 7 _ _ from by first | (rw [rH_7]; exact rfl) | rw [rH_7])⟩⟩
              · intro X w1 k1 hG hdep
                have e43 : rH (w.heap.size + 3) w.heap.size (w.heap.size + 1 + 1) q l.length VW (.slice (some ⟨b, off, none⟩) k d) (.pointer (some ⟨b, off + q * 6, none⟩)) ⟨et, eto, efr, esq, ekd, edt⟩ (flat7 l) 7 (X 43) w1 := hdep 7 (by decide +kernel)
                rw [rH_7] at e43
                have hlo := hG.low.lo
                simp only [opW_def, mixT, e43]; go_simp
                exact ⟨⟨_, by first | rfl | simp [Act.put], MG.of_up ((Up.refl _).alloc _), hG.up ((Up.refl _).alloc _), (show rH (w.heap.size + 3) w.heap.size (w.heap.size + 1 + 1) q l.length VW (.slice (some ⟨b, off, none⟩) k d) (.pointer (some ⟨b, off + q * 6, none⟩)) ⟨et, eto, efr, esq, ekd, edt⟩ (flat7 l) 8 _ _ from by first | (rw [rH_8]; exact ⟨_, rfl, by omega, heap_alloc_new _ _⟩) | rw [rH_8])⟩⟩
              · intro X w1 k1 hG hdep
                have e37 : rH (w.heap.size + 3) w.heap.size (w.heap.size + 1 + 1) q l.length VW (.slice (some ⟨b, off, none⟩) k d) (.pointer (some ⟨b, off + q * 6, none⟩)) ⟨et, eto, efr, esq, ekd, edt⟩ (flat7 l) 1 (X 37) w1 := hdep 1 (by decide +kernel)
                rw [rH_1] at e37
                have e44 : rH (w.heap.size + 3) w.heap.size (w.heap.size + 1 + 1) q l.length VW (.slice (some ⟨b, off, none⟩) k d) (.pointer (some ⟨b, off + q * 6, none⟩)) ⟨et, eto, efr, esq, ekd, edt⟩ (flat7 l) 8 (X 44) w1 := hdep 8 (by decide +kernel)
                rw [rH_8] at e44; obtain ⟨e37, ow⟩ := e37; rw [e37] at ow; obtain ⟨g8, e44, hB8, h8⟩ := e44
                have hlo := hG.low.lo
                have r8 := reads7_blk h8 w1.heap.size (Array.getElem?_eq_some_iff.1 h8).1
                simp only [opW_def, mixT, e37, e44]; refine wp_append_mg (P := Try.prog) (.tmp 37) (.tmp 44) 30 rfl i0 _ 56 Try.underlying30 INF.out.1 INF.out.2.1 INF.out.2.2.1 INF.out.2.2.2 rfl VW (flat7 l) HV.out (by go_simp) ow w1.heap.size (some ⟨g8, 0, none⟩) 1 (by go_simp) r8 (flat7_one _) HMX.out HBY.out (by omega) ?_; intro v' w' ho u
                exact ⟨⟨v', by first | rfl | simp [Act.put], u, hG.mg u, (show rH (w.heap.size + 3) w.heap.size (w.heap.size + 1 + 1) q l.length VW (.slice (some ⟨b, off, none⟩) k d) (.pointer (some ⟨b, off + q * 6, none⟩)) ⟨et, eto, efr, esq, ekd, edt⟩ (flat7 l) 9 _ _ from by first | (rw [rH_9]; exact ho) | rw [rH_9])⟩⟩
              · intro X w1 k1 hG hdep
                simp only [opW_def, mixT]; go_simp
                exact ⟨⟨_, by first | rfl | simp [Act.put], MG.of_up (Up.refl _), hG, (show rH (w.heap.size + 3) w.heap.size (w.heap.size + 1 + 1) q l.length VW (.slice (some ⟨b, off, none⟩) k d) (.pointer (some ⟨b, off + q * 6, none⟩)) ⟨et, eto, efr, esq, ekd, edt⟩ (flat7 l) 10 _ _ from by first | (rw [rH_10]; exact rfl) | rw [rH_10])⟩⟩
            · intro X w1 hG hR
              have e45 : rH (w.heap.size + 3) w.heap.size (w.heap.size + 1 + 1) q l.length VW (.slice (some ⟨b, off, none⟩) k d) (.pointer (some ⟨b, off + q * 6, none⟩)) ⟨et, eto, efr, esq, ekd, edt⟩ (flat7 l) 9 (X 45) w1 := hR 9 (by omega)
              rw [rH_9] at e45
              have e46 : rH (w.heap.size + 3) w.heap.size (w.heap.size + 1 + 1) q l.length VW (.slice (some ⟨b, off, none⟩) k d) (.pointer (some ⟨b, off + q * 6, none⟩)) ⟨et, eto, efr, esq, ekd, edt⟩ (flat7 l) 10 (X 46) w1 := hR 10 (by omega)
              rw [rH_10] at e46
              have hlo := hG.low.lo
              have bb := hG.low.blk (by omega) B5.out
              have p5 := bb.cell (j := 5) rfl
              have f5 := bb.frozen 5
              obtain ⟨hl1, A5, c5, hv5, hc5, hm5⟩ := own7_slice (own7_snoc e45 rfl)
              have O5 := Lib.hid (own_mv (own7_snoc e45 rfl) ((Mv.refl (w.heap.size + 1 + 1) w1).setCell (o := 5) (X 45)) (by omega))
              have B5N := Lib.hid (bb.set 5 (X 45))
              have LN := Lib.hid (hG.low.set5 (u := X 45) LO.out)
              rw [hv5] at O5 B5N LN
              generalize hn1 : (l ++ [(⟨⟨et, eto, efr, esq, ekd, edt⟩, 0⟩ : Rec)]).length = n1 at hv5 O5 B5N LN
              have HN1 := Lib.hid hn1
              clear hR bb hl1 hc5 hm5 hn1; simp only [mixT, e46, hv5]; refine mix_go rfl (by rfl) (fun K hK => ?_); go_simp; refine hK _ _ ?_; clear hK K; refine mix_nil ?_; clear p5 f5 e46 hv5; go_wp2
              go_roundw
              case rel => exact ⟨⟨q + 1, .slice A5 n1 c5, by omega, by go_num, by rw [HW.out, HN1.out]; exact O5.out, .inl (by rw [HW.out]; simp), B5N.out⟩, LN.out⟩
              case measure => simp [intOf]; omega
          · have HW := Lib.hid (WO.out hto)
            go_wp2
            go_roundw
            case rel => exact ⟨⟨q + 1, VW, by omega, by go_num, by rw [HW.out]; exact HO.out, by rw [HW.out]; exact HV.out, B5.out⟩, LO.out⟩
            case measure => simp [intOf]; omega
        · obtain rfl : q = k := by omega
          have i4 : ¬ (q : Int) < q := by omega
          have HN2 := Lib.hid (show wtk m.starts comp q = hs0 m comp by rw [HN.out, LS.out])
          have ho := HO.out
          rw [HN2.out] at ho; obtain ⟨_, A5, c5, rfl, hc5, hm5⟩ := own7_slice ho
          have HO := Lib.hid ho
          replace B4 := Lib.hid (LO.out.blk (by omega) B4.out)
          clear ho
          generalize hn5 : (hs0 m comp).length = n5 at *
          have MV_ := Lib.hid (((((((((Mv.refl (w.heap.size + 1) wr).setCell (o := 0) (.int .i64 0)).setCell (o := 1) (.int .i64 0)).setCell (o := 2) (.int .i64 0)).setCell (o := 3) (.int .i64 0)).setCell (o := 4) (.slice none 0 0)).setCell (o := 5) (.slice A5 n5 c5)).setCell (o := 6) (.slice none 0 0)).setCell (o := 7) (.slice none 0 0))
          have z0 := B5.out.cell (j := 0) rfl
          have z1 := B5.out.cell (j := 1) rfl
          have z2 := B5.out.cell (j := 2) rfl
          have z3 := B5.out.cell (j := 3) rfl
          have z4 := B5.out.cell (j := 4) rfl
          have z5 := B5.out.cell (j := 5) rfl
          have z6 := B5.out.cell (j := 6) rfl
          have z7 := B5.out.cell (j := 7) rfl
          have Q_ := Lib.hid ((((((((B4.out.set 0 (.int .i64 0)).set 1 (.int .i64 0)).set 2 (.int .i64 0)).set 3 (.int .i64 0)).set 4 (.slice none 0 0)).set 5 (.slice A5 n5 c5)).set 6 (.slice none 0 0)).set 7 (.slice none 0 0))
          have UE_ := Lib.hid ((((((((U2.out.setCell (p := ⟨w.heap.size + 1, 0, none⟩) (by dsimp only; omega) (.int .i64 0)).setCell (p := ⟨w.heap.size + 1, 1, none⟩) (by dsimp only; omega) (.int .i64 0)).setCell (p := ⟨w.heap.size + 1, 2, none⟩) (by dsimp only; omega) (.int .i64 0)).setCell (p := ⟨w.heap.size + 1, 3, none⟩) (by dsimp only; omega) (.int .i64 0)).setCell (p := ⟨w.heap.size + 1, 4, none⟩) (by dsimp only; omega) (.slice none 0 0)).setCell (p := ⟨w.heap.size + 1, 5, none⟩) (by dsimp only; omega) (.slice A5 n5 c5)).setCell (p := ⟨w.heap.size + 1, 6, none⟩) (by dsimp only; omega) (.slice none 0 0)).setCell (p := ⟨w.heap.size + 1, 7, none⟩) (by dsimp only; omega) (.slice none 0 0))
          have f_ := B4.out.frozen
          have old0 := B4.out.cell (j := 0) rfl
          have old1 := B4.out.cell (j := 1) rfl
          have old2 := B4.out.cell (j := 2) rfl
          have old3 := B4.out.cell (j := 3) rfl
          have old4 := B4.out.cell (j := 4) rfl
          have old5 := B4.out.cell (j := 5) rfl
          have old6 := B4.out.cell (j := 6) rfl
          have old7 := B4.out.cell (j := 7) rfl
          have k0 := Q_.out.cell (j := 0) rfl
          have k1 := Q_.out.cell (j := 1) rfl
          have k2 := Q_.out.cell (j := 2) rfl
          have k3 := Q_.out.cell (j := 3) rfl
          have k4 := Q_.out.cell (j := 4) rfl
          have k5 := Q_.out.cell (j := 5) rfl
          have k6 := Q_.out.cell (j := 6) rfl
          have k7 := Q_.out.cell (j := 7) rfl
          go_wp2; refine bodyPost_ret (v := .agg #[.int .i64 0, .int .i64 0, .int .i64 0, .int .i64 0, .slice none 0 0, .slice A5 n5 c5, .slice none 0 0, .slice none 0 0]) (by simp [results, Try.results11, go_sem, k0, k1, k2, k3, k4, k5, k6, k7]) rfl ⟨_, rfl, ?_, UE_.out⟩; unfold HsRes; rw [hn5]
          exact ⟨A5, c5, rfl, hc5, hm5, own_mono (own_mv HO.out MV_.out (by omega)) (by omega)⟩
end Go.Proofs.Ytipjcjjjkkaigaa

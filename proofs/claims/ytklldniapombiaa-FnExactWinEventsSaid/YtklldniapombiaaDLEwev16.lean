/-
  What szSeqState and toSeqState return, in one sentence: -1 or what is left, and a copy in new memory; for every simulator that lies in memory.
  What szSeqState and toSeqState return, in one sentence: -1, or what is left, and then each list is short; a copy in new memory; for every simulator that lies in memory.
  What times, plus and next return, in one sentence: the product, the sum and the next state modulo 97; for numbers in bounds.
-/
import Derived.Test.YtklldniapombiaaDLEwev02
import Derived.Test.YtklldniapombiaaDLEwev04
import Derived.Test.YtklldniapombiaaDLEwev08
import Derived.Test.YtklldniapombiaaDLEwev11
import Derived.Test.YtklldniapombiaaDLEwev14
import Derived.Test.YtklldniapombiaaDLEwev15
namespace Go.Proofs.Ytklldniapombiaa
set_option maxRecDepth 100000
open Go.RowKit
/-- The world with numbers laid one behind the other. -/
def putF (w : World) (g o : Nat) (f : Nat → Int) : Nat → World
  | 0 => w
  | j + 1 => (putF w g o f j).setCell ⟨g, o + j, none⟩ (.int .i64 (f j))
theorem putF_other (w : World) (g o : Nat) (f : Nat → Int) (b p : Nat) : ∀ s : Nat, (b ≠ g ∨ p < o ∨ o + s ≤ p) → (putF w g o f s).cell? ⟨b, p, none⟩ = w.cell? ⟨b, p, none⟩
  | 0, _ => rfl
  | s + 1, h => by rw [putF, World.cell?_setCell_other _ _ _ _ (addr_ne (by omega)), putF_other w g o f b p s (by omega)]
theorem putF_frozen (w : World) (g o : Nat) (f : Nat → Int) (a : Addr) : ∀ s : Nat, (putF w g o f s).frozen? a = w.frozen? a
  | 0 => rfl
  | s + 1 => by
    have := putF_frozen w g o f a s
    simpa [putF, go_sem] using this
theorem putF_size (w : World) (g o : Nat) (f : Nat → Int) : ∀ s : Nat, (putF w g o f s).heap.size = w.heap.size
  | 0 => rfl
  | s + 1 => by
    have := putF_size w g o f s
    simpa [putF] using this
theorem putF_at (w : World) (g o : Nat) (f : Nat → Int) : ∀ s : Nat, (∀ j, j < s → ∃ v, w.cell? ⟨g, o + j, none⟩ = some v) → ∀ j, j < s → (putF w g o f s).cell? ⟨g, o + j, none⟩ = some (.int .i64 (f j))
  | 0, _, j, hj => absurd hj (by omega)
  | s + 1, h, j, hj => by
    rw [putF]
    by_cases e : j = s
    · subst e
      obtain ⟨v, hv⟩ := h j (by omega)
      exact World.cell?_setCell_same _ _ _ ((putF_other w g o f g (o + j) j (by omega)).trans hv)
    · rw [World.cell?_setCell_other _ _ _ _ (addr_ne (by omega))]
      exact putF_at w g o f s (fun i hi => h i (by omega)) j (by omega)
theorem Up.putF {a w : World} {g : Nat} (h : Up a w) (hg : a.heap.size ≤ g) (o : Nat) (f : Nat → Int) : ∀ s : Nat, Up a (Go.Proofs.Ytklldniapombiaa.putF w g o f s)
  | 0 => h
  | s + 1 => (Up.putF h hg o f s).setCell hg _
theorem IntsOwn.putF {w : World} {g N o s : Nat} {f : Nat → Int} (h : IntsOwn w g N) : IntsOwn (Go.Proofs.Ytklldniapombiaa.putF w g o f s) g N := by
  refine ⟨by rw [putF_size]; exact h.1, fun j hj => ?_⟩; obtain ⟨⟨z, hz⟩, hf⟩ := h.2 j hj; refine ⟨?_, (putF_frozen _ _ _ _ _ _).trans hf⟩
  induction s with
  | zero => exact ⟨z, hz⟩
  | succ s ih =>
    obtain ⟨z', hz'⟩ := ih; rw [Go.Proofs.Ytklldniapombiaa.putF]
    by_cases e : o + s = j
    · subst e
      exact ⟨_, World.cell?_setCell_same _ _ _ hz'⟩
    · exact ⟨z', (World.cell?_setCell_other _ _ _ _ (addr_ne (by omega))).trans hz'⟩
/-- On the way: k rows of s numbers are laid. -/
def RowsTo (w : World) (g n s k : Nat) (F : Nat → Nat → Int) : Prop := IntsOwn w g (n * s) ∧ ∀ i, i < k → ∀ j, j < s → w.cell? ⟨g, i * s + j, none⟩ = some (.int .i64 (F i j))
theorem RowsTo.up {w w' : World} {g n s k : Nat} {F : Nat → Nat → Int} (h : RowsTo w g n s k F) (u : Up w w') : RowsTo w' g n s k F := ⟨h.1.up u, fun i hi j hj => (u.cells _ _ h.1.1).trans (h.2 i hi j hj)⟩
theorem RowsTo.step {w : World} {g n s k : Nat} {F : Nat → Nat → Int} (h : RowsTo w g n s k F) (hk : k < n) (f : Nat → Int) (hf : ∀ j, j < s → f j = F k j) : RowsTo (putF w g (k * s) f s) g n s (k + 1) F := by
  have le1 : (k + 1) * s ≤ n * s := Nat.mul_le_mul_right s (by omega)
  have e1 : (k + 1) * s = k * s + s := by rw [Nat.add_mul, Nat.one_mul]
  refine ⟨h.1.putF, fun i hi j hj => ?_⟩
  by_cases hik : i = k
  · subst hik
    rw [← hf j hj]
    exact putF_at w g (i * s) _ s (fun j hj => by
      obtain ⟨⟨z, hz⟩, _⟩ := h.1.2 (i * s + j) (by omega)
      exact ⟨_, hz⟩) j hj
  · have le2 : (i + 1) * s ≤ k * s := Nat.mul_le_mul_right s (by omega)
    have e2 : (i + 1) * s = i * s + s := by rw [Nat.add_mul, Nat.one_mul]
    exact (putF_other w g (k * s) _ g (i * s + j) s (by omega)).trans (h.2 i (by omega) j hj)
theorem zeros_get (zs : Array Value) (N : Nat) (hz : ∀ j, j < zs.size → zs[j]! = .int .i64 0) (j : Nat) (hj : j < N) (hs : 0 < zs.size) : (madeCells zs N)[j]? = some (.int .i64 0) := by
  have hsz : j < (madeCells zs N).size := by rw [size_madeCells]; exact hj
  rw [Array.getElem?_eq_getElem hsz]; simp only [madeCells, Array.getElem_map, Array.getElem_range]; rw [hz _ (Nat.mod_lt _ hs)]
theorem RowsTo.start (w : World) (n s : Nat) (zs : Array Value) (t : TypeId) (F : Nat → Nat → Int) (hz : ∀ j, j < zs.size → zs[j]! = .int .i64 0) (hs : 0 < zs.size) : RowsTo (w.alloc (.cells (madeCells zs (n * s)) t)) w.heap.size n s 0 F := by
  have hh := heap_alloc_new w (.cells (madeCells zs (n * s)) t)
  refine ⟨⟨by simp, fun j hj => ⟨⟨0, ?_⟩, ?_⟩⟩, fun i hi => absurd hi (by omega)⟩
  · rw [cell_of_row _ _ j _ _ _ hh]
    exact zeros_get zs _ hz j hj hs
  · unfold World.frozen?
    rw [hh]; simp
def Cst.nums (c : Cst) : List Int := [c.s, c.sq, c.ct]
def Rec.nums (r : Rec) : List Int := [r.ev.t, r.ev.to, r.ev.fr, r.ev.sq, r.ev.kd, r.ev.dt, r.s]
theorem szC_any (A : Option Addr) (n cap : Nat) (left : Int) (w : World) (h0 : 0 ≤ left) (h1 : left ≤ 1048576) (hn : n ≤ 9223372036854775807) :
    Calls Try.prog 75 #[.slice A n cap, .int .i64 left] w fun x w' => x = .returned (.int .i64 (if left < n then -1 else left - n)) ∧ w = w' := by
  have hwrap := IntWalk.i64_in (left - n) (by omega)
  by_cases h : left < n
  · have j1 : left - (n : Int) < 0 := by omega
    go_enter Try.func75, Try.ntmps75
    go_wp2; go_ret
    exact ⟨by first | rfl | (rw [if_pos h]; rfl), rfl⟩
  · have j1 : ¬ left - (n : Int) < 0 := by omega
    go_enter Try.func75, Try.ntmps75
    go_wp2; go_ret
    exact ⟨by first | rfl | (rw [if_neg h]; rfl), rfl⟩
theorem szR_any (A : Option Addr) (n cap : Nat) (left : Int) (w : World) (h0 : 0 ≤ left) (h1 : left ≤ 1048576) (hn : n ≤ 9223372036854775807) :
    Calls Try.prog 76 #[.slice A n cap, .int .i64 left] w fun x w' => x = .returned (.int .i64 (if left < n then -1 else left - n)) ∧ w = w' := by
  have hwrap := IntWalk.i64_in (left - n) (by omega)
  by_cases h : left < n
  · have j1 : left - (n : Int) < 0 := by omega
    go_enter Try.func76, Try.ntmps76
    go_wp2; go_ret
    exact ⟨by first | rfl | (rw [if_pos h]; rfl), rfl⟩
  · have j1 : ¬ left - (n : Int) < 0 := by omega
    go_enter Try.func76, Try.ntmps76
    go_wp2; go_ret
    exact ⟨by first | rfl | (rw [if_neg h]; rfl), rfl⟩
def ZRec : Array Value := #[.int .i64 0, .int .i64 0, .int .i64 0, .int .i64 0, .int .i64 0, .int .i64 0, .int .i64 0]
theorem IntsOwn.zr (w : World) : IntsOwn (w.alloc (.cells ZRec 180)) w.heap.size 7 := by
  have hh := heap_alloc_new w (.cells ZRec 180)
  refine ⟨by simp, fun j hj => ⟨⟨0, ?_⟩, ?_⟩⟩
  · rw [cell_of_row _ _ j _ _ _ hh]
    have h : j = 0 ∨ j = 1 ∨ j = 2 ∨ j = 3 ∨ j = 4 ∨ j = 5 ∨ j = 6 := by omega
    rcases h with rfl | rfl | rfl | rfl | rfl | rfl | rfl <;> rfl
  · unfold World.frozen?
    rw [hh]; simp
theorem IntsOwn.upN {w : World} {g g' N o s : Nat} {f : Nat → Int} (h : IntsOwn w g N) (hne : g ≠ g') : IntsOwn (Go.Proofs.Ytklldniapombiaa.putF w g' o f s) g N := by
  refine ⟨by rw [putF_size]; exact h.1, fun j hj => ?_⟩; obtain ⟨⟨z, hz⟩, hf⟩ := h.2 j hj
  exact ⟨⟨z, (putF_other _ _ _ _ _ _ _ (.inl hne)).trans hz⟩, (putF_frozen _ _ _ _ _ _).trans hf⟩
set_option maxHeartbeats 1000000 in
theorem toRec_any (r : Rec) (w : World) :
    Calls Try.prog 128 #[r.v] w fun x w' => x = .returned r.v ∧ Up w w' := by
  have CE := Lib.hid (fun W => toEvt_any r.ev W)
  unfold Rec.v; obtain ⟨⟨t, to, fr, sq, kd, dt⟩, s⟩ := r; unfold Evt.v at CE; dsimp only at CE ⊢
  go_enter Try.func128, Try.ntmps128
  go_wp2_with fail
  have U0 := Lib.hid ((((Up.refl w).alloc (.cells #[.int .i64 t, .int .i64 to, .int .i64 fr, .int .i64 sq, .int .i64 kd, .int .i64 dt, .int .i64 s] 183)).alloc (.cells ZRec 180)).alloc (.cells ZRec 180))
  have c6 : (((w.alloc (.cells #[.int .i64 t, .int .i64 to, .int .i64 fr, .int .i64 sq, .int .i64 kd, .int .i64 dt, .int .i64 s] 183)).alloc (.cells ZRec 180)).alloc (.cells ZRec 180)).cell? ⟨w.heap.size, 6, none⟩ = some (.int .i64 s) := by
    refine (((Up.refl (w.alloc (.cells #[.int .i64 t, .int .i64 to, .int .i64 fr, .int .i64 sq, .int .i64 kd, .int .i64 dt, .int .i64 s] 183))).alloc (.cells ZRec 180)).alloc (.cells ZRec 180)).cells _ _ (by simp) |>.trans ?_
    rw [cell_of_row _ _ 6 _ _ _ (heap_alloc_new _ _)]
    rfl
  have i1 := (IntsOwn.zr (w.alloc (.cells #[.int .i64 t, .int .i64 to, .int .i64 fr, .int .i64 sq, .int .i64 kd, .int .i64 dt, .int .i64 s] 183))).up ((Up.refl _).alloc (.cells ZRec 180))
  have i2 := IntsOwn.zr ((w.alloc (.cells #[.int .i64 t, .int .i64 to, .int .i64 fr, .int .i64 sq, .int .i64 kd, .int .i64 dt, .int .i64 s] 183)).alloc (.cells ZRec 180))
  simp only [World.size_alloc] at i1 i2; unfold ZRec at U0 c6 i1 i2
  generalize hW : ((w.alloc (.cells #[.int .i64 t, .int .i64 to, .int .i64 fr, .int .i64 sq, .int .i64 kd, .int .i64 dt, .int .i64 s] 183)).alloc (.cells #[.int .i64 0, .int .i64 0, .int .i64 0, .int .i64 0, .int .i64 0, .int .i64 0, .int .i64 0] 180)).alloc (.cells #[.int .i64 0, .int .i64 0, .int .i64 0, .int .i64 0, .int .i64 0, .int .i64 0, .int .i64 0] 180) = W at *
  clear hW; refine (CE.out _).mono ?_; rintro x wA ⟨rfl, uA⟩
  have UA := Lib.hid (U0.out.trans uA)
  have c6 := (uA.cells _ _ (Nat.lt_of_lt_of_le (show w.heap.size < w.heap.size + 1 by omega) (Nat.le_of_lt i1.1))).trans c6
  have I1 := Lib.hid (i1.up uA)
  have I2 := Lib.hid (i2.up uA)
  have hlt1 := I1.out.1
  have hlt2 := I2.out.1
  clear i1 i2 uA
  have K2 := Lib.hid (putF_at wA (w.heap.size + 1 + 1) 0 ([t, to, fr, sq, kd, dt, s].getD · 0) 7 (fun j hj => by obtain ⟨⟨z, hz⟩, _⟩ := I2.out.2 (0 + j) (by omega); exact ⟨_, hz⟩))
  have IE := Lib.hid (I1.out.upN (o := 0) (f := ([t, to, fr, sq, kd, dt, s].getD · 0)) (s := 7) (g' := w.heap.size + 1 + 1) (by omega))
  have K1 := Lib.hid (putF_at (putF wA (w.heap.size + 1 + 1) 0 ([t, to, fr, sq, kd, dt, s].getD · 0) 7) (w.heap.size + 1) 0 ([t, to, fr, sq, kd, dt, s].getD · 0) 7 (fun j hj => by obtain ⟨⟨z, hz⟩, _⟩ := IE.out.2 (0 + j) (by omega); exact ⟨_, hz⟩))
  have UE := Lib.hid ((UA.out.putF (g := w.heap.size + 1 + 1) (by omega) 0 ([t, to, fr, sq, kd, dt, s].getD · 0) 7).putF (g := w.heap.size + 1) (by omega) 0 ([t, to, fr, sq, kd, dt, s].getD · 0) 7)
  obtain ⟨k0, k1, k2, k3, k4, k5, k6⟩ := And.intro (K2.out 0 (by omega)) (And.intro (K2.out 1 (by omega)) (And.intro (K2.out 2 (by omega)) (And.intro (K2.out 3 (by omega)) (And.intro (K2.out 4 (by omega)) (And.intro (K2.out 5 (by omega)) (K2.out 6 (by omega))))))); obtain ⟨l0, l1, l2, l3, l4, l5, l6⟩ := And.intro (K1.out 0 (by omega)) (And.intro (K1.out 1 (by omega)) (And.intro (K1.out 2 (by omega)) (And.intro (K1.out 3 (by omega)) (And.intro (K1.out 4 (by omega)) (And.intro (K1.out 5 (by omega)) (K1.out 6 (by omega))))))); simp only [putF, Nat.zero_add, List.getD_cons_zero, List.getD_cons_succ] at k0 k1 k2 k3 k4 k5 k6 l0 l1 l2 l3 l4 l5 l6 UE
  obtain ⟨⟨⟨a0, m0⟩, f0⟩, ⟨⟨a1, m1⟩, f1⟩, ⟨⟨a2, m2⟩, f2⟩, ⟨⟨a3, m3⟩, f3⟩, ⟨⟨a4, m4⟩, f4⟩, ⟨⟨a5, m5⟩, f5⟩, ⟨⟨a6, m6⟩, f6⟩⟩ := And.intro (I2.out.2 0 (by omega)) (And.intro (I2.out.2 1 (by omega)) (And.intro (I2.out.2 2 (by omega)) (And.intro (I2.out.2 3 (by omega)) (And.intro (I2.out.2 4 (by omega)) (And.intro (I2.out.2 5 (by omega)) (I2.out.2 6 (by omega))))))); obtain ⟨⟨⟨b0, n0⟩, g0⟩, ⟨⟨b1, n1⟩, g1⟩, ⟨⟨b2, n2⟩, g2⟩, ⟨⟨b3, n3⟩, g3⟩, ⟨⟨b4, n4⟩, g4⟩, ⟨⟨b5, n5⟩, g5⟩, ⟨⟨b6, n6⟩, g6⟩⟩ := And.intro (I1.out.2 0 (by omega)) (And.intro (I1.out.2 1 (by omega)) (And.intro (I1.out.2 2 (by omega)) (And.intro (I1.out.2 3 (by omega)) (And.intro (I1.out.2 4 (by omega)) (And.intro (I1.out.2 5 (by omega)) (I1.out.2 6 (by omega)))))))
  clear K1 K2 IE I1 I2 U0 UA
  go_wp2_with fail
  exact bodyPost_ret (v := .agg #[.int .i64 t, .int .i64 to, .int .i64 fr, .int .i64 sq, .int .i64 kd, .int .i64 dt, .int .i64 s]) (by simp [results, Try.results128, go_sem, l0, l1, l2, l3, l4, l5, l6]) rfl ⟨rfl, UE.out⟩
theorem info180 : (Try.prog.info? 180).map (fun i => (i.zero, i.size, i.bytes)) = some (some (.agg #[.int .i64 0, .int .i64 0, .int .i64 0, .int .i64 0, .int .i64 0, .int .i64 0, .int .i64 0]), 7, 56) := by kernel_rfl
set_option maxHeartbeats 2000000 in
theorem toC_any (A : Option Addr) (n cap : Nat) (xs : List Cst) (w : World) (hn : n ≤ 1048576) (hE : Csts w A n xs) :
    Calls Try.prog 78 #[.slice A n cap] w fun x w' => ∃ g, x = .returned (.slice (some ⟨g, 0, none⟩) n n) ∧ w.heap.size ≤ g ∧ Csts w' (some ⟨g, 0, none⟩) n xs ∧ IntsOwn w' g (n * 3) ∧ Up w w' := by
  obtain ⟨i0, hi, hz0, hz1, hz2⟩ := info_parts info76
  have hmk := fun W => run_make_rowN (P := Try.prog) 59 76 i0 _ Try.underlying59 hi hz0 .i64 .i64 n n (Nat.le_refl _) (by rw [hz2]; omega) (by omega) W
  rw [hz1] at hmk
  have HE := Lib.hid hE
  have LE := Lib.hid hE.1
  have CL := Lib.hid (fun a W => toCst_any a W)
  clear hE hi hz0 hz1 hz2
  go_enter Try.func78, Try.ntmps78
  go_wp2
  generalize hg : w.heap.size = g
  have HG := Lib.hid (Nat.le_of_eq hg)
  go_loopw [4] (fun i wr => (∃ k : Nat, k ≤ n ∧ i = .int .i64 k ∧ RowsTo wr g n 3 k (fun i j => (xs.getD i default).nums.getD j 0)) ∧ Up w wr) (fun i _ => n - (intOf i).toNat)
  case atStart =>
    refine ⟨⟨0, by omega, rfl, ?_⟩, (Up.refl _).alloc _⟩; subst hg
    exact RowsTo.start w n 3 #[.int .i64 0, .int .i64 0, .int .i64 0] 76 _ (fun j hj => by
      have h : j = 0 ∨ j = 1 ∨ j = 2 := by simp at hj; omega
      rcases h with rfl | rfl | rfl <;> rfl) (by simp)
  case round =>
    obtain ⟨⟨k, hk, rfl, hp⟩, ur⟩ := hrel
    have HP := Lib.hid hp
    have UR := Lib.hid ur
    by_cases hlt : k < n
    · obtain ⟨b, off, hA, hb, hc⟩ := HE.out.2 (by omega)
      subst hA
      have a0 := (hc k hlt).up ur hb
      have hb' : b < wr.heap.size := by have := ur.size; omega
      clear hc hp ur
      have cl := CL.out (xs.getD k default)
      have SX := Lib.hid (fun W (h : RowsTo W g n 3 k (fun i j => (xs.getD i default).nums.getD j 0)) => h.step hlt ((xs.getD k default).nums.getD · 0) (fun j _ => rfl))
      generalize xs.getD k default = p at a0 cl SX
      unfold CstAt at a0; unfold Cst.v at cl; obtain ⟨p0, p1, p2⟩ := a0
      have C := Lib.hid cl
      clear cl
      have i4 : (k : Int) < n := by omega
      go_wp2_with fail
      refine (C.out _).mono ?_; rintro x wA ⟨rfl, uA⟩
      have P := HP.out.up uA
      obtain ⟨⟨⟨v0, c0⟩, f0⟩, ⟨⟨v1, c1⟩, f1⟩, ⟨⟨v2, c2⟩, f2⟩⟩ := And.intro (P.1.2 (k * 3) (by omega)) (And.intro (P.1.2 (k * 3 + 1) (by omega)) (P.1.2 (k * 3 + 2) (by omega)))
      have NX := Lib.hid (SX.out _ P)
      have UX := Lib.hid (((UR.out.trans uA).putF HG.out (k * 3) (p.nums.getD · 0) 3))
      simp only [putF, Cst.nums, Nat.add_zero, List.getD_cons_zero, List.getD_cons_succ] at NX UX
      have hgl := P.1.1
      clear P p0 p1 p2 SX; go_wp2
      go_roundw
      case rel => exact ⟨⟨k + 1, by omega, by go_num, NX.out⟩, UX.out⟩
      case measure => simp [intOf]; omega
    · obtain rfl : k = n := by omega
      have i4 : ¬ (k : Int) < k := by omega
      clear hp ur; go_wp2; go_ret
      exact ⟨g, rfl, by have := HG.out; omega, ⟨LE.out, fun _ => ⟨g, 0, rfl, HP.out.1.1, fun i hi => by
        have h := HP.out.2 i hi
        exact ⟨by rw [Nat.zero_add]; exact h 0 (by omega), by rw [Nat.zero_add]; exact h 1 (by omega), by rw [Nat.zero_add]; exact h 2 (by omega)⟩⟩⟩, HP.out.1, UR.out⟩
set_option maxHeartbeats 2000000 in
theorem toR_any (A : Option Addr) (n cap : Nat) (xs : List Rec) (w : World) (hn : n ≤ 1048576) (hE : Recs w A n xs) :
    Calls Try.prog 79 #[.slice A n cap] w fun x w' => ∃ g, x = .returned (.slice (some ⟨g, 0, none⟩) n n) ∧ w.heap.size ≤ g ∧ Recs w' (some ⟨g, 0, none⟩) n xs ∧ IntsOwn w' g (n * 7) ∧ Up w w' := by
  obtain ⟨i0, hi, hz0, hz1, hz2⟩ := info_parts info180
  have hmk := fun W => run_make_rowN (P := Try.prog) 60 180 i0 _ Try.underlying60 hi hz0 .i64 .i64 n n (Nat.le_refl _) (by rw [hz2]; omega) (by omega) W
  rw [hz1] at hmk
  have HE := Lib.hid hE
  have LE := Lib.hid hE.1
  have CL := Lib.hid (fun a W => toRec_any a W)
  clear hE hi hz0 hz1 hz2
  go_enter Try.func79, Try.ntmps79
  go_wp2
  generalize hg : w.heap.size = g
  have HG := Lib.hid (Nat.le_of_eq hg)
  go_loopw [4] (fun i wr => (∃ k : Nat, k ≤ n ∧ i = .int .i64 k ∧ RowsTo wr g n 7 k (fun i j => (xs.getD i default).nums.getD j 0)) ∧ Up w wr) (fun i _ => n - (intOf i).toNat)
  case atStart =>
    refine ⟨⟨0, by omega, rfl, ?_⟩, (Up.refl _).alloc _⟩; subst hg
    exact RowsTo.start w n 7 #[.int .i64 0, .int .i64 0, .int .i64 0, .int .i64 0, .int .i64 0, .int .i64 0, .int .i64 0] 180 _ (fun j hj => by
      have h : j = 0 ∨ j = 1 ∨ j = 2 ∨ j = 3 ∨ j = 4 ∨ j = 5 ∨ j = 6 := by simp at hj; omega
      rcases h with rfl | rfl | rfl | rfl | rfl | rfl | rfl <;> rfl) (by simp)
  case round =>
    obtain ⟨⟨k, hk, rfl, hp⟩, ur⟩ := hrel
    have HP := Lib.hid hp
    have UR := Lib.hid ur
    by_cases hlt : k < n
    · obtain ⟨b, off, hA, hb, hc⟩ := HE.out.2 (by omega)
      subst hA
      have a0 := (hc k hlt).up ur hb
      have hb' : b < wr.heap.size := by have := ur.size; omega
      clear hc hp ur
      have cl := CL.out (xs.getD k default)
      have SX := Lib.hid (fun W (h : RowsTo W g n 7 k (fun i j => (xs.getD i default).nums.getD j 0)) => h.step hlt ((xs.getD k default).nums.getD · 0) (fun j _ => rfl))
      generalize xs.getD k default = p at a0 cl SX
      unfold RecAt at a0; unfold Rec.v at cl; obtain ⟨p0, p1, p2, p3, p4, p5, p6⟩ := a0
      have C := Lib.hid cl
      clear cl
      have i4 : (k : Int) < n := by omega
      go_wp2_with fail
      refine (C.out _).mono ?_; rintro x wA ⟨rfl, uA⟩
      have P := HP.out.up uA
      obtain ⟨⟨⟨v0, c0⟩, f0⟩, ⟨⟨v1, c1⟩, f1⟩, ⟨⟨v2, c2⟩, f2⟩, ⟨⟨v3, c3⟩, f3⟩, ⟨⟨v4, c4⟩, f4⟩, ⟨⟨v5, c5⟩, f5⟩, ⟨⟨v6, c6⟩, f6⟩⟩ := And.intro (P.1.2 (k * 7) (by omega)) (And.intro (P.1.2 (k * 7 + 1) (by omega)) (And.intro (P.1.2 (k * 7 + 2) (by omega)) (And.intro (P.1.2 (k * 7 + 3) (by omega)) (And.intro (P.1.2 (k * 7 + 4) (by omega)) (And.intro (P.1.2 (k * 7 + 5) (by omega)) (P.1.2 (k * 7 + 6) (by omega)))))))
      have NX := Lib.hid (SX.out _ P)
      have UX := Lib.hid (((UR.out.trans uA).putF HG.out (k * 7) (p.nums.getD · 0) 7))
      simp only [putF, Rec.nums, Nat.add_zero, List.getD_cons_zero, List.getD_cons_succ] at NX UX
      have hgl := P.1.1
      clear P p0 p1 p2 p3 p4 p5 p6 SX; go_wp2
      go_roundw
      case rel => exact ⟨⟨k + 1, by omega, by go_num, NX.out⟩, UX.out⟩
      case measure => simp [intOf]; omega
    · obtain rfl : k = n := by omega
      have i4 : ¬ (k : Int) < k := by omega
      clear hp ur; go_wp2; go_ret
      exact ⟨g, rfl, by have := HG.out; omega, ⟨LE.out, fun _ => ⟨g, 0, rfl, HP.out.1.1, fun i hi => by
        have h := HP.out.2 i hi
        exact ⟨by rw [Nat.zero_add]; exact h 0 (by omega), by rw [Nat.zero_add]; exact h 1 (by omega), by rw [Nat.zero_add]; exact h 2 (by omega), by rw [Nat.zero_add]; exact h 3 (by omega), by rw [Nat.zero_add]; exact h 4 (by omega), by rw [Nat.zero_add]; exact h 5 (by omega), by rw [Nat.zero_add]; exact h 6 (by omega)⟩⟩⟩, HP.out.1, UR.out⟩
end Go.Proofs.Ytklldniapombiaa

namespace Go.Proofs.Ytklldniapombiaa
set_option maxRecDepth 100000
open Go.RowKit
structure ShortSq (nc nw nl : Nat) : Prop where
  c : nc ≤ 1048576
  w : nw ≤ 1048576
  l : nl ≤ 1048576
/-- A block of three of the call's own. -/
structure Ow3 (w : World) (b : Nat) (x y z : Value) : Prop where
  box : Box3 w b x y z
  fr : ∀ j, w.frozen? ⟨b, j, none⟩ = false
theorem Ow3.new (w : World) (x y z : Value) (t : TypeId) : Ow3 (w.alloc (.cells #[x, y, z] t)) w.heap.size x y z := ⟨Box3.new _ _ _ _ _, free_new _ _ _⟩
theorem Ow3.up {w w' : World} {b : Nat} {x y z : Value} (h : Ow3 w b x y z) (u : Up w w') : Ow3 w' b x y z := ⟨h.box.up u, fun j => (u.frozens _ _ h.box.lt).trans (h.fr j)⟩
theorem Ow3.mv {w w' : World} {b g : Nat} {x y z : Value} (h : Ow3 w b x y z) (m : Mv g w w') (hne : b ≠ g) : Ow3 w' b x y z :=
  ⟨⟨Nat.lt_of_lt_of_le h.box.lt m.size, (m.cells _ _ h.box.lt hne).trans h.box.c0, (m.cells _ _ h.box.lt hne).trans h.box.c1, (m.cells _ _ h.box.lt hne).trans h.box.c2⟩, fun j => (m.frozens _ _ h.box.lt hne).trans (h.fr j)⟩
theorem Ow3.set0 {w : World} {b : Nat} {x y z : Value} (h : Ow3 w b x y z) (v : Value) : Ow3 (w.setCell ⟨b, 0, none⟩ v) b v y z :=
  ⟨⟨by simpa using h.box.lt, World.cell?_setCell_same _ _ _ h.box.c0, (World.cell?_setCell_other _ _ _ _ (addr_ne (by omega))).trans h.box.c1, (World.cell?_setCell_other _ _ _ _ (addr_ne (by omega))).trans h.box.c2⟩, fun j => by have := h.fr j; simpa [go_sem] using this⟩
theorem Ow3.set1 {w : World} {b : Nat} {x y z : Value} (h : Ow3 w b x y z) (v : Value) : Ow3 (w.setCell ⟨b, 1, none⟩ v) b x v z :=
  ⟨⟨by simpa using h.box.lt, (World.cell?_setCell_other _ _ _ _ (addr_ne (by omega))).trans h.box.c0, World.cell?_setCell_same _ _ _ h.box.c1, (World.cell?_setCell_other _ _ _ _ (addr_ne (by omega))).trans h.box.c2⟩, fun j => by have := h.fr j; simpa [go_sem] using this⟩
theorem Ow3.set2 {w : World} {b : Nat} {x y z : Value} (h : Ow3 w b x y z) (v : Value) : Ow3 (w.setCell ⟨b, 2, none⟩ v) b x y v :=
  ⟨⟨by simpa using h.box.lt, (World.cell?_setCell_other _ _ _ _ (addr_ne (by omega))).trans h.box.c0, (World.cell?_setCell_other _ _ _ _ (addr_ne (by omega))).trans h.box.c1, World.cell?_setCell_same _ _ _ h.box.c2⟩, fun j => by have := h.fr j; simpa [go_sem] using this⟩
theorem Own.ints6 {w : World} {g n : Nat} {es : List Evt} (ho : Own w g n es) : IntsOwn w g (n * 6) := ⟨ho.2.1, fun j hj => by
  obtain ⟨c0, c1, c2, c3, c4, c5⟩ := ho.2.2.1 (j / 6) (by omega); refine ⟨?_, ho.2.2.2 j hj⟩
  have e : j % 6 = 0 ∨ j % 6 = 1 ∨ j % 6 = 2 ∨ j % 6 = 3 ∨ j % 6 = 4 ∨ j % 6 = 5 := by omega
  rcases e with e | e | e | e | e | e
  · exact ⟨_, by rw [show j = j / 6 * 6 by omega]; exact c0⟩
  · exact ⟨_, by rw [show j = j / 6 * 6 + 1 by omega]; exact c1⟩
  · exact ⟨_, by rw [show j = j / 6 * 6 + 2 by omega]; exact c2⟩
  · exact ⟨_, by rw [show j = j / 6 * 6 + 3 by omega]; exact c3⟩
  · exact ⟨_, by rw [show j = j / 6 * 6 + 4 by omega]; exact c4⟩
  · exact ⟨_, by rw [show j = j / 6 * 6 + 5 by omega]; exact c5⟩⟩
theorem Csts.mv {w w' : World} {A : Option Addr} {n g : Nat} {xs : List Cst} (h : Csts w A n xs) (m : Mv g w w') (hne : ∀ b off, A = some ⟨b, off, none⟩ → b ≠ g) : Csts w' A n xs :=
  ⟨h.1, fun hn => by
    obtain ⟨b, off, hA, hb, hc⟩ := h.2 hn; obtain ⟨_, _, _⟩ := hc 0 hn
    exact ⟨b, off, hA, Nat.lt_of_lt_of_le hb m.size, fun i hi => (hc i hi).keep fun j => m.cells b j hb (hne b off hA)⟩⟩
theorem Recs.mv {w w' : World} {A : Option Addr} {n g : Nat} {xs : List Rec} (h : Recs w A n xs) (m : Mv g w w') (hne : ∀ b off, A = some ⟨b, off, none⟩ → b ≠ g) : Recs w' A n xs :=
  ⟨h.1, fun hn => by
    obtain ⟨b, off, hA, hb, hc⟩ := h.2 hn
    exact ⟨b, off, hA, Nat.lt_of_lt_of_le hb m.size, fun i hi => (hc i hi).keep fun j => m.cells b j hb (hne b off hA)⟩⟩
theorem ne_some {g b : Nat} (h : g ≠ b) : ∀ b' off, (some ⟨g, 0, none⟩ : Option Addr) = some ⟨b', off, none⟩ → b' ≠ b := fun b' off e => by
  injection e with e
  injection e with e _ _
  omega
set_option maxHeartbeats 4000000 in
theorem toSq_own (Ac : Option Addr) (nc cc : Nat) (Aw : Option Addr) (nw cw : Nat) (Al : Option Addr) (nl cl : Nat) (s : Sq) (w : World) (hS : ShortSq nc nw nl) (hV : SqV w Ac nc Aw nw Al nl s) :
    Calls Try.prog 26 #[.agg #[.slice Ac nc cc, .slice Aw nw cw, .slice Al nl cl]] w fun x w' => ∃ g1 g2 g3, x = .returned (.agg #[.slice (some ⟨g1, 0, none⟩) nc nc, .slice (some ⟨g2, 0, none⟩) nw nw, .slice (some ⟨g3, 0, none⟩) nl nl]) ∧ SqV w' (some ⟨g1, 0, none⟩) nc (some ⟨g2, 0, none⟩) nw (some ⟨g3, 0, none⟩) nl s ∧ (IntsOwn w' g1 (nc * 3) ∧ IntsOwn w' g2 (nw * 6) ∧ IntsOwn w' g3 (nl * 7) ∧ w.heap.size ≤ g1 ∧ g1 < g2 ∧ g2 < g3) ∧ Up w w' := by
  have C1 := Lib.hid (fun W (u : Up w W) => toC_any Ac nc cc s.comps W hS.c (hV.comps.up u))
  have C2 := Lib.hid (fun W (u : Up w W) => toS_any Aw nw cw s.wait W (by have := hS.w; omega) (hV.wait.up u))
  have C3 := Lib.hid (fun W (u : Up w W) => toR_any Al nl cl s.log W hS.l (hV.log.up u))
  clear hS hV
  have BX := Lib.hid ((Box3.new w (.slice Ac nc cc) (.slice Aw nw cw) (.slice Al nl cl) 56).up (((Up.refl _).alloc (.cells #[.slice none 0 0, .slice none 0 0, .slice none 0 0] 62)).alloc (.cells #[.slice none 0 0, .slice none 0 0, .slice none 0 0] 62)))
  have O1 := Lib.hid ((Ow3.new (w.alloc (.cells #[.slice Ac nc cc, .slice Aw nw cw, .slice Al nl cl] 56)) (.slice none 0 0) (.slice none 0 0) (.slice none 0 0) 62).up ((Up.refl _).alloc (.cells #[.slice none 0 0, .slice none 0 0, .slice none 0 0] 62)))
  have O2 := Lib.hid (Ow3.new ((w.alloc (.cells #[.slice Ac nc cc, .slice Aw nw cw, .slice Al nl cl] 56)).alloc (.cells #[.slice none 0 0, .slice none 0 0, .slice none 0 0] 62)) (.slice none 0 0) (.slice none 0 0) (.slice none 0 0) 62)
  simp only [World.size_alloc] at O1 O2
  have UA := Lib.hid ((((Up.refl w).alloc (.cells #[.slice Ac nc cc, .slice Aw nw cw, .slice Al nl cl] 56)).alloc (.cells #[.slice none 0 0, .slice none 0 0, .slice none 0 0] 62)).alloc (.cells #[.slice none 0 0, .slice none 0 0, .slice none 0 0] 62))
  go_enter Try.func26, Try.ntmps26
  go_wp2_with fail
  generalize ((w.alloc (.cells #[.slice Ac nc cc, .slice Aw nw cw, .slice Al nl cl] 56)).alloc (.cells #[.slice none 0 0, .slice none 0 0, .slice none 0 0] 62)).alloc (.cells #[.slice none 0 0, .slice none 0 0, .slice none 0 0] 62) = W at *
  generalize hb2 : w.heap.size + 1 + 1 = b2 at *
  generalize hb1 : w.heap.size + 1 = b1 at *
  generalize hb0 : w.heap.size = b0 at *
  have lb : b0 < b1 ∧ b1 < b2 := by omega
  have l2 := O2.out.box.lt
  refine (C1.out _ UA.out).mono ?_; rintro x w1 ⟨g1, rfl, hg1, v1, i1, u1⟩
  have B1g : b0 ≤ g1 := by omega
  have I1 := Lib.hid i1
  clear i1
  have n1 : g1 ≠ b1 ∧ g1 ≠ b2 := by omega
  have BX := Lib.hid (BX.out.up u1)
  have O1 := Lib.hid (O1.out.up u1)
  have O2 := Lib.hid (O2.out.up u1)
  have UA := Lib.hid (UA.out.trans u1)
  have V1 := Lib.hid v1
  have m1 := (Mv.refl b2 w1).setCell (o := 0) (.slice (some ⟨g1, 0, none⟩) nc nc)
  have V1' := Lib.hid (V1.out.mv m1 (ne_some n1.2))
  have I1' := Lib.hid (I1.out.mv m1 n1.2)
  have O1' := Lib.hid (O1.out.mv m1 (by omega))
  have O2' := Lib.hid (O2.out.set0 (.slice (some ⟨g1, 0, none⟩) nc nc))
  have UA' := Lib.hid (UA.out.setCell (p := ⟨b2, 0, none⟩) (by dsimp only; omega) (.slice (some ⟨g1, 0, none⟩) nc nc))
  have BX' := Lib.hid (show Box3 (w1.setCell ⟨b2, 0, none⟩ (.slice (some ⟨g1, 0, none⟩) nc nc)) b0 _ _ _ from BX.out.keep m1.size (fun o => m1.cells b0 o BX.out.lt (by omega)))
  obtain ⟨p0, p1, p2⟩ := And.intro BX'.out.c0 (And.intro BX'.out.c1 BX'.out.c2)
  have f2 := O2.out.fr
  have e0 := O2.out.box.c0
  clear u1 v1 m1 hg1
  go_wp2_with fail
  generalize w1.setCell ⟨b2, 0, none⟩ (.slice (some ⟨g1, 0, none⟩) nc nc) = S1 at *
  have l2 := O2'.out.box.lt
  refine (C2.out _ UA'.out).mono ?_; rintro x w2 ⟨g2, rfl, hg2, o2, u2⟩
  have B2g : g1 < g2 := by have := I1'.out.1; omega
  have I1 := Lib.hid (I1'.out.up u2)
  have I2 := Lib.hid o2.ints6
  clear I1'
  have n2 : g2 ≠ b1 ∧ g2 ≠ b2 := by omega
  clear V1 O1 O2 BX UA p0 p1 p2 f2 e0
  have BX := Lib.hid (BX'.out.up u2)
  have O1 := Lib.hid (O1'.out.up u2)
  have O2 := Lib.hid (O2'.out.up u2)
  have UA := Lib.hid (UA'.out.trans u2)
  have V1 := Lib.hid (V1'.out.up u2)
  have V2 := Lib.hid o2.evs'
  clear V1' O1' O2' UA' BX' u2 o2 hg2
  have m1 := (Mv.refl b2 w2).setCell (o := 1) (.slice (some ⟨g2, 0, none⟩) nw nw)
  have V1' := Lib.hid (V1.out.mv m1 (ne_some n1.2))
  have V2' := Lib.hid (V2.out.mv m1 (ne_some n2.2))
  have I1' := Lib.hid (I1.out.mv m1 n1.2)
  have I2' := Lib.hid (I2.out.mv m1 n2.2)
  have O1' := Lib.hid (O1.out.mv m1 (by omega))
  have O2' := Lib.hid (O2.out.set1 (.slice (some ⟨g2, 0, none⟩) nw nw))
  have UA' := Lib.hid (UA.out.setCell (p := ⟨b2, 1, none⟩) (by dsimp only; omega) (.slice (some ⟨g2, 0, none⟩) nw nw))
  have BX' := Lib.hid (show Box3 (w2.setCell ⟨b2, 1, none⟩ (.slice (some ⟨g2, 0, none⟩) nw nw)) b0 _ _ _ from BX.out.keep m1.size (fun o => m1.cells b0 o BX.out.lt (by omega)))
  obtain ⟨p0, p1, p2⟩ := And.intro BX'.out.c0 (And.intro BX'.out.c1 BX'.out.c2)
  have f2 := O2.out.fr
  have e0 := O2.out.box.c1
  clear m1
  go_wp2_with fail
  generalize w2.setCell ⟨b2, 1, none⟩ (.slice (some ⟨g2, 0, none⟩) nw nw) = S2 at *
  have l2 := O2'.out.box.lt
  refine (C3.out _ UA'.out).mono ?_; rintro x w3 ⟨g3, rfl, hg3, v3, i3, u3⟩
  have B3g : g2 < g3 := by have := I2'.out.1; omega
  have I1 := Lib.hid (I1'.out.up u3)
  have I2 := Lib.hid (I2'.out.up u3)
  have I3 := Lib.hid i3
  clear I1' I2' i3
  have n3 : g3 ≠ b1 ∧ g3 ≠ b2 := by omega
  clear V1 V2 O1 O2 BX UA p0 p1 p2 f2 e0
  have O1 := Lib.hid (O1'.out.up u3)
  have O2 := Lib.hid (O2'.out.up u3)
  have UA := Lib.hid (UA'.out.trans u3)
  have V1 := Lib.hid (V1'.out.up u3)
  have V2 := Lib.hid (V2'.out.up u3)
  have V3 := Lib.hid v3
  clear V1' V2' O1' O2' UA' BX' u3 v3 hg3
  have m1 := (Mv.refl b2 w3).setCell (o := 2) (.slice (some ⟨g3, 0, none⟩) nl nl)
  have V1' := Lib.hid (V1.out.mv m1 (ne_some n1.2))
  have V2' := Lib.hid (V2.out.mv m1 (ne_some n2.2))
  have V3' := Lib.hid (V3.out.mv m1 (ne_some n3.2))
  have I1' := Lib.hid (I1.out.mv m1 n1.2)
  have I2' := Lib.hid (I2.out.mv m1 n2.2)
  have I3' := Lib.hid (I3.out.mv m1 n3.2)
  have O1' := Lib.hid (O1.out.mv m1 (by omega))
  have O2' := Lib.hid (O2.out.set2 (.slice (some ⟨g3, 0, none⟩) nl nl))
  have UA' := Lib.hid (UA.out.setCell (p := ⟨b2, 2, none⟩) (by dsimp only; omega) (.slice (some ⟨g3, 0, none⟩) nl nl))
  obtain ⟨p0, p1, p2⟩ := And.intro O2'.out.box.c0 (And.intro O2'.out.box.c1 O2'.out.box.c2)
  have f2 := O2.out.fr
  have e0 := O2.out.box.c2
  have f1 := O1'.out.fr
  obtain ⟨r0, r1, r2⟩ := And.intro O1'.out.box.c0 (And.intro O1'.out.box.c1 O1'.out.box.c2)
  have O3 := Lib.hid (((O1'.out.set0 (.slice (some ⟨g1, 0, none⟩) nc nc)).set1 (.slice (some ⟨g2, 0, none⟩) nw nw)).set2 (.slice (some ⟨g3, 0, none⟩) nl nl))
  obtain ⟨k0, k1, k2⟩ := And.intro O3.out.box.c0 (And.intro O3.out.box.c1 O3.out.box.c2)
  have m3 := (((Mv.refl b1 (w3.setCell ⟨b2, 2, none⟩ (.slice (some ⟨g3, 0, none⟩) nl nl))).setCell (o := 0) (.slice (some ⟨g1, 0, none⟩) nc nc)).setCell (o := 1) (.slice (some ⟨g2, 0, none⟩) nw nw)).setCell (o := 2) (.slice (some ⟨g3, 0, none⟩) nl nl)
  have VE := Lib.hid (show SqV _ (some ⟨g1, 0, none⟩) nc (some ⟨g2, 0, none⟩) nw (some ⟨g3, 0, none⟩) nl s from ⟨V1'.out.mv m3 (ne_some n1.1), V2'.out.mv m3 (ne_some n2.1), V3'.out.mv m3 (ne_some n3.1)⟩)
  have IE := Lib.hid (And.intro (I1'.out.mv m3 n1.1) (And.intro (I2'.out.mv m3 n2.1) (And.intro (I3'.out.mv m3 n3.1) (show w.heap.size ≤ g1 ∧ g1 < g2 ∧ g2 < g3 by omega))))
  have near : ∀ j, w.heap.size ≤ (⟨b1, j, none⟩ : Addr).block := fun j => by dsimp only; omega
  have UE := Lib.hid (((UA'.out.setCell (near 0) (.slice (some ⟨g1, 0, none⟩) nc nc)).setCell (near 1) (.slice (some ⟨g2, 0, none⟩) nw nw)).setCell (near 2) (.slice (some ⟨g3, 0, none⟩) nl nl))
  clear m1 m3 V1 V2 V3 V1' V2' V3' O1 O2 O1' O2' O3 UA UA' I1 I2 I3 I1' I2' I3'; go_wp2
  exact bodyPost_ret (v := .agg #[.slice (some ⟨g1, 0, none⟩) nc nc, .slice (some ⟨g2, 0, none⟩) nw nw, .slice (some ⟨g3, 0, none⟩) nl nl]) (by simp [results, Try.results26, go_sem, k0, k1, k2]) rfl ⟨g1, g2, g3, rfl, VE.out, IE.out, UE.out⟩
end Go.Proofs.Ytklldniapombiaa

namespace Go.Proofs.Ytklldniapombiaa
set_option maxRecDepth 100000
open Go.RowKit
/-- What takes says of an event, in a machine of so many components and that end. -/
theorem takes_any (M : Value) (many til : Int) (e : Evt) (mp : Option Nat) (hM : M = .agg #[.map mp, .int .i64 many, .int .i64 til]) (w : World) :
    Calls Try.prog 93 #[M, e.v] w fun z w' => z = .returned (.bool (okB e many && decide (e.t ≤ til))) ∧ Up w w' := by
  subst hM
  have OC := Lib.hid (fun W => implOk_any e many W)
  generalize okB e many = b at OC ⊢
  obtain ⟨et, eto, efr, esq, ekd, edt⟩ := e
  have X3 := Lib.hid ((Box3.new w (.map mp) (.int .i64 many) (.int .i64 til) 109).up ((Up.refl _).alloc (.cells #[.int .i64 et, .int .i64 eto, .int .i64 efr, .int .i64 esq, .int .i64 ekd, .int .i64 edt] 74)))
  unfold Evt.v at OC ⊢; dsimp only at OC ⊢
  go_enter Try.func93, Try.ntmps93
  go_wp2_with fail
  refine (OC.out _).mono ?_; rintro v w1 ⟨rfl, u1⟩
  have x3 := X3.out.up u1
  have x5 := (Box.new (w.alloc (.cells #[.map mp, .int .i64 many, .int .i64 til] 109)) ⟨et, eto, efr, esq, ekd, edt⟩ 74).up u1
  simp only [World.size_alloc] at x5; obtain ⟨b0, b1, b2⟩ := And.intro x3.c0 (And.intro x3.c1 x3.c2); obtain ⟨⟨y0, y1, y2, y3, y4, y5⟩, -⟩ := x5.mk6
  have U := Lib.hid ((((Up.refl w).alloc (.cells #[.map mp, .int .i64 many, .int .i64 til] 109)).alloc (.cells #[.int .i64 et, .int .i64 eto, .int .i64 efr, .int .i64 esq, .int .i64 ekd, .int .i64 edt] 74)).trans u1)
  clear x3 x5 u1
  cases b
  · go_wp2
    go_ret
    exact ⟨rfl, U.out⟩
  · go_wp2
    go_ret
    exact ⟨by simp, U.out⟩
end Go.Proofs.Ytklldniapombiaa

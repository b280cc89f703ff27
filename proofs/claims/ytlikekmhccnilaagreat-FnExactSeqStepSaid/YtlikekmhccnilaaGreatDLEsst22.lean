/-
  What szSeqState and toSeqState return, in one sentence: -1 or what is left, and a copy in new memory; for every simulator that lies in memory.
  What slices.Grow and slices.Concat return of slices of records, in one sentence: a new slice of all of them, one behind the other; for every row of slices that lies in memory.
-/
import Derived.Lib.AppendZeros
import Derived.Test.YtlikekmhccnilaaGreatDLEsst02
import Derived.Test.YtlikekmhccnilaaGreatDLEsst03
import Derived.Test.YtlikekmhccnilaaGreatDLEsst14
import Derived.Test.YtlikekmhccnilaaGreatDLEsst21
namespace Go.Proofs.YtlikekmhccnilaaGreat
set_option maxRecDepth 100000
open Go.RowKit
/-- The world with numbers laid one behind the other. -/
def putF (w : World) (g o : Nat) (f : Nat → Int) : Nat → World
  | 0 => w
  | j + 1 => (putF w g o f j).setCell ⟨g, o + j, none⟩ (.int .i64 (f j))
theorem putF_other (w : World) (g o : Nat) (f : Nat → Int) (b p : Nat) : ∀ s : Nat, (b ≠ g ∨ p < o ∨ o + s ≤ p) → (putF w g o f s).cell? ⟨b, p, none⟩ = w.cell? ⟨b, p, none⟩
  | 0, _ => rfl
  | s + 1, h => by rw [putF, World.cell?_setCell_other _ _ _ _ (addr_ne (by omega)), putF_other w g o f b p s (by omega)]
theorem putF_frozen (w : World) (g o : Nat) (f : Nat → Int) (a : Addr) : ∀ s : Nat, (putF w g o f s).frozen? a = w.frozen? a
  | 0 => rfl
  | s + 1 => by
    have := putF_frozen w g o f a s
    simpa [putF, go_sem] using this
theorem putF_size (w : World) (g o : Nat) (f : Nat → Int) : ∀ s : Nat, (putF w g o f s).heap.size = w.heap.size
  | 0 => rfl
  | s + 1 => by
    have := putF_size w g o f s
    simpa [putF] using this
theorem putF_at (w : World) (g o : Nat) (f : Nat → Int) : ∀ s : Nat, (∀ j, j < s → ∃ v, w.cell? ⟨g, o + j, none⟩ = some v) → ∀ j, j < s → (putF w g o f s).cell? ⟨g, o + j, none⟩ = some (.int .i64 (f j))
  | 0, _, j, hj => absurd hj (by omega)
  | s + 1, h, j, hj => by
    rw [putF]
    by_cases e : j = s
    · subst e
      obtain ⟨v, hv⟩ := h j (by omega)
      exact World.cell?_setCell_same _ _ _ ((putF_other w g o f g (o + j) j (by omega)).trans hv)
    · rw [World.cell?_setCell_other _ _ _ _ (addr_ne (by omega))]
      exact putF_at w g o f s (fun i hi => h i (by omega)) j (by omega)
theorem Up.putF {a w : World} {g : Nat} (h : Up a w) (hg : a.heap.size ≤ g) (o : Nat) (f : Nat → Int) : ∀ s : Nat, Up a (Go.Proofs.YtlikekmhccnilaaGreat.putF w g o f s)
  | 0 => h
  | s + 1 => (Up.putF h hg o f s).setCell hg _
theorem IntsOwn.putF {w : World} {g N o s : Nat} {f : Nat → Int} (h : IntsOwn w g N) : IntsOwn (Go.Proofs.YtlikekmhccnilaaGreat.putF w g o f s) g N := by
  refine ⟨by rw [putF_size]; exact h.1, fun j hj => ?_⟩; obtain ⟨⟨z, hz⟩, hf⟩ := h.2 j hj; refine ⟨?_, (putF_frozen _ _ _ _ _ _).trans hf⟩
  induction s with
  | zero => exact ⟨z, hz⟩
  | succ s ih =>
    obtain ⟨z', hz'⟩ := ih; rw [Go.Proofs.YtlikekmhccnilaaGreat.putF]
    by_cases e : o + s = j
    · subst e
      exact ⟨_, World.cell?_setCell_same _ _ _ hz'⟩
    · exact ⟨z', (World.cell?_setCell_other _ _ _ _ (addr_ne (by omega))).trans hz'⟩
/-- On the way: k rows of s numbers are laid. -/
def RowsTo (w : World) (g n s k : Nat) (F : Nat → Nat → Int) : Prop := IntsOwn w g (n * s) ∧ ∀ i, i < k → ∀ j, j < s → w.cell? ⟨g, i * s + j, none⟩ = some (.int .i64 (F i j))
theorem RowsTo.up {w w' : World} {g n s k : Nat} {F : Nat → Nat → Int} (h : RowsTo w g n s k F) (u : Up w w') : RowsTo w' g n s k F := ⟨h.1.up u, fun i hi j hj => (u.cells _ _ h.1.1).trans (h.2 i hi j hj)⟩
theorem RowsTo.step {w : World} {g n s k : Nat} {F : Nat → Nat → Int} (h : RowsTo w g n s k F) (hk : k < n) (f : Nat → Int) (hf : ∀ j, j < s → f j = F k j) : RowsTo (putF w g (k * s) f s) g n s (k + 1) F := by
  have le1 : (k + 1) * s ≤ n * s := Nat.mul_le_mul_right s (by omega)
  have e1 : (k + 1) * s = k * s + s := by rw [Nat.add_mul, Nat.one_mul]
  refine ⟨h.1.putF, fun i hi j hj => ?_⟩
  by_cases hik : i = k
  · subst hik
    rw [← hf j hj]
    exact putF_at w g (i * s) _ s (fun j hj => by
      obtain ⟨⟨z, hz⟩, _⟩ := h.1.2 (i * s + j) (by omega)
      exact ⟨_, hz⟩) j hj
  · have le2 : (i + 1) * s ≤ k * s := Nat.mul_le_mul_right s (by omega)
    have e2 : (i + 1) * s = i * s + s := by rw [Nat.add_mul, Nat.one_mul]
    exact (putF_other w g (k * s) _ g (i * s + j) s (by omega)).trans (h.2 i (by omega) j hj)
theorem zeros_get (zs : Array Value) (N : Nat) (hz : ∀ j, j < zs.size → zs[j]! = .int .i64 0) (j : Nat) (hj : j < N) (hs : 0 < zs.size) : (madeCells zs N)[j]? = some (.int .i64 0) := by
  have hsz : j < (madeCells zs N).size := by rw [size_madeCells]; exact hj
  rw [Array.getElem?_eq_getElem hsz]; simp only [madeCells, Array.getElem_map, Array.getElem_range]; rw [hz _ (Nat.mod_lt _ hs)]
theorem RowsTo.start (w : World) (n s : Nat) (zs : Array Value) (t : TypeId) (F : Nat → Nat → Int) (hz : ∀ j, j < zs.size → zs[j]! = .int .i64 0) (hs : 0 < zs.size) : RowsTo (w.alloc (.cells (madeCells zs (n * s)) t)) w.heap.size n s 0 F := by
  have hh := heap_alloc_new w (.cells (madeCells zs (n * s)) t)
  refine ⟨⟨by simp, fun j hj => ⟨⟨0, ?_⟩, ?_⟩⟩, fun i hi => absurd hi (by omega)⟩
  · rw [cell_of_row _ _ j _ _ _ hh]
    exact zeros_get zs _ hz j hj hs
  · unfold World.frozen?
    rw [hh]; simp
def Cst.nums (c : Cst) : List Int := [c.s, c.sq, c.ct]
def Rec.nums (r : Rec) : List Int := [r.ev.t, r.ev.to, r.ev.fr, r.ev.sq, r.ev.kd, r.ev.dt, r.s]
theorem szC_any (A : Option Addr) (n cap : Nat) (left : Int) (w : World) (h0 : 0 ≤ left) (h1 : left ≤ 1048576) (hn : n ≤ 9223372036854775807) :
    Calls Tryz.prog 51 #[.slice A n cap, .int .i64 left] w fun x w' => x = .returned (.int .i64 (if left < n then -1 else left - n)) ∧ w = w' := by
  have hwrap := IntWalk.i64_in (left - n) (by omega)
  by_cases h : left < n
  · have j1 : left - (n : Int) < 0 := by omega
    go_enter Tryz.func51, Tryz.ntmps51
    go_wp2; go_ret
    exact ⟨by first | rfl | (rw [if_pos h]; rfl), rfl⟩
  · have j1 : ¬ left - (n : Int) < 0 := by omega
    go_enter Tryz.func51, Tryz.ntmps51
    go_wp2; go_ret
    exact ⟨by first | rfl | (rw [if_neg h]; rfl), rfl⟩
theorem szR_any (A : Option Addr) (n cap : Nat) (left : Int) (w : World) (h0 : 0 ≤ left) (h1 : left ≤ 1048576) (hn : n ≤ 9223372036854775807) :
    Calls Tryz.prog 52 #[.slice A n cap, .int .i64 left] w fun x w' => x = .returned (.int .i64 (if left < n then -1 else left - n)) ∧ w = w' := by
  have hwrap := IntWalk.i64_in (left - n) (by omega)
  by_cases h : left < n
  · have j1 : left - (n : Int) < 0 := by omega
    go_enter Tryz.func52, Tryz.ntmps52
    go_wp2; go_ret
    exact ⟨by first | rfl | (rw [if_pos h]; rfl), rfl⟩
  · have j1 : ¬ left - (n : Int) < 0 := by omega
    go_enter Tryz.func52, Tryz.ntmps52
    go_wp2; go_ret
    exact ⟨by first | rfl | (rw [if_neg h]; rfl), rfl⟩
def ZRec : Array Value := #[.int .i64 0, .int .i64 0, .int .i64 0, .int .i64 0, .int .i64 0, .int .i64 0, .int .i64 0]
theorem IntsOwn.zr (w : World) : IntsOwn (w.alloc (.cells ZRec 132)) w.heap.size 7 := by
  have hh := heap_alloc_new w (.cells ZRec 132)
  refine ⟨by simp, fun j hj => ⟨⟨0, ?_⟩, ?_⟩⟩
  · rw [cell_of_row _ _ j _ _ _ hh]
    have h : j = 0 ∨ j = 1 ∨ j = 2 ∨ j = 3 ∨ j = 4 ∨ j = 5 ∨ j = 6 := by omega
    rcases h with rfl | rfl | rfl | rfl | rfl | rfl | rfl <;> rfl
  · unfold World.frozen?
    rw [hh]; simp
theorem IntsOwn.upN {w : World} {g g' N o s : Nat} {f : Nat → Int} (h : IntsOwn w g N) (hne : g ≠ g') : IntsOwn (Go.Proofs.YtlikekmhccnilaaGreat.putF w g' o f s) g N := by
  refine ⟨by rw [putF_size]; exact h.1, fun j hj => ?_⟩; obtain ⟨⟨z, hz⟩, hf⟩ := h.2 j hj
  exact ⟨⟨z, (putF_other _ _ _ _ _ _ _ (.inl hne)).trans hz⟩, (putF_frozen _ _ _ _ _ _).trans hf⟩
set_option maxHeartbeats 1000000 in
theorem toRec_any (r : Rec) (w : World) :
    Calls Tryz.prog 152 #[r.v] w fun x w' => x = .returned r.v ∧ Up w w' := by
  have CE := Lib.hid (fun W => toEvt_any r.ev W)
  unfold Rec.v; obtain ⟨⟨t, to, fr, sq, kd, dt⟩, s⟩ := r; unfold Evt.v at CE; dsimp only at CE ⊢
  go_enter Tryz.func152, Tryz.ntmps152
  go_wp2_with fail
  have U0 := Lib.hid ((((Up.refl w).alloc (.cells #[.int .i64 t, .int .i64 to, .int .i64 fr, .int .i64 sq, .int .i64 kd, .int .i64 dt, .int .i64 s] 207)).alloc (.cells ZRec 132)).alloc (.cells ZRec 132))
  have c6 : (((w.alloc (.cells #[.int .i64 t, .int .i64 to, .int .i64 fr, .int .i64 sq, .int .i64 kd, .int .i64 dt, .int .i64 s] 207)).alloc (.cells ZRec 132)).alloc (.cells ZRec 132)).cell? ⟨w.heap.size, 6, none⟩ = some (.int .i64 s) := by
    refine (((Up.refl (w.alloc (.cells #[.int .i64 t, .int .i64 to, .int .i64 fr, .int .i64 sq, .int .i64 kd, .int .i64 dt, .int .i64 s] 207))).alloc (.cells ZRec 132)).alloc (.cells ZRec 132)).cells _ _ (by simp) |>.trans ?_
    rw [cell_of_row _ _ 6 _ _ _ (heap_alloc_new _ _)]
    rfl
  have i1 := (IntsOwn.zr (w.alloc (.cells #[.int .i64 t, .int .i64 to, .int .i64 fr, .int .i64 sq, .int .i64 kd, .int .i64 dt, .int .i64 s] 207))).up ((Up.refl _).alloc (.cells ZRec 132))
  have i2 := IntsOwn.zr ((w.alloc (.cells #[.int .i64 t, .int .i64 to, .int .i64 fr, .int .i64 sq, .int .i64 kd, .int .i64 dt, .int .i64 s] 207)).alloc (.cells ZRec 132))
  simp only [World.size_alloc] at i1 i2; unfold ZRec at U0 c6 i1 i2
  generalize hW : ((w.alloc (.cells #[.int .i64 t, .int .i64 to, .int .i64 fr, .int .i64 sq, .int .i64 kd, .int .i64 dt, .int .i64 s] 207)).alloc (.cells #[.int .i64 0, .int .i64 0, .int .i64 0, .int .i64 0, .int .i64 0, .int .i64 0, .int .i64 0] 132)).alloc (.cells #[.int .i64 0, .int .i64 0, .int .i64 0, .int .i64 0, .int .i64 0, .int .i64 0, .int .i64 0] 132) = W at *
  clear hW; refine (CE.out _).mono ?_; rintro x wA ⟨rfl, uA⟩
  have UA := Lib.hid (U0.out.trans uA)
  have c6 := (uA.cells _ _ (Nat.lt_of_lt_of_le (show w.heap.size < w.heap.size + 1 by omega) (Nat.le_of_lt i1.1))).trans c6
  have I1 := Lib.hid (i1.up uA)
  have I2 := Lib.hid (i2.up uA)
  have hlt1 := I1.out.1
  have hlt2 := I2.out.1
  clear i1 i2 uA
  have K2 := Lib.hid (putF_at wA (w.heap.size + 1 + 1) 0 ([t, to, fr, sq, kd, dt, s].getD · 0) 7 (fun j hj => by obtain ⟨⟨z, hz⟩, _⟩ := I2.out.2 (0 + j) (by omega); exact ⟨_, hz⟩))
  have IE := Lib.hid (I1.out.upN (o := 0) (f := ([t, to, fr, sq, kd, dt, s].getD · 0)) (s := 7) (g' := w.heap.size + 1 + 1) (by omega))
  have K1 := Lib.hid (putF_at (putF wA (w.heap.size + 1 + 1) 0 ([t, to, fr, sq, kd, dt, s].getD · 0) 7) (w.heap.size + 1) 0 ([t, to, fr, sq, kd, dt, s].getD · 0) 7 (fun j hj => by obtain ⟨⟨z, hz⟩, _⟩ := IE.out.2 (0 + j) (by omega); exact ⟨_, hz⟩))
  have UE := Lib.hid ((UA.out.putF (g := w.heap.size + 1 + 1) (by omega) 0 ([t, to, fr, sq, kd, dt, s].getD · 0) 7).putF (g := w.heap.size + 1) (by omega) 0 ([t, to, fr, sq, kd, dt, s].getD · 0) 7)
  obtain ⟨k0, k1, k2, k3, k4, k5, k6⟩ := And.intro (K2.out 0 (by omega)) (And.intro (K2.out 1 (by omega)) (And.intro (K2.out 2 (by omega)) (And.intro (K2.out 3 (by omega)) (And.intro (K2.out 4 (by omega)) (And.intro (K2.out 5 (by omega)) (K2.out 6 (by omega))))))); obtain ⟨l0, l1, l2, l3, l4, l5, l6⟩ := And.intro (K1.out 0 (by omega)) (And.intro (K1.out 1 (by omega)) (And.intro (K1.out 2 (by omega)) (And.intro (K1.out 3 (by omega)) (And.intro (K1.out 4 (by omega)) (And.intro (K1.out 5 (by omega)) (K1.out 6 (by omega))))))); simp only [putF, Nat.zero_add, List.getD_cons_zero, List.getD_cons_succ] at k0 k1 k2 k3 k4 k5 k6 l0 l1 l2 l3 l4 l5 l6 UE
  obtain ⟨⟨⟨a0, m0⟩, f0⟩, ⟨⟨a1, m1⟩, f1⟩, ⟨⟨a2, m2⟩, f2⟩, ⟨⟨a3, m3⟩, f3⟩, ⟨⟨a4, m4⟩, f4⟩, ⟨⟨a5, m5⟩, f5⟩, ⟨⟨a6, m6⟩, f6⟩⟩ := And.intro (I2.out.2 0 (by omega)) (And.intro (I2.out.2 1 (by omega)) (And.intro (I2.out.2 2 (by omega)) (And.intro (I2.out.2 3 (by omega)) (And.intro (I2.out.2 4 (by omega)) (And.intro (I2.out.2 5 (by omega)) (I2.out.2 6 (by omega))))))); obtain ⟨⟨⟨b0, n0⟩, g0⟩, ⟨⟨b1, n1⟩, g1⟩, ⟨⟨b2, n2⟩, g2⟩, ⟨⟨b3, n3⟩, g3⟩, ⟨⟨b4, n4⟩, g4⟩, ⟨⟨b5, n5⟩, g5⟩, ⟨⟨b6, n6⟩, g6⟩⟩ := And.intro (I1.out.2 0 (by omega)) (And.intro (I1.out.2 1 (by omega)) (And.intro (I1.out.2 2 (by omega)) (And.intro (I1.out.2 3 (by omega)) (And.intro (I1.out.2 4 (by omega)) (And.intro (I1.out.2 5 (by omega)) (I1.out.2 6 (by omega)))))))
  clear K1 K2 IE I1 I2 U0 UA
  go_wp2_with fail
  exact bodyPost_ret (v := .agg #[.int .i64 t, .int .i64 to, .int .i64 fr, .int .i64 sq, .int .i64 kd, .int .i64 dt, .int .i64 s]) (by simp [results, Tryz.results152, go_sem, l0, l1, l2, l3, l4, l5, l6]) rfl ⟨rfl, UE.out⟩
theorem info132 : (Tryz.prog.info? 132).map (fun i => (i.zero, i.size, i.bytes)) = some (some (.agg #[.int .i64 0, .int .i64 0, .int .i64 0, .int .i64 0, .int .i64 0, .int .i64 0, .int .i64 0]), 7, 56) := by kernel_rfl
set_option maxHeartbeats 2000000 in
theorem toC_any (A : Option Addr) (n cap : Nat) (xs : List Cst) (w : World) (hn : n ≤ 1048576) (hE : Csts w A n xs) :
    Calls Tryz.prog 58 #[.slice A n cap] w fun x w' => ∃ g, x = .returned (.slice (some ⟨g, 0, none⟩) n n) ∧ w.heap.size ≤ g ∧ Csts w' (some ⟨g, 0, none⟩) n xs ∧ IntsOwn w' g (n * 3) ∧ Up w w' := by
  obtain ⟨i0, hi, hz0, hz1, hz2⟩ := info_parts info64
  have hmk := fun W => run_make_rowN (P := Tryz.prog) 32 64 i0 _ Tryz.underlying32 hi hz0 .i64 .i64 n n (Nat.le_refl _) (by rw [hz2]; omega) (by omega) W
  rw [hz1] at hmk
  have HE := Lib.hid hE
  have LE := Lib.hid hE.1
  have CL := Lib.hid (fun a W => toCst_any a W)
  clear hE hi hz0 hz1 hz2
  go_enter Tryz.func58, Tryz.ntmps58
  go_wp2
  generalize hg : w.heap.size = g
  have HG := Lib.hid (Nat.le_of_eq hg)
  go_loopw [4] (fun i wr => (∃ k : Nat, k ≤ n ∧ i = .int .i64 k ∧ RowsTo wr g n 3 k (fun i j => (xs.getD i default).nums.getD j 0)) ∧ Up w wr) (fun i _ => n - (intOf i).toNat)
  case atStart =>
    refine ⟨⟨0, by omega, rfl, ?_⟩, (Up.refl _).alloc _⟩; subst hg
    exact RowsTo.start w n 3 #[.int .i64 0, .int .i64 0, .int .i64 0] 64 _ (fun j hj => by
      have h : j = 0 ∨ j = 1 ∨ j = 2 := by simp at hj; omega
      rcases h with rfl | rfl | rfl <;> rfl) (by simp)
  case round =>
    obtain ⟨⟨k, hk, rfl, hp⟩, ur⟩ := hrel
    have HP := Lib.hid hp
    have UR := Lib.hid ur
    by_cases hlt : k < n
    · obtain ⟨b, off, hA, hb, hc⟩ := HE.out.2 (by omega)
      subst hA
      have a0 := (hc k hlt).up ur hb
      have hb' : b < wr.heap.size := by have := ur.size; omega
      clear hc hp ur
      have cl := CL.out (xs.getD k default)
      have SX := Lib.hid (fun W (h : RowsTo W g n 3 k (fun i j => (xs.getD i default).nums.getD j 0)) => h.step hlt ((xs.getD k default).nums.getD · 0) (fun j _ => rfl))
      generalize xs.getD k default = p at a0 cl SX
      unfold CstAt at a0; unfold Cst.v at cl; obtain ⟨p0, p1, p2⟩ := a0
      have C := Lib.hid cl
      clear cl
      have i4 : (k : Int) < n := by omega
      go_wp2_with fail
      refine (C.out _).mono ?_; rintro x wA ⟨rfl, uA⟩
      have P := HP.out.up uA
      obtain ⟨⟨⟨v0, c0⟩, f0⟩, ⟨⟨v1, c1⟩, f1⟩, ⟨⟨v2, c2⟩, f2⟩⟩ := And.intro (P.1.2 (k * 3) (by omega)) (And.intro (P.1.2 (k * 3 + 1) (by omega)) (P.1.2 (k * 3 + 2) (by omega)))
      have NX := Lib.hid (SX.out _ P)
      have UX := Lib.hid (((UR.out.trans uA).putF HG.out (k * 3) (p.nums.getD · 0) 3))
      simp only [putF, Cst.nums, Nat.add_zero, List.getD_cons_zero, List.getD_cons_succ] at NX UX
      have hgl := P.1.1
      clear P p0 p1 p2 SX; go_wp2
      go_roundw
      case rel => exact ⟨⟨k + 1, by omega, by go_num, NX.out⟩, UX.out⟩
      case measure => simp [intOf]; omega
    · obtain rfl : k = n := by omega
      have i4 : ¬ (k : Int) < k := by omega
      clear hp ur; go_wp2; go_ret
      exact ⟨g, rfl, by have := HG.out; omega, ⟨LE.out, fun _ => ⟨g, 0, rfl, HP.out.1.1, fun i hi => by
        have h := HP.out.2 i hi
        exact ⟨by rw [Nat.zero_add]; exact h 0 (by omega), by rw [Nat.zero_add]; exact h 1 (by omega), by rw [Nat.zero_add]; exact h 2 (by omega)⟩⟩⟩, HP.out.1, UR.out⟩
set_option maxHeartbeats 2000000 in
theorem toR_any (A : Option Addr) (n cap : Nat) (xs : List Rec) (w : World) (hn : n ≤ 1048576) (hE : Recs w A n xs) :
    Calls Tryz.prog 59 #[.slice A n cap] w fun x w' => ∃ g, x = .returned (.slice (some ⟨g, 0, none⟩) n n) ∧ w.heap.size ≤ g ∧ Recs w' (some ⟨g, 0, none⟩) n xs ∧ IntsOwn w' g (n * 7) ∧ Up w w' := by
  obtain ⟨i0, hi, hz0, hz1, hz2⟩ := info_parts info132
  have hmk := fun W => run_make_rowN (P := Tryz.prog) 34 132 i0 _ Tryz.underlying34 hi hz0 .i64 .i64 n n (Nat.le_refl _) (by rw [hz2]; omega) (by omega) W
  rw [hz1] at hmk
  have HE := Lib.hid hE
  have LE := Lib.hid hE.1
  have CL := Lib.hid (fun a W => toRec_any a W)
  clear hE hi hz0 hz1 hz2
  go_enter Tryz.func59, Tryz.ntmps59
  go_wp2
  generalize hg : w.heap.size = g
  have HG := Lib.hid (Nat.le_of_eq hg)
  go_loopw [4] (fun i wr => (∃ k : Nat, k ≤ n ∧ i = .int .i64 k ∧ RowsTo wr g n 7 k (fun i j => (xs.getD i default).nums.getD j 0)) ∧ Up w wr) (fun i _ => n - (intOf i).toNat)
  case atStart =>
    refine ⟨⟨0, by omega, rfl, ?_⟩, (Up.refl _).alloc _⟩; subst hg
    exact RowsTo.start w n 7 #[.int .i64 0, .int .i64 0, .int .i64 0, .int .i64 0, .int .i64 0, .int .i64 0, .int .i64 0] 132 _ (fun j hj => by
      have h : j = 0 ∨ j = 1 ∨ j = 2 ∨ j = 3 ∨ j = 4 ∨ j = 5 ∨ j = 6 := by simp at hj; omega
      rcases h with rfl | rfl | rfl | rfl | rfl | rfl | rfl <;> rfl) (by simp)
  case round =>
    obtain ⟨⟨k, hk, rfl, hp⟩, ur⟩ := hrel
    have HP := Lib.hid hp
    have UR := Lib.hid ur
    by_cases hlt : k < n
    · obtain ⟨b, off, hA, hb, hc⟩ := HE.out.2 (by omega)
      subst hA
      have a0 := (hc k hlt).up ur hb
      have hb' : b < wr.heap.size := by have := ur.size; omega
      clear hc hp ur
      have cl := CL.out (xs.getD k default)
      have SX := Lib.hid (fun W (h : RowsTo W g n 7 k (fun i j => (xs.getD i default).nums.getD j 0)) => h.step hlt ((xs.getD k default).nums.getD · 0) (fun j _ => rfl))
      generalize xs.getD k default = p at a0 cl SX
      unfold RecAt at a0; unfold Rec.v at cl; obtain ⟨p0, p1, p2, p3, p4, p5, p6⟩ := a0
      have C := Lib.hid cl
      clear cl
      have i4 : (k : Int) < n := by omega
      go_wp2_with fail
      refine (C.out _).mono ?_; rintro x wA ⟨rfl, uA⟩
      have P := HP.out.up uA
      obtain ⟨⟨⟨v0, c0⟩, f0⟩, ⟨⟨v1, c1⟩, f1⟩, ⟨⟨v2, c2⟩, f2⟩, ⟨⟨v3, c3⟩, f3⟩, ⟨⟨v4, c4⟩, f4⟩, ⟨⟨v5, c5⟩, f5⟩, ⟨⟨v6, c6⟩, f6⟩⟩ := And.intro (P.1.2 (k * 7) (by omega)) (And.intro (P.1.2 (k * 7 + 1) (by omega)) (And.intro (P.1.2 (k * 7 + 2) (by omega)) (And.intro (P.1.2 (k * 7 + 3) (by omega)) (And.intro (P.1.2 (k * 7 + 4) (by omega)) (And.intro (P.1.2 (k * 7 + 5) (by omega)) (P.1.2 (k * 7 + 6) (by omega)))))))
      have NX := Lib.hid (SX.out _ P)
      have UX := Lib.hid (((UR.out.trans uA).putF HG.out (k * 7) (p.nums.getD · 0) 7))
      simp only [putF, Rec.nums, Nat.add_zero, List.getD_cons_zero, List.getD_cons_succ] at NX UX
      have hgl := P.1.1
      clear P p0 p1 p2 p3 p4 p5 p6 SX; go_wp2
      go_roundw
      case rel => exact ⟨⟨k + 1, by omega, by go_num, NX.out⟩, UX.out⟩
      case measure => simp [intOf]; omega
    · obtain rfl : k = n := by omega
      have i4 : ¬ (k : Int) < k := by omega
      clear hp ur; go_wp2; go_ret
      exact ⟨g, rfl, by have := HG.out; omega, ⟨LE.out, fun _ => ⟨g, 0, rfl, HP.out.1.1, fun i hi => by
        have h := HP.out.2 i hi
        exact ⟨by rw [Nat.zero_add]; exact h 0 (by omega), by rw [Nat.zero_add]; exact h 1 (by omega), by rw [Nat.zero_add]; exact h 2 (by omega), by rw [Nat.zero_add]; exact h 3 (by omega), by rw [Nat.zero_add]; exact h 4 (by omega), by rw [Nat.zero_add]; exact h 5 (by omega), by rw [Nat.zero_add]; exact h 6 (by omega)⟩⟩⟩, HP.out.1, UR.out⟩
end Go.Proofs.YtlikekmhccnilaaGreat

namespace Go.Proofs.YtlikekmhccnilaaGreat
set_option maxRecDepth 100000
open Go.RowKit
theorem RecAt.at7 {w : World} {b o k : Nat} {r : Rec} {u : Value} (h : RecAt w b o r) (hk : k < 7) (hu : r.c7[k]? = some u) : w.cell? ⟨b, o + k, none⟩ = some u := by
  obtain ⟨h0, h1, h2, h3, h4, h5, h6⟩ := h
  have e : k = 0 ∨ k = 1 ∨ k = 2 ∨ k = 3 ∨ k = 4 ∨ k = 5 ∨ k = 6 := by omega
  rcases e with rfl | rfl | rfl | rfl | rfl | rfl | rfl
  · exact h0.trans hu
  · exact h1.trans hu
  · exact h2.trans hu
  · exact h3.trans hu
  · exact h4.trans hu
  · exact h5.trans hu
  · exact h6.trans hu
theorem Recs.reads {w : World} {A : Option Addr} {n : Nat} {es : List Rec} (h : Recs w A n es) : Reads w w.heap.size 7 A n (flat7 es) := by
  refine ⟨by rw [flat7_len, h.1], fun hn => ?_⟩; obtain ⟨b, off, hA, hb, hc⟩ := h.2 hn; refine ⟨_, hA, hb, fun j u hu => ?_⟩
  have hj : j < (flat7 es).length := (List.getElem?_eq_some_iff.1 hu).1
  rw [flat7_len, h.1] at hj
  have e : j = j / 7 * 7 + j % 7 := by omega
  have hi : j / 7 < n := by omega
  rw [e, flat7_get es _ _ (by rw [h.1]; exact hi) (by omega)] at hu
  have := (hc _ hi).at7 (by omega) hu
  have ad : (⟨b, off, none⟩ : Addr).add j = ⟨b, off + j / 7 * 7 + j % 7, none⟩ := by
    unfold Addr.add
    split
    · rename_i h0; subst h0; rfl
    · rw [Nat.add_assoc, ← e]
  rw [ad]
  exact this
/-- The new slice that a function hands back. -/
def NewRc (es : List Rec) (w : World) (x : Ending) (w' : World) : Prop :=
  ∃ A c, x = .returned (.slice A es.length c) ∧ es.length ≤ c ∧ c ≤ 9223372036854775807 ∧ Recs w' A es.length es ∧ w'.ownsRow w.heap.size 132 7 (.slice A es.length c) es.length (flat7 es) ∧ Up w w'
theorem NewRc.of_own {w w' : World} {n : Nat} {v : Value} {es : List Rec} (h : w'.ownsRow w.heap.size 132 7 v n (flat7 es)) (u : Up w w') : NewRc es w (.returned v) w' := by
  obtain ⟨rfl, A, c, rfl, hc, hm⟩ := own7_slice h
  exact ⟨A, c, rfl, hc, hm, own7_recs h, h, u⟩
def GrownRc (w : World) (x : Ending) (w' : World) : Prop := ∃ v, x = .returned v ∧ w'.ownsRow w.heap.size 132 7 v 0 (flat7 []) ∧ Up w w'
theorem zerosR_size (z : Array Value) (n : Nat) : (Builtin.zeroCells z n).size = n * z.size := by simp [Builtin.zeroCells]
set_option maxHeartbeats 4000000 in
theorem growR_any (n : Nat) (w : World) (hn : n ≤ 2000000000) : Calls Tryz.prog 223 #[.slice none 0 0, .int .i64 n] w (GrownRc w) := by
  obtain ⟨i0, hi0, hz0, hz1, hz2⟩ := info_parts info132
  have INF := Lib.hid (And.intro hi0 (And.intro hz0 (And.intro hz1 hz2)))
  clear hi0 hz0 hz1 hz2
  by_cases h0 : n = 0
  · subst h0
    go_enter Tryz.func223, Tryz.ntmps223
    go_wp2; go_ret
    exact ⟨_, rfl, ⟨rfl, .inl ⟨rfl, rfl⟩⟩, Up.refl _⟩
  · have p0 : 0 < n := by omega
    have p1 : (0 : Int) < n := by omega
    have p2 : ¬ (n : Int) < 0 := by omega
    have h48 : n * i0.bytes ≤ 281474976710656 := by rw [INF.out.2.2.2]; omega
    have RUN := Lib.hid (fun ty W => Lib.run_append_nil_zeros (P := Tryz.prog) W 34 3 ty 132 i0 _ .i64 .i64 Tryz.underlying34 Tryz.underlying3 INF.out.1 INF.out.2.1 n p0 (by rw [INF.out.2.2.1]; omega) (by omega) h48)
    clear h48
    go_enter Tryz.func223, Tryz.ntmps223
    go_wp2_with (at_builtin; refine Lib.wpList_append_run _ rfl (.tmp 20) (.tmp 21) 34 3 rfl _ _ rfl rfl _ _ (RUN.out _ _) ?_)
    go_ret; refine ⟨_, rfl, ⟨rfl, .inr ⟨w.heap.size, grownCap w n 0 132, _, rfl, Nat.le_refl _, heap_alloc_new w.drew _, Nat.zero_le _, grownCap_le_maxLen _ _ _ _ (by simp only [maxLen]; omega), ?_, rfl⟩⟩, (Up.refl w).drew.alloc _⟩
    have := grownCap_ge w n 0 132
    rw [Array.size_append, zerosR_size, zerosR_size]; simp
    omega
/-- The block b holds one slice for each list. -/
def PartsR (w : World) (b : Nat) (L : List (List Rec)) : Prop :=
  ∀ j, j < L.length → ∃ A c, w.cell? ⟨b, j, none⟩ = some (.slice A (L.getD j []).length c) ∧ Recs w A (L.getD j []).length (L.getD j [])
theorem flatR_step (L : List (List Rec)) (k : Nat) (h : k < L.length) : (L.take (k + 1)).flatten = (L.take k).flatten ++ L.getD k [] := by
  rw [List.take_succ_eq_append_getElem h, List.flatten_append]; simp [h]
theorem flatR_le (L : List (List Rec)) (k : Nat) : (L.take k).flatten.length ≤ L.flatten.length := by
  have : L.flatten = (L.take k).flatten ++ (L.drop k).flatten := by rw [← List.flatten_append, List.take_append_drop]
  rw [this, List.length_append]
  omega
theorem flatR_end (L : List (List Rec)) (k : Nat) (h : L.length ≤ k) : (L.take k).flatten = L.flatten := by rw [List.take_of_length_le h]
set_option maxHeartbeats 4000000 in
theorem concatR_any (b cap : Nat) (L : List (List Rec)) (w : World) (hL : L.length ≤ 1000000) (hb : b < w.heap.size) (hP : PartsR w b L) (hT : L.flatten.length ≤ 1000000000) :
    Calls Tryz.prog 164 #[.slice (some ⟨b, 0, none⟩) L.length cap] w (NewRc L.flatten w) := by
  obtain ⟨i0, hi0, hz0, hz1, hz2⟩ := info_parts info132
  have INF := Lib.hid (And.intro hi0 (And.intro hz0 (And.intro hz1 hz2)))
  have SIX := Lib.hid (show 0 < 7 by omega)
  have HP := Lib.hid hP
  have FS := Lib.hid (flatR_step L)
  have FL := Lib.hid (flatR_le L)
  have FE := Lib.hid (flatR_end L)
  have HT := Lib.hid hT
  clear hi0 hz0 hz1 hz2 hP hT
  go_enter Tryz.func164, Tryz.ntmps164
  go_wp2
  go_loopw [3, 11] (fun s i wr => (∃ k : Nat, k ≤ L.length ∧ i = .int .i64 k ∧ s = .int .i64 ((L.take k).flatten.length : Nat)) ∧ Up w wr) (fun _ i _ => L.length - (intOf i).toNat)
  case atStart => exact ⟨⟨0, by omega, rfl, rfl⟩, Up.refl _⟩
  case round =>
    obtain ⟨⟨k, hk, rfl, rfl⟩, ur⟩ := hrel
    by_cases hlt : k < L.length
    · obtain ⟨A, c, hcell, _⟩ := HP.out k hlt
      have cell' := (ur.cells b k hb).trans hcell
      clear hcell
      have st := congrArg List.length (FS.out k hlt)
      rw [List.length_append] at st
      have le := FL.out (k + 1)
      have ht := HT.out
      generalize (L.getD k []).length = m at st cell'
      generalize hs2 : (L.take (k + 1)).flatten.length = s2 at st le
      have HS2 := Lib.hid hs2
      clear hs2
      generalize (L.take k).flatten.length = s at st
      have ST := Lib.hid st
      have sm : s + m ≤ 1000000000 := by omega
      clear st le ht
      have i3 : (k : Int) < L.length := by omega
      have i4 : IntKind.i64.wrap ((s : Int) + m) = (s : Int) + m := IntWalk.i64_in _ (by omega)
      have i5 : ¬ (s : Int) + m < 0 := by omega
      have hb' : b < wr.heap.size := by have := ur.size; omega
      go_wp2
      go_roundw
      case rel => exact ⟨⟨k + 1, by omega, by go_num, by rw [HS2.out, ST.out]; simp⟩, ur⟩
      case measure => simp [intOf]; omega
    · have i3 : ¬ (k : Int) < L.length := by omega
      rw [FE.out k (by omega)]
      have ht := HT.out
      generalize hN : L.flatten.length = N at ht
      have HN := Lib.hid hN
      clear hN
      go_wp2_with fail
      refine (growR_any N _ (by omega)).mono ?_; rintro x w1 ⟨v1, rfl, o1, u1⟩
      have O1 := Lib.hid (own_mono o1 ur.size)
      have U1 := Lib.hid (ur.trans u1)
      clear o1 u1 ur i3 hk ht
      go_wp2_with fail
      go_loopw [6, 27] (fun v i wr => (∃ k : Nat, k ≤ L.length ∧ i = .int .i64 k ∧ wr.ownsRow w.heap.size 132 7 v (L.take k).flatten.length (flat7 (L.take k).flatten)) ∧ Up w wr) (fun _ i _ => L.length - (intOf i).toNat)
      case atStart => exact ⟨⟨0, by omega, rfl, O1.out⟩, U1.out⟩
      case round =>
        obtain ⟨⟨k, hk, rfl, ho⟩, ur⟩ := hrel
        have HO := Lib.hid ho
        clear ho U1
        by_cases hlt : k < L.length
        · obtain ⟨A, c, hcell, hev⟩ := HP.out k hlt
          have cell' := (ur.cells b k hb).trans hcell
          have RD := Lib.hid (hev.up ur).reads
          clear hcell hev
          have fk := FS.out k hlt
          have st := congrArg List.length (FS.out k hlt)
          rw [List.length_append] at st
          generalize L.getD k [] = es at cell' RD fk st
          have FK := Lib.hid fk
          clear fk
          have ht := HT.out
          have le := FL.out (k + 1)
          have HMX := Lib.hid (show (L.take k).flatten.length + es.length ≤ maxLen by simp only [maxLen]; omega)
          have HBY := Lib.hid (show ((L.take k).flatten.length + es.length) * 56 ≤ 140737488355328 by omega)
          have HBS := Lib.hid ur.size
          have ST := Lib.hid st
          clear st ht le
          have i3 : (k : Int) < L.length := by omega
          have hb' : b < wr.heap.size := by have := HBS.out; omega
          go_wp2_with (at_builtin; refine wpList_append_any _ rfl (.tmp 31) (.tmp 32) 34 rfl w.heap.size 132 i0 _ 7 56 Tryz.underlying34 INF.out.1 INF.out.2.1 INF.out.2.2.1 INF.out.2.2.2 rfl SIX.out _ _ _ rfl HO.out _ _ _ _ (flat7 es) rfl RD.out (flat7_one _) HMX.out HBY.out HBS.out ?_; intro v2 w2 ho2 hg2 _)
          have HO2 := Lib.hid ho2
          have HG2 := Lib.hid hg2
          clear ho2 hg2
          go_roundw
          case rel => exact ⟨⟨k + 1, by omega, by go_num, by rw [FK.out, flat7_app, List.length_append]; exact HO2.out⟩, ur.grown HG2.out (fun j hj => (HO.out.lt j hj).1)⟩
          case measure => simp [intOf]; omega
        · have i3 : ¬ (k : Int) < L.length := by omega
          have HO2 := Lib.hid (show wr.ownsRow w.heap.size 132 7 _ L.flatten.length (flat7 L.flatten) from FE.out k (by omega) ▸ HO.out)
          go_wp2; go_ret
          exact NewRc.of_own HO2.out ur
end Go.Proofs.YtlikekmhccnilaaGreat

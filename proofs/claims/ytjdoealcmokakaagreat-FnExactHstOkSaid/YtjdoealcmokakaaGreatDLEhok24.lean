/-
  What keeps returns, and every of what is kept, in one sentence: whether all are of the model; for every machine and every list that lies in memory.
  What szSeqState and toSeqState return, in one sentence: -1 or what is left, and a copy in new memory; for every simulator that lies in memory.
-/
import Derived.Lib.AppendZeros
import Derived.Test.YtjdoealcmokakaaGreatDLEhok02
import Derived.Test.YtjdoealcmokakaaGreatDLEhok03
import Derived.Test.YtjdoealcmokakaaGreatDLEhok04
import Derived.Test.YtjdoealcmokakaaGreatDLEhok07
import Derived.Test.YtjdoealcmokakaaGreatDLEhok10
import Derived.Test.YtjdoealcmokakaaGreatDLEhok11
import Derived.Test.YtjdoealcmokakaaGreatDLEhok13
import Derived.Test.YtjdoealcmokakaaGreatDLEhok21
import Derived.Test.YtjdoealcmokakaaGreatDLEhok22
namespace Go.Proofs.YtjdoealcmokakaaGreat
set_option maxRecDepth 100000
open Go.RowKit
set_option maxHeartbeats 8000000 in
theorem keeps_any (mp : Option Nat) (many til comp ids : Int) (k : Kep) (w : World) :
    Calls Tryz.prog 86 #[.agg #[.map mp, .int .i64 many, .int .i64 til], .int .i64 comp, .int .i64 ids, k.v] w fun x w' => x = .returned (.bool (keepB many til comp ids k)) ∧ Up w w' := by
  have hf := Lib.hid (show keepB many til comp ids k = (okB k.by_ many && (decide (k.by_.to = comp) && (itemB many til k.sent && (decide (k.sent.ev.fr = comp) && (decide (k.sent.s < ids) && decide (k.by_.t < k.sent.ev.t)))))) from rfl)
  have c0 := fun W => implOk_any k.by_ many W
  have c1 := fun W => itemOk_any mp many til k.sent W
  generalize keepB many til comp ids k = res at hf ⊢
  generalize okB k.by_ many = b1 at hf c0
  generalize itemB many til k.sent = b2 at hf c1
  obtain ⟨⟨a0, a1, a2, a3, a4, a5⟩, ⟨⟨a6, a7, a8, a9, a10, a11⟩, a12⟩⟩ := k; unfold Kep.v; unfold Evt.v at c0; unfold Rec.v at c1; dsimp only at hf c0 c1 ⊢
  have C0 := Lib.hid c0
  have C1 := Lib.hid c1
  clear c0 c1
  have X := Lib.hid (((Blk.new w #[.map mp, .int .i64 many, .int .i64 til] 84).alloc (.cells #[.int .i64 a0, .int .i64 a1, .int .i64 a2, .int .i64 a3, .int .i64 a4, .int .i64 a5, .int .i64 a6, .int .i64 a7, .int .i64 a8, .int .i64 a9, .int .i64 a10, .int .i64 a11, .int .i64 a12] 74)).alloc (.cells #[.int .i64 a6, .int .i64 a7, .int .i64 a8, .int .i64 a9, .int .i64 a10, .int .i64 a11, .int .i64 a12] 72))
  have Y := Lib.hid ((Blk.new (w.alloc (.cells #[.map mp, .int .i64 many, .int .i64 til] 84)) #[.int .i64 a0, .int .i64 a1, .int .i64 a2, .int .i64 a3, .int .i64 a4, .int .i64 a5, .int .i64 a6, .int .i64 a7, .int .i64 a8, .int .i64 a9, .int .i64 a10, .int .i64 a11, .int .i64 a12] 74).alloc (.cells #[.int .i64 a6, .int .i64 a7, .int .i64 a8, .int .i64 a9, .int .i64 a10, .int .i64 a11, .int .i64 a12] 72))
  have Z := Lib.hid (Blk.new ((w.alloc (.cells #[.map mp, .int .i64 many, .int .i64 til] 84)).alloc (.cells #[.int .i64 a0, .int .i64 a1, .int .i64 a2, .int .i64 a3, .int .i64 a4, .int .i64 a5, .int .i64 a6, .int .i64 a7, .int .i64 a8, .int .i64 a9, .int .i64 a10, .int .i64 a11, .int .i64 a12] 74)) #[.int .i64 a6, .int .i64 a7, .int .i64 a8, .int .i64 a9, .int .i64 a10, .int .i64 a11, .int .i64 a12] 72)
  simp only [World.size_alloc] at Y Z
  have U := Lib.hid ((((Up.refl w).alloc (.cells #[.map mp, .int .i64 many, .int .i64 til] 84)).alloc (.cells #[.int .i64 a0, .int .i64 a1, .int .i64 a2, .int .i64 a3, .int .i64 a4, .int .i64 a5, .int .i64 a6, .int .i64 a7, .int .i64 a8, .int .i64 a9, .int .i64 a10, .int .i64 a11, .int .i64 a12] 74)).alloc (.cells #[.int .i64 a6, .int .i64 a7, .int .i64 a8, .int .i64 a9, .int .i64 a10, .int .i64 a11, .int .i64 a12] 72))
  go_enter Tryz.func86, Tryz.ntmps86
  go_wp2_with fail
  generalize ((w.alloc (.cells #[.map mp, .int .i64 many, .int .i64 til] 84)).alloc (.cells #[.int .i64 a0, .int .i64 a1, .int .i64 a2, .int .i64 a3, .int .i64 a4, .int .i64 a5, .int .i64 a6, .int .i64 a7, .int .i64 a8, .int .i64 a9, .int .i64 a10, .int .i64 a11, .int .i64 a12] 74)).alloc (.cells #[.int .i64 a6, .int .i64 a7, .int .i64 a8, .int .i64 a9, .int .i64 a10, .int .i64 a11, .int .i64 a12] 72) = W at *
  generalize hb2 : w.heap.size + 1 + 1 = bZ at *
  generalize hb1 : w.heap.size + 1 = bY at *
  generalize hb0 : w.heap.size = bX at *
  clear hb0 hb1 hb2; refine (C0.out _).mono ?_; rintro x w1 ⟨rfl, u⟩
  have U := Lib.hid (U.out.trans u)
  have X := Lib.hid (X.out.up u)
  have Y := Lib.hid (Y.out.up u)
  have Z := Lib.hid (Z.out.up u)
  clear u
  cases b1
  · have HR := Lib.hid (show res = false by rw [hf.out]; simp)
    clear hf; go_wp2; go_ret
    exact ⟨ret_bool HR.out.symm, U.out⟩
  · by_cases h1 : a1 = comp
    · have y1 := Y.out.cell (j := 1) rfl
      obtain ⟨x0, x1, x2⟩ := And.intro (X.out.cell (j := 0) rfl) (And.intro (X.out.cell (j := 1) rfl) (X.out.cell (j := 2) rfl))
      have z0 := Z.out.cell (j := 0) rfl
      have z1 := Z.out.cell (j := 1) rfl
      have z2 := Z.out.cell (j := 2) rfl
      have z3 := Z.out.cell (j := 3) rfl
      have z4 := Z.out.cell (j := 4) rfl
      have z5 := Z.out.cell (j := 5) rfl
      have z6 := Z.out.cell (j := 6) rfl
      have lx := X.out.lt
      have ly := Y.out.lt
      have lz := Z.out.lt
      go_wp2_with fail
      refine (C1.out _).mono ?_; rintro x w2 ⟨rfl, u⟩
      have U := Lib.hid (U.out.trans u)
      have X := Lib.hid (X.out.up u)
      have Y := Lib.hid (Y.out.up u)
      have Z := Lib.hid (Z.out.up u)
      clear u x0 x1 x2 y1 lx ly lz z0 z1 z2 z3 z4 z5 z6
      cases b2
      · have HR := Lib.hid (show res = false by rw [hf.out]; simp)
        clear hf; go_wp2; go_ret
        exact ⟨ret_bool HR.out.symm, U.out⟩
      · have y0 := Y.out.cell (j := 0) rfl
        have z0 := Z.out.cell (j := 0) rfl
        have z2 := Z.out.cell (j := 2) rfl
        have z6 := Z.out.cell (j := 6) rfl
        have ly := Y.out.lt
        have lz := Z.out.lt
        by_cases h2 : a8 = comp
        · by_cases h3 : a12 < ids
          · have HR := Lib.hid (show res = decide (a0 < a6) by rw [hf.out]; simp [h1, h2, h3])
            clear hf; go_wp2; go_ret
            exact ⟨ret_bool (by rw [HR.out]), U.out⟩
          · have HR := Lib.hid (show res = false by rw [hf.out]; simp [h3])
            have h4 : decide (a12 < ids) = false := decide_eq_false h3
            clear hf; go_wp2; go_ret
            exact ⟨ret_bool HR.out.symm, U.out⟩
        · have HR := Lib.hid (show res = false by rw [hf.out]; simp [h2])
          have h4 : (a8 == comp) = false := by simpa using h2
          have h5 : decide (a8 = comp) = false := decide_eq_false h2
          clear hf; go_wp2; go_ret
          exact ⟨ret_bool HR.out.symm, U.out⟩
    · have HR := Lib.hid (show res = false by rw [hf.out]; simp [h1])
      have h4 : (a1 == comp) = false := by simpa using h1
      have h5 : decide (a1 = comp) = false := decide_eq_false h1
      have y1 := Y.out.cell (j := 1) rfl
      have ly := Y.out.lt
      clear hf; go_wp2; go_ret
      exact ⟨ret_bool HR.out.symm, U.out⟩
set_option maxHeartbeats 4000000 in
theorem hosts1_any (mp : Option Nat) (many til comp ids : Int) (k : Kep) (bM bC bH : Nat) (arr : Array Value) (w : World) (hM : Blk w bM 84 #[.map mp, .int .i64 many, .int .i64 til]) (hC : Blk w bC 3 #[.int .i64 comp]) (hH : Blk w bH 46 arr) (hA : arr[3]? = some (.int .i64 ids)) :
    Calls Tryz.prog 85 #[k.v, .pointer (some ⟨bM, 0, none⟩), .pointer (some ⟨bC, 0, none⟩), .pointer (some ⟨bH, 0, none⟩)] w fun z w' => z = .returned (.bool (keepB many til comp ids k)) ∧ Up w w' := by
  have ct := fun W => keeps_any mp many til comp ids k W
  generalize keepB many til comp ids k = b at ct ⊢
  obtain ⟨⟨a0, a1, a2, a3, a4, a5⟩, ⟨⟨a6, a7, a8, a9, a10, a11⟩, a12⟩⟩ := k; unfold Kep.v at ct ⊢; dsimp only at ct ⊢
  have CT := Lib.hid ct
  have U := Lib.hid ((Up.refl w).alloc (.cells #[.int .i64 a0, .int .i64 a1, .int .i64 a2, .int .i64 a3, .int .i64 a4, .int .i64 a5, .int .i64 a6, .int .i64 a7, .int .i64 a8, .int .i64 a9, .int .i64 a10, .int .i64 a11, .int .i64 a12] 74))
  obtain ⟨m0, m1, m2⟩ := And.intro ((hM.up U.out).cell (j := 0) rfl) (And.intro ((hM.up U.out).cell (j := 1) rfl) ((hM.up U.out).cell (j := 2) rfl))
  have c0 := (hC.up U.out).cell (j := 0) rfl
  have h3 := (hH.up U.out).cell (j := 3) hA
  have lm := (hM.up U.out).lt
  have lc := (hC.up U.out).lt
  have lh := (hH.up U.out).lt
  clear hM hC hH hA ct
  go_enter Tryz.func85, Tryz.ntmps85
  go_wp2_with fail
  refine (CT.out _).mono ?_; rintro v w1 ⟨rfl, u1⟩
  have U := Lib.hid (U.out.trans u1)
  clear u1 m0 m1 m2 c0 h3 lm lc lh; go_wp2; go_ret
  exact ⟨rfl, U.out⟩
set_option maxHeartbeats 4000000 in
theorem everyK_any (A : Option Addr) (n cap : Nat) (xs : List Kep) (mp : Option Nat) (many til comp ids : Int) (bM bC bH : Nat) (arr : Array Value) (w : World) (hn : n ≤ 4194304) (hE : Keps w A n xs) (hM : Blk w bM 84 #[.map mp, .int .i64 many, .int .i64 til]) (hC : Blk w bC 3 #[.int .i64 comp]) (hH : Blk w bH 46 arr) (hA : arr[3]? = some (.int .i64 ids)) :
    Calls Tryz.prog 84 #[.slice A n cap, .func (.func 85) #[] #[.pointer (some ⟨bM, 0, none⟩), .pointer (some ⟨bC, 0, none⟩), .pointer (some ⟨bH, 0, none⟩)]] w fun x w' => x = .returned (.bool (xs.all (keepB many til comp ids))) ∧ Up w w' := by
  have AD := Lib.hid (fun k h => all_drop (f := keepB many til comp ids) (d := default) xs k h)
  have AE := Lib.hid (fun k h => all_end (f := keepB many til comp ids) xs k h)
  have CL := Lib.hid (fun x W (u : Up w W) => hosts1_any mp many til comp ids x bM bC bH arr W (hM.up u) (hC.up u) (hH.up u) hA)
  have HE := Lib.hid hE
  have LE := Lib.hid hE.1
  have H0 := Lib.hid (show (xs.drop 0).all (keepB many til comp ids) = xs.all (keepB many til comp ids) from rfl)
  generalize xs.all (keepB many til comp ids) = res at H0 ⊢
  clear hE hM hC hH
  go_enter Tryz.func84, Tryz.ntmps84
  go_wp2
  go_loopw [9] (fun i wr => (∃ k : Nat, k ≤ n ∧ i = .int .i64 k ∧ Hid ((xs.drop k).all (keepB many til comp ids) = res)) ∧ Up w wr) (fun i _ => n - (intOf i).toNat)
  case atStart => exact ⟨⟨0, by omega, rfl, H0⟩, Up.refl _⟩
  case round =>
    obtain ⟨⟨k, hk, rfl, HR⟩, ur⟩ := hrel
    by_cases hlt : k < n
    · obtain ⟨b, off, hA, hb, hc⟩ := HE.out.2 (by omega)
      subst hA
      have a0 := (hc k hlt).up ur hb
      have hb' : b < wr.heap.size := by have := ur.size; omega
      clear hc
      have S := AD.out k (by rw [LE.out]; exact hlt)
      have cl := CL.out (xs.getD k default)
      generalize xs.getD k default = p at a0 S cl
      generalize hfp : (keepB many til comp ids) p = r at S cl
      have S' := Lib.hid S
      clear S hfp; unfold KepAt at a0; unfold Kep.v at cl; obtain ⟨p0, p1, p2, p3, p4, p5, p6, p7, p8, p9, p10, p11, p12⟩ := a0
      have C := Lib.hid cl
      clear cl
      have i4 : (k : Int) < n := by omega
      have UR := Lib.hid ur
      clear ur
      go_wp2_with fail
      refine (C.out _ (UR.out.alloc _)).mono ?_; rintro x wA ⟨rfl, uA⟩
      have UN := Lib.hid ((UR.out.alloc _).trans uA)
      clear uA
      cases r
      · have HF := Lib.hid (show res = false by rw [← HR.out, S'.out]; rfl)
        go_wp2; go_ret
        exact ⟨ret_bool HF.out.symm, UN.out⟩
      · have HN := Lib.hid (show (xs.drop (k + 1)).all (keepB many til comp ids) = res by rw [← HR.out, S'.out]; rfl)
        go_wp2
        go_roundw
        case rel => exact ⟨⟨k + 1, by omega, by go_num, HN⟩, UN.out⟩
        case measure => simp [intOf]; omega
    · obtain rfl : k = n := by omega
      have i4 : ¬ (k : Int) < k := by omega
      have HT := Lib.hid (show res = true by rw [← HR.out]; exact AE.out k (by rw [LE.out]; omega))
      have UR := Lib.hid ur
      clear ur; go_wp2; go_ret
      exact ⟨ret_bool HT.out.symm, UR.out⟩
end Go.Proofs.YtjdoealcmokakaaGreat

namespace Go.Proofs.YtjdoealcmokakaaGreat
set_option maxRecDepth 100000
open Go.RowKit
/-- The world with numbers laid one behind the other. -/
def putF (w : World) (g o : Nat) (f : Nat → Int) : Nat → World
  | 0 => w
  | j + 1 => (putF w g o f j).setCell ⟨g, o + j, none⟩ (.int .i64 (f j))
theorem putF_other (w : World) (g o : Nat) (f : Nat → Int) (b p : Nat) : ∀ s : Nat, (b ≠ g ∨ p < o ∨ o + s ≤ p) → (putF w g o f s).cell? ⟨b, p, none⟩ = w.cell? ⟨b, p, none⟩
  | 0, _ => rfl
  | s + 1, h => by rw [putF, World.cell?_setCell_other _ _ _ _ (addr_ne (by omega)), putF_other w g o f b p s (by omega)]
theorem putF_frozen (w : World) (g o : Nat) (f : Nat → Int) (a : Addr) : ∀ s : Nat, (putF w g o f s).frozen? a = w.frozen? a
  | 0 => rfl
  | s + 1 => by
    have := putF_frozen w g o f a s
    simpa [putF, go_sem] using this
theorem putF_size (w : World) (g o : Nat) (f : Nat → Int) : ∀ s : Nat, (putF w g o f s).heap.size = w.heap.size
  | 0 => rfl
  | s + 1 => by
    have := putF_size w g o f s
    simpa [putF] using this
theorem putF_at (w : World) (g o : Nat) (f : Nat → Int) : ∀ s : Nat, (∀ j, j < s → ∃ v, w.cell? ⟨g, o + j, none⟩ = some v) → ∀ j, j < s → (putF w g o f s).cell? ⟨g, o + j, none⟩ = some (.int .i64 (f j))
  | 0, _, j, hj => absurd hj (by omega)
  | s + 1, h, j, hj => by
    rw [putF]
    by_cases e : j = s
    · subst e
      obtain ⟨v, hv⟩ := h j (by omega)
      exact World.cell?_setCell_same _ _ _ ((putF_other w g o f g (o + j) j (by omega)).trans hv)
    · rw [World.cell?_setCell_other _ _ _ _ (addr_ne (by omega))]
      exact putF_at w g o f s (fun i hi => h i (by omega)) j (by omega)
theorem Up.putF {a w : World} {g : Nat} (h : Up a w) (hg : a.heap.size ≤ g) (o : Nat) (f : Nat → Int) : ∀ s : Nat, Up a (Go.Proofs.YtjdoealcmokakaaGreat.putF w g o f s)
  | 0 => h
  | s + 1 => (Up.putF h hg o f s).setCell hg _
theorem IntsOwn.putF {w : World} {g N o s : Nat} {f : Nat → Int} (h : IntsOwn w g N) : IntsOwn (Go.Proofs.YtjdoealcmokakaaGreat.putF w g o f s) g N := by
  refine ⟨by rw [putF_size]; exact h.1, fun j hj => ?_⟩; obtain ⟨⟨z, hz⟩, hf⟩ := h.2 j hj; refine ⟨?_, (putF_frozen _ _ _ _ _ _).trans hf⟩
  induction s with
  | zero => exact ⟨z, hz⟩
  | succ s ih =>
    obtain ⟨z', hz'⟩ := ih; rw [Go.Proofs.YtjdoealcmokakaaGreat.putF]
    by_cases e : o + s = j
    · subst e
      exact ⟨_, World.cell?_setCell_same _ _ _ hz'⟩
    · exact ⟨z', (World.cell?_setCell_other _ _ _ _ (addr_ne (by omega))).trans hz'⟩
/-- On the way: k rows of s numbers are laid. -/
def RowsTo (w : World) (g n s k : Nat) (F : Nat → Nat → Int) : Prop := IntsOwn w g (n * s) ∧ ∀ i, i < k → ∀ j, j < s → w.cell? ⟨g, i * s + j, none⟩ = some (.int .i64 (F i j))
theorem RowsTo.up {w w' : World} {g n s k : Nat} {F : Nat → Nat → Int} (h : RowsTo w g n s k F) (u : Up w w') : RowsTo w' g n s k F := ⟨h.1.up u, fun i hi j hj => (u.cells _ _ h.1.1).trans (h.2 i hi j hj)⟩
theorem RowsTo.step {w : World} {g n s k : Nat} {F : Nat → Nat → Int} (h : RowsTo w g n s k F) (hk : k < n) (f : Nat → Int) (hf : ∀ j, j < s → f j = F k j) : RowsTo (putF w g (k * s) f s) g n s (k + 1) F := by
  have le1 : (k + 1) * s ≤ n * s := Nat.mul_le_mul_right s (by omega)
  have e1 : (k + 1) * s = k * s + s := by rw [Nat.add_mul, Nat.one_mul]
  refine ⟨h.1.putF, fun i hi j hj => ?_⟩
  by_cases hik : i = k
  · subst hik
    rw [← hf j hj]
    exact putF_at w g (i * s) _ s (fun j hj => by
      obtain ⟨⟨z, hz⟩, _⟩ := h.1.2 (i * s + j) (by omega)
      exact ⟨_, hz⟩) j hj
  · have le2 : (i + 1) * s ≤ k * s := Nat.mul_le_mul_right s (by omega)
    have e2 : (i + 1) * s = i * s + s := by rw [Nat.add_mul, Nat.one_mul]
    exact (putF_other w g (k * s) _ g (i * s + j) s (by omega)).trans (h.2 i (by omega) j hj)
theorem zeros_get (zs : Array Value) (N : Nat) (hz : ∀ j, j < zs.size → zs[j]! = .int .i64 0) (j : Nat) (hj : j < N) (hs : 0 < zs.size) : (madeCells zs N)[j]? = some (.int .i64 0) := by
  have hsz : j < (madeCells zs N).size := by rw [size_madeCells]; exact hj
  rw [Array.getElem?_eq_getElem hsz]; simp only [madeCells, Array.getElem_map, Array.getElem_range]; rw [hz _ (Nat.mod_lt _ hs)]
theorem RowsTo.start (w : World) (n s : Nat) (zs : Array Value) (t : TypeId) (F : Nat → Nat → Int) (hz : ∀ j, j < zs.size → zs[j]! = .int .i64 0) (hs : 0 < zs.size) : RowsTo (w.alloc (.cells (madeCells zs (n * s)) t)) w.heap.size n s 0 F := by
  have hh := heap_alloc_new w (.cells (madeCells zs (n * s)) t)
  refine ⟨⟨by simp, fun j hj => ⟨⟨0, ?_⟩, ?_⟩⟩, fun i hi => absurd hi (by omega)⟩
  · rw [cell_of_row _ _ j _ _ _ hh]
    exact zeros_get zs _ hz j hj hs
  · unfold World.frozen?
    rw [hh]; simp
def Rec.nums (r : Rec) : List Int := [r.ev.t, r.ev.to, r.ev.fr, r.ev.sq, r.ev.kd, r.ev.dt, r.s]
end Go.Proofs.YtjdoealcmokakaaGreat

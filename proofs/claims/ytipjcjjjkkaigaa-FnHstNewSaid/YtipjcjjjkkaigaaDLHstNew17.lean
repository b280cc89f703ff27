/-
  What times, plus and next return, in one sentence: the product, the sum and the next state modulo 97; for numbers in bounds.
  Which items are valid, in one sentence: what itemOk, itemFor, its closure, every and itemsFor return; for every machine and every list that lies in memory.
  Records in a row of the call's own, in one sentence: their cells one behind the other, and what is read off again; for every list.
  A step that makes blocks and may lay one given row of seven cells behind the first ones of a new row, in one sentence: what it keeps; and the append that is such a step.
-/
import Derived.Test.YtipjcjjjkkaigaaDLHstNew02
import Derived.Test.YtipjcjjjkkaigaaDLHstNew03
import Derived.Test.YtipjcjjjkkaigaaDLHstNew04
import Derived.Test.YtipjcjjjkkaigaaDLHstNew06
import Derived.Test.YtipjcjjjkkaigaaDLHstNew09
import Derived.Test.YtipjcjjjkkaigaaDLHstNew11
import Derived.Test.YtipjcjjjkkaigaaDLHstNew15
import Derived.Test.YtipjcjjjkkaigaaDLHstNew16
namespace Go.Proofs.Ytipjcjjjkkaigaa
set_option maxRecDepth 100000
open Go.RowKit
/-- What takes says of an event, in a machine of so many components and that end. -/
theorem takes_any (M : Value) (many til : Int) (e : Evt) (mp : Option Nat) (hM : M = .agg #[.map mp, .int .i64 many, .int .i64 til]) (w : World) :
    Calls Try.prog 74 #[M, e.v] w fun z w' => z = .returned (.bool (okB e many && decide (e.t ≤ til))) ∧ Up w w' := by
  subst hM
  have OC := Lib.hid (fun W => implOk_any e many W)
  generalize okB e many = b at OC ⊢
  obtain ⟨et, eto, efr, esq, ekd, edt⟩ := e
  have X3 := Lib.hid ((Box3.new w (.map mp) (.int .i64 many) (.int .i64 til) 118).up ((Up.refl _).alloc (.cells #[.int .i64 et, .int .i64 eto, .int .i64 efr, .int .i64 esq, .int .i64 ekd, .int .i64 edt] 51)))
  unfold Evt.v at OC ⊢; dsimp only at OC ⊢
  go_enter Try.func74, Try.ntmps74
  go_wp2_with fail
  refine (OC.out _).mono ?_; rintro v w1 ⟨rfl, u1⟩
  have x3 := X3.out.up u1
  have x5 := (Box.new (w.alloc (.cells #[.map mp, .int .i64 many, .int .i64 til] 118)) ⟨et, eto, efr, esq, ekd, edt⟩ 51).up u1
  simp only [World.size_alloc] at x5; obtain ⟨b0, b1, b2⟩ := And.intro x3.c0 (And.intro x3.c1 x3.c2); obtain ⟨⟨y0, y1, y2, y3, y4, y5⟩, -⟩ := x5.mk6
  have U := Lib.hid ((((Up.refl w).alloc (.cells #[.map mp, .int .i64 many, .int .i64 til] 118)).alloc (.cells #[.int .i64 et, .int .i64 eto, .int .i64 efr, .int .i64 esq, .int .i64 ekd, .int .i64 edt] 51)).trans u1)
  clear x3 x5 u1
  cases b
  · go_wp2
    go_ret
    exact ⟨rfl, U.out⟩
  · go_wp2
    go_ret
    exact ⟨by simp, U.out⟩
end Go.Proofs.Ytipjcjjjkkaigaa

namespace Go.Proofs.Ytipjcjjjkkaigaa
set_option maxRecDepth 100000
open Go.RowKit
/-- Is an item one of a model? -/
def itemB (many til : Int) (r : Rec) : Bool := takB many til r.ev && (inB r.s 0 9998 && (!decide (r.ev.fr = -1) || decide (r.s = 0)))
/-- And for this component? -/
def itemForB (many til comp : Int) (r : Rec) : Bool := itemB many til r && decide (r.ev.to = comp)
set_option maxHeartbeats 4000000 in
theorem itemOk_any (mp : Option Nat) (many til : Int) (r : Rec) (w : World) :
    Calls Try.prog 139 #[.agg #[.map mp, .int .i64 many, .int .i64 til], r.v] w fun z w' => z = .returned (.bool (itemB many til r)) ∧ Up w w' := by
  have CT := Lib.hid (fun W => takes_any (.agg #[.map mp, .int .i64 many, .int .i64 til]) many til r.ev mp rfl W)
  unfold itemB takB
  generalize (okB r.ev many && decide (r.ev.t ≤ til)) = b at CT ⊢
  obtain ⟨⟨et, eto, efr, esq, ekd, edt⟩, s⟩ := r; unfold Rec.v; unfold Evt.v at CT; dsimp only at CT ⊢
  have CW := Lib.hid (fun W => within_any s 0 9998 W)
  generalize inB s 0 9998 = b2 at CW ⊢
  have X1 := Lib.hid (Blk.new (w.alloc (.cells #[.map mp, .int .i64 many, .int .i64 til] 118)) #[.int .i64 et, .int .i64 eto, .int .i64 efr, .int .i64 esq, .int .i64 ekd, .int .i64 edt, .int .i64 s] 53)
  simp only [World.size_alloc] at X1
  have U := Lib.hid (((Up.refl w).alloc (.cells #[.map mp, .int .i64 many, .int .i64 til] 118)).alloc (.cells #[.int .i64 et, .int .i64 eto, .int .i64 efr, .int .i64 esq, .int .i64 ekd, .int .i64 edt, .int .i64 s] 53))
  by_cases hx : efr = -1
  · subst hx
    go_enter Try.func139, Try.ntmps139
    go_wp2_with fail
    refine (CT.out _).mono ?_; rintro v w1 ⟨rfl, u1⟩
    have X1 := Lib.hid (X1.out.up u1)
    have U := Lib.hid (U.out.trans u1)
    have z6 := X1.out.cell (j := 6) rfl
    have l1 := X1.out.lt
    clear u1
    cases b
    · go_wp2
      go_ret
      exact ⟨rfl, U.out⟩
    · go_wp2_with fail
      refine (CW.out _).mono ?_; rintro v w2 ⟨rfl, rfl⟩
      cases b2
      · go_wp2
        go_ret
        exact ⟨rfl, U.out⟩
      · go_wp2
        go_ret
        exact ⟨ret_bool (by first | (simp; done) | (simp; rfl)), U.out⟩
  · have HX := Lib.hid (decide_eq_false hx)
    go_enter Try.func139, Try.ntmps139
    go_wp2_with fail
    refine (CT.out _).mono ?_; rintro v w1 ⟨rfl, u1⟩
    have X1 := Lib.hid (X1.out.up u1)
    have U := Lib.hid (U.out.trans u1)
    have z6 := X1.out.cell (j := 6) rfl
    have l1 := X1.out.lt
    clear u1
    cases b
    · go_wp2
      go_ret
      exact ⟨rfl, U.out⟩
    · go_wp2_with fail
      refine (CW.out _).mono ?_; rintro v w2 ⟨rfl, rfl⟩
      cases b2
      · go_wp2
        go_ret
        exact ⟨rfl, U.out⟩
      · go_wp2
        go_ret
        exact ⟨ret_bool (by rw [HX.out]; rfl), U.out⟩
set_option maxHeartbeats 4000000 in
theorem itemFor_any (mp : Option Nat) (many til comp : Int) (r : Rec) (w : World) :
    Calls Try.prog 137 #[.agg #[.map mp, .int .i64 many, .int .i64 til], .int .i64 comp, r.v] w fun z w' => z = .returned (.bool (itemForB many til comp r)) ∧ Up w w' := by
  have CT := Lib.hid (fun W => itemOk_any mp many til r W)
  unfold itemForB
  generalize itemB many til r = b at CT ⊢
  obtain ⟨⟨et, eto, efr, esq, ekd, edt⟩, s⟩ := r; unfold Rec.v at CT ⊢; dsimp only at CT ⊢
  have X1 := Lib.hid (Blk.new (w.alloc (.cells #[.map mp, .int .i64 many, .int .i64 til] 118)) #[.int .i64 et, .int .i64 eto, .int .i64 efr, .int .i64 esq, .int .i64 ekd, .int .i64 edt, .int .i64 s] 53)
  simp only [World.size_alloc] at X1
  have U := Lib.hid (((Up.refl w).alloc (.cells #[.map mp, .int .i64 many, .int .i64 til] 118)).alloc (.cells #[.int .i64 et, .int .i64 eto, .int .i64 efr, .int .i64 esq, .int .i64 ekd, .int .i64 edt, .int .i64 s] 53))
  go_enter Try.func137, Try.ntmps137
  go_wp2_with fail
  refine (CT.out _).mono ?_; rintro v w1 ⟨rfl, u1⟩
  have X1 := Lib.hid (X1.out.up u1)
  have U := Lib.hid (U.out.trans u1)
  have z1 := X1.out.cell (j := 1) rfl
  have l1 := X1.out.lt
  clear u1
  cases b
  · go_wp2
    go_ret
    exact ⟨rfl, U.out⟩
  · go_wp2
    go_ret
    exact ⟨ret_bool (by first | (simp; done) | (simp; rfl)), U.out⟩
set_option maxHeartbeats 4000000 in
theorem itemsFor1_any (mp : Option Nat) (many til comp : Int) (r : Rec) (bM bC : Nat) (w : World) (hM : Blk w bM 118 #[.map mp, .int .i64 many, .int .i64 til]) (hC : Blk w bC 3 #[.int .i64 comp]) :
    Calls Try.prog 136 #[r.v, .pointer (some ⟨bM, 0, none⟩), .pointer (some ⟨bC, 0, none⟩)] w fun z w' => z = .returned (.bool (itemForB many til comp r)) ∧ Up w w' := by
  have CT := Lib.hid (fun W => itemFor_any mp many til comp r W)
  generalize itemForB many til comp r = b at CT ⊢
  obtain ⟨⟨et, eto, efr, esq, ekd, edt⟩, s⟩ := r; unfold Rec.v at CT ⊢; dsimp only at CT ⊢
  have U := Lib.hid ((Up.refl w).alloc (.cells #[.int .i64 et, .int .i64 eto, .int .i64 efr, .int .i64 esq, .int .i64 ekd, .int .i64 edt, .int .i64 s] 53))
  obtain ⟨m0, m1, m2⟩ := And.intro ((hM.up U.out).cell (j := 0) rfl) (And.intro ((hM.up U.out).cell (j := 1) rfl) ((hM.up U.out).cell (j := 2) rfl))
  have c0 := (hC.up U.out).cell (j := 0) rfl
  have lm := (hM.up U.out).lt
  have lc := (hC.up U.out).lt
  clear hM hC
  go_enter Try.func136, Try.ntmps136
  go_wp2_with fail
  refine (CT.out _).mono ?_; rintro v w1 ⟨rfl, u1⟩
  have U := Lib.hid (U.out.trans u1)
  clear u1 m0 m1 m2 c0 lm lc; go_wp2; go_ret
  exact ⟨rfl, U.out⟩
set_option maxHeartbeats 2000000 in
theorem everyI_any (A : Option Addr) (n cap : Nat) (xs : List Rec) (mp : Option Nat) (many til comp : Int) (bM bC : Nat) (w : World) (hn : n ≤ 4194304) (hE : Recs w A n xs) (hM : Blk w bM 118 #[.map mp, .int .i64 many, .int .i64 til]) (hC : Blk w bC 3 #[.int .i64 comp]) :
    Calls Try.prog 135 #[.slice A n cap, .func (.func 136) #[] #[.pointer (some ⟨bM, 0, none⟩), .pointer (some ⟨bC, 0, none⟩)]] w fun x w' => x = .returned (.bool (xs.all (itemForB many til comp))) ∧ Up w w' := by
  have AD := Lib.hid (fun k h => all_drop (f := itemForB many til comp) (d := default) xs k h)
  have AE := Lib.hid (fun k h => all_end (f := itemForB many til comp) xs k h)
  have CL := Lib.hid (fun x W (u : Up w W) => itemsFor1_any mp many til comp x bM bC W (hM.up u) (hC.up u))
  have HE := Lib.hid hE
  have LE := Lib.hid hE.1
  have H0 := Lib.hid (show (xs.drop 0).all (itemForB many til comp) = xs.all (itemForB many til comp) from rfl)
  generalize xs.all (itemForB many til comp) = res at H0 ⊢
  clear hE hM hC
  go_enter Try.func135, Try.ntmps135
  go_wp2
  go_loopw [9] (fun i wr => (∃ k : Nat, k ≤ n ∧ i = .int .i64 k ∧ Hid ((xs.drop k).all (itemForB many til comp) = res)) ∧ Up w wr) (fun i _ => n - (intOf i).toNat)
  case atStart => exact ⟨⟨0, by omega, rfl, H0⟩, Up.refl _⟩
  case round =>
    obtain ⟨⟨k, hk, rfl, HR⟩, ur⟩ := hrel
    by_cases hlt : k < n
    · obtain ⟨b, off, hA, hb, hc⟩ := HE.out.2 (by omega)
      subst hA
      have a0 := (hc k hlt).up ur hb
      have hb' : b < wr.heap.size := by have := ur.size; omega
      clear hc
      have S := AD.out k (by rw [LE.out]; exact hlt)
      have cl := CL.out (xs.getD k default)
      generalize xs.getD k default = p at a0 S cl
      generalize hfp : (itemForB many til comp) p = r at S cl
      have S' := Lib.hid S
      clear S hfp; unfold RecAt at a0; unfold Rec.v at cl; obtain ⟨p0, p1, p2, p3, p4, p5, p6⟩ := a0
      have C := Lib.hid cl
      clear cl
      have i4 : (k : Int) < n := by omega
      have UR := Lib.hid ur
      clear ur
      go_wp2_with fail
      refine (C.out _ (UR.out.alloc _)).mono ?_; rintro x wA ⟨rfl, uA⟩
      have UN := Lib.hid ((UR.out.alloc _).trans uA)
      clear uA
      cases r
      · have HF := Lib.hid (show res = false by rw [← HR.out, S'.out]; rfl)
        go_wp2; go_ret
        exact ⟨ret_bool HF.out.symm, UN.out⟩
      · have HN := Lib.hid (show (xs.drop (k + 1)).all (itemForB many til comp) = res by rw [← HR.out, S'.out]; rfl)
        go_wp2
        go_roundw
        case rel => exact ⟨⟨k + 1, by omega, by go_num, HN⟩, UN.out⟩
        case measure => simp [intOf]; omega
    · obtain rfl : k = n := by omega
      have i4 : ¬ (k : Int) < k := by omega
      have HT := Lib.hid (show res = true by rw [← HR.out]; exact AE.out k (by rw [LE.out]; omega))
      have UR := Lib.hid ur
      clear ur; go_wp2; go_ret
      exact ⟨ret_bool HT.out.symm, UR.out⟩
end Go.Proofs.Ytipjcjjjkkaigaa

namespace Go.Proofs.Ytipjcjjjkkaigaa
set_option maxRecDepth 100000
open Go.RowKit
def Rec.c7 (r : Rec) : List Value := [.int .i64 r.ev.t, .int .i64 r.ev.to, .int .i64 r.ev.fr, .int .i64 r.ev.sq, .int .i64 r.ev.kd, .int .i64 r.ev.dt, .int .i64 r.s]
def flat7 : List Rec → List Value
  | [] => []
  | e :: r => e.c7 ++ flat7 r
theorem flat7_len : ∀ es : List Rec, (flat7 es).length = es.length * 7
  | [] => rfl
  | e :: r => by
    rw [flat7, List.length_append, flat7_len r]; simp [Rec.c7]
    omega
theorem flat7_app : ∀ es fs : List Rec, flat7 (es ++ fs) = flat7 es ++ flat7 fs
  | [], _ => rfl
  | e :: r, fs => by rw [List.cons_append, flat7, flat7_app r fs, flat7, List.append_assoc]
theorem flat7_get : ∀ (es : List Rec) (i k : Nat), i < es.length → k < 7 → (flat7 es)[i * 7 + k]? = (es.getD i default).c7[k]?
  | [], i, _, hi, _ => absurd hi (by simp)
  | e :: r, 0, k, _, hk => by
    rw [flat7, Nat.zero_mul, Nat.zero_add, List.getElem?_append_left (by simpa [Rec.c7] using hk)]
    rfl
  | e :: r, i + 1, k, hi, hk => by
    have hl : e.c7.length = 7 := rfl
    rw [flat7, List.getElem?_append_right (by omega), hl, show (i + 1) * 7 + k - 7 = i * 7 + k by omega, flat7_get r i k (by simpa using hi) hk]
    rfl
theorem flat7_one (es : List Rec) : ∀ u ∈ flat7 es, u.oneCell' = true := by
  induction es with
  | nil => intro u hu; cases hu
  | cons e r ih =>
    intro u hu; rw [flat7, List.mem_append] at hu
    rcases hu with hu | hu
    · simp only [Rec.c7, List.mem_cons, List.not_mem_nil, or_false] at hu
      rcases hu with rfl | rfl | rfl | rfl | rfl | rfl | rfl <;> rfl
    · exact ih u hu
theorem own7_recs {w : World} {base e n c : Nat} {A : Option Addr} {es : List Rec} (h : w.ownsRow base e 7 (.slice A n c) n (flat7 es)) : Recs w A n es := by
  have hl : es.length = n := by have := h.1; rw [flat7_len] at this; omega
  refine ⟨hl, fun hn => ?_⟩; obtain ⟨g, cap, hv, _, hlt⟩ := h.form hn
  injection hv with hA _ hcap
  subst hA hcap; refine ⟨g, 0, rfl, hlt, fun i hi => ?_⟩
  have f : ∀ k, k < 7 → w.cell? ⟨g, 0 + i * 7 + k, none⟩ = (es.getD i default).c7[k]? := fun k hk => by
    rw [Nat.zero_add, h.cellAt (i * 7 + k) (by omega), flat7_get es i k (by omega) hk]
  exact ⟨f 0 (by omega), f 1 (by omega), f 2 (by omega), f 3 (by omega), f 4 (by omega), f 5 (by omega), f 6 (by omega)⟩
theorem own7_slice {w : World} {base e n : Nat} {v : Value} {es : List Rec} (h : w.ownsRow base e 7 v n (flat7 es)) : n = es.length ∧ ∃ A c, v = .slice A n c ∧ n ≤ c ∧ c ≤ 9223372036854775807 := by
  have hl : es.length = n := by have := h.1; rw [flat7_len] at this; omega
  refine ⟨hl.symm, ?_⟩
  rcases h.2 with ⟨rfl, rfl⟩ | ⟨g, cap, cur, rfl, _, _, hnc, hm, _⟩
  · exact ⟨none, 0, rfl, Nat.le_refl _, by omega⟩
  · exact ⟨_, cap, rfl, hnc, by unfold maxLen at hm; omega⟩
theorem own7_snoc {w : World} {b e n : Nat} {v : Value} {l : List Rec} {x : Rec} (h : w.ownsRow b e 7 v n (flat7 l ++ flat7 [x])) (hn : n = l.length + 1) : w.ownsRow b e 7 v (l ++ [x]).length (flat7 (l ++ [x])) := by
  rw [flat7_app, List.length_append]; subst hn
  exact h
theorem reads7_new (w : World) (r : Rec) (t : TypeId) : Reads (w.alloc (.cells #[.int .i64 r.ev.t, .int .i64 r.ev.to, .int .i64 r.ev.fr, .int .i64 r.ev.sq, .int .i64 r.ev.kd, .int .i64 r.ev.dt, .int .i64 r.s] t)) (w.heap.size + 1) 7 (some ⟨w.heap.size, 0, none⟩) 1 (flat7 [r]) := by
  refine ⟨rfl, fun _ => ⟨_, rfl, by simp, fun j u hu => ?_⟩⟩
  have hh := heap_alloc_new w (.cells #[.int .i64 r.ev.t, .int .i64 r.ev.to, .int .i64 r.ev.fr, .int .i64 r.ev.sq, .int .i64 r.ev.kd, .int .i64 r.ev.dt, .int .i64 r.s] t)
  have ad : (⟨w.heap.size, 0, none⟩ : Addr).add j = ⟨w.heap.size, j, none⟩ := by
    unfold Addr.add
    split <;> simp_all
  rw [ad, cell_of_row _ _ j _ _ _ hh, ← hu]; simp [flat7, Rec.c7]
end Go.Proofs.Ytipjcjjjkkaigaa

namespace Go.Proofs.Ytipjcjjjkkaigaa
set_option maxRecDepth 100000
open Go.RowKit
/-- Blocks are as they were, but that a block of that element from B0 on may get this row behind its first n rows. -/
structure MG (e B0 n : Nat) (row : List Value) (w w' : World) : Prop where
  os : w'.os = w.os
  tape : w'.tape = w.tape
  output : w'.output = w.output
  size : w.heap.size ≤ w'.heap.size
  block : ∀ k, k < w.heap.size → w'.heap[k]? = w.heap[k]? ∨ (0 < n ∧ B0 ≤ k ∧ ∃ cur cur' : Array Value, w.heap[k]? = some (.cells cur e (0, 0)) ∧ w'.heap[k]? = some (.cells cur' e (0, 0)) ∧ (n + 1) * 7 ≤ cur.size ∧ cur'.size = cur.size ∧ cur'.toList.take ((n + 1) * 7) = cur.toList.take (n * 7) ++ row)
section
variable {e B0 n : Nat} {row : List Value} {w w' : World}
theorem MG.of_up (u : Up w w') : MG e B0 n row w w' := ⟨u.below.os, u.below.tape, u.below.output, u.size, fun k hk => .inl (u.below.block k hk)⟩
/-- A row of the first n rows is as it was. -/
theorem MG.own (h : MG e B0 n row w w') {v : Value} {xs : List Value} (hx : xs.length = n * 7) (ho : w.ownsRow B0 e 7 v n xs) : w'.ownsRow B0 e 7 v n xs := by
  refine ⟨ho.1, ?_⟩
  rcases ho.2 with h0 | ⟨g, cap, cur, hv, hB, hg, hnc, hcm, hcs, ht⟩
  · exact .inl h0
  · have hlt := (Array.getElem?_eq_some_iff.1 hg).1
    rcases h.block g hlt with e0 | ⟨_, _, c1, c2, e1, e2, hs, hs2, htk⟩
    · exact .inr ⟨g, cap, cur, hv, hB, e0.trans hg, hnc, hcm, hcs, ht⟩
    · rw [hg] at e1
      injection e1 with e1
      injection e1 with e1
      subst e1; refine .inr ⟨g, cap, c2, hv, hB, e2, hnc, hcm, by omega, ?_⟩
      have : c2.toList.take (n * 7) = (c2.toList.take ((n + 1) * 7)).take (n * 7) := by rw [List.take_take]; congr 1; omega
      rw [this, htk, ht, List.take_left' hx]
/-- A row whose last row is this one is as it was. -/
theorem MG.own1 (h : MG e B0 n row w w') {v : Value} {xs : List Value} (hx : xs.length = n * 7) (ho : w.ownsRow B0 e 7 v (n + 1) (xs ++ row)) : w'.ownsRow B0 e 7 v (n + 1) (xs ++ row) := by
  refine ⟨ho.1, ?_⟩
  rcases ho.2 with h0 | ⟨g, cap, cur, hv, hB, hg, hnc, hcm, hcs, ht⟩
  · exact .inl h0
  · have hlt := (Array.getElem?_eq_some_iff.1 hg).1
    rcases h.block g hlt with e0 | ⟨_, _, c1, c2, e1, e2, hs, hs2, htk⟩
    · exact .inr ⟨g, cap, cur, hv, hB, e0.trans hg, hnc, hcm, hcs, ht⟩
    · rw [hg] at e1
      injection e1 with e1
      injection e1 with e1
      subst e1; refine .inr ⟨g, cap, c2, hv, hB, e2, hnc, hcm, by omega, ?_⟩
      have : cur.toList.take (n * 7) = xs := by
        have : cur.toList.take (n * 7) = (cur.toList.take ((n + 1) * 7)).take (n * 7) := by rw [List.take_take]; congr 1; omega
        rw [this, ht, List.take_left' hx]
      rw [htk, this]
/-- A block that is too small for such a row is as it was. -/
theorem MG.small (h : MG e B0 n row w w') {g : Nat} {cur : Array Value} (hg : w.heap[g]? = some (.cells cur e (0, 0))) (hs : 0 < n → cur.size < (n + 1) * 7) : w'.heap[g]? = some (.cells cur e (0, 0)) := by
  rcases h.block g (Array.getElem?_eq_some_iff.1 hg).1 with e0 | ⟨hn0, _, c1, c2, e1, _, hs1, _⟩
  · exact e0.trans hg
  · rw [hg] at e1
    injection e1 with e1
    injection e1 with e1
    subst e1
    have := hs hn0
    omega
/-- The append of one row is such a step. -/
theorem run_append_mg {P : Program} (t ty : TypeId) (i : TypeInfo) (z : Value) (bytes : Nat) (ht : P.underlying t = some (.slice e)) (hi : P.info? e = some i) (hz : i.zero = some z)
    (hsize : i.size = 7) (hby : i.bytes = bytes) (hzs : z.cells.size = 7) (v : Value) (xs : List Value) (hn : 0 < n ∨ v = .slice none 0 0) (hown : w.ownsRow B0 e 7 v n xs)
    (B : Nat) (A : Option Addr) (c : Nat) (hr : Reads w B 7 A 1 row) (h1 : ∀ u ∈ row, u.oneCell' = true) (h63 : n + 1 ≤ maxLen) (hbytes : (n + 1) * bytes ≤ 140737488355328) (hbase : B0 ≤ w.heap.size) :
    ∃ v' w', (Builtin.append_ #[t, t] ty #[v, .slice A 1 c]).run P w = .ok v' w' ∧ w'.ownsRow B0 e 7 v' (n + 1) (xs ++ row) ∧ MG e B0 n row w w' := by
  obtain ⟨ad, rfl, _, hcells⟩ := hr.2 (by omega)
  have hrl : row.length = 7 := by have := hr.1; omega
  have hxl := hown.1
  rcases hown.2 with ⟨rfl, rfl⟩ | ⟨g, cap, cur, rfl, hB, hg, hnc, hcm, hcs, htk⟩
  · obtain ⟨v', w', hrun, h2, h3, h4⟩ := run_append_any (P := P) w B0 t ty e i z 7 bytes ht hi hz hsize hby hzs (by omega) (.slice none 0 0) 0 xs hown B (some ad) 1 c row hr h1 h63 hbytes hbase
    exact ⟨v', w', hrun, h2, MG.of_up (Up.grown (Up.refl w) h3 (fun k hk => by cases hk))⟩
  · by_cases hroom : n + 1 ≤ cap
    · have hsz : (n + 1) * 7 ≤ cur.size := by rw [hcs]; exact Nat.mul_le_mul_right _ hroom
      have hrun := run_append_room (P := P) w t ty e i ht hi g n cap cur hg ad 1 c row (by rw [hsize, hrl]) hcells h1 hroom (by rw [hsize, hrl]; omega)
      rw [hsize, htk] at hrun
      have hnew := setRow_heap w g cur (xs ++ row ++ cur.toList.drop (n * 7 + row.length)).toArray e _ hg
      have htake : (xs ++ row ++ cur.toList.drop (n * 7 + row.length)).toArray.toList.take ((n + 1) * 7) = xs ++ row := by
        have : (xs ++ row).length = (n + 1) * 7 := by rw [List.length_append, hxl, hrl]; omega
        exact List.take_left' this
      have hsize2 : (xs ++ row ++ cur.toList.drop (n * 7 + row.length)).toArray.size = cur.size := by
        simp only [List.size_toArray, List.length_append, List.length_drop, Array.length_toList]
        omega
      refine ⟨_, _, hrun, ⟨by rw [List.length_append, hxl, hrl]; omega, .inr ⟨g, cap, _, rfl, hB, hnew, hroom, hcm, by rw [hsize2, hcs], htake⟩⟩, ⟨rfl, rfl, rfl, by simp, fun k hk => ?_⟩⟩
      by_cases hkg : k = g
      · subst hkg
        exact .inr ⟨(by rcases hn with h | h; exact h; cases h), hB, cur, _, hg, hnew, hsz, hsize2, by rw [htake, htk]⟩
      · exact .inl (setRow_other w g k _ (fun e => hkg e))
    · have holds : ∀ j u, xs[j]? = some u → w.cell? ((⟨g, 0, none⟩ : Addr).add j) = some u := hown.cells (g := g) rfl
      have hrun := run_append_grow (P := P) w t ty e i z ht hi hz ⟨g, 0, none⟩ n cap xs (by rw [hsize]; exact hxl) holds ad 1 c row (by rw [hsize, hrl]) hcells (by omega) (by simp only [maxLen] at h63; omega) (growslice_fits (by omega) (by rw [hby]; exact hbytes))
      have hge := grownCap_ge w (n + 1) cap e
      refine ⟨_, _, hrun, ⟨by rw [List.length_append, hxl, hrl]; omega, .inr ⟨w.heap.size, _, _, rfl, hbase, heap_alloc_new w.drew _, hge, grownCap_le_maxLen w (n + 1) cap _ h63, ?_, ?_⟩⟩, MG.of_up ((Up.refl w).drew.alloc _)⟩
      · simp only [Array.size_append, List.size_toArray, size_zeroCells, hzs, hxl, hrl]
        omega
      · simp only [Array.toList_append, List.append_assoc]
        rw [← List.append_assoc]
        exact List.take_left' (by rw [List.length_append, hxl, hrl]; omega)
end
end Go.Proofs.Ytipjcjjjkkaigaa

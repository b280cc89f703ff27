/-
  A region that draws its order and whose effects are forced into one order, in one sentence: as region_mix, and what only reads may come up where a chosen condition on the world holds throughout.
  What DrawCmbLook gives, in one sentence: a model and two numbers, with new blocks alone; for every code that lies in memory.
  The machine's map of rules, in one sentence: a block that is a map by component and kind has the values that a function tells; looked up, stored into, kept; no condition is made.
  The first rule of a kind and where it stands, in one sentence: defined over lists; no condition is made.
  What the two EvtRise return, in one sentence: whether each event is less than the next one; for every list that lies in memory.
-/
import Derived.DeepKeys4
import Derived.Maps.OwnSet
import Derived.OrdersHeld
import Derived.Test.YtipjcjjjkkaigaaDLLook01
import Derived.Test.YtipjcjjjkkaigaaDLLook03
import Derived.Test.YtipjcjjjkkaigaaDLLook07
import Derived.Test.YtipjcjjjkkaigaaDLLook08
import Derived.Test.YtipjcjjjkkaigaaDLLook12
namespace Go.Proofs.Ytipjcjjjkkaigaa
set_option maxRecDepth 100000
open Go.RowKit
def wpMixH (P : Program) (ops : Array Oper) (Q : Exit → Act → World → Prop) (S : World → Prop) : List (Nat × Bool) → Act → World → Prop
  | (k, true) :: fs, a, w => ∃ o v, ops[k]? = some o ∧ YieldsIf P ops S o v a ∧ wpMixH P ops Q S fs (a.put o.dst v) w
  | (k, false) :: fs, a, w => ∃ o, ops[k]? = some o ∧ if Region.wanted o (yielded ops a.tmps) = true then o.wp P a w (fun a' w' => S w' ∧ wpMixH P ops Q S fs a' w') Q else wpMixH P ops Q S fs (a.put o.dst undef) w
  | [], a, w => Q .normal a w
theorem wpAnyH_of_mix {P : Program} {ops : Array Oper} {Q : Exit → Act → World → Prop} {S : World → Prop} (hsel : Region.noSelect ops = true) (hQ : ∀ c (a : Act) d v w, Q (.panic c) (a.put d v) w → Q (.panic c) a w) :
    ∀ (fs : List (Nat × Bool)) (listed : Array Bool) (a : Act) (w : World), mixB ops fs listed = true → S w → wpMixH P ops Q S fs a w → wpAnyH P .any ops Q S fs.length listed a w
  | [], _, _, _, hB, _, h => ⟨by simpa [mixB] using hB, h⟩
  | (k, true) :: fs, listed, a, w, hB, hS, h => by
    simp only [mixB, Bool.and_eq_true] at hB; obtain ⟨o, v, h0, hy, hn⟩ := h
    exact wpAnyH_take h0 hsel hB.1.2 hB.1.1.2 (fun c a w => hQ c a _ _ w) hy hS (wpAnyH_of_mix hsel hQ fs _ _ _ hB.2 hS hn)
  | (k, false) :: fs, listed, a, w, hB, hS, h => by
    simp only [mixB, Bool.and_eq_true, decide_eq_true_eq] at hB; obtain ⟨o, h0, h⟩ := h
    refine wpAnyH_all hB.1.2 (by simp) fun i hi => ?_
    obtain rfl : i = k := by simpa using hi
    refine wpOp_mono (K := fun a' w' => S w' ∧ wpMixH P ops Q S fs a' w') (fun a' w' h' => ⟨h'.1, wpAnyH_of_mix hsel hQ fs _ _ _ hB.2 h'.1 h'.2⟩) ?_; unfold wpOp; simp only [h0]
    split
    · rename_i hw
      rw [if_pos hw] at h
      exact .inl h
    · rename_i hw
      rw [if_neg hw] at h
      exact ⟨hS, h⟩
/-- What is left to walk, kept shut. -/
@[irreducible] def mWalk (P : Program) (ops : Array Oper) (Q : Exit → Act → World → Prop) (S : World → Prop) (fs : List (Nat × Bool)) (a : Act) (w : World) : Prop := wpMixH P ops Q S fs a w
theorem region_mixH {P : Program} {id : Nat} {Q : Exit → Act → World → Prop} {a : Act} {w : World} {l : List Oper} (S : World → Prop) (fs : List (Nat × Bool)) (hm : P.follows .mixedOrders = true)
    (hB : (Region.noSelect l.toArray && decide (fs.length = l.length) && mixB l.toArray fs (Array.replicate l.toArray.size false)) = true) (hS : S w.drew)
    (h : mWalk P l.toArray (NoPanic Q) S fs a w.drew) : (Code.region id l.toArray true).wp P Q a w := by
  unfold mWalk at h; simp only [Bool.and_eq_true, decide_eq_true_eq] at hB; refine wp_region_noPanic (wp_region_held (S := S) hm ?_)
  have := wpAnyH_of_mix (P := P) (Q := NoPanic Q) hB.1.1 (fun _ _ _ _ _ h => h) fs _ a w.drew hB.2 hS h
  rw [hB.1.2] at this
  simpa using this
section
variable {P : Program} {ops : Array Oper} {Q : Exit → Act → World → Prop} {S : World → Prop} {fs : List (Nat × Bool)} {k : Nat} {o : Oper} {a : Act} {w : World}
theorem mixH_take (h0 : ops[k]? = some o) (hw : Region.wanted o (yielded ops a.tmps) = true) (h : ∃ v, (∀ w1, S w1 → (execOp a.eval o).run P w1 = .ok (.value v) w1) ∧ mWalk P ops Q S fs (a.put o.dst v) w) : mWalk P ops Q S ((k, true) :: fs) a w := by
  unfold mWalk at h ⊢; obtain ⟨v, hv, hn⟩ := h
  exact ⟨o, v, h0, .inl ⟨hw, hv⟩, hn⟩
theorem mixH_go (h0 : ops[k]? = some o) (hw : Region.wanted o (yielded ops a.tmps) = true) (h : ∀ K : Act → World → Prop, (∀ a w, S w → mWalk P ops Q S fs a w → K a w) → o.wp P a w K Q) : mWalk P ops Q S ((k, false) :: fs) a w := by
  unfold mWalk at h ⊢; refine ⟨o, h0, ?_⟩; rw [if_pos hw]
  exact h _ fun _ _ hs h => ⟨hs, h⟩
theorem mixH_nil (h : Q .normal a w) : mWalk P ops (NoPanic Q) S [] a w := by
  unfold mWalk
  exact h
end
end Go.Proofs.Ytipjcjjjkkaigaa

namespace Go.Proofs.Ytipjcjjjkkaigaa
set_option maxRecDepth 100000
open Go.RowKit
/-- What DrawCmbLook gives. -/
def DrawnLk (w : World) (x : Ending) (w' : World) : Prop :=
  ∃ (A : Option Addr) (n c : Nat) (B : Option Addr) (k d : Nat) (m : Mdl) (z y : Int), x = .returned (.tuple #[.agg #[.slice A n c, .slice B k d, .int .i64 m.til], .int .i64 z, .int .i64 y]) ∧ MdlV w' A n B k m ∧ (n ≤ 32 ∧ n ≤ c ∧ c ≤ 9223372036854775807) ∧ ((-1 ≤ z ∧ z ≤ 4) ∧ 0 ≤ y ∧ y ≤ 3) ∧ Up w w'
set_option maxHeartbeats 8000000 in
theorem drawLook_any (A : Option Addr) (n cap : Nat) (w : World) (hc : n ≤ cap) (hmax : cap ≤ 9223372036854775807) (hB : Bys w A n w.heap.size) :
    Calls Try.prog 26 #[.slice A n cap] w (DrawnLk w) := by
  have HB := Lib.hid hB
  clear hB
  go_enter Try.func26, Try.ntmps26
  go_wp2_with fail
  have U0 := Lib.hid ((Up.refl w).alloc (.cells #[.slice none 0 0, .slice none 0 0, .int .i64 0] 38))
  have R2 := Lib.hid (Blk.new w #[.slice none 0 0, .slice none 0 0, .int .i64 0] 38)
  generalize hW0 : w.alloc (.cells #[.slice none 0 0, .slice none 0 0, .int .i64 0] 38) = W0 at *
  have hs0 : W0.heap.size = w.heap.size + 1 := by rw [← hW0]; simp
  have HB0 : Bys W0 A n W0.heap.size := fun h0 => by
    obtain ⟨b, off, hA, hb, hcc⟩ := HB.out.keep (fun b o hb => U0.out.cells b o hb) h0
    exact ⟨b, off, hA, by omega, hcc⟩
  clear hW0; refine (open_any A n cap _ hc hmax HB0).mono ?_; rintro x wO ⟨g, rfl, hg, r1, u1⟩
  have hgO := r1.lt
  have R1 := Lib.hid r1
  have U1 := Lib.hid (U0.out.trans u1)
  have R2 := Lib.hid (R2.out.up u1)
  have hOs : W0.heap.size ≤ wO.heap.size := u1.size
  clear u1 r1 HB0 U0 HB
  go_wp2_with fail
  refine (model_any g 0 16 _ ⟨by omega, by omega⟩ (by omega) R1.out).mono ?_; rintro x w2 ⟨A, n, c, B, k, d, m, rfl, MV, ⟨hn, hnc, hcm⟩, _, _, _, r2, m2⟩
  have M2 := Lib.hid MV
  have MM2 := Lib.hid m2
  have hg2 := r2.lt
  have R2 := Lib.hid ((R2.out.mv m2 (by omega)).alloc (.cells #[.slice A n c, .slice B k d, .int .i64 m.til] 38))
  have M6 := Lib.hid (Blk.new w2 #[.slice A n c, .slice B k d, .int .i64 m.til] 38)
  have RR := Lib.hid (r2.alloc (.cells #[.slice A n c, .slice B k d, .int .i64 m.til] 38))
  have MG := Lib.hid ((Mv.refl g w2).alloc (.cells #[.slice A n c, .slice B k d, .int .i64 m.til] 38))
  have n6 : w2.heap.size ≠ g := by omega
  have hs2 : wO.heap.size ≤ w2.heap.size := m2.size
  clear MV m2 r2 R1
  go_wp2_with fail
  refine region_mixH (fun w1 => Blk w1 w2.heap.size 38 #[.slice A n c, .slice B k d, .int .i64 m.til]) [(0, true), (1, true), (4, true), (2, false), (3, true), (5, false), (6, false), (7, true), (8, true)] (by kernel_rfl) (by kernel_rfl) M6.out ?_; refine mixH_take rfl (by rfl) ?_; apply Exists.intro; refine ⟨fun w1 hS1 => ?_, ?_⟩
  · obtain ⟨m0, m1, m2⟩ := And.intro (hS1.cell (j := 0) rfl) (And.intro (hS1.cell (j := 1) rfl) (hS1.cell (j := 2) rfl))
    have lt6 := hS1.lt
    clear hS1; go_simp
    try rfl
  go_simp; refine mixH_take rfl (by rfl) ?_; apply Exists.intro; refine ⟨fun w1 hS1 => ?_, ?_⟩
  · clear hS1
    go_simp
    try rfl
  go_simp; refine mixH_take rfl (by rfl) ?_; apply Exists.intro; refine ⟨fun w1 hS1 => ?_, ?_⟩
  · clear hS1
    go_simp
    try rfl
  go_simp; refine mixH_go rfl (by rfl) (fun K hK => ?_); go_simp; refine (pick_any g 2010 6 (w2.alloc (.cells #[.slice A n c, .slice B k d, .int .i64 m.til] 38)).drew ⟨by omega, by omega⟩ (by omega) (show Rd (w2.alloc (.cells #[.slice A n c, .slice B k d, .int .i64 m.til] 38)).drew g 2010 from RR.out.mono (by omega))).mono ?_; rintro x w3 ⟨z, rfl, z0, z1, r3, m3⟩
  have m3 : Mv g (w2.alloc (.cells #[.slice A n c, .slice B k d, .int .i64 m.til] 38)) w3 := (Mv.refl _ _).drew.trans m3
  refine hK _ _ (M6.out.mv m3 n6) ?_; clear hK K
  have R3 := Lib.hid r3
  have M3 := Lib.hid m3
  have i7 : IntKind.i64.wrap (z - 1) = z - 1 := IntWalk.i64_in _ (by omega)
  clear m3 r3; go_simp; refine mixH_take rfl (by rfl) ?_; apply Exists.intro; refine ⟨fun w1 hS1 => ?_, ?_⟩
  · clear hS1
    go_simp
    try rfl
  go_simp; refine mixH_go rfl (by rfl) (fun K hK => ?_); go_simp; refine (pick_any g 2011 4 w3 ⟨by omega, by omega⟩ (by omega) (R3.out.mono (by omega))).mono ?_; rintro x w4 ⟨y, rfl, y0, y1, _, m4⟩
  have m3 := M3.out.trans m4
  refine hK _ _ (M6.out.mv m3 n6) ?_; clear hK K m4
  have q2 := R2.out.mv m3 (by omega)
  obtain ⟨p20, p21, p22⟩ := And.intro (q2.cell (j := 0) rfl) (And.intro (q2.cell (j := 1) rfl) (q2.cell (j := 2) rfl))
  have f2 := q2.frozen
  have Q2 := Lib.hid (((q2.set 0 (.slice A n c)).set 1 (.slice B k d)).set 2 (.int .i64 m.til))
  have SM := Lib.hid ((Sml.of_mv MG.out (show g < wO.heap.size by omega)).trans (Sml.of_mv m3 (show g < wO.heap.size by omega)))
  have UM := Lib.hid (((MM2.out.trans MG.out).trans m3).up U1.out (by omega))
  have M7 := Lib.hid (M6.out.mv m3 n6)
  clear q2 m3; go_simp; refine mixH_go rfl (by rfl) (fun K hK => ?_); go_simp; refine hK _ _ (((M7.out.far (b' := w.heap.size) 0 (.slice A n c) (by omega)).far (b' := w.heap.size) 1 (.slice B k d) (by omega)).far (b' := w.heap.size) 2 (.int .i64 m.til) (by omega)) ?_; clear hK K
  have SM := Lib.hid (((SM.out.set (b := w.heap.size) (o := 0) (u := .slice A n c) (by omega)).set (b := w.heap.size) (o := 1) (u := .slice B k d) (by omega)).set (b := w.heap.size) (o := 2) (u := .int .i64 m.til) (by omega))
  have UM := Lib.hid (((UM.out.setCell (p := ⟨w.heap.size, 0, none⟩) (Nat.le_refl _) (.slice A n c)).setCell (p := ⟨w.heap.size, 1, none⟩) (Nat.le_refl _) (.slice B k d)).setCell (p := ⟨w.heap.size, 2, none⟩) (Nat.le_refl _) (.int .i64 m.til))
  clear p20 p21 p22 f2
  generalize ((w4.setCell ⟨w.heap.size, 0, none⟩ (.slice A n c)).setCell ⟨w.heap.size, 1, none⟩ (.slice B k d)).setCell ⟨w.heap.size, 2, none⟩ (.int .i64 m.til) = wA at *
  go_simp; refine mixH_take rfl (by rfl) ?_; apply Exists.intro; refine ⟨fun w1 hS1 => ?_, ?_⟩
  · clear hS1
    go_simp
    try rfl
  go_simp; refine mixH_take rfl (by rfl) ?_; apply Exists.intro; refine ⟨fun w1 hS1 => ?_, ?_⟩
  · clear hS1
    go_simp
    try rfl
  go_simp; refine mixH_nil ?_; obtain ⟨k0, k1, k2⟩ := And.intro (Q2.out.cell (j := 0) rfl) (And.intro (Q2.out.cell (j := 1) rfl) (Q2.out.cell (j := 2) rfl)); go_wp2
  exact bodyPost_ret (v := .tuple #[.agg #[.slice A n c, .slice B k d, .int .i64 m.til], .int .i64 (z - 1), .int .i64 y]) (by simp [results, Try.results26, go_sem, k0, k1, k2]) rfl
    ⟨A, n, c, B, k, d, m, z - 1, y, rfl, M2.out _ SM.out, ⟨hn, hnc, hcm⟩, ⟨⟨by omega, by omega⟩, by omega, by omega⟩, UM.out⟩
end Go.Proofs.Ytipjcjjjkkaigaa

namespace Go.Proofs.Ytipjcjjjkkaigaa
set_option maxRecDepth 100000
open Go.RowKit
open Go.Maps (Keyed)
/-- A key. -/
def keyV (c k : Int) : Value := .agg #[.int .i64 c, .int .i64 k]
/-- What an element reads as: itself. -/
def valR (v : Value) : Option (DataW Value × List MemPlace) := some (.held v, [])
def ZRv : Value := .agg #[.int .i64 0, .int .i64 0, .int .i64 0, .int .i64 0, .slice none 0 0]
theorem laidOut_ : laidOutB Try.prog = true := by kernel_rfl
theorem keyLaw : Keyed Try.prog 155 :=
  Keyed.of_law (deep_law_laid laidOut_ (m := 2) (by omega) (of_decide_eq_true (by kernel_rfl)) (by kernel_rfl) (by kernel_rfl))
theorem keyCells : Try.prog.cellsOf 155 = 2 := by kernel_rfl
theorem keyType_ : Try.prog.keyType 155 = true := by kernel_rfl
theorem intCells : Try.prog.cellsOf 3 = 1 := by kernel_rfl
theorem typesMany : 2 ≤ Try.prog.types.size := of_decide_eq_true (by kernel_rfl)
theorem zeroRule (w : World) : (zeroValue 70).run Try.prog w = .ok ZRv w := by kernel_rfl
theorem key_ex (c k : Int) (hc : I64 c) (hk : I64 k) : ∃ l, keyOf Try.prog 155 (keyV c k) = some l := by
  obtain ⟨n, hn⟩ := Nat.exists_eq_add_of_le typesMany
  have wc : (Lit.int .i64 c).wf = true := by unfold I64 at hc; simp [Lit.wf, IntKind.min, IntKind.max, IntKind.signed, IntKind.bits]; omega
  have wk : (Lit.int .i64 k).wf = true := by unfold I64 at hk; simp [Lit.wf, IntKind.min, IntKind.max, IntKind.signed, IntKind.bits]; omega
  have e : Try.prog.types.size + 1 = n + 1 + 1 + 1 := by omega
  unfold keyOf keyV; rw [Try.underlying155]; dsimp only; rw [keyType_, e]; simp [Value.formed, Try.underlying155, Try.underlying3, keyCells, intCells, Program.keyLits, Value.cells, wc, wk]
/-- Block b is a map of at most n entries that has the values of f. -/
def RMap (w : World) (b n : Nat) (f : Int → Int → Option Value) : Prop :=
  ∃ D : DataW Value, w.ownsMap Try.prog 155 valR b n D ∧ Maps.IsMap D ∧ ∀ c k l, keyOf Try.prog 155 (keyV c k) = some l → (∀ zd, D.atKey l zd = match f c k with | some v => .held v | none => zd) ∧ Maps.has D l = (f c k).isSome
theorem RMap.made (w : World) : RMap (w.alloc (.map #[] 0)) w.heap.size 0 (fun _ _ => none) :=
  ⟨.map [], World.ownsMap_made w _ _ _, Maps.isMap_empty, fun _ _ _ _ => ⟨fun _ => rfl, rfl⟩⟩
theorem RMap.lt {w : World} {b n : Nat} {f : Int → Int → Option Value} (h : RMap w b n f) : b < w.heap.size := by
  obtain ⟨D, h, _⟩ := h
  exact h.lt
theorem RMap.block {w w' : World} {b n : Nat} {f : Int → Int → Option Value} (h : RMap w b n f) (e : w'.heap[b]? = w.heap[b]?) : RMap w' b n f := by
  obtain ⟨D, ⟨es, cl, hb, F, hs, hD⟩, hr⟩ := h
  exact ⟨D, ⟨es, cl, e.trans hb, F, hs, hD⟩, hr⟩
theorem RMap.up {w w' : World} {b n : Nat} {f : Int → Int → Option Value} (h : RMap w b n f) (u : Up w w') : RMap w' b n f := h.block (u.below.block b h.lt)
theorem RMap.setFar {w : World} {b n : Nat} {f : Int → Int → Option Value} (h : RMap w b n f) {p : Addr} (hp : p.block ≠ b) (u : Value) : RMap (w.setCell p u) b n f := h.block (Below.heap_setCell w p u b (fun e => hp e.symm))
theorem RMap.look {w : World} {b n : Nat} {f : Int → Int → Option Value} (h : RMap w b n f) (c k : Int) (hc : I64 c) (hk : I64 k) :
    (Instr.lookup 116 (.map (some b)) (.agg #[.int .i64 c, .int .i64 k]) true).run Try.prog w = .ok (.tuple #[(f c k).getD ZRv, .bool (f c k).isSome]) w := by
  obtain ⟨D, ho, _, hr⟩ := h; obtain ⟨l, hl⟩ := key_ex c k hc hk; obtain ⟨h1, h2⟩ := hr c k l hl; obtain ⟨v, ps, hrun, hv⟩ := ho.look_ok keyLaw Try.underlying116 (zeroRule w) (zd := .held ZRv) (zp := []) rfl hl
  have e : v = (f c k).getD ZRv := by
    rw [h1 (.held ZRv)] at hv; simp only [valR, Option.some.injEq, Prod.mk.injEq] at hv
    cases hf : f c k with
    | none => rw [hf] at hv; simpa using hv.1
    | some u => rw [hf] at hv; simpa using hv.1
  rw [h2, e] at hrun
  exact hrun
theorem mapTurned_mv {w w' : World} {b : Nat} (h : w.mapTurned w' b) : Mv b w w' := by
  obtain ⟨es, clock, es', clock', hb, rfl⟩ := h
  exact ⟨rfl, rfl, rfl, by simp [ChangeMaps.setBlock], fun k _ hne => ChangeMaps.heap_setBlock_other hb _ hne⟩
theorem RMap.store {w : World} {b n : Nat} {f : Int → Int → Option Value} (h : RMap w b n f) (hn : n < maxLen) (c k : Int) (hc : I64 c) (hk : I64 k) (v : Value) :
    ∃ w', (Instr.mapUpdate 116 (.map (some b)) (.agg #[.int .i64 c, .int .i64 k]) v).run Try.prog w = .ok () w' ∧ RMap w' b (n + 1) (fun c' k' => if c' = c ∧ k' = k then some v else f c' k') ∧ Mv b w w' := by
  obtain ⟨D, ho, hm, hr⟩ := h; obtain ⟨l, hl⟩ := key_ex c k hc hk; obtain ⟨w', hrun, ho', ht⟩ := ho.store keyLaw Try.underlying116 hn (val := v) (d := .held v) (ps := []) hl rfl; refine ⟨w', hrun, ⟨D.put l (.held v), ho', hm.put _ _, fun c' k' l' hl' => ?_⟩, mapTurned_mv ht⟩
  by_cases e : l' = l
  · subst e
    have hkk := keyLaw.inj hl' hl
    simp only [keyV, Value.agg.injEq] at hkk
    have h0 := congrArg (fun a => a[0]?) hkk
    have h1 := congrArg (fun a => a[1]?) hkk
    simp at h0 h1; simp only [if_pos (And.intro h0 h1)]
    exact ⟨fun zd => Maps.atKey_put_same hm (keyLaw.key hl) _ _, Maps.has_put_same hm (keyLaw.key hl) _⟩
  · have hne : ¬ (c' = c ∧ k' = k) := fun ⟨h0, h1⟩ => by
      subst h0 h1; rw [hl] at hl'
      injection hl' with hl'
      exact e hl'.symm
    simp only [if_neg hne]; obtain ⟨h1, h2⟩ := hr c' k' l' hl'
    exact ⟨fun zd => (Maps.atKey_put_other e _ _).trans (h1 zd), (Maps.has_put_other e _).trans h2⟩
end Go.Proofs.Ytipjcjjjkkaigaa

namespace Go.Proofs.Ytipjcjjjkkaigaa
set_option maxRecDepth 100000
open Go.RowKit
/-- The first rule of a kind. -/
def ruleOf (kd : Int) : List Rule → Option Rule
  | [] => none
  | r :: rs => if r.kd = kd then some r else ruleOf kd rs
end Go.Proofs.Ytipjcjjjkkaigaa

namespace Go.Proofs.Ytipjcjjjkkaigaa
set_option maxRecDepth 100000
open Go.RowKit
set_option maxHeartbeats 1000000 in
theorem ascE_any (A : Option Addr) (n cap : Nat) (es : List Evt) (w : World) (hn : n ≤ 1000000000) (hE : Evs w A n es) :
    Calls Try.prog 145 #[.func (.func 127) #[] #[], .slice A n cap] w fun x w' => x = .returned (.bool (riseB es)) ∧ Up w w' := by
  have H0 := Lib.hid (show riseB (es.drop 0) = riseB es from rfl)
  have ST := Lib.hid (riseB_drop es)
  have EN := Lib.hid (riseB_end es)
  have HE := Lib.hid hE
  have LE := Lib.hid hE.1
  have CL := Lib.hid (fun a b W => cmpE_any a b W)
  clear hE
  go_enter Try.func145, Try.ntmps145
  go_wp2
  go_loopw [5] (fun i wr => (∃ j : Nat, (j = 0 ∨ j + 1 ≤ n) ∧ i = .int .i64 ((j : Int) + 1) ∧ riseB (es.drop j) = riseB es) ∧ Up w wr) (fun i _ => n + 1 - (intOf i).toNat)
  case atStart => exact ⟨⟨0, .inl rfl, rfl, H0.out⟩, Up.refl _⟩
  case round =>
    obtain ⟨⟨j, hj, rfl, hr⟩, ur⟩ := hrel
    have HR := Lib.hid hr
    clear hr
    by_cases hlt : j + 1 < n
    · obtain ⟨b, off, hA, hb, hc⟩ := HE.out.2 (by omega)
      subst hA
      have a0 := (hc j (by omega)).up ur hb
      have a1 := (hc (j + 1) hlt).up ur hb
      have hb' : b < wr.heap.size := by have := ur.size; omega
      clear hc
      have S := ST.out j (by rw [LE.out]; exact hlt)
      have cl := CL.out (es.getD j default) (es.getD (j + 1) default)
      generalize es.getD j default = p at a0 S cl
      generalize es.getD (j + 1) default = q at a1 S cl
      have S' := Lib.hid S
      clear S
      generalize hz : cmpE p q = z at cl
      have HZ := Lib.hid (show ltE p q = decide (z < 0) by unfold ltE; rw [hz])
      clear hz
      generalize ltE p q = r at S' HZ
      obtain ⟨pt, pto, pfr, psq, pkd, pdt⟩ := p; obtain ⟨qt, qto, qfr, qsq, qkd, qdt⟩ := q; unfold EvAt at a0 a1; unfold Evt.v at cl; dsimp only at a0 a1 cl; obtain ⟨p0, p1, p2, p3, p4, p5⟩ := a0; obtain ⟨q0, q1, q2, q3, q4, q5⟩ := a1
      have C := Lib.hid cl
      clear cl
      have i0 : IntKind.i64.wrap (j : Int) = j := IntWalk.i64_in _ (by omega)
      have i1 : (0 : Int) ≤ (j : Int) + 1 := by omega
      have i2 : ((j : Int) + 1).toNat = j + 1 := by omega
      have i3 : (j : Int) + 1 < n := by omega
      have i4 : (j : Int) < n := by omega
      go_wp2
      by_cases hz : z < 0
      · have hr : r = true := by rw [HZ.out]; exact decide_eq_true hz
        have HR2 := Lib.hid hr
        clear hr; refine region_up (by kernel_rfl) (by kernel_rfl) ?_; refine up_step rfl ?_; apply Exists.intro; refine ⟨fun w1 hw1 => ?_, ?_⟩
        · go_simp
          try rfl
        go_simp; refine up_step rfl ?_; apply Exists.intro; refine ⟨fun w1 hw1 => ?_, ?_⟩
        · go_simp
          try rfl
        go_simp; refine up_step rfl ?_; apply Exists.intro; refine ⟨fun w1 hw1 => ?_, ?_⟩
        · go_simp
          try rfl
        go_simp; refine up_step rfl ?_; apply Exists.intro; refine ⟨fun w1 hw1 => ?_, ?_⟩
        · go_simp
          try rfl
        go_simp; refine up_step rfl ?_; apply Exists.intro; refine ⟨fun w1 hw1 => ?_, ?_⟩
        · go_simp
          try rfl
        go_simp; refine up_step rfl ?_; apply Exists.intro; refine ⟨fun w1 hw1 => ?_, ?_⟩
        · obtain ⟨hc, hf, hz⟩ := hw1.facts
          try simp at hz
          go_simp
          try rfl
        go_simp; refine up_step rfl ?_; apply Exists.intro; refine ⟨fun w1 hw1 => ?_, ?_⟩
        · go_simp
          try rfl
        go_simp; refine up_step rfl ?_; apply Exists.intro; refine ⟨fun w1 hw1 => ?_, ?_⟩
        · go_simp
          try rfl
        go_simp; refine up_step rfl ?_; apply Exists.intro; refine ⟨fun w1 hw1 => ?_, ?_⟩
        · go_simp
          try rfl
        go_simp; refine up_step rfl ?_; apply Exists.intro; refine ⟨fun w1 hw1 => ?_, ?_⟩
        · obtain ⟨hc, hf, hz⟩ := hw1.facts
          try simp at hz
          go_simp
          try rfl
        go_simp; refine up_step rfl ?_; apply Exists.intro; refine ⟨fun w1 hw1 => ?_, ?_⟩
        · go_simp
          exact up_call hw1 (C.out _)
        go_simp; refine up_step rfl ?_; apply Exists.intro; refine ⟨fun w1 hw1 => ?_, ?_⟩
        · go_simp
          try rfl
        go_simp; refine wpQuiet_nil ?_; intro wA uA; clear i0 i1 i2 i3 i4 p0 p1 p2 p3 p4 p5 q0 q1 q2 q3 q4 q5 C; go_wp2
        go_roundw
        case rel => exact ⟨⟨j + 1, .inr (by omega), by go_num, by rw [← HR.out, S'.out, HR2.out]; rfl⟩, ur.trans uA⟩
        case measure => simp [intOf]; omega
      · have hz0 : 0 ≤ z := by omega
        have hr : r = false := by rw [HZ.out]; exact decide_eq_false hz
        have HR2 := Lib.hid hr
        clear hr; refine region_up (by kernel_rfl) (by kernel_rfl) ?_; refine up_step rfl ?_; apply Exists.intro; refine ⟨fun w1 hw1 => ?_, ?_⟩
        · go_simp
          try rfl
        go_simp; refine up_step rfl ?_; apply Exists.intro; refine ⟨fun w1 hw1 => ?_, ?_⟩
        · go_simp
          try rfl
        go_simp; refine up_step rfl ?_; apply Exists.intro; refine ⟨fun w1 hw1 => ?_, ?_⟩
        · go_simp
          try rfl
        go_simp; refine up_step rfl ?_; apply Exists.intro; refine ⟨fun w1 hw1 => ?_, ?_⟩
        · go_simp
          try rfl
        go_simp; refine up_step rfl ?_; apply Exists.intro; refine ⟨fun w1 hw1 => ?_, ?_⟩
        · go_simp
          try rfl
        go_simp; refine up_step rfl ?_; apply Exists.intro; refine ⟨fun w1 hw1 => ?_, ?_⟩
        · obtain ⟨hc, hf, hz⟩ := hw1.facts
          try simp at hz
          go_simp
          try rfl
        go_simp; refine up_step rfl ?_; apply Exists.intro; refine ⟨fun w1 hw1 => ?_, ?_⟩
        · go_simp
          try rfl
        go_simp; refine up_step rfl ?_; apply Exists.intro; refine ⟨fun w1 hw1 => ?_, ?_⟩
        · go_simp
          try rfl
        go_simp; refine up_step rfl ?_; apply Exists.intro; refine ⟨fun w1 hw1 => ?_, ?_⟩
        · go_simp
          try rfl
        go_simp; refine up_step rfl ?_; apply Exists.intro; refine ⟨fun w1 hw1 => ?_, ?_⟩
        · obtain ⟨hc, hf, hz⟩ := hw1.facts
          try simp at hz
          go_simp
          try rfl
        go_simp; refine up_step rfl ?_; apply Exists.intro; refine ⟨fun w1 hw1 => ?_, ?_⟩
        · go_simp
          exact up_call hw1 (C.out _)
        go_simp; refine up_step rfl ?_; apply Exists.intro; refine ⟨fun w1 hw1 => ?_, ?_⟩
        · go_simp
          try rfl
        go_simp; refine wpQuiet_nil ?_; intro wA uA; clear i0 i1 i2 i3 i4 p0 p1 p2 p3 p4 p5 q0 q1 q2 q3 q4 q5 C; go_wp2; go_ret
        exact ⟨ret_bool (by rw [← HR.out, S'.out, HR2.out]; rfl), ur.trans uA⟩
    · have e := EN.out j (by rw [LE.out]; omega)
      have E := Lib.hid e
      clear e; go_wp2; go_ret
      exact ⟨ret_bool (by rw [← HR.out, E.out]), ur⟩
theorem implRise_any (A : Option Addr) (n cap : Nat) (es : List Evt) (w : World) (hn : n ≤ 1000000000) (hE : Evs w A n es) :
    Calls Try.prog 119 #[.slice A n cap] w fun x w' => x = .returned (.bool (riseB es)) ∧ Up w w' := by
  have C := Lib.hid (ascE_any A n cap es w hn hE)
  generalize riseB es = r at C ⊢
  clear hE
  go_enter Try.func119, Try.ntmps119
  go_wp2_with fail
  refine C.out.mono ?_; rintro x w1 ⟨rfl, u⟩; go_wp2; go_ret
  exact ⟨rfl, u⟩
set_option maxHeartbeats 1000000 in
theorem specRise_any (A : Option Addr) (n cap : Nat) (es : List Evt) (w : World) (hn : n ≤ 1000000000) (hE : Evs w A n es) :
    Calls Try.prog 63 #[.slice A n cap] w fun x w' => x = .returned (.bool (riseB es)) ∧ Up w w' := by
  have H0 := Lib.hid (show riseB (es.drop 0) = riseB es from rfl)
  have ST := Lib.hid (riseB_drop es)
  have EN := Lib.hid (riseB_end es)
  have HE := Lib.hid hE
  have LE := Lib.hid hE.1
  have CL := Lib.hid (fun a b W => specLess_any a b W)
  clear hE
  go_enter Try.func63, Try.ntmps63
  go_wp2
  go_loopw [3] (fun i wr => (∃ j : Nat, (j = 0 ∨ j + 1 ≤ n) ∧ i = .int .i64 ((j : Int) + 1) ∧ riseB (es.drop j) = riseB es) ∧ Up w wr) (fun i _ => n + 1 - (intOf i).toNat)
  case atStart => exact ⟨⟨0, .inl rfl, rfl, H0.out⟩, Up.refl _⟩
  case round =>
    obtain ⟨⟨j, hj, rfl, hr⟩, ur⟩ := hrel
    have HR := Lib.hid hr
    clear hr
    by_cases hlt : j + 1 < n
    · obtain ⟨b, off, hA, hb, hc⟩ := HE.out.2 (by omega)
      subst hA
      have a0 := (hc j (by omega)).up ur hb
      have a1 := (hc (j + 1) hlt).up ur hb
      have hb' : b < wr.heap.size := by have := ur.size; omega
      clear hc
      have S := ST.out j (by rw [LE.out]; exact hlt)
      have cl := CL.out (es.getD j default) (es.getD (j + 1) default)
      generalize es.getD j default = p at a0 S cl
      generalize es.getD (j + 1) default = q at a1 S cl
      have S' := Lib.hid S
      clear S
      generalize ltE p q = r at S' cl
      obtain ⟨pt, pto, pfr, psq, pkd, pdt⟩ := p; obtain ⟨qt, qto, qfr, qsq, qkd, qdt⟩ := q; unfold EvAt at a0 a1; unfold Evt.v at cl; dsimp only at a0 a1 cl; obtain ⟨p0, p1, p2, p3, p4, p5⟩ := a0; obtain ⟨q0, q1, q2, q3, q4, q5⟩ := a1
      have C := Lib.hid cl
      clear cl
      have i0 : IntKind.i64.wrap (j : Int) = j := IntWalk.i64_in _ (by omega)
      have i1 : (0 : Int) ≤ (j : Int) + 1 := by omega
      have i2 : ((j : Int) + 1).toNat = j + 1 := by omega
      have i3 : (j : Int) + 1 < n := by omega
      have i4 : (j : Int) < n := by omega
      go_wp2; refine region_up (by kernel_rfl) (by kernel_rfl) ?_; refine up_step rfl ?_; apply Exists.intro; refine ⟨fun w1 hw1 => ?_, ?_⟩
      · go_simp
        try rfl
      go_simp; refine up_step rfl ?_; apply Exists.intro; refine ⟨fun w1 hw1 => ?_, ?_⟩
      · go_simp
        try rfl
      go_simp; refine up_step rfl ?_; apply Exists.intro; refine ⟨fun w1 hw1 => ?_, ?_⟩
      · go_simp
        try rfl
      go_simp; refine up_step rfl ?_; apply Exists.intro; refine ⟨fun w1 hw1 => ?_, ?_⟩
      · go_simp
        try rfl
      go_simp; refine up_step rfl ?_; apply Exists.intro; refine ⟨fun w1 hw1 => ?_, ?_⟩
      · obtain ⟨hc, hf, hz⟩ := hw1.facts
        try simp at hz
        go_simp
        try rfl
      go_simp; refine up_step rfl ?_; apply Exists.intro; refine ⟨fun w1 hw1 => ?_, ?_⟩
      · go_simp
        try rfl
      go_simp; refine up_step rfl ?_; apply Exists.intro; refine ⟨fun w1 hw1 => ?_, ?_⟩
      · go_simp
        try rfl
      go_simp; refine up_step rfl ?_; apply Exists.intro; refine ⟨fun w1 hw1 => ?_, ?_⟩
      · go_simp
        try rfl
      go_simp; refine up_step rfl ?_; apply Exists.intro; refine ⟨fun w1 hw1 => ?_, ?_⟩
      · obtain ⟨hc, hf, hz⟩ := hw1.facts
        try simp at hz
        go_simp
        try rfl
      go_simp; refine up_step rfl ?_; apply Exists.intro; refine ⟨fun w1 hw1 => ?_, ?_⟩
      · go_simp
        exact up_call hw1 (C.out _)
      go_simp; refine up_step rfl ?_; apply Exists.intro; refine ⟨fun w1 hw1 => ?_, ?_⟩
      · go_simp
        try rfl
      go_simp; refine wpQuiet_nil ?_; intro wA uA; clear i0 i1 i2 i3 i4 p0 p1 p2 p3 p4 p5 q0 q1 q2 q3 q4 q5 C
      cases r
      · go_wp2
        go_ret
        exact ⟨ret_bool (by rw [← HR.out, S'.out]; rfl), ur.trans uA⟩
      · go_wp2
        go_roundw
        case rel => exact ⟨⟨j + 1, .inr (by omega), by go_num, by rw [← HR.out, S'.out]; rfl⟩, ur.trans uA⟩
        case measure => simp [intOf]; omega
    · have e := EN.out j (by rw [LE.out]; omega)
      have E := Lib.hid e
      clear e; go_wp2; go_ret
      exact ⟨ret_bool (by rw [← HR.out, E.out]), ur⟩
end Go.Proofs.Ytipjcjjjkkaigaa

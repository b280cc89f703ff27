/-
  Sequential simulators in memory, in one sentence: lists of component states and of records, and when two are the same; for all that lie in memory.
  Conservative simulations in memory, in one sentence: rows of numbers, hosts, rows of records, as lists; no condition is made.
  Heaps whose blocks are typed, in one sentence: of each block from a S on whose element type a table lists, every cell holds what the table says, and what each step keeps of it; no condition is made.
  What stands in the slots of regions over a typed heap, in one sentence: numbers, arrays of numbers, aggregates, slices in typed blocks, each kept by every step; no condition is made.
  What markSeqState, heldSeqState and eqSeqState return, in one sentence: the marks are laid one behind the other in three blocks, are held, and when two are the same; for simulators of the call's own.
  Marks on a conservative simulation of the call's own, in one sentence: they are laid in its blocks alone, and found again as long as these are not written; for every simulation without records whose slices lie in blocks of their own.
-/
import Derived.ArgAppend
import Derived.Deep.RegionHeld3
import Derived.Test.YtipjcjjjkkaigaaDLEcbn01
import Derived.Test.YtipjcjjjkkaigaaDLEcbn02
import Derived.Test.YtipjcjjjkkaigaaDLEcbn03
import Derived.Test.YtipjcjjjkkaigaaDLEcbn04
import Derived.Test.YtipjcjjjkkaigaaDLEcbn07
import Derived.Test.YtipjcjjjkkaigaaDLEcbn08
namespace Go.Proofs.Ytipjcjjjkkaigaa
set_option maxRecDepth 100000
open Go.RowKit
/-- A record: the event, and the state behind it. -/
structure Rec where
  ev : Evt
  s : Int
deriving DecidableEq
instance : Inhabited Rec := ⟨⟨default, 0⟩⟩
instance : Inhabited Cst := ⟨⟨0, 0, 0⟩⟩
def Rec.v (r : Rec) : Value := .agg #[.int .i64 r.ev.t, .int .i64 r.ev.to, .int .i64 r.ev.fr, .int .i64 r.ev.sq, .int .i64 r.ev.kd, .int .i64 r.ev.dt, .int .i64 r.s]
/-- The cells of one, from o on. -/
def RecAt (w : World) (b o : Nat) (x : Rec) : Prop :=
  w.cell? ⟨b, o, none⟩ = some (.int .i64 x.ev.t) ∧ w.cell? ⟨b, o + 1, none⟩ = some (.int .i64 x.ev.to) ∧ w.cell? ⟨b, o + 2, none⟩ = some (.int .i64 x.ev.fr) ∧ w.cell? ⟨b, o + 3, none⟩ = some (.int .i64 x.ev.sq) ∧ w.cell? ⟨b, o + 4, none⟩ = some (.int .i64 x.ev.kd) ∧ w.cell? ⟨b, o + 5, none⟩ = some (.int .i64 x.ev.dt) ∧ w.cell? ⟨b, o + 6, none⟩ = some (.int .i64 x.s)
/-- The slice at A of n elements holds the list. -/
def Recs (w : World) (A : Option Addr) (n : Nat) (xs : List Rec) : Prop :=
  xs.length = n ∧ (0 < n → ∃ b off, A = some ⟨b, off, none⟩ ∧ b < w.heap.size ∧ ∀ i, i < n → RecAt w b (off + i * 7) (xs.getD i default))
theorem RecAt.keep {w w' : World} {b o : Nat} {x : Rec} (h : RecAt w b o x) (k : ∀ j, w'.cell? ⟨b, j, none⟩ = w.cell? ⟨b, j, none⟩) : RecAt w' b o x := by
  obtain ⟨h0, h1, h2, h3, h4, h5, h6⟩ := h
  exact ⟨(k _).trans h0, (k _).trans h1, (k _).trans h2, (k _).trans h3, (k _).trans h4, (k _).trans h5, (k _).trans h6⟩
theorem RecAt.up {w w' : World} {b o : Nat} {x : Rec} (h : RecAt w b o x) (u : Up w w') (hb : b < w.heap.size) : RecAt w' b o x := h.keep fun j => u.cells b j hb
theorem Recs.up {w w' : World} {A : Option Addr} {n : Nat} {xs : List Rec} (h : Recs w A n xs) (u : Up w w') : Recs w' A n xs :=
  ⟨h.1, fun hn => by
    obtain ⟨b, off, hA, hb, hc⟩ := h.2 hn
    exact ⟨b, off, hA, Nat.lt_of_lt_of_le hb u.size, fun i hi => (hc i hi).up u hb⟩⟩
theorem eqT_drop {α : Type} [DecidableEq α] (d : α) (es fs : List α) (hl : es.length = fs.length) (k : Nat) (h : k < es.length) : decide (es.drop k = fs.drop k) = (decide (es.getD k d = fs.getD k d) && decide (es.drop (k + 1) = fs.drop (k + 1))) := by
  have h2 : k < fs.length := by omega
  have g1 : es.getD k d = es[k] := by simp [h]
  have g2 : fs.getD k d = fs[k] := by simp [h2]
  rw [List.drop_eq_getElem_cons h, List.drop_eq_getElem_cons h2, g1, g2, Bool.eq_iff_iff, Bool.and_eq_true, decide_eq_true_iff, decide_eq_true_iff, decide_eq_true_iff, List.cons.injEq]
set_option maxHeartbeats 4000000 in
theorem eqRec_any (a b : Rec) (w : World) : Calls Try.prog 144 #[a.v, b.v] w fun x w' => x = .returned (.bool (decide (a = b))) ∧ Up w w' := by
  obtain ⟨⟨a0, a1, a2, a3, a4, a5⟩, a6⟩ := a; obtain ⟨⟨b0, b1, b2, b3, b4, b5⟩, b6⟩ := b
  have hf := Lib.hid (show decide ((⟨⟨a0, a1, a2, a3, a4, a5⟩, a6⟩ : Rec) = ⟨⟨b0, b1, b2, b3, b4, b5⟩, b6⟩) = (eqB ⟨a0, a1, a2, a3, a4, a5⟩ ⟨b0, b1, b2, b3, b4, b5⟩ && decide (a6 = b6)) by unfold eqB; rw [Bool.eq_iff_iff]; simp)
  generalize decide ((⟨⟨a0, a1, a2, a3, a4, a5⟩, a6⟩ : Rec) = ⟨⟨b0, b1, b2, b3, b4, b5⟩, b6⟩) = r at hf ⊢
  have CL := fun W => eqEvt_any ⟨a0, a1, a2, a3, a4, a5⟩ ⟨b0, b1, b2, b3, b4, b5⟩ W
  generalize eqB ⟨a0, a1, a2, a3, a4, a5⟩ ⟨b0, b1, b2, b3, b4, b5⟩ = q at hf CL
  unfold Evt.v at CL; unfold Rec.v; dsimp only at CL ⊢
  have C := Lib.hid CL
  clear CL
  go_enter Try.func144, Try.ntmps144
  go_wp2_with fail
  have ua := Lib.hid (((Up.refl w).alloc (.cells #[.int .i64 a0, .int .i64 a1, .int .i64 a2, .int .i64 a3, .int .i64 a4, .int .i64 a5, .int .i64 a6] 88)).alloc (.cells #[.int .i64 b0, .int .i64 b1, .int .i64 b2, .int .i64 b3, .int .i64 b4, .int .i64 b5, .int .i64 b6] 88))
  refine (C.out _).mono ?_; rintro x w1 ⟨rfl, u1⟩
  have U1 := Lib.hid (ua.out.trans u1)
  obtain ⟨hc, hf1, hz⟩ := u1.facts; simp at hz; clear u1 ua
  cases q
  · have HR := Lib.hid (show r = false by rw [hf.out]; rfl)
    clear hf; go_wp2; go_ret
    exact ⟨ret_bool HR.out.symm, U1.out⟩
  · by_cases h : a6 = b6
    · have HR := Lib.hid (show r = true by rw [hf.out]; simp [h])
      subst h; clear hf; go_wp2; go_ret
      exact ⟨ret_bool HR.out.symm, U1.out⟩
    · have HR := Lib.hid (show r = false by rw [hf.out]; simp [h])
      have h0' : (a6 != b6) = true := by simp [h]
      clear hf; go_wp2; go_ret
      exact ⟨ret_bool HR.out.symm, U1.out⟩
set_option maxHeartbeats 4000000 in
theorem eqR_any (A B : Option Addr) (n m capa capb : Nat) (es fs : List Rec) (w : World) (hn : n ≤ 1000000000) (hE : Recs w A n es) (hF : Recs w B m fs) :
    Calls Try.prog 113 #[.slice A n capa, .slice B m capb] w fun x w' => x = .returned (.bool (decide (es = fs))) ∧ Up w w' := by
  by_cases hnm : n = m
  · subst hnm
    have H0 := Lib.hid (show decide (es.drop 0 = fs.drop 0) = decide (es = fs) from rfl)
    have ST := Lib.hid (eqT_drop default es fs (by rw [hE.1, hF.1]))
    have HE := Lib.hid hE
    have HF := Lib.hid hF
    have LE := Lib.hid hE.1
    have LF := Lib.hid hF.1
    have CL := Lib.hid (fun a b W => eqRec_any a b W)
    generalize hr : decide (es = fs) = res at H0 ⊢
    clear hE hF hr
    go_enter Try.func113, Try.ntmps113
    go_wp2
    go_loopw [5] (fun i wr => (∃ k : Nat, k ≤ n ∧ i = .int .i64 k ∧ Hid (decide (es.drop k = fs.drop k) = res)) ∧ Up w wr) (fun i _ => n - (intOf i).toNat)
    case atStart => exact ⟨⟨0, by omega, rfl, H0⟩, Up.refl _⟩
    case round =>
      obtain ⟨⟨k, hk, rfl, HR⟩, ur⟩ := hrel
      by_cases hlt : k < n
      · obtain ⟨b, off, hA, hb, hc⟩ := HE.out.2 (by omega)
        obtain ⟨b2, off2, hA2, hb2, hc2⟩ := HF.out.2 (by omega); subst hA hA2
        have a0 := (hc k hlt).up ur hb
        have a1 := (hc2 k hlt).up ur hb2
        have hb' : b < wr.heap.size := by have := ur.size; omega
        have hb2' : b2 < wr.heap.size := by have := ur.size; omega
        clear hc hc2
        have S := ST.out k (by rw [LE.out]; exact hlt)
        have cl := CL.out (es.getD k default) (fs.getD k default)
        generalize es.getD k default = p at a0 S cl
        generalize fs.getD k default = q at a1 S cl
        have S' := Lib.hid S
        clear S
        generalize decide (p = q) = r at S' cl
        unfold RecAt at a0 a1; unfold Rec.v at cl; obtain ⟨p0, p1, p2, p3, p4, p5, p6⟩ := a0; obtain ⟨q0, q1, q2, q3, q4, q5, q6⟩ := a1
        have C := Lib.hid cl
        clear cl
        have i4 : (k : Int) < n := by omega
        have UR := Lib.hid ur
        clear ur
        go_wp2_with fail
        refine region_qw (by kernel_rfl) (by kernel_rfl) ?_; refine qWalk_step ?_; intro K hK; go_simp; apply Exists.intro; refine And.intro ?_ ?_
        · intro w1 hw1
          try go_simp
          try rfl
        try go_simp
        refine hK _ ?_; clear hK K; refine qWalk_step ?_; intro K hK; go_simp; apply Exists.intro; refine And.intro ?_ ?_
        · intro w1 hw1
          try go_simp
          try rfl
        try go_simp
        refine hK _ ?_; clear hK K; refine qWalk_step ?_; intro K hK; go_simp; apply Exists.intro; refine And.intro ?_ ?_
        · intro w1 hw1
          try go_simp
          try rfl
        try go_simp
        refine hK _ ?_; clear hK K; refine qWalk_step ?_; intro K hK; go_simp; apply Exists.intro; refine And.intro ?_ ?_
        · intro w1 hw1
          obtain ⟨hc, hf, hz⟩ := hw1.facts
          try simp at hz
          try go_simp
          try rfl
        try go_simp
        refine hK _ ?_; clear hK K; refine qWalk_step ?_; intro K hK; go_simp; apply Exists.intro; refine And.intro ?_ ?_
        · intro w1 hw1
          try go_simp
          try rfl
        try go_simp
        refine hK _ ?_; clear hK K; refine qWalk_step ?_; intro K hK; go_simp; apply Exists.intro; refine And.intro ?_ ?_
        · intro w1 hw1
          try go_simp
          try rfl
        try go_simp
        refine hK _ ?_; clear hK K; refine qWalk_step ?_; intro K hK; go_simp; apply Exists.intro; refine And.intro ?_ ?_
        · intro w1 hw1
          try go_simp
          try rfl
        try go_simp
        refine hK _ ?_; clear hK K; refine qWalk_step ?_; intro K hK; go_simp; apply Exists.intro; refine And.intro ?_ ?_
        · intro w1 hw1
          obtain ⟨hc, hf, hz⟩ := hw1.facts
          try simp at hz
          try go_simp
          try rfl
        try go_simp
        refine hK _ ?_; clear hK K; refine qWalk_step ?_; intro K hK; go_simp; apply Exists.intro; refine And.intro ?_ ?_
        · intro w1 hw1
          try go_simp
          exact up_call hw1 (C.out _)
        try go_simp
        refine hK _ ?_; clear hK K; refine qWalk_step ?_; intro K hK; go_simp; apply Exists.intro; refine And.intro ?_ ?_
        · intro w1 hw1
          try go_simp
          try rfl
        try go_simp
        refine hK _ ?_; clear hK K; refine qWalk_nil ?_; intro wA uA
        have UA := Lib.hid (UR.out.trans uA)
        clear uA p0 p1 p2 p3 p4 p5 p6 q0 q1 q2 q3 q4 q5 q6 C
        cases r
        · go_wp2
          go_ret
          exact ⟨ret_bool (by rw [← HR.out, S'.out]; rfl), UA.out⟩
        · have RN := Lib.hid (show decide (es.drop (k + 1) = fs.drop (k + 1)) = res by rw [← HR.out, S'.out]; rfl)
          go_wp2
          go_roundw
          case rel => exact ⟨⟨k + 1, by omega, by go_num, RN⟩, UA.out⟩
          case measure => simp [intOf]; omega
      · have e : decide (es.drop k = fs.drop k) = true := by rw [List.drop_eq_nil_of_le (by rw [LE.out]; omega), List.drop_eq_nil_of_le (by rw [LF.out]; omega)]; rfl
        have E := Lib.hid e
        have i4 : ¬ (k : Int) < n := by omega
        clear e; go_wp2; go_ret
        exact ⟨ret_bool (by rw [← HR.out, E.out]), ur⟩
  · have hf := Lib.hid (show decide (es = fs) = false from decide_eq_false fun h => hnm (by rw [← hE.1, ← hF.1, h]))
    generalize decide (es = fs) = r at hf ⊢
    have hne : ((n : Int) != (m : Int)) = true := by rw [bne_iff_ne]; omega
    have HN := Lib.hid hnm
    clear hE hF hnm
    go_enter Try.func113, Try.ntmps113
    go_wp2; go_ret
    exact ⟨ret_bool hf.out.symm, Up.refl _⟩
end Go.Proofs.Ytipjcjjjkkaigaa

namespace Go.Proofs.Ytipjcjjjkkaigaa
set_option maxRecDepth 100000
open Go.RowKit
/-- A row of numbers. -/
def Nms (w : World) (A : Option Addr) (n : Nat) (zs : List Int) : Prop :=
  zs.length = n ∧ (0 < n → ∃ b off, A = some ⟨b, off, none⟩ ∧ b < w.heap.size ∧ ∀ i, i < n → w.cell? ⟨b, off + i, none⟩ = some (.int .i64 (zs.getD i 0)))
theorem Nms.up {w w' : World} {A : Option Addr} {n : Nat} {zs : List Int} (h : Nms w A n zs) (u : Up w w') : Nms w' A n zs :=
  ⟨h.1, fun hn => by
    obtain ⟨b, off, hA, hb, hc⟩ := h.2 hn
    exact ⟨b, off, hA, Nat.lt_of_lt_of_le hb u.size, fun i hi => (u.cells _ _ hb).trans (hc i hi)⟩⟩
/-- A host. -/
structure Ch where
  now : Cst
  wait : List Evt
  ins : List Int
instance : Inhabited Ch := ⟨⟨⟨0, 0, 0⟩, [], []⟩⟩
def ChAt (w : World) (b o : Nat) (h : Ch) : Prop :=
  ∃ A n c B k d, (w.cell? ⟨b, o, none⟩ = some (.int .i64 h.now.s) ∧ w.cell? ⟨b, o + 1, none⟩ = some (.int .i64 h.now.sq) ∧ w.cell? ⟨b, o + 2, none⟩ = some (.int .i64 h.now.ct) ∧ w.cell? ⟨b, o + 3, none⟩ = some (.slice A n c) ∧ w.cell? ⟨b, o + 4, none⟩ = some (.slice B k d)) ∧
    (Evs w A n h.wait ∧ n ≤ 1000000) ∧ Nms w B k h.ins ∧ k ≤ 1000000
theorem ChAt.up {w w' : World} {b o : Nat} {h : Ch} (k : ChAt w b o h) (u : Up w w') (hb : b < w.heap.size) : ChAt w' b o h := by
  obtain ⟨A, n, c, B, k, d, ⟨h0, h1, h2, h3, h4⟩, ⟨h5, h6⟩, h7, h8⟩ := k
  exact ⟨A, n, c, B, k, d, ⟨(u.cells _ _ hb).trans h0, (u.cells _ _ hb).trans h1, (u.cells _ _ hb).trans h2, (u.cells _ _ hb).trans h3, (u.cells _ _ hb).trans h4⟩, ⟨h5.up u, h6⟩, h7.up u, h8⟩
def Chs (w : World) (A : Option Addr) (n : Nat) (hs : List Ch) : Prop :=
  hs.length = n ∧ (0 < n → ∃ b off, A = some ⟨b, off, none⟩ ∧ b < w.heap.size ∧ ∀ i, i < n → ChAt w b (off + i * 5) (hs.getD i default))
theorem Chs.up {w w' : World} {A : Option Addr} {n : Nat} {hs : List Ch} (h : Chs w A n hs) (u : Up w w') : Chs w' A n hs :=
  ⟨h.1, fun hn => by
    obtain ⟨b, off, hA, hb, hc⟩ := h.2 hn
    exact ⟨b, off, hA, Nat.lt_of_lt_of_le hb u.size, fun i hi => (hc i hi).up u hb⟩⟩
/-- Rows of records. -/
def Lgs (w : World) (A : Option Addr) (n : Nat) (ls : List (List Rec)) : Prop :=
  ls.length = n ∧ (0 < n → ∃ b off, A = some ⟨b, off, none⟩ ∧ b < w.heap.size ∧ ∀ i, i < n → ∃ A' n' c', w.cell? ⟨b, off + i, none⟩ = some (.slice A' n' c') ∧ Recs w A' n' (ls.getD i []) ∧ n' ≤ 1000000)
theorem Lgs.up {w w' : World} {A : Option Addr} {n : Nat} {ls : List (List Rec)} (h : Lgs w A n ls) (u : Up w w') : Lgs w' A n ls :=
  ⟨h.1, fun hn => by
    obtain ⟨b, off, hA, hb, hc⟩ := h.2 hn; refine ⟨b, off, hA, Nat.lt_of_lt_of_le hb u.size, fun i hi => ?_⟩; obtain ⟨A', n', c', h1, h2, h3⟩ := hc i hi
    exact ⟨A', n', c', (u.cells _ _ hb).trans h1, h2.up u, h3⟩⟩
/-- A simulation's value over its slices. -/
structure CbV (w : World) (A : Option Addr) (n : Nat) (B : Option Addr) (k : Nat) (hs : List Ch) (ls : List (List Rec)) : Prop where
  hosts : Chs w A n hs
  logs : Lgs w B k ls
  few : n ≤ 1000000 ∧ k ≤ 1000000
theorem CbV.up {w w' : World} {A B : Option Addr} {n k : Nat} {hs : List Ch} {ls : List (List Rec)} (h : CbV w A n B k hs ls) (u : Up w w') : CbV w' A n B k hs ls := ⟨h.hosts.up u, h.logs.up u, h.few⟩
end Go.Proofs.Ytipjcjjjkkaigaa

namespace Go.Proofs.Ytipjcjjjkkaigaa
set_option maxRecDepth 100000
open Go.RowKit
/-- What a cell may hold: a number; a slice of at most mx elements of type e, of so many cells each. -/
inductive CK where
  | num
  | sl (e size mx : Nat)
abbrev Tbl := Nat → List CK
section
variable {T : Tbl} {S : Nat → Prop} {g : Nat} {w w' w'' : World}
theorem heap_set (w : World) (b o : Nat) (u : Value) {arr : Array Value} {e : Nat} {fz : Nat × Nat} (ha : w.heap[b]? = some (.cells arr e fz)) :
    (w.setCell ⟨b, o, none⟩ u).heap[b]? = some (.cells (arr.setIfInBounds o u) e fz) := by
  unfold World.setCell; simp [Array.getElem?_modify, ha]
end
end Go.Proofs.Ytipjcjjjkkaigaa

namespace Go.Proofs.Ytipjcjjjkkaigaa
set_option maxRecDepth 100000
open Go.RowKit
section
variable {S : Nat → Prop} {K g N0 : Nat} {W0 w w' : World}
end
section
variable {T : Tbl} {S S' : Nat → Prop} {g : Nat} {w w' : World}
/-- A block known whole. -/
def Blk (w : World) (b e : Nat) (arr : Array Value) : Prop := w.heap[b]? = some (.cells arr e (0, 0))
theorem Blk.cell {b e j : Nat} {arr : Array Value} {v : Value} (h : Blk w b e arr) (hv : arr[j]? = some v) : w.cell? ⟨b, j, none⟩ = some v := by
  unfold World.cell?; dsimp only; rw [h]
  exact hv
theorem Blk.frozen {b e : Nat} {arr : Array Value} (h : Blk w b e arr) (j : Nat) : w.frozen? ⟨b, j, none⟩ = false := by
  unfold World.frozen?; dsimp only; rw [h]; simp
theorem Blk.lt {b e : Nat} {arr : Array Value} (h : Blk w b e arr) : b < w.heap.size := (Array.getElem?_eq_some_iff.1 h).1
theorem Blk.mv {b e : Nat} {arr : Array Value} (h : Blk w b e arr) (k : Mv g w w') (hb : b ≠ g) : Blk w' b e arr := (k.block b h.lt hb).trans h
theorem Blk.up {b e : Nat} {arr : Array Value} (h : Blk w b e arr) (k : Up w w') : Blk w' b e arr := (k.below.block b h.lt).trans h
theorem Blk.alloc {b e : Nat} {arr : Array Value} (h : Blk w b e arr) (o : Obj) : Blk (w.alloc o) b e arr := (heap_alloc_old w _ h.lt).trans h
theorem Blk.new (w : World) (arr : Array Value) (e : Nat) : Blk (w.alloc (.cells arr e)) w.heap.size e arr := heap_alloc_new w _
theorem Blk.set {b e : Nat} {arr : Array Value} (h : Blk w b e arr) (o : Nat) (u : Value) : Blk (w.setCell ⟨b, o, none⟩ u) b e (arr.setIfInBounds o u) := heap_set w b o u h
theorem Blk.far {b b' e : Nat} {arr : Array Value} (h : Blk w b e arr) (o : Nat) (u : Value) (hb : b ≠ b') : Blk (w.setCell ⟨b', o, none⟩ u) b e arr := (Below.heap_setCell w ⟨b', o, none⟩ u b hb).trans h
end
end Go.Proofs.Ytipjcjjjkkaigaa

namespace Go.Proofs.Ytipjcjjjkkaigaa
set_option maxRecDepth 100000
open Go.RowKit
/-- A slice of n structs of s numbers, in a block of type t of the call's own. -/
def Mkb (w : World) (lo : Nat) (A : Option Addr) (n s t : Nat) : Prop := 0 < n → ∃ g xs, A = some ⟨g, 0, none⟩ ∧ lo ≤ g ∧ IntsOwn w g (n * s) ∧ w.heap[g]? = some (.cells xs t)
/-- The same, in a block of any type. -/
def Mkc (w : World) (lo : Nat) (A : Option Addr) (n s : Nat) : Prop := 0 < n → ∃ g, A = some ⟨g, 0, none⟩ ∧ lo ≤ g ∧ IntsOwn w g (n * s)
theorem Mkb.c {w : World} {lo : Nat} {A : Option Addr} {n s t : Nat} (h : Mkb w lo A n s t) : Mkc w lo A n s := fun hn => by
  obtain ⟨g, _, h1, h2, h3, _⟩ := h hn
  exact ⟨g, h1, h2, h3⟩
theorem Mkc.up {w w' : World} {lo : Nat} {A : Option Addr} {n s : Nat} (h : Mkc w lo A n s) (u : Up w w') : Mkc w' lo A n s := fun hn => by
  obtain ⟨g, hA, hl, ho⟩ := h hn
  exact ⟨g, hA, hl, ho.up u⟩
/-- Its block alone was written, if it has any. -/
def Wr (lo : Nat) (A : Option Addr) (n : Nat) (w w' : World) : Prop := (n = 0 ∧ Up w w') ∨ (0 < n ∧ ∃ g, A = some ⟨g, 0, none⟩ ∧ lo ≤ g ∧ Mv g w w')
/-- Two slices lie in two blocks. -/
def Ap (A : Option Addr) (n : Nat) (A' : Option Addr) (n' : Nat) : Prop := 0 < n → 0 < n' → ∀ b o b' o', A = some ⟨b, o, none⟩ → A' = some ⟨b', o', none⟩ → b ≠ b'
theorem Ap.symm {A A' : Option Addr} {n n' : Nat} (h : Ap A n A' n') : Ap A' n' A n := fun h1 h2 b o b' o' e1 e2 e => h h2 h1 b' o' b o e2 e1 e.symm
theorem Mkc.wr {w w' : World} {lo lo' : Nat} {A A' : Option Addr} {n n' s : Nat} (h : Mkc w lo A n s) (hw : Wr lo' A' n' w w') (ha : Ap A n A' n') : Mkc w' lo A n s := by
  rcases hw with ⟨_, u⟩ | ⟨hn', g', hA', _, m⟩
  · exact h.up u
  · intro hn
    obtain ⟨g, hA, hl, ho⟩ := h hn
    have hne := ha hn hn' g 0 g' 0 hA hA'
    exact ⟨g, hA, hl, ho.mv m hne⟩
theorem Held.wr {w w' : World} {lo' : Nat} {A A' : Option Addr} {n n' s : Nat} {k0 : Int} (h : Held w A n s k0) (hw : Wr lo' A' n' w w') (ha : Ap A n A' n') : Held w' A n s k0 := by
  rcases hw with ⟨_, u⟩ | ⟨hn', g', hA', _, m⟩
  · exact h.up u
  · intro hn
    exact (h.mv m (fun b off hA => ha hn hn' b off g' 0 hA hA')) hn
theorem markE_k (lo : Nat) (A : Option Addr) (n c : Nat) (k0 : Int) (w : World) (hn : n ≤ 1048576) (h0 : 0 ≤ k0) (h1 : k0 ≤ 1000000000000) (h : Mkc w lo A n 6) :
    Calls Try.prog 52 #[.slice A n c, .int .i64 k0] w fun x w' => x = .returned (.int .i64 (k0 + 6 * (n : Int))) ∧ Held w' A n 6 k0 ∧ Wr lo A n w w' := by
  rcases Nat.eq_zero_or_pos n with hz | hz
  · subst hz
    refine (markE_no A c k0 w).mono ?_; rintro x w' ⟨rfl, u⟩
    exact ⟨by simp, Held.none_ _ _ _ _, .inl ⟨rfl, u⟩⟩
  · obtain ⟨g, rfl, hg, ho⟩ := h hz
    refine (markE_any g n c k0 w hn h0 h1 ho).mono ?_; rintro x w' ⟨rfl, hh, m⟩
    exact ⟨rfl, hh, .inr ⟨hz, g, rfl, hg, m⟩⟩
end Go.Proofs.Ytipjcjjjkkaigaa

namespace Go.Proofs.Ytipjcjjjkkaigaa
set_option maxRecDepth 100000
open Go.RowKit
set_option maxHeartbeats 4000000 in
theorem markN_any (g n c : Nat) (k0 : Int) (w : World) (hn : n ≤ 1048576) (h0 : 0 ≤ k0) (h1 : k0 ≤ 1000000000000) (hP : IntsOwn w g (n * 1)) :
    Calls Try.prog 114 #[.slice (some ⟨g, 0, none⟩) n c, .int .i64 k0] w fun x w' => x = .returned (.int .i64 (k0 + (n : Int))) ∧ Held w' (some ⟨g, 0, none⟩) n 1 k0 ∧ Mv g w w' := by
  have HP := Lib.hid (show HeldTo w g n 1 0 k0 from ⟨hP, fun i hi => absurd hi (by omega)⟩)
  clear hP
  go_enter Try.func114, Try.ntmps114
  go_wp2
  go_loopw [1, 5] (fun m i wr => (∃ k : Nat, k ≤ n ∧ i = .int .i64 k ∧ m = .int .i64 (k0 + (k : Int)) ∧ HeldTo wr g n 1 k k0) ∧ Mv g w wr) (fun _ i _ => n - (intOf i).toNat)
  case atStart => exact ⟨⟨0, by omega, rfl, by first | rfl | simp, HP.out⟩, Mv.refl _ _⟩
  case round =>
    obtain ⟨⟨k, hk, rfl, rfl, hp⟩, mv⟩ := hrel
    have PP := Lib.hid hp
    have MV := Lib.hid mv
    have hg := hp.1.1
    clear hp mv
    by_cases hlt : k < n
    · have le1 : k + 1 ≤ n := by omega
      obtain ⟨⟨v0, s0⟩, f0⟩ := PP.out.1.2 (k * 1) (by omega)
      have NX := Lib.hid (PP.out.step hlt)
      have MX := Lib.hid (MV.out.putN (k * 1) (k0 + (k : Int)) 1)
      have cs : ((1 : Nat) : Int) * (k : Int) = (k : Int) := by omega
      rw [cs] at NX; simp only [putN, incr, Nat.add_zero, Nat.mul_one] at NX MX s0 f0
      generalize hK : k0 + (k : Int) = K at NX MX ⊢
      have HK := Lib.hid hK
      have b0 : 0 ≤ K := by omega
      have b1 : K ≤ 1000007400000 := by omega
      have i4 : (k : Int) < n := by omega
      clear hK le1 cs; go_wp2
      go_roundw
      case rel => exact ⟨⟨k + 1, by omega, by go_num, by have := HK.out; first | (congr 1; omega) | go_num, NX.out⟩, MX.out⟩
      case measure => simp [intOf]; omega
    · obtain rfl : k = n := by omega
      have i4 : ¬ (k : Int) < k := by omega
      go_wp2; go_ret
      exact ⟨rfl, PP.out.held, MV.out⟩
set_option maxHeartbeats 4000000 in
theorem markN_no (A : Option Addr) (c : Nat) (k0 : Int) (w : World) : Calls Try.prog 114 #[.slice A 0 c, .int .i64 k0] w fun x w' => x = .returned (.int .i64 k0) ∧ Up w w' := by
  go_enter Try.func114, Try.ntmps114
  go_wp2
  go_loopw [1, 5] (fun m i wr => m = .int .i64 k0 ∧ i = .int .i64 0 ∧ Up w wr) (fun _ _ _ => 0)
  case atStart => exact ⟨rfl, rfl, Up.refl _⟩
  case round =>
    obtain ⟨rfl, rfl, u⟩ := hrel; go_wp2; go_ret
    exact ⟨rfl, u⟩
theorem markN_k (lo : Nat) (A : Option Addr) (n c : Nat) (k0 : Int) (w : World) (hn : n ≤ 1048576) (h0 : 0 ≤ k0) (h1 : k0 ≤ 1000000000000) (h : Mkc w lo A n 1) :
    Calls Try.prog 114 #[.slice A n c, .int .i64 k0] w fun x w' => x = .returned (.int .i64 (k0 + (n : Int))) ∧ Held w' A n 1 k0 ∧ Wr lo A n w w' := by
  rcases Nat.eq_zero_or_pos n with hz | hz
  · subst hz
    refine (markN_no A c k0 w).mono ?_; rintro x w' ⟨rfl, u⟩
    exact ⟨by simp, Held.none_ _ _ _ _, .inl ⟨rfl, u⟩⟩
  · obtain ⟨g, rfl, hg, ho⟩ := h hz
    refine (markN_any g n c k0 w hn h0 h1 ho).mono ?_; rintro x w' ⟨rfl, hh, m⟩
    exact ⟨rfl, hh, .inr ⟨hz, g, rfl, hg, m⟩⟩
set_option maxHeartbeats 4000000 in
theorem heldN_any (A : Option Addr) (n c : Nat) (k0 : Int) (w : World) (hn : n ≤ 1048576) (h0 : 0 ≤ k0) (h1 : k0 ≤ 1000000000000) (hE : Held w A n 1 k0) :
    Calls Try.prog 117 #[.slice A n c, .int .i64 k0] w fun x w' => x = .returned (.int .i64 (k0 + (n : Int))) ∧ Up w w' := by
  have HE := Lib.hid hE
  clear hE
  go_enter Try.func117, Try.ntmps117
  go_wp2
  go_loopw [1, 5] (fun m i wr => (∃ k : Nat, k ≤ n ∧ i = .int .i64 k ∧ m = .int .i64 (k0 + (k : Int))) ∧ Up w wr) (fun _ i _ => n - (intOf i).toNat)
  case atStart => exact ⟨⟨0, by omega, rfl, by first | rfl | simp⟩, Up.refl _⟩
  case round =>
    obtain ⟨⟨k, hk, rfl, rfl⟩, ur⟩ := hrel
    by_cases hlt : k < n
    · obtain ⟨b, off, hA, hb, hc⟩ := HE.out (by omega)
      subst hA
      have c0 := (ur.cells _ _ hb).trans (hc k hlt 0 (by omega))
      have hb' : b < wr.heap.size := by have := ur.size; omega
      have cs : ((1 : Nat) : Int) * (k : Int) = (k : Int) := by omega
      rw [cs] at c0; simp only [incr, Nat.add_zero, Nat.mul_one] at c0; clear hc
      generalize hK : k0 + (k : Int) = K at c0 ⊢
      have HK := Lib.hid hK
      have b0 : 0 ≤ K := by omega
      have b1 : K ≤ 1000007400000 := by omega
      have i4 : (k : Int) < n := by omega
      clear hK cs; go_wp2
      go_roundw
      case rel => exact ⟨⟨k + 1, by omega, by go_num, by have := HK.out; first | (congr 1; omega) | go_num⟩, ur⟩
      case measure => simp [intOf]; omega
    · obtain rfl : k = n := by omega
      have i4 : ¬ (k : Int) < k := by omega
      go_wp2; go_ret
      exact ⟨rfl, ur⟩
/-- A host's two slices. -/
structure Hd where
  A : Option Addr
  n : Nat
  c : Nat
  B : Option Addr
  k : Nat
  d : Nat
/-- The number ahead of host q. -/
def Kf (hd : Nat → Hd) (k0 : Int) : Nat → Int
  | 0 => k0
  | q + 1 => Kf hd k0 q + 3 + 6 * ((hd q).n : Int) + ((hd q).k : Int)
theorem Kf_in {hd : Nat → Hd} {k0 : Int} (n : Nat) (h : ∀ i, i < n → (hd i).n ≤ 100 ∧ (hd i).k ≤ 100) : ∀ q : Nat, q ≤ n → k0 ≤ Kf hd k0 q ∧ Kf hd k0 q ≤ k0 + 703 * (q : Int)
  | 0, _ => by simp [Kf]
  | q + 1, hq => by
    have := Kf_in (k0 := k0) n h q (by omega)
    have := h q (by omega)
    rw [Kf]
    omega
/-- A block is none of a host's. -/
def Far (b : Nat) (h : Hd) : Prop := (0 < h.n → ∀ o, h.A ≠ some ⟨b, o, none⟩) ∧ (0 < h.k → ∀ o, h.B ≠ some ⟨b, o, none⟩)
/-- A block is none of the simulation's that are written. -/
def NEs (g n : Nat) (hd : Nat → Hd) (b : Nat) : Prop := 0 < n → b ≠ g ∧ ∀ i, i < n → Far b (hd i)
/-- The blocks of a simulation are apart, and behind lo. -/
structure CAp (lo g n : Nat) (hd : Nat → Hd) (LB : Option Addr) : Prop where
  lo : lo ≤ g
  ge : ∀ i, i < n → Far g (hd i)
  ape : ∀ i j, i < j → j < n → Ap (hd i).A (hd i).n (hd j).A (hd j).n
  api : ∀ i j, i < j → j < n → Ap (hd i).B (hd i).k (hd j).B (hd j).k
  apx : ∀ i j, i < n → j < n → Ap (hd i).A (hd i).n (hd j).B (hd j).k
  few : n ≤ 100 ∧ ∀ i, i < n → (hd i).n ≤ 100 ∧ (hd i).k ≤ 100
  logs : ∀ b o, LB = some ⟨b, o, none⟩ → NEs g n hd b
/-- Only blocks of the simulation are written. -/
structure CWr (g n : Nat) (hd : Nat → Hd) (w w' : World) : Prop where
  os : w'.os = w.os
  tape : w'.tape = w.tape
  output : w'.output = w.output
  size : w.heap.size ≤ w'.heap.size
  block : ∀ b, b < w.heap.size → NEs g n hd b → w'.heap[b]? = w.heap[b]?
section
variable {lo g n : Nat} {hd : Nat → Hd} {a w w' : World}
theorem CWr.refl (g n : Nat) (hd : Nat → Hd) (w : World) : CWr g n hd w w := ⟨rfl, rfl, rfl, Nat.le_refl _, fun _ _ _ => rfl⟩
theorem CWr.trans (h : CWr g n hd a w) (k : CWr g n hd w w') : CWr g n hd a w' :=
  ⟨k.os.trans h.os, k.tape.trans h.tape, k.output.trans h.output, Nat.le_trans h.size k.size, fun b hb hn => (k.block b (Nat.lt_of_lt_of_le hb h.size) hn).trans (h.block b hb hn)⟩
theorem CWr.mv {b : Nat} (h : Mv b w w') (hb : ¬ NEs g n hd b) : CWr g n hd w w' :=
  ⟨h.os, h.tape, h.output, h.size, fun k hk hn => h.block k hk (fun e => hb (e ▸ hn))⟩
theorem CWr.up (h : Up w w') : CWr g n hd w w' := ⟨h.below.os, h.below.tape, h.below.output, h.size, fun k hk _ => h.below.block k hk⟩
theorem CWr.wr {A : Option Addr} {m : Nat} (h : Wr lo A m w w') (hn : 0 < m → ∀ b o, A = some ⟨b, o, none⟩ → ¬ NEs g n hd b) : CWr g n hd w w' := by
  rcases h with ⟨_, u⟩ | ⟨h0, b, hA, _, m⟩
  · exact CWr.up u
  · exact CWr.mv m (hn h0 b 0 hA)
/-- What stands ahead of lo stays. -/
theorem CWr.top (h : CWr g n hd w w') (u : Up a w) (hne : ∀ b, b < a.heap.size → NEs g n hd b) : Up a w' :=
  ⟨h.os.trans u.below.os, h.tape.trans u.below.tape, h.output.trans u.below.output, Nat.le_trans u.size h.size, fun k hk => (h.block k (Nat.lt_of_lt_of_le hk u.size) (hne k hk)).trans (u.below.block k hk)⟩
theorem CWr.blk {b t : Nat} {arr : Array Value} (h : CWr g n hd w w') (k : Blk w b t arr) (hn : NEs g n hd b) : Blk w' b t arr := (h.block b k.lt hn).trans k
end
/-- The marks of q hosts are laid. -/
structure CMk (w : World) (lo g n : Nat) (hd : Nat → Hd) (k0 : Int) (q : Nat) : Prop where
  blk : ∃ arr, Blk w g 129 arr ∧ (∀ i, i < n → ∀ j, j < 3 → ∃ v, arr[i * 5 + j]? = some v) ∧ (∀ i, i < n → arr[i * 5 + 3]? = some (.slice (hd i).A (hd i).n (hd i).c) ∧ arr[i * 5 + 4]? = some (.slice (hd i).B (hd i).k (hd i).d)) ∧
    ∀ i, i < q → ∀ j, j < 3 → arr[i * 5 + j]? = some (.int .i64 (incr (Kf hd k0 i) j))
  ev : ∀ i, q ≤ i → i < n → Mkc w lo (hd i).A (hd i).n 6
  in_ : ∀ i, q ≤ i → i < n → Mkc w lo (hd i).B (hd i).k 1
  hev : ∀ i, i < q → Held w (hd i).A (hd i).n 6 (Kf hd k0 i + 3)
  hin : ∀ i, i < q → Held w (hd i).B (hd i).k 1 (Kf hd k0 i + 3 + 6 * ((hd i).n : Int))
theorem CMk.up {w w' : World} {lo g n q : Nat} {hd : Nat → Hd} {k0 : Int} (h : CMk w lo g n hd k0 q) (u : Up w w') : CMk w' lo g n hd k0 q := by
  obtain ⟨arr, h1, h2⟩ := h.blk
  exact ⟨⟨arr, h1.up u, h2⟩, fun i h1 h2 => (h.ev i h1 h2).up u, fun i h1 h2 => (h.in_ i h1 h2).up u, fun i hi => (h.hev i hi).up u, fun i hi => (h.hin i hi).up u⟩
theorem Mkc.mv {w w' : World} {lo g n s : Nat} {A : Option Addr} (h : Mkc w lo A n s) (m : Mv g w w') (hne : 0 < n → ∀ o, A ≠ some ⟨g, o, none⟩) : Mkc w' lo A n s := fun hn => by
  obtain ⟨g', hA, hl, ho⟩ := h hn
  exact ⟨g', hA, hl, ho.mv m (fun e => hne hn 0 (e ▸ hA))⟩
/-- The three numbers of host q are laid. -/
theorem CMk.three {w : World} {lo g n q : Nat} {hd : Nat → Hd} {k0 : Int} (h : CMk w lo g n hd k0 q) (hq : q < n) :
    Mv g w (putN w g (q * 5) (Kf hd k0 q) 3) ∧ (∃ arr, Blk (putN w g (q * 5) (Kf hd k0 q) 3) g 129 arr ∧ (∀ i, i < n → ∀ j, j < 3 → ∃ v, arr[i * 5 + j]? = some v) ∧ (∀ i, i < n → arr[i * 5 + 3]? = some (.slice (hd i).A (hd i).n (hd i).c) ∧ arr[i * 5 + 4]? = some (.slice (hd i).B (hd i).k (hd i).d)) ∧
      ∀ i, i < q + 1 → ∀ j, j < 3 → arr[i * 5 + j]? = some (.int .i64 (incr (Kf hd k0 i) j))) := by
  obtain ⟨arr, h1, h2, h3, h4⟩ := h.blk
  have sz : ∀ i, i < n → i * 5 + 4 < arr.size := fun i hi => by
    have := (h3 i hi).2
    exact (Array.getElem?_eq_some_iff.1 this).1
  have key : Blk (putN w g (q * 5) (Kf hd k0 q) 3) g 129 (((arr.setIfInBounds (q * 5 + 0) (.int .i64 (incr (Kf hd k0 q) 0))).setIfInBounds (q * 5 + 1) (.int .i64 (incr (Kf hd k0 q) 1))).setIfInBounds (q * 5 + 2) (.int .i64 (incr (Kf hd k0 q) 2))) :=
    ((h1.set _ _).set _ _).set _ _
  have sq := sz q hq
  refine ⟨(Mv.refl g w).putN _ _ _, _, key, fun i hi j hj => ?_, fun i hi => ?_, fun i hi j hj => ?_⟩
  · have si := sz i hi
    exact ⟨_, Array.getElem?_eq_getElem (by simp only [Array.size_setIfInBounds]; omega)⟩
  · obtain ⟨h5, h6⟩ := h3 i hi
    have e : ∀ k : Nat, k ≠ q * 5 + 0 → k ≠ q * 5 + 1 → k ≠ q * 5 + 2 → (((arr.setIfInBounds (q * 5 + 0) (.int .i64 (incr (Kf hd k0 q) 0))).setIfInBounds (q * 5 + 1) (.int .i64 (incr (Kf hd k0 q) 1))).setIfInBounds (q * 5 + 2) (.int .i64 (incr (Kf hd k0 q) 2)))[k]? = arr[k]? := fun k e0 e1 e2 => by
      rw [Array.getElem?_setIfInBounds_ne (by omega), Array.getElem?_setIfInBounds_ne (by omega), Array.getElem?_setIfInBounds_ne (by omega)]
    exact ⟨(e _ (by omega) (by omega) (by omega)).trans h5, (e _ (by omega) (by omega) (by omega)).trans h6⟩
  · by_cases hiq : i = q
    · subst hiq
      have j3 : j = 0 ∨ j = 1 ∨ j = 2 := by omega
      rcases j3 with rfl | rfl | rfl
      · rw [Array.getElem?_setIfInBounds_ne (by omega), Array.getElem?_setIfInBounds_ne (by omega), Array.getElem?_setIfInBounds_self_of_lt (by omega)]
      · rw [Array.getElem?_setIfInBounds_ne (by omega), Array.getElem?_setIfInBounds_self_of_lt (by simp only [Array.size_setIfInBounds]; omega)]
      · rw [Array.getElem?_setIfInBounds_self_of_lt (by simp only [Array.size_setIfInBounds]; omega)]
    · rw [Array.getElem?_setIfInBounds_ne (by omega), Array.getElem?_setIfInBounds_ne (by omega), Array.getElem?_setIfInBounds_ne (by omega)]
      exact h4 i (by omega) j hj
end Go.Proofs.Ytipjcjjjkkaigaa

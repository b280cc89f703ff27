/-
  Hosts of the call's own on the way, in one sentence: rows of hosts whose slices lie in rows of their own, kept by what makes new blocks and by an append; no condition is made.
  What the builtin copy gives for rows of numbers, in one sentence: the cells of the one become those of the other, all else stays; for all rows in memory.
  The conservative simulation at work in memory, in one sentence: rows of its hosts, whose slices lie in rows of their own, and its block, kept by what makes new blocks, by a copy into the block and by an append; no condition is made.
  One slice handed to slices.Concat, in one sentence: a new slice of the same, wherever the row of one slice lies; and the block of a simulation at work when it is made.
  A region that draws its order, walked operation by operation, in one sentence: what is pure may be taken first, and of the others that are ready each may be next; a chosen condition on the world holds throughout.
-/
import Derived.Laws.IdiomCopy
import Derived.Test.YtklldniapombiaaDLEcbsf01
import Derived.Test.YtklldniapombiaaDLEcbsf02
import Derived.Test.YtklldniapombiaaDLEcbsf03
import Derived.Test.YtklldniapombiaaDLEcbsf06
import Derived.Test.YtklldniapombiaaDLEcbsf07
import Derived.Test.YtklldniapombiaaDLEcbsf08
import Derived.Test.YtklldniapombiaaDLEcbsf09
import Derived.Test.YtklldniapombiaaDLEcbsf11
import Derived.Test.YtklldniapombiaaDLEcbsf12
import Derived.Test.YtklldniapombiaaDLEcbsf14
import Derived.Test.YtklldniapombiaaDLEcbsf22
namespace Go.Proofs.Ytklldniapombiaa
set_option maxRecDepth 100000
open Go.RowKit
theorem own_geB {w : World} {b e size n : Nat} {v : Value} {xs : List Value} (h : w.ownsRow b e size v n xs) : ∀ x, v.ownBlock = some x → b ≤ x ∧ x < w.heap.size := fun x hx => by
  rcases h.2 with ⟨rfl, _⟩ | ⟨g, cap, cur, rfl, hg, hb, _⟩
  · cases hx
  injection hx with hx
  have hx : g = x := hx
  subst hx
  exact ⟨hg, (Array.getElem?_eq_some_iff.1 hb).1⟩
instance : Inhabited Hd := ⟨⟨none, 0, 0, none, 0, 0⟩⟩
theorem Ap.far {w0 w : World} {b e s n n' e' s' c c' : Nat} {A A' : Option Addr} {xs xs' : List Value} (h : w0.ownsRow b e s (.slice A n c) n xs) (h' : w.ownsRow w0.heap.size e' s' (.slice A' n' c') n' xs') : Ap A n A' n' := fun _ _ b1 o b2 o' hA hA' e => by
  subst hA hA'
  have h1 := own_geB h b1 rfl
  have h2 := own_geB h' b2 rfl
  omega
section
variable {w w' : World} {lo many q : Nat} {es : List Evt} {v : Value} {hl : List Hd}
end
/-- The block of a slice. -/
def hbO (lo : Nat) : Option Addr → Nat
  | some a => a.block
  | none => lo
end Go.Proofs.Ytklldniapombiaa

namespace Go.Proofs.Ytklldniapombiaa
set_option maxRecDepth 100000
open Go.RowKit
theorem Up.setCells {a : World} {b : Nat} (hb : a.heap.size ≤ b) : ∀ (vs : List Value) (o : Nat) {w : World}, Up a w → Up a (w.setCells b o vs)
  | [], _, _, h => h
  | v :: vs, o, _, h => Up.setCells hb vs (o + 1) (h.setCell (p := ⟨b, o, none⟩) hb v)
theorem size_setCells (b : Nat) : ∀ (vs : List Value) (o : Nat) (w : World), (w.setCells b o vs).heap.size = w.heap.size
  | [], _, _ => rfl
  | v :: vs, o, w => (size_setCells b vs (o + 1) (w.setCell ⟨b, o, none⟩ v)).trans (by simp)
theorem block_setCells (b g : Nat) (hg : g ≠ b) : ∀ (vs : List Value) (o : Nat) (w : World), (w.setCells b o vs).heap[g]? = w.heap[g]?
  | [], _, _ => rfl
  | v :: vs, o, w => (block_setCells b g hg vs (o + 1) (w.setCell ⟨b, o, none⟩ v)).trans (Below.heap_setCell w ⟨b, o, none⟩ v g hg)
theorem kind_setCells (b t : Nat) : ∀ (vs : List Value) (o : Nat) (w : World) (arr : Array Value), Blk w b t arr → ∃ arr', Blk (w.setCells b o vs) b t arr'
  | [], _, _, arr, h => ⟨arr, h⟩
  | v :: vs, o, w, _, h => kind_setCells b t vs (o + 1) (w.setCell ⟨b, o, none⟩ v) _ (h.set o v)
theorem frozen_setCells (b : Nat) (a : Addr) : ∀ (vs : List Value) (o : Nat) (w : World), (w.setCells b o vs).frozen? a = w.frozen? a
  | [], _, _ => rfl
  | v :: vs, o, w => (frozen_setCells b a vs (o + 1) (w.setCell ⟨b, o, none⟩ v)).trans (by simp [go_sem])
/-- Numbers copied into a block's cells from o on. -/
structure Cpd (w w' : World) (b o n : Nat) (zs : List Int) : Prop where
  size : w'.heap.size = w.heap.size
  frozen : ∀ a, w'.frozen? a = w.frozen? a
  at_ : ∀ i, i < n → w'.cell? ⟨b, o + i, none⟩ = some (.int .i64 (zs.getD i 0))
  other : ∀ b' j, b' ≠ b ∨ j < o ∨ o + n ≤ j → w'.cell? ⟨b', j, none⟩ = w.cell? ⟨b', j, none⟩
  block : ∀ g, g ≠ b → w'.heap[g]? = w.heap[g]?
  kind : ∀ (t : Nat) (arr : Array Value), Blk w b t arr → ∃ arr', Blk w' b t arr'
  up : ∀ a, Up a w → a.heap.size ≤ b → Up a w'
theorem copy_nums {w : World} {b o N n c : Nat} {A : Option Addr} {zs : List Int} (hN : Nms w A n zs) (hn : n ≤ N) (hI : ∀ j, j < N → IntC w b (o + j)) :
    ∃ w', (Builtin.copy_ #[84, 84] 3 #[.slice (some ⟨b, o, none⟩) N N, .slice A n c]).run Try.prog w = .ok (.int .i64 n) w' ∧ Cpd w w' b o n zs := by
  have hs : (Try.prog.info? 3).map (·.size) = some 1 := by kernel_rfl
  by_cases h0 : n = 0
  · subst h0
    exact ⟨w, run_copy_none w 84 84 3 3 _ _ _ _ _ _ Try.underlying84 hs (by simp), rfl, fun _ => rfl, fun i hi => absurd hi (by omega), fun _ _ _ => rfl, fun _ _ => rfl, fun _ arr h => ⟨arr, h⟩, fun _ h _ => h⟩
  · obtain ⟨b2, off, rfl, hb2, hc⟩ := hN.2 (by omega)
    have hl : (zs.map (Value.int .i64 ·)).length = n := by rw [List.length_map, hN.1]
    have ad : ∀ j, (⟨b2, off, none⟩ : Addr).add j = ⟨b2, off + j, none⟩ := fun j => by
      unfold Addr.add
      split
      · rename_i e; subst e; rfl
      · rfl
    have hr := run_copy_cells (P := Try.prog) w 84 84 3 3 b o N N ⟨b2, off, none⟩ n c (zs.map (Value.int .i64 ·)) Try.underlying84 hs (by rw [hl]; exact (Nat.min_eq_left hn).symm)
      (fun j v hj => by
        rw [List.getElem?_map] at hj; obtain ⟨z, hz, rfl⟩ := Option.map_eq_some_iff.1 hj
        have hjn : j < n := by
          have := (List.getElem?_eq_some_iff.1 hz).1
          rw [hN.1] at this
          exact this
        rw [ad, hc j hjn]
        simp [List.getD, hz])
      (fun j hj => by
        rw [hl] at hj; obtain ⟨⟨z, hz⟩, _⟩ := hI j (by omega)
        rw [hz]; rfl)
      (fun j hj => by
        rw [hl] at hj
        exact (hI j (by omega)).2)
      (fun v hv => by
        obtain ⟨z, _, rfl⟩ := List.mem_map.1 hv
        rfl)
    rw [hl] at hr
    have hin := World.cell?_setCells_in b (zs.map (Value.int .i64 ·)) o w (fun j hj => by
      rw [hl] at hj; obtain ⟨⟨z, hz⟩, _⟩ := hI j (by omega)
      rw [hz]; rfl)
    have hout := World.cell?_setCells_out b (zs.map (Value.int .i64 ·)) o w
    refine ⟨_, hr, size_setCells _ _ _ _, fun a => frozen_setCells _ _ _ _ _, fun i hi => ?_, fun b' j h => hout ⟨b', j, none⟩ (fun e _ => by
      rw [hl]; dsimp only at e ⊢
      rcases h with h | h
      · exact absurd e h
      · exact h), fun g hg => block_setCells _ g hg _ _ _, fun t arr h => kind_setCells _ t _ _ _ arr h, fun a h hb => Up.setCells hb _ _ h⟩
    have hz : i < zs.length := by rw [hN.1]; exact hi
    rw [hin i (by rw [hl]; exact hi)]; simp [List.getD, List.getElem?_eq_getElem hz]
end Go.Proofs.Ytklldniapombiaa

namespace Go.Proofs.Ytklldniapombiaa
set_option maxRecDepth 100000
open Go.RowKit
/-- A host at work in memory. -/
structure Cd where
  z0 : Int
  z1 : Int
  z2 : Int
  A : Option Addr
  n : Nat
  c : Nat
  B : Option Addr
  k : Nat
  d : Nat
instance : Inhabited Cd := ⟨⟨0, 0, 0, none, 0, 0, none, 0, 0⟩⟩
def Cd.c5 (h : Cd) : List Value := [.int .i64 h.z0, .int .i64 h.z1, .int .i64 h.z2, .slice h.A h.n h.c, .slice h.B h.k h.d]
def flatC : List Cd → List Value
  | [] => []
  | e :: r => e.c5 ++ flatC r
theorem flatC_app : ∀ es fs : List Cd, flatC (es ++ fs) = flatC es ++ flatC fs
  | [], _ => rfl
  | e :: r, fs => by rw [List.cons_append, flatC, flatC_app r fs, flatC, List.append_assoc]
theorem flatC_one (es : List Cd) : ∀ u ∈ flatC es, u.oneCell' = true := by
  induction es with
  | nil => intro u hu; cases hu
  | cons e r ih =>
    intro u hu; rw [flatC, List.mem_append] at hu
    rcases hu with hu | hu
    · simp only [Cd.c5, List.mem_cons, List.not_mem_nil, or_false] at hu
      rcases hu with rfl | rfl | rfl | rfl | rfl <;> rfl
    · exact ih u hu
theorem readsC_blk {w : World} {g t : Nat} {h : Cd} (k : w.heap[g]? = some (.cells h.c5.toArray t (0, 0))) (B : Nat) (hB : g < B) : Reads w B 5 (some ⟨g, 0, none⟩) 1 (flatC [h]) := by
  refine ⟨rfl, fun _ => ⟨_, rfl, hB, fun j u hu => ?_⟩⟩
  have ad : (⟨g, 0, none⟩ : Addr).add j = ⟨g, j, none⟩ := by
    unfold Addr.add
    split <;> simp_all
  rw [ad, cell_of_row _ _ j _ _ _ k, ← hu]; simp [flatC, Cd.c5]
/-- A host's slices lie in rows of their own. -/
def CdW (w : World) (lo : Nat) (rs : List Rec) (es : List Evt) (h : Cd) : Prop :=
  w.ownsRow lo 74 6 (.slice h.A h.n h.c) h.n (flat es) ∧ w.ownsRow lo 180 7 (.slice h.B h.k h.d) h.k (flat7 rs)
theorem CdW.up {w w' : World} {lo : Nat} {rs : List Rec} {es : List Evt} {h : Cd} (k : CdW w lo rs es h) (u : Up w w') : CdW w' lo rs es h := ⟨own_up k.1 u, own_up k.2 u⟩
theorem CdW.mono {w : World} {lo lo' : Nat} {rs : List Rec} {es : List Evt} {h : Cd} (k : CdW w lo rs es h) (u : lo' ≤ lo) : CdW w lo' rs es h := ⟨own_mono k.1 u, own_mono k.2 u⟩
/-- .. kept where blocks of their kinds are. -/
theorem CdW.keep {w w' : World} {lo : Nat} {rs : List Rec} {es : List Evt} {h : Cd} (k : CdW w lo rs es h) (hk : ∀ g : Nat, (∃ arr : Array Value, w.heap[g]? = some (.cells arr 74 (0, 0))) ∨ (∃ arr : Array Value, w.heap[g]? = some (.cells arr 180 (0, 0))) → w'.heap[g]? = w.heap[g]?) : CdW w' lo rs es h := by
  refine ⟨own_keep k.1 fun g hg _ => hk g (.inl ?_), own_keep k.2 fun g hg _ => hk g (.inr ?_)⟩
  · rcases k.1.2 with ⟨h0, _⟩ | ⟨g', cap, cur, h0, _, hb, _⟩
    · rw [h0] at hg; cases hg
    · rw [h0] at hg
      injection hg with hg
      have hg : g' = g := hg
      subst hg
      exact ⟨cur, hb⟩
  · rcases k.2.2 with ⟨h0, _⟩ | ⟨g', cap, cur, h0, _, hb, _⟩
    · rw [h0] at hg; cases hg
    · rw [h0] at hg
      injection hg with hg
      have hg : g' = g := hg
      subst hg
      exact ⟨cur, hb⟩
/-- q hosts are laid. -/
structure CsW (w : World) (lo : Nat) (ls : List (List Rec)) (hs : List Ch) (q : Nat) (v : Value) (hl : List Cd) : Prop where
  len : hl.length = q
  row : w.ownsRow lo 208 5 v q (flatC hl)
  at_ : ∀ i, i < q → CdW w lo (ls.getD i []) (hs.getD i default).wait (hl.getD i default)
  now : ∀ i, i < q → (hl.getD i default).z0 = (hs.getD i default).now.s ∧ (hl.getD i default).z1 = (hs.getD i default).now.sq ∧ (hl.getD i default).z2 = (hs.getD i default).now.ct
  ape : ∀ i j, i < j → j < q → Ap (hl.getD i default).A (hl.getD i default).n (hl.getD j default).A (hl.getD j default).n
  api : ∀ i j, i < j → j < q → Ap (hl.getD i default).B (hl.getD i default).k (hl.getD j default).B (hl.getD j default).k
section
variable {w w' : World} {lo q : Nat} {ls : List (List Rec)} {hs : List Ch} {v : Value} {hl : List Cd}
theorem CsW.start (w : World) (lo : Nat) (ls : List (List Rec)) (hs : List Ch) : CsW w lo ls hs 0 (.slice none 0 0) [] :=
  ⟨rfl, World.ownsRow_nil _ _ _ _, fun _ h => absurd h (by omega), fun _ h => absurd h (by omega), fun _ _ _ h => absurd h (by omega), fun _ _ _ h => absurd h (by omega)⟩
theorem CsW.up (h : CsW w lo ls hs q v hl) (u : Up w w') : CsW w' lo ls hs q v hl := ⟨h.len, own_up h.row u, fun i hi => (h.at_ i hi).up u, h.now, h.ape, h.api⟩
/-- A cell of a block of another kind is written. -/
theorem CsW.far {p o t : Nat} {u : Value} {cur : Array Value} (h : CsW w lo ls hs q v hl) (hp : w.heap[p]? = some (.cells cur t (0, 0))) (h1 : 208 ≠ t) (h2 : 74 ≠ t) (h3 : 180 ≠ t) : CsW (w.setCell ⟨p, o, none⟩ u) lo ls hs q v hl := by
  have key : ∀ g, g ≠ p → (w.setCell ⟨p, o, none⟩ u).heap[g]? = w.heap[g]? := fun g hg => Below.heap_setCell w ⟨p, o, none⟩ u g hg
  refine ⟨h.len, own_keep h.row fun g hg _ => key g (own_off h.row hp h1 g hg), fun i hi => (h.at_ i hi).keep fun g hg => key g fun e => ?_, h.now, h.ape, h.api⟩; subst e
  rcases hg with ⟨arr, hg⟩ | ⟨arr, hg⟩
  · rw [hp] at hg
    injection hg with hg
    injection hg with _ hg _
    exact h2 hg.symm
  · rw [hp] at hg
    injection hg with hg
    injection hg with _ hg _
    exact h3 hg.symm
/-- One more is appended. -/
theorem CsW.push {w0 : World} {v' : Value} {x : Cd} (h : CsW w0 lo ls hs q v hl) (u : Up w0 w) (hn : CdW w w0.heap.size (ls.getD q []) (hs.getD q default).wait x) (hz : x.z0 = (hs.getD q default).now.s ∧ x.z1 = (hs.getD q default).now.sq ∧ x.z2 = (hs.getD q default).now.ct) (hlo : lo ≤ w0.heap.size) (ho : w'.ownsRow lo 208 5 v' (q + 1) (flatC hl ++ flatC [x])) (hg : w.grownBy w' v.ownBlock) :
    CsW w' lo ls hs (q + 1) v' (hl ++ [x]) := by
  have hr := own_up h.row u
  have keep : ∀ {es' : List Evt} {rs' : List Rec} {y : Cd} {lo' : Nat}, CdW w lo' rs' es' y → CdW w' lo' rs' es' y := fun {es' rs' y lo'} k => k.keep fun g hgk => by
    have hlt : g < w.heap.size := by rcases hgk with ⟨arr, e⟩ | ⟨arr, e⟩ <;> exact (Array.getElem?_eq_some_iff.1 e).1
    refine hg.block g hlt fun e => ?_
    rcases hr.2 with ⟨h0, _⟩ | ⟨g', cap, cur, h0, _, hb, _⟩
    · rw [h0] at e; cases e
    · rw [h0] at e
      injection e with e
      have e : g = g' := e
      subst e
      rcases hgk with ⟨arr, e⟩ | ⟨arr, e⟩
      · rw [hb] at e
        injection e with e
        injection e with _ e _
        exact absurd e (by decide)
      · rw [hb] at e
        injection e with e
        injection e with _ e _
        exact absurd e (by decide)
  have gold : ∀ i, i < q → (hl ++ [x]).getD i default = hl.getD i default := fun i hi => by
    have := h.len
    simp only [List.getD, List.getElem?_append_left (show i < hl.length by omega)]
  have gnew : (hl ++ [x]).getD q default = x := by
    have := h.len
    simp only [List.getD, List.getElem?_append_right (show hl.length ≤ q by omega), this, Nat.sub_self]
    rfl
  refine ⟨by simp [h.len], by rw [flatC_app]; exact ho, fun i hi => ?_, fun i hi => ?_, fun i j hij hj => ?_, fun i j hij hj => ?_⟩
  · by_cases e : i = q
    · subst e
      rw [gnew]
      exact (keep hn).mono hlo
    · rw [gold i (by omega)]
      exact keep ((h.at_ i (by omega)).up u)
  · by_cases e : i = q
    · subst e
      rw [gnew]
      exact hz
    · rw [gold i (by omega)]
      exact h.now i (by omega)
  · by_cases e : j = q
    · subst e
      rw [gnew, gold i hij]
      exact Ap.far (h.at_ i hij).1 hn.1
    · rw [gold i (by omega), gold j (by omega)]
      exact h.ape i j hij (by omega)
  · by_cases e : j = q
    · subst e
      rw [gnew, gold i hij]
      exact Ap.far (h.at_ i hij).2 hn.2
    · rw [gold i (by omega), gold j (by omega)]
      exact h.api i j hij (by omega)
end
/-- .. kept where one block of another kind changes. -/
theorem CsW.but {w w' : World} {lo q p t : Nat} {ls : List (List Rec)} {hs : List Ch} {v : Value} {hl : List Cd} {cur : Array Value} (h : CsW w lo ls hs q v hl) (hp : w.heap[p]? = some (.cells cur t (0, 0))) (h1 : 208 ≠ t) (h2 : 74 ≠ t) (h3 : 180 ≠ t) (key : ∀ g : Nat, g ≠ p → w'.heap[g]? = w.heap[g]?) : CsW w' lo ls hs q v hl := by
  refine ⟨h.len, own_keep h.row fun g hg _ => key g (own_off h.row hp h1 g hg), fun i hi => (h.at_ i hi).keep fun g hg => key g fun e => ?_, h.now, h.ape, h.api⟩; subst e
  rcases hg with ⟨arr, hg⟩ | ⟨arr, hg⟩
  · rw [hp] at hg
    injection hg with hg
    injection hg with _ hg _
    exact h2 hg.symm
  · rw [hp] at hg
    injection hg with hg
    injection hg with _ hg _
    exact h3 hg.symm
/-- The block of the simulation at work: the machine, its hosts, its bounds' first q rows. -/
structure CauB (w : World) (bX mb many : Nat) (til : Int) (hs : List Ch) (q : Nat) (v : Value) : Prop where
  blk : ∃ arr, Blk w bX 214 arr
  c0 : w.cell? ⟨bX, 0, none⟩ = some (.map (some mb))
  c1 : w.cell? ⟨bX, 1, none⟩ = some (.int .i64 many)
  c2 : w.cell? ⟨bX, 2, none⟩ = some (.int .i64 til)
  c3 : w.cell? ⟨bX, 3, none⟩ = some v
  ints : ∀ j, 4 ≤ j → j < 20 → IntC w bX j
  rows : ∀ r, r < q → Nms w (some ⟨bX, 4 + r * 4, none⟩) many (hs.getD r default).ins
theorem cell_sameB {w w' : World} {b o : Nat} (h : w'.heap[b]? = w.heap[b]?) : w'.cell? ⟨b, o, none⟩ = w.cell? ⟨b, o, none⟩ := by
  unfold World.cell?; dsimp only; rw [h]
theorem frozen_sameB {w w' : World} {b o : Nat} (h : w'.heap[b]? = w.heap[b]?) : w'.frozen? ⟨b, o, none⟩ = w.frozen? ⟨b, o, none⟩ := by
  unfold World.frozen?; dsimp only; rw [h]
section
variable {w w' : World} {bX mb many q : Nat} {til : Int} {hs : List Ch} {v : Value}
theorem CauB.lt (h : CauB w bX mb many til hs q v) : bX < w.heap.size := by
  obtain ⟨arr, h⟩ := h.blk
  exact h.lt
theorem CauB.same (h : CauB w bX mb many til hs q v) (k : w'.heap[bX]? = w.heap[bX]?) : CauB w' bX mb many til hs q v := by
  have hlt' : bX < w'.heap.size := by
    obtain ⟨arr, hb⟩ := h.blk
    exact (Array.getElem?_eq_some_iff.1 (k.trans hb)).1
  refine ⟨?_, (cell_sameB k).trans h.c0, (cell_sameB k).trans h.c1, (cell_sameB k).trans h.c2, (cell_sameB k).trans h.c3, fun j h4 h20 => ?_, fun r hr => ?_⟩
  · obtain ⟨arr, hb⟩ := h.blk
    exact ⟨arr, k.trans hb⟩
  · obtain ⟨⟨z, hz⟩, hf⟩ := h.ints j h4 h20
    exact ⟨⟨z, (cell_sameB k).trans hz⟩, (frozen_sameB k).trans hf⟩
  · obtain ⟨h1, h2⟩ := h.rows r hr
    refine ⟨h1, fun h0 => ?_⟩; obtain ⟨b, off, hA, _, hc⟩ := h2 h0
    injection hA with hA
    injection hA with e1 e2 _
    subst e1 e2
    exact ⟨_, _, rfl, hlt', fun i hi => (cell_sameB k).trans (hc i hi)⟩
theorem CauB.up (h : CauB w bX mb many til hs q v) (u : Up w w') : CauB w' bX mb many til hs q v := h.same (u.below.block bX h.lt)
/-- The hosts' cell is written. -/
theorem CauB.set3 (h : CauB w bX mb many til hs q v) (x : Value) : CauB (w.setCell ⟨bX, 3, none⟩ x) bX mb many til hs q x := by
  have hlt := h.lt
  have oth : ∀ j, j ≠ 3 → (w.setCell ⟨bX, 3, none⟩ x).cell? ⟨bX, j, none⟩ = w.cell? ⟨bX, j, none⟩ := fun j hj => World.cell?_setCell_other w _ _ x (fun e => by injection e with _ e _; omega)
  refine ⟨?_, (oth 0 (by omega)).trans h.c0, (oth 1 (by omega)).trans h.c1, (oth 2 (by omega)).trans h.c2, World.cell?_setCell_same' _ _ _ (by rw [h.c3]; rfl), fun j h4 h20 => ?_, fun r hr => ?_⟩
  · obtain ⟨arr, hb⟩ := h.blk
    exact ⟨_, hb.set 3 x⟩
  · obtain ⟨⟨z, hz⟩, hf⟩ := h.ints j h4 h20
    exact ⟨⟨z, (oth j (by omega)).trans hz⟩, by rw [World.frozen?_setCell]; exact hf⟩
  · obtain ⟨h1, h2⟩ := h.rows r hr
    refine ⟨h1, fun h0 => ?_⟩; obtain ⟨b, off, hA, hb, hc⟩ := h2 h0
    injection hA with hA
    injection hA with e1 e2 _
    subst e1 e2
    exact ⟨_, _, rfl, by simpa using hb, fun i hi => (oth _ (by omega)).trans (hc i hi)⟩
/-- A host's bounds are copied into its row. -/
theorem CauB.cpd {zs : List Int} (h : CauB w bX mb many til hs q v) (k : Cpd w w' bX (4 + q * 4) many zs) (hz : zs = (hs.getD q default).ins) (hl : zs.length = many) (h4 : many ≤ 4) (hq : q < 4) : CauB w' bX mb many til hs (q + 1) v := by
  have hlt := h.lt
  have oth : ∀ j, j < 4 + q * 4 ∨ 4 + q * 4 + many ≤ j → w'.cell? ⟨bX, j, none⟩ = w.cell? ⟨bX, j, none⟩ := fun j hj => k.other bX j (.inr hj)
  refine ⟨?_, (oth 0 (by omega)).trans h.c0, (oth 1 (by omega)).trans h.c1, (oth 2 (by omega)).trans h.c2, (oth 3 (by omega)).trans h.c3, fun j h4 h20 => ?_, fun r hr => ?_⟩
  · obtain ⟨arr, hb⟩ := h.blk
    exact k.kind _ _ hb
  · obtain ⟨⟨z, hz⟩, hf⟩ := h.ints j h4 h20
    refine ⟨?_, (k.frozen _).trans hf⟩
    by_cases e : j < 4 + q * 4 ∨ 4 + q * 4 + many ≤ j
    · exact ⟨z, (oth j e).trans hz⟩
    · have := k.at_ (j - (4 + q * 4)) (by omega)
      rw [show 4 + q * 4 + (j - (4 + q * 4)) = j by omega] at this
      exact ⟨_, this⟩
  · by_cases e : r = q
    · subst e
      refine ⟨by rw [← hz]; exact hl, fun h0 => ⟨_, _, rfl, by rw [k.size]; exact hlt, fun i hi => ?_⟩⟩; rw [← hz]
      exact k.at_ i hi
    · obtain ⟨h1, h2⟩ := h.rows r (by omega)
      refine ⟨h1, fun h0 => ?_⟩; obtain ⟨b, off, hA, hb, hc⟩ := h2 h0
      injection hA with hA
      injection hA with e1 e2 _
      subst e1 e2
      exact ⟨_, _, rfl, by rw [k.size]; exact hb, fun i hi => (oth _ (.inl (by omega))).trans (hc i hi)⟩
end
end Go.Proofs.Ytklldniapombiaa

namespace Go.Proofs.Ytklldniapombiaa
set_option maxRecDepth 100000
open Go.RowKit
theorem concatE_one (b : Nat) (A : Option Addr) (n c : Nat) (es : List Evt) (w : World) (hb : Blk w b 34 #[.slice A n c]) (h : Evs w A n es) (hn : n ≤ 1048576) :
    Calls Try.prog 130 #[.slice (some ⟨b, 0, none⟩) 1 1] w (NewSl es w) := by
  obtain rfl := h.1
  have := concat_any b 1 [es] w (by simp) hb.lt (fun j hj => by
    obtain rfl : j = 0 := by simpa using hj
    exact ⟨A, c, hb.cell (j := 0) rfl, h⟩) (by simpa using Nat.le_trans hn (by omega))
  simpa using this
theorem concatQ_one (b : Nat) (A : Option Addr) (n c : Nat) (es : List Rec) (w : World) (hb : Blk w b 60 #[.slice A n c]) (h : Recs w A n es) (hn : n ≤ 1048576) :
    Calls Try.prog 147 #[.slice (some ⟨b, 0, none⟩) 1 1] w (NewRc es w) := by
  obtain rfl := h.1
  have := concatR_any b 1 [es] w (by simp) hb.lt (fun j hj => by
    obtain rfl : j = 0 := by simpa using hj
    exact ⟨A, c, hb.cell (j := 0) rfl, h⟩) (by simpa using Nat.le_trans hn (by omega))
  simpa using this
theorem Blk.neq {w : World} {b b' e e' : Nat} {arr arr' : Array Value} (h : Blk w b e arr) (k : Blk w b' e' arr') (he : e ≠ e') : b ≠ b' := fun x => by
  subst x; unfold Blk at h k; rw [h] at k
  injection k with k
  injection k with _ k _
  exact he k
theorem CauB.start {w : World} {bX mb N : Nat} {til : Int} {hs : List Ch} (h : Blk w bX 214 #[.map (some mb), .int .i64 N, .int .i64 til, .slice none 0 0, .int .i64 0, .int .i64 0, .int .i64 0, .int .i64 0, .int .i64 0, .int .i64 0, .int .i64 0, .int .i64 0, .int .i64 0, .int .i64 0, .int .i64 0, .int .i64 0, .int .i64 0, .int .i64 0, .int .i64 0, .int .i64 0]) : CauB w bX mb N til hs 0 (.slice none 0 0) := by
  refine ⟨⟨_, h⟩, h.cell (j := 0) rfl, h.cell (j := 1) rfl, h.cell (j := 2) rfl, h.cell (j := 3) rfl, fun j h4 h20 => ?_, fun r hr => absurd hr (by omega)⟩
  have e : j = 4 ∨ j = 5 ∨ j = 6 ∨ j = 7 ∨ j = 8 ∨ j = 9 ∨ j = 10 ∨ j = 11 ∨ j = 12 ∨ j = 13 ∨ j = 14 ∨ j = 15 ∨ j = 16 ∨ j = 17 ∨ j = 18 ∨ j = 19 := by omega
  rcases e with rfl | rfl | rfl | rfl | rfl | rfl | rfl | rfl | rfl | rfl | rfl | rfl | rfl | rfl | rfl | rfl <;> exact ⟨⟨0, h.cell rfl⟩, h.frozen _⟩
end Go.Proofs.Ytklldniapombiaa

namespace Go.Proofs.Ytklldniapombiaa
set_option maxRecDepth 100000
open Go.RowKit
/-- What is left to walk, kept shut. -/
@[irreducible] def hWalk (P : Program) (ops : Array Oper) (Q : Exit → Act → World → Prop) (S : World → Prop) (N : Nat) (listed : Array Bool) (a : Act) (w : World) : Prop :=
  Region.noSelect ops = true → S w → wpAnyH P .any ops (NoPanic Q) S N listed a w
theorem region_hWalk {P : Program} {id : Nat} {Q : Exit → Act → World → Prop} {a : Act} {w : World} {l : List Oper} (S : World → Prop) (N : Nat) (hm : P.follows .mixedOrders = true) (hN : l.length = N)
    (hsel : Region.noSelect l.toArray = true) (hS : S w.drew) (h : hWalk P l.toArray Q S N (Array.replicate N false) a w.drew) : (Code.region id l.toArray true).wp P Q a w := by
  subst hN; unfold hWalk at h; refine wp_region_noPanic (wp_region_held (S := S) hm ?_)
  have := h hsel hS
  simpa using this
section
variable {P : Program} {ops : Array Oper} {Q : Exit → Act → World → Prop} {S : World → Prop} {N : Nat} {listed : Array Bool} {a : Act} {w : World}
theorem hWalk_take (k : Nat) {o : Oper} (hB : ((Region.ready .any ops listed).contains k && Region.free .any ops listed k) = true) (h0 : ops[k]? = some o) (hw : Region.wanted o (yielded ops a.tmps) = true)
    (h : ∃ v, (∀ w1, S w1 → (execOp a.eval o).run P w1 = .ok (.value v) w1) ∧ hWalk P ops Q S N (listed.setIfInBounds k true) (a.put o.dst v) w) : hWalk P ops Q S (N + 1) listed a w := by
  unfold hWalk at h ⊢; intro hsel hS; simp only [Bool.and_eq_true] at hB; obtain ⟨v, hv, hn⟩ := h
  exact wpAnyH_take h0 hsel hB.2 hB.1 (fun _ _ _ h => h) (.inl ⟨hw, hv⟩) hS (hn hsel hS)
/-- One of those that are ready is next. -/
def Next (P : Program) (ops : Array Oper) (Q : Exit → Act → World → Prop) (S : World → Prop) (N : Nat) (listed : Array Bool) (a : Act) (w : World) (k : Nat) : Prop :=
  ∃ o, ops[k]? = some o ∧ Region.wanted o (yielded ops a.tmps) = true ∧ ∀ K : Act → World → Prop, (∀ a w, S w → hWalk P ops Q S N (listed.setIfInBounds k true) a w → K a w) → o.wp P a w K (NoPanic Q)
theorem next_mk {k : Nat} {o : Oper} (h0 : ops[k]? = some o) (hw : Region.wanted o (yielded ops a.tmps) = true) (h : ∀ K : Act → World → Prop, (∀ a w, S w → hWalk P ops Q S N (listed.setIfInBounds k true) a w → K a w) → o.wp P a w K (NoPanic Q)) : Next P ops Q S N listed a w k := ⟨o, h0, hw, h⟩
theorem hWalk_fork (l : List Nat) (hr : Region.ready .any ops listed = l) (hl : l ≠ []) (h : ∀ k ∈ l, Next P ops Q S N listed a w k) : hWalk P ops Q S (N + 1) listed a w := by
  unfold hWalk; intro hsel hS
  refine wpAnyH_all hr hl fun k hk => ?_
  obtain ⟨o, h0, hw, hn⟩ := h k hk; unfold wpOp; simp only [h0]; rw [if_pos hw]; refine .inl (hn _ fun a' w' hs' hh => ?_); unfold hWalk at hh
  exact ⟨hs', hh hsel hs'⟩
theorem hWalk_one {i : Nat} (hr : Region.ready .any ops listed = [i]) (hi : Next P ops Q S N listed a w i) : hWalk P ops Q S (N + 1) listed a w :=
  hWalk_fork [i] hr (by simp) (fun k hk => by
    obtain rfl : k = i := by simpa using hk
    exact hi)
theorem hWalk_two {i j : Nat} (hr : Region.ready .any ops listed = [i, j]) (hi : Next P ops Q S N listed a w i) (hj : Next P ops Q S N listed a w j) : hWalk P ops Q S (N + 1) listed a w :=
  hWalk_fork [i, j] hr (by simp) (fun k hk => by
    have : k = i ∨ k = j := by simpa using hk
    rcases this with rfl | rfl
    · exact hi
    · exact hj)
theorem hWalk_three {i j m : Nat} (hr : Region.ready .any ops listed = [i, j, m]) (hi : Next P ops Q S N listed a w i) (hj : Next P ops Q S N listed a w j) (hm : Next P ops Q S N listed a w m) : hWalk P ops Q S (N + 1) listed a w :=
  hWalk_fork [i, j, m] hr (by simp) (fun k hk => by
    have : k = i ∨ k = j ∨ k = m := by simpa using hk
    rcases this with rfl | rfl | rfl
    · exact hi
    · exact hj
    · exact hm)
theorem hWalk_nil (hr : (Region.ready .any ops listed).isEmpty = true) (h : Q .normal a w) : hWalk P ops Q S 0 listed a w := by
  unfold hWalk; intro _ _
  exact ⟨by simpa using hr, h⟩
end
end Go.Proofs.Ytklldniapombiaa

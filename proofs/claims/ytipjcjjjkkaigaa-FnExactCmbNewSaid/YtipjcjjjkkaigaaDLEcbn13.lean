/-
  What impl's startsOf gives, in one sentence: the external events of a component in a new list; for every list of at most six events that lies in memory.
  Simulators in rows of the call's own, in one sentence: kept where blocks are made and where numbers are written elsewhere; SeqNew's result is one; no condition is made.
  Hosts of the call's own on the way, in one sentence: rows of hosts whose slices lie in rows of their own, kept by what makes new blocks and by an append; no condition is made.
  A region that draws its order, walked operation by operation, in one sentence: what is pure may be taken first, and of the others that are ready each may be next; a chosen condition on the world holds throughout.
-/
import Derived.Deep.RegionHeld3
import Derived.OrdersHeld
import Derived.Test.YtipjcjjjkkaigaaDLEcbn01
import Derived.Test.YtipjcjjjkkaigaaDLEcbn07
import Derived.Test.YtipjcjjjkkaigaaDLEcbn08
import Derived.Test.YtipjcjjjkkaigaaDLEcbn09
import Derived.Test.YtipjcjjjkkaigaaDLEcbn10
import Derived.Test.YtipjcjjjkkaigaaDLEcbn12
namespace Go.Proofs.Ytipjcjjjkkaigaa
set_option maxRecDepth 100000
open Go.RowKit
/-- The first k events that are for one component. -/
def stk (es : List Evt) (comp : Int) (k : Nat) : List Evt := (es.take k).filter (fun e => decide (e.to = comp))
theorem stk_in {es : List Evt} {comp : Int} {k : Nat} (hk : k < es.length) (h : (es.getD k default).to = comp) : stk es comp (k + 1) = stk es comp k ++ [es.getD k default] := by
  unfold stk; rw [take_one es k hk, List.filter_append]
  generalize es.getD k default = x at h ⊢
  simp [h]
theorem stk_out {es : List Evt} {comp : Int} {k : Nat} (hk : k < es.length) (h : (es.getD k default).to ≠ comp) : stk es comp (k + 1) = stk es comp k := by
  unfold stk; rw [take_one es k hk, List.filter_append]
  generalize es.getD k default = x at h ⊢
  simp [h]
theorem stk_len (es : List Evt) (comp : Int) (k : Nat) : (stk es comp k).length ≤ k := by
  unfold stk
  exact Nat.le_trans (List.length_filter_le _ _) (by rw [List.length_take]; omega)
set_option maxHeartbeats 4000000 in
theorem starts_any (A : Option Addr) (n c : Nat) (B : Option Addr) (k d : Nat) (es : List Evt) (til comp : Int) (w : World) (h : Evs w B k es) (hk6 : k ≤ 6) :
    Calls Try.prog 44 #[.agg #[.slice A n c, .slice B k d, .int .i64 til], .int .i64 comp] w fun x w' => ∃ v, x = .returned v ∧ w'.ownsRow w.heap.size 51 6 v (stk es comp k).length (flat (stk es comp k)) ∧ Up w w' := by
  obtain ⟨i0, hi0, hz0, hz1, hz2⟩ := info_parts info51
  have INF := Lib.hid (And.intro hi0 (And.intro hz0 (And.intro hz1 hz2)))
  have SIX := Lib.hid (show 0 < 6 by omega)
  clear hi0 hz0 hz1 hz2
  have HS := Lib.hid h
  have LS := Lib.hid h.1
  have WIN := Lib.hid (fun q (hq : q < k) => (stk_in (es := es) (comp := comp) (k := q) (by rw [LS.out]; exact hq)))
  have WOUT := Lib.hid (fun q (hq : q < k) => (stk_out (es := es) (comp := comp) (k := q) (by rw [LS.out]; exact hq)))
  have WL := Lib.hid (fun q => stk_len es comp q)
  have U0 := Lib.hid ((Up.refl w).alloc (.cells #[.slice A n c, .slice B k d, .int .i64 til] 38))
  have B2 := Lib.hid (Blk.new w #[.slice A n c, .slice B k d, .int .i64 til] 38)
  have lt2_ := B2.out.lt
  obtain ⟨q0, q1, q2⟩ := And.intro (B2.out.cell (j := 0) rfl) (And.intro (B2.out.cell (j := 1) rfl) (B2.out.cell (j := 2) rfl)); clear h
  go_enter Try.func44, Try.ntmps44
  go_wp2; clear q0 q1 q2 lt2_ B2
  go_loopw [5, 11] (fun v i wr => (∃ q : Nat, q ≤ k ∧ i = .int .i64 q ∧ wr.ownsRow w.heap.size 51 6 v (stk es comp q).length (flat (stk es comp q))) ∧ Up w wr) (fun _ i _ => k - (intOf i).toNat)
  case atStart => exact ⟨⟨0, by omega, rfl, World.ownsRow_nil _ _ _ _⟩, U0.out⟩
  case round =>
    obtain ⟨⟨q, hq, rfl, hO⟩, ur⟩ := hrel
    have HO := Lib.hid hO
    have UR := Lib.hid ur
    clear hO
    by_cases hlt : q < k
    · obtain ⟨b, off, hA, hb, hc⟩ := HS.out.2 (by omega)
      subst hA
      have a0 := (hc q hlt).up ur hb
      have hb' : b < wr.heap.size := by have := ur.size; omega
      have win := WIN.out q hlt
      have wout := WOUT.out q hlt
      have wl := WL.out q
      clear hc ur
      generalize es.getD q default = e at a0 win wout
      have WI := Lib.hid win
      have WO := Lib.hid wout
      clear win wout; obtain ⟨et, eto, efr, esq, ekd, edt⟩ := e; unfold EvAt at a0; dsimp only at a0; obtain ⟨p0, p1, p2, p3, p4, p5⟩ := a0
      have i4 : (q : Int) < k := by omega
      by_cases hto : eto = comp
      · subst hto
        have HW := Lib.hid (WI.out rfl)
        have UX := Lib.hid ((UR.out.alloc (.cells #[.int .i64 et, .int .i64 eto, .int .i64 efr, .int .i64 esq, .int .i64 ekd, .int .i64 edt] 51)).alloc (.cells #[.int .i64 et, .int .i64 eto, .int .i64 efr, .int .i64 esq, .int .i64 ekd, .int .i64 edt] 51))
        have HOA := Lib.hid (own_up HO.out (((Up.refl wr).alloc (.cells #[.int .i64 et, .int .i64 eto, .int .i64 efr, .int .i64 esq, .int .i64 ekd, .int .i64 edt] 51)).alloc (.cells #[.int .i64 et, .int .i64 eto, .int .i64 efr, .int .i64 esq, .int .i64 ekd, .int .i64 edt] 51)))
        have HR := Lib.hid ((Evs.new (wr.alloc (.cells #[.int .i64 et, .int .i64 eto, .int .i64 efr, .int .i64 esq, .int .i64 ekd, .int .i64 edt] 51)) ⟨et, eto, efr, esq, ekd, edt⟩ 51).reads)
        simp only [World.size_alloc] at HR
        have HBS := Lib.hid (UX.out.size)
        generalize hl : stk es eto q = l at HO HOA HW wl ⊢
        clear hl
        have HMX := Lib.hid (show l.length + 1 ≤ maxLen by simp only [maxLen]; omega)
        have HBY := Lib.hid (show (l.length + 1) * 48 ≤ 140737488355328 by omega)
        go_wp2_with (at_builtin; refine wpList_append_any _ rfl (.tmp 19) (.tmp 21) 36 rfl w.heap.size 51 i0 _ 6 48 Try.underlying36 INF.out.1 INF.out.2.1 INF.out.2.2.1 INF.out.2.2.2 rfl SIX.out _ _ (flat l) rfl HOA.out _ _ 1 1 (flat [⟨et, eto, efr, esq, ekd, edt⟩]) rfl HR.out (flat_one _) HMX.out HBY.out HBS.out ?_; intro v2 w2 ho2 hg2 _)
        have HO2 := Lib.hid (own_snoc ho2 rfl)
        have UN := Lib.hid (UX.out.own HOA.out hg2)
        clear ho2 hg2
        go_roundw
        case rel => exact ⟨⟨q + 1, by omega, by go_num, by rw [HW.out]; exact HO2.out⟩, UN.out⟩
        case measure => simp [intOf]; omega
      · have HW := Lib.hid (WO.out hto)
        have UX := Lib.hid (UR.out.alloc (.cells #[.int .i64 et, .int .i64 eto, .int .i64 efr, .int .i64 esq, .int .i64 ekd, .int .i64 edt] 51))
        have HOA := Lib.hid (own_up HO.out ((Up.refl wr).alloc (.cells #[.int .i64 et, .int .i64 eto, .int .i64 efr, .int .i64 esq, .int .i64 ekd, .int .i64 edt] 51)))
        go_wp2
        go_roundw
        case rel => exact ⟨⟨q + 1, by omega, by go_num, by rw [HW.out]; exact HOA.out⟩, UX.out⟩
        case measure => simp [intOf]; omega
    · obtain rfl : q = k := by omega
      have i4 : ¬ (q : Int) < q := by omega
      go_wp2; go_ret
      exact ⟨_, rfl, HO.out, UR.out⟩
end Go.Proofs.Ytipjcjjjkkaigaa

namespace Go.Proofs.Ytipjcjjjkkaigaa
set_option maxRecDepth 100000
open Go.RowKit
theorem Mkb.own {w : World} {lo n c : Nat} {A : Option Addr} {es : List Evt} (h : w.ownsRow lo 51 6 (.slice A n c) n (flat es)) : Mkb w lo A n 6 51 := fun hn => by
  obtain ⟨g, rfl, hg, ho⟩ := own_own h hn
  rcases h.2 with ⟨_, h0⟩ | ⟨g', cap, cur, hv, _, hh, _⟩
  · omega
  · injection hv with hA _ _
    injection hA with hA
    injection hA with hA _ _
    subst hA; refine ⟨g, cur, rfl, hg, ⟨ho.2.1, fun j hj => ?_⟩, hh⟩; obtain ⟨c0, c1, c2, c3, c4, c5⟩ := ho.2.2.1 (j / 6) (by omega); refine ⟨?_, ho.2.2.2 j hj⟩
    have e : j % 6 = 0 ∨ j % 6 = 1 ∨ j % 6 = 2 ∨ j % 6 = 3 ∨ j % 6 = 4 ∨ j % 6 = 5 := by omega
    rcases e with e | e | e | e | e | e
    · exact ⟨_, by rw [show j = j / 6 * 6 by omega]; exact c0⟩
    · exact ⟨_, by rw [show j = j / 6 * 6 + 1 by omega]; exact c1⟩
    · exact ⟨_, by rw [show j = j / 6 * 6 + 2 by omega]; exact c2⟩
    · exact ⟨_, by rw [show j = j / 6 * 6 + 3 by omega]; exact c3⟩
    · exact ⟨_, by rw [show j = j / 6 * 6 + 4 by omega]; exact c4⟩
    · exact ⟨_, by rw [show j = j / 6 * 6 + 5 by omega]; exact c5⟩
end Go.Proofs.Ytipjcjjjkkaigaa

namespace Go.Proofs.Ytipjcjjjkkaigaa
set_option maxRecDepth 100000
open Go.RowKit
theorem own_geB {w : World} {b e size n : Nat} {v : Value} {xs : List Value} (h : w.ownsRow b e size v n xs) : ∀ x, v.ownBlock = some x → b ≤ x ∧ x < w.heap.size := fun x hx => by
  rcases h.2 with ⟨rfl, _⟩ | ⟨g, cap, cur, rfl, hg, hb, _⟩
  · cases hx
  injection hx with hx
  have hx : g = x := hx
  subst hx
  exact ⟨hg, (Array.getElem?_eq_some_iff.1 hb).1⟩
instance : Inhabited Hd := ⟨⟨none, 0, 0, none, 0, 0⟩⟩
def Hd.c5 (h : Hd) : List Value := [.int .i64 0, .int .i64 0, .int .i64 0, .slice h.A h.n h.c, .slice h.B h.k h.d]
def flatH : List Hd → List Value
  | [] => []
  | e :: r => e.c5 ++ flatH r
theorem flatH_len : ∀ es : List Hd, (flatH es).length = es.length * 5
  | [] => rfl
  | e :: r => by
    rw [flatH, List.length_append, flatH_len r]; simp [Hd.c5]
    omega
theorem flatH_app : ∀ es fs : List Hd, flatH (es ++ fs) = flatH es ++ flatH fs
  | [], _ => rfl
  | e :: r, fs => by rw [List.cons_append, flatH, flatH_app r fs, flatH, List.append_assoc]
theorem flatH_get : ∀ (es : List Hd) (i k : Nat), i < es.length → k < 5 → (flatH es)[i * 5 + k]? = (es.getD i default).c5[k]?
  | [], i, _, hi, _ => absurd hi (by simp)
  | e :: r, 0, k, _, hk => by
    rw [flatH, Nat.zero_mul, Nat.zero_add, List.getElem?_append_left (by simpa [Hd.c5] using hk)]
    rfl
  | e :: r, i + 1, k, hi, hk => by
    have hl : e.c5.length = 5 := rfl
    rw [flatH, List.getElem?_append_right (by omega), hl, show (i + 1) * 5 + k - 5 = i * 5 + k by omega, flatH_get r i k (by simpa using hi) hk]
    rfl
theorem flatH_one (es : List Hd) : ∀ u ∈ flatH es, u.oneCell' = true := by
  induction es with
  | nil => intro u hu; cases hu
  | cons e r ih =>
    intro u hu; rw [flatH, List.mem_append] at hu
    rcases hu with hu | hu
    · simp only [Hd.c5, List.mem_cons, List.not_mem_nil, or_false] at hu
      rcases hu with rfl | rfl | rfl | rfl | rfl <;> rfl
    · exact ih u hu
theorem readsH_blk {w : World} {g t : Nat} {h : Hd} (k : w.heap[g]? = some (.cells h.c5.toArray t (0, 0))) (B : Nat) (hB : g < B) : Reads w B 5 (some ⟨g, 0, none⟩) 1 (flatH [h]) := by
  refine ⟨rfl, fun _ => ⟨_, rfl, hB, fun j u hu => ?_⟩⟩
  have ad : (⟨g, 0, none⟩ : Addr).add j = ⟨g, j, none⟩ := by
    unfold Addr.add
    split <;> simp_all
  rw [ad, cell_of_row _ _ j _ _ _ k, ← hu]; simp [flatH, Hd.c5]
/-- So many zeros. -/
def zeros (n : Nat) : List Value := List.replicate n (.int .i64 0)
/-- A host's slices lie in rows of their own. -/
def HdW (w : World) (lo many : Nat) (es : List Evt) (h : Hd) : Prop :=
  w.ownsRow lo 51 6 (.slice h.A h.n h.c) h.n (flat es) ∧ w.ownsRow lo 3 1 (.slice h.B h.k h.d) h.k (zeros many)
theorem HdW.len {w : World} {lo many : Nat} {es : List Evt} {h : Hd} (k : HdW w lo many es h) : h.n = es.length ∧ h.k = many := by
  refine ⟨(own_slice k.1).1, ?_⟩
  have := k.2.1
  simp only [zeros, List.length_replicate] at this
  omega
theorem HdW.up {w w' : World} {lo many : Nat} {es : List Evt} {h : Hd} (k : HdW w lo many es h) (u : Up w w') : HdW w' lo many es h := ⟨own_up k.1 u, own_up k.2 u⟩
theorem HdW.mono {w : World} {lo lo' many : Nat} {es : List Evt} {h : Hd} (k : HdW w lo many es h) (u : lo' ≤ lo) : HdW w lo' many es h := ⟨own_mono k.1 u, own_mono k.2 u⟩
/-- .. kept where blocks of their kinds are. -/
theorem HdW.keep {w w' : World} {lo many : Nat} {es : List Evt} {h : Hd} (k : HdW w lo many es h) (hk : ∀ g : Nat, (∃ arr : Array Value, w.heap[g]? = some (.cells arr 51 (0, 0))) ∨ (∃ arr : Array Value, w.heap[g]? = some (.cells arr 3 (0, 0))) → w'.heap[g]? = w.heap[g]?) : HdW w' lo many es h := by
  refine ⟨own_keep k.1 fun g hg _ => hk g (.inl ?_), own_keep k.2 fun g hg _ => hk g (.inr ?_)⟩
  · rcases k.1.2 with ⟨h0, _⟩ | ⟨g', cap, cur, h0, _, hb, _⟩
    · rw [h0] at hg; cases hg
    · rw [h0] at hg
      injection hg with hg
      have hg : g' = g := hg
      subst hg
      exact ⟨cur, hb⟩
  · rcases k.2.2 with ⟨h0, _⟩ | ⟨g', cap, cur, h0, _, hb, _⟩
    · rw [h0] at hg; cases hg
    · rw [h0] at hg
      injection hg with hg
      have hg : g' = g := hg
      subst hg
      exact ⟨cur, hb⟩
theorem Ap.far {w0 w : World} {b e s n n' e' s' c c' : Nat} {A A' : Option Addr} {xs xs' : List Value} (h : w0.ownsRow b e s (.slice A n c) n xs) (h' : w.ownsRow w0.heap.size e' s' (.slice A' n' c') n' xs') : Ap A n A' n' := fun _ _ b1 o b2 o' hA hA' e => by
  subst hA hA'
  have h1 := own_geB h b1 rfl
  have h2 := own_geB h' b2 rfl
  omega
theorem Ap.kind {w : World} {b e s n n' b' e' s' c c' : Nat} {A A' : Option Addr} {xs xs' : List Value} (h : w.ownsRow b e s (.slice A n c) n xs) (h' : w.ownsRow b' e' s' (.slice A' n' c') n' xs') (he : e ≠ e') : Ap A n A' n' := fun _ _ b1 o b2 o' hA hA' e => by
  subst hA hA' e
  exact own_apart h h' he b1 rfl rfl
/-- q hosts are laid. -/
structure HsW (w : World) (lo many : Nat) (es : List Evt) (q : Nat) (v : Value) (hl : List Hd) : Prop where
  len : hl.length = q
  row : w.ownsRow lo 129 5 v q (flatH hl)
  at_ : ∀ i, i < q → HdW w lo many (stk es (i : Int) es.length) (hl.getD i default)
  ape : ∀ i j, i < j → j < q → Ap (hl.getD i default).A (hl.getD i default).n (hl.getD j default).A (hl.getD j default).n
  api : ∀ i j, i < j → j < q → Ap (hl.getD i default).B (hl.getD i default).k (hl.getD j default).B (hl.getD j default).k
section
variable {w w' : World} {lo many q : Nat} {es : List Evt} {v : Value} {hl : List Hd}
theorem HsW.start (w : World) (lo many : Nat) (es : List Evt) : HsW w lo many es 0 (.slice none 0 0) [] :=
  ⟨rfl, World.ownsRow_nil _ _ _ _, fun _ h => absurd h (by omega), fun _ _ _ h => absurd h (by omega), fun _ _ _ h => absurd h (by omega)⟩
theorem HsW.up (h : HsW w lo many es q v hl) (u : Up w w') : HsW w' lo many es q v hl := ⟨h.len, own_up h.row u, fun i hi => (h.at_ i hi).up u, h.ape, h.api⟩
/-- A cell of a block of another kind is written. -/
theorem HsW.far {p o t : Nat} {u : Value} {cur : Array Value} (h : HsW w lo many es q v hl) (hp : w.heap[p]? = some (.cells cur t (0, 0))) (h1 : 129 ≠ t) (h2 : 51 ≠ t) (h3 : 3 ≠ t) : HsW (w.setCell ⟨p, o, none⟩ u) lo many es q v hl := by
  have key : ∀ g, g ≠ p → (w.setCell ⟨p, o, none⟩ u).heap[g]? = w.heap[g]? := fun g hg => Below.heap_setCell w ⟨p, o, none⟩ u g hg
  refine ⟨h.len, own_keep h.row fun g hg _ => key g (own_off h.row hp h1 g hg), fun i hi => (h.at_ i hi).keep fun g hg => key g fun e => ?_, h.ape, h.api⟩; subst e
  rcases hg with ⟨arr, hg⟩ | ⟨arr, hg⟩
  · rw [hp] at hg
    injection hg with hg
    injection hg with _ hg _
    exact h2 hg.symm
  · rw [hp] at hg
    injection hg with hg
    injection hg with _ hg _
    exact h3 hg.symm
/-- One more is appended. -/
theorem HsW.push {w0 : World} {v' : Value} {x : Hd} (h : HsW w0 lo many es q v hl) (u : Up w0 w) (hn : HdW w w0.heap.size many (stk es (q : Int) es.length) x) (hlo : lo ≤ w0.heap.size) (ho : w'.ownsRow lo 129 5 v' (q + 1) (flatH hl ++ flatH [x])) (hg : w.grownBy w' v.ownBlock) :
    HsW w' lo many es (q + 1) v' (hl ++ [x]) := by
  have hr := own_up h.row u
  have keep : ∀ {es' : List Evt} {y : Hd} {lo' : Nat}, HdW w lo' many es' y → HdW w' lo' many es' y := fun {es' y lo'} k => k.keep fun g hgk => by
    have hlt : g < w.heap.size := by rcases hgk with ⟨arr, e⟩ | ⟨arr, e⟩ <;> exact (Array.getElem?_eq_some_iff.1 e).1
    refine hg.block g hlt fun e => ?_
    rcases hr.2 with ⟨h0, _⟩ | ⟨g', cap, cur, h0, _, hb, _⟩
    · rw [h0] at e; cases e
    · rw [h0] at e
      injection e with e
      have e : g = g' := e
      subst e
      rcases hgk with ⟨arr, e⟩ | ⟨arr, e⟩
      · rw [hb] at e
        injection e with e
        injection e with _ e _
        exact absurd e (by decide)
      · rw [hb] at e
        injection e with e
        injection e with _ e _
        exact absurd e (by decide)
  have gold : ∀ i, i < q → (hl ++ [x]).getD i default = hl.getD i default := fun i hi => by
    have := h.len
    simp only [List.getD, List.getElem?_append_left (show i < hl.length by omega)]
  have gnew : (hl ++ [x]).getD q default = x := by
    have := h.len
    simp only [List.getD, List.getElem?_append_right (show hl.length ≤ q by omega), this, Nat.sub_self]
    rfl
  refine ⟨by simp [h.len], by rw [flatH_app]; exact ho, fun i hi => ?_, fun i j hij hj => ?_, fun i j hij hj => ?_⟩
  · by_cases e : i = q
    · subst e
      rw [gnew]
      exact (keep hn).mono hlo
    · rw [gold i (by omega)]
      exact keep ((h.at_ i (by omega)).up u)
  · by_cases e : j = q
    · subst e
      rw [gnew, gold i hij]
      exact Ap.far (h.at_ i hij).1 hn.1
    · rw [gold i (by omega), gold j (by omega)]
      exact h.ape i j hij (by omega)
  · by_cases e : j = q
    · subst e
      rw [gnew, gold i hij]
      exact Ap.far (h.at_ i hij).2 hn.2
    · rw [gold i (by omega), gold j (by omega)]
      exact h.api i j hij (by omega)
end
/-- A row of numbers of the call's own may be marked. -/
theorem Mkc.zeros {w : World} {lo k d m : Nat} {B : Option Addr} (h : w.ownsRow lo 3 1 (.slice B k d) k (zeros m)) : Mkc w lo B k 1 := fun hn => by
  rcases h.2 with ⟨_, h0⟩ | ⟨g', cap, cur, hv, hl, hh, hc1, _, hsz, htk⟩
  · omega
  · injection hv with hB hk hd
    subst hB hd; refine ⟨g', rfl, hl, (Array.getElem?_eq_some_iff.1 hh).1, fun j hj => ⟨?_, ?_⟩⟩
    · have e : cur.toList[j]? = (List.take (k * 1) cur.toList)[j]? := by
        rw [List.getElem?_take, if_pos hj]
      rw [htk] at e
      have hlen := h.1
      simp only [Go.Proofs.Ytipjcjjjkkaigaa.zeros, List.length_replicate] at hlen; refine ⟨0, ?_⟩; rw [cell_of_row _ _ j _ _ _ hh]; rw [← Array.getElem?_toList, e]; simp only [Go.Proofs.Ytipjcjjjkkaigaa.zeros, List.getElem?_replicate]; rw [if_pos (by omega)]
    · unfold World.frozen?
      dsimp only; rw [hh]; simp
theorem Nms.zeros {w : World} {lo k d m : Nat} {B : Option Addr} (h : w.ownsRow lo 3 1 (.slice B k d) k (zeros m)) : Nms w B k (List.replicate m 0) := by
  have hlen := h.1
  simp only [Go.Proofs.Ytipjcjjjkkaigaa.zeros, List.length_replicate] at hlen; refine ⟨by simp; omega, fun hn => ?_⟩; obtain ⟨g, cap, hv, _, hlt⟩ := h.form hn
  injection hv with hA _ hcap
  subst hA hcap; refine ⟨g, 0, rfl, hlt, fun i hi => ?_⟩
  have := h.cellAt i (by omega)
  rw [Nat.zero_add, this]; simp only [Go.Proofs.Ytipjcjjjkkaigaa.zeros, List.getElem?_replicate, List.getD]; rw [if_pos (by omega), if_pos (by omega)]
  rfl
/-- How many hosts. -/
def cbN (m : Mdl) : Nat := if mdlB m = true then m.rules.length else 0
/-- The hosts that have done nothing. -/
def cbH (m : Mdl) : List Ch := (List.range (cbN m)).map fun (i : Nat) => ⟨⟨0, 0, 0⟩, stk m.starts (i : Int) m.starts.length, List.replicate (cbN m) 0⟩
def cbL (m : Mdl) : List (List Rec) := List.replicate (cbN m) []
theorem cbN_few (m : Mdl) : cbN m ≤ 4 := by
  unfold cbN
  split
  · rename_i h
    have := mdlB_few h
    omega
  · omega
theorem cbH_at {m : Mdl} {i : Nat} (hi : i < cbN m) : (cbH m).getD i default = ⟨⟨0, 0, 0⟩, stk m.starts (i : Int) m.starts.length, List.replicate (cbN m) 0⟩ := by
  simp [cbH, List.getD, hi]
/-- What both give. -/
def CbVal (m : Mdl) (v : Value) (w : World) : Prop := ∃ HA hc LB lc, v = .agg #[.slice HA (cbN m) hc, .slice LB (cbN m) lc] ∧ CbV w HA (cbN m) LB (cbN m) (cbH m) (cbL m)
theorem HsW.chs {w : World} {lo many : Nat} {m : Mdl} {HA : Option Addr} {hc : Nat} {hl : List Hd} (hm : cbN m = many) (hs : m.starts.length ≤ 6) (h : HsW w lo many m.starts many (.slice HA many hc) hl) : Chs w HA many (cbH m) := by
  have m4 := cbN_few m
  refine ⟨by simp [cbH, hm], fun hn => ?_⟩; obtain ⟨g, cap, hv, _, hlt⟩ := h.row.form hn
  injection hv with hA _ hcap
  subst hA hcap
  have h5 := flatH_len hl
  have hll := h.len
  refine ⟨g, 0, rfl, hlt, fun i hi => ?_⟩
  have f : ∀ k, k < 5 → w.cell? ⟨g, 0 + i * 5 + k, none⟩ = (hl.getD i default).c5[k]? := fun k hk => by
    rw [Nat.zero_add, h.row.cellAt (i * 5 + k) (by omega), flatH_get hl i k (by omega) hk]
  have hat := h.at_ i hi
  have hle := hat.len
  have h6 := stk_len m.starts (i : Int) m.starts.length
  rw [cbH_at (by omega)]; refine ⟨_, _, _, _, _, _, ⟨f 0 (by omega), f 1 (by omega), f 2 (by omega), f 3 (by omega), f 4 (by omega)⟩, ⟨own_evs hat.1, by omega⟩, ?_, by omega⟩; rw [hm]
  exact Nms.zeros hat.2
theorem Lgs.none_ {w : World} {m : Mdl} {b n : Nat} (hn : cbN m = n) (hb : b < w.heap.size) (h : ∀ i, i < n → w.cell? ⟨b, i, none⟩ = some (.slice none 0 0)) : Lgs w (some ⟨b, 0, none⟩) n (cbL m) := by
  refine ⟨by simp [cbL, hn], fun _ => ⟨b, 0, rfl, hb, fun i hi => ⟨none, 0, 0, by rw [Nat.zero_add]; exact h i hi, ?_, by omega⟩⟩⟩
  have : (cbL m).getD i [] = [] := by
    simp only [cbL, List.getD, List.getElem?_replicate]
    split <;> rfl
  rw [this]
  exact ⟨rfl, fun h => absurd h (by omega)⟩
/-- The block of a slice. -/
def hbO (lo : Nat) : Option Addr → Nat
  | some a => a.block
  | none => lo
theorem HsW.parts {w : World} {lo many b : Nat} {m : Mdl} {HA : Option Addr} {hc : Nat} {hl : List Hd} {arr : Array Value} (hm : cbN m = many) (hs : m.starts.length ≤ 6) (h : HsW w lo many m.starts many (.slice HA many hc) hl) (hb : w.heap[b]? = some (.cells arr 83 (0, 0))) (hz : ∀ i, i < many → arr[i]? = some (.slice none 0 0)) :
    CbV w HA many (some ⟨b, 0, none⟩) many (cbH m) (cbL m) ∧ (0 < many → HA = some ⟨hbO lo HA, 0, none⟩) ∧ CAp lo (hbO lo HA) many (fun i => hl.getD i default) (some ⟨b, 0, none⟩) ∧ (0 < many → CMk w lo (hbO lo HA) many (fun i => hl.getD i default) 1 0) ∧ LgE w (some ⟨b, 0, none⟩) many := by
  have m4 := cbN_few m
  have hlt := (Array.getElem?_eq_some_iff.1 hb).1
  have hcell : ∀ i, i < many → w.cell? ⟨b, i, none⟩ = some (.slice none 0 0) := fun i hi => by
    rw [cell_of_row _ _ i _ _ _ hb]
    exact hz i hi
  have far : ∀ {t : Nat} {cur : Array Value} (g : Nat), w.heap[g]? = some (.cells cur t (0, 0)) → 51 ≠ t → 3 ≠ t → ∀ i, i < many → Far g (hl.getD i default) := fun {t cur} g hg h1 h2 i hi => by
    have hat := h.at_ i hi
    refine ⟨fun _ o hA => own_off hat.1 hg h1 g (by rw [hA]; rfl) rfl, fun _ o hA => own_off hat.2 hg h2 g (by rw [hA]; rfl) rfl⟩
  have len : ∀ i, i < many → (hl.getD i default).n ≤ 6 ∧ (hl.getD i default).k = many := fun i hi => by
    have hle := (h.at_ i hi).len
    have h6 := stk_len m.starts (i : Int) m.starts.length
    omega
  have key : (0 < many → HA = some ⟨hbO lo HA, 0, none⟩) ∧ lo ≤ hbO lo HA ∧ (0 < many → ∃ cur, w.heap[hbO lo HA]? = some (.cells cur 129 (0, 0)) ∧ ∀ i, i < many → ∀ k, k < 5 → cur[i * 5 + k]? = (hl.getD i default).c5[k]?) := by
    rcases h.row.2 with ⟨h0, h1⟩ | ⟨g, cap, cur, hv, hg, hh, hnc, _, hsz, htk⟩
    · injection h0 with hA _ _
      subst hA
      exact ⟨fun h => by omega, Nat.le_refl _, fun h => by omega⟩
    · injection hv with hA _ _
      subst hA; refine ⟨fun _ => rfl, hg, fun _ => ⟨cur, hh, fun i hi k hk => ?_⟩⟩
      have hll := h.len
      rw [← flatH_get hl i k (by omega) hk, ← htk, List.getElem?_take, if_pos (by omega), Array.getElem?_toList]
  obtain ⟨hHA, hg, hcur⟩ := key
  generalize hbO lo HA = g at hHA hg hcur ⊢
  refine ⟨?_, hHA, ?_, ?_, ?_⟩
  · exact ⟨h.chs hm hs, Lgs.none_ hm hlt hcell, by omega, by omega⟩
  · refine ⟨hg, fun i hi => ?_, h.ape, h.api, fun i j hi hj => Ap.kind (h.at_ i hi).1 (h.at_ j hj).2 (by decide), ⟨by omega, fun i hi => by have := len i hi; omega⟩, fun b' o' e hn => ?_⟩
    · obtain ⟨cur, hh, _⟩ := hcur (by omega)
      exact far g hh (by decide) (by decide) i hi
    · injection e with e
      injection e with e _ _
      subst e; obtain ⟨cur, hh, _⟩ := hcur hn; refine ⟨fun e => ?_, fun i hi => far b hb (by decide) (by decide) i hi⟩; subst e; rw [hb] at hh
      injection hh with hh
      injection hh with _ hh _
      exact absurd hh (by decide)
  · intro hn
    obtain ⟨cur, hh, hc5⟩ := hcur hn; refine ⟨⟨cur, hh, fun i hi j hj => ?_, fun i hi => ⟨hc5 i hi 3 (by omega), hc5 i hi 4 (by omega)⟩, fun i hi => absurd hi (by omega)⟩, fun i _ hi => (Mkb.own (h.at_ i hi).1).c, fun i _ hi => Mkc.zeros (h.at_ i hi).2, fun i hi => absurd hi (by omega), fun i hi => absurd hi (by omega)⟩
    have j3 : j = 0 ∨ j = 1 ∨ j = 2 := by omega
    rcases j3 with rfl | rfl | rfl
    · exact ⟨_, hc5 i hi 0 (by omega)⟩
    · exact ⟨_, hc5 i hi 1 (by omega)⟩
    · exact ⟨_, hc5 i hi 2 (by omega)⟩
  · exact fun hn => ⟨b, 0, rfl, hlt, fun i hi => ⟨none, 0, by rw [Nat.zero_add]; exact hcell i hi⟩⟩
/-- What lies from lo on is as it was. -/
structure Kp (lo : Nat) (w w' : World) : Prop where
  size : w.heap.size ≤ w'.heap.size
  block : ∀ b, lo ≤ b → b < w.heap.size → w'.heap[b]? = w.heap[b]?
theorem Kp.refl (lo : Nat) (w : World) : Kp lo w w := ⟨Nat.le_refl _, fun _ _ _ => rfl⟩
theorem Kp.up {lo : Nat} {w w' w'' : World} (h : Kp lo w w') (u : Up w' w'') : Kp lo w w'' := ⟨Nat.le_trans h.size u.size, fun b h1 h2 => (u.below.block b (Nat.lt_of_lt_of_le h2 h.size)).trans (h.block b h1 h2)⟩
theorem Kp.ints {lo l hi : Nat} {w w' w'' : World} (h : Kp lo w w') (m : Ints l hi w' w'') (hb : hi ≤ lo) : Kp lo w w'' := ⟨Nat.le_trans h.size m.size, fun b h1 h2 => (m.block b (Nat.lt_of_lt_of_le h2 h.size) (.inr (by omega))).trans (h.block b h1 h2)⟩
theorem HsW.keepLo {w w' : World} {lo many q : Nat} {es : List Evt} {v : Value} {hl : List Hd} (h : HsW w lo many es q v hl) (k : Kp lo w w') : HsW w' lo many es q v hl :=
  ⟨h.len, own_keep h.row fun g hg hlt => k.block g (own_geB h.row g hg).1 hlt, fun i hi => ⟨own_keep (h.at_ i hi).1 fun g hg hlt => k.block g (own_geB (h.at_ i hi).1 g hg).1 hlt, own_keep (h.at_ i hi).2 fun g hg hlt => k.block g (own_geB (h.at_ i hi).2 g hg).1 hlt⟩, h.ape, h.api⟩
/-- What is of the call's own, as long as what lies from lo on is as it was. -/
def CbKeep (lo : Nat) (m : Mdl) (v : Value) (w : World) : Prop := ∃ HA hc LB lc g hd, v = .agg #[.slice HA (cbN m) hc, .slice LB (cbN m) lc] ∧ (0 < cbN m → HA = some ⟨g, 0, none⟩) ∧ CAp lo g (cbN m) hd LB ∧
  ∀ w', Kp lo w w' → CbV w' HA (cbN m) LB (cbN m) (cbH m) (cbL m) ∧ (0 < cbN m → CMk w' lo g (cbN m) hd 1 0) ∧ LgE w' LB (cbN m)
theorem HsW.res {w : World} {lo many b : Nat} {m : Mdl} {HA : Option Addr} {hc lc : Nat} {hl : List Hd} {arr : Array Value} (hm : cbN m = many) (hs : m.starts.length ≤ 6) (h : HsW w lo many m.starts many (.slice HA many hc) hl) (hb : w.heap[b]? = some (.cells arr 83 (0, 0))) (hlb : lo ≤ b) (hz : ∀ i, i < many → arr[i]? = some (.slice none 0 0)) :
    CbKeep lo m (.agg #[.slice HA many hc, .slice (some ⟨b, 0, none⟩) many lc]) w := by
  obtain ⟨_, h2, h3, _⟩ := HsW.parts hm hs h hb hz; subst hm; refine ⟨HA, hc, some ⟨b, 0, none⟩, lc, _, _, rfl, h2, h3, fun w' k => ?_⟩; obtain ⟨k1, _, _, k4, k5⟩ := HsW.parts rfl hs (h.keepLo k) ((k.block b hlb (Array.getElem?_eq_some_iff.1 hb).1).trans hb) hz
  exact ⟨k1, k4, k5⟩
theorem CbKeep.zero {m : Mdl} (lo : Nat) (w : World) (h : mdlB m = false) : CbKeep lo m (.agg #[.slice none 0 0, .slice none 0 0]) w := by
  have e : cbN m = 0 := by unfold cbN; rw [h]; rfl
  have eH : cbH m = [] := by unfold cbH; rw [e]; rfl
  have eL : cbL m = [] := by unfold cbL; rw [e]; rfl
  refine ⟨none, 0, none, 0, lo, fun _ => default, by rw [e], by omega, ?_, fun w' _ => ?_⟩
  · rw [e]
    exact ⟨Nat.le_refl _, fun _ h => by omega, fun _ _ _ h => by omega, fun _ _ _ h => by omega, fun _ _ h => by omega, ⟨by omega, fun _ h => by omega⟩, fun _ _ e => by cases e⟩
  · rw [e, eH, eL]
    exact ⟨⟨⟨rfl, fun h => by omega⟩, ⟨rfl, fun h => by omega⟩, by omega, by omega⟩, by omega, fun h => by omega⟩
theorem CbKeep.val {lo : Nat} {m : Mdl} {v : Value} {w : World} (h : CbKeep lo m v w) : CbVal m v w := by
  obtain ⟨HA, hc, LB, lc, g, hd, hv, _, _, hV⟩ := h
  exact ⟨HA, hc, LB, lc, hv, (hV w (Kp.refl _ _)).1⟩
end Go.Proofs.Ytipjcjjjkkaigaa

namespace Go.Proofs.Ytipjcjjjkkaigaa
set_option maxRecDepth 100000
open Go.RowKit
/-- What is left to walk, kept shut. -/
@[irreducible] def hWalk (P : Program) (ops : Array Oper) (Q : Exit → Act → World → Prop) (S : World → Prop) (N : Nat) (listed : Array Bool) (a : Act) (w : World) : Prop :=
  Region.noSelect ops = true → S w → wpAnyH P .any ops (NoPanic Q) S N listed a w
theorem region_hWalk {P : Program} {id : Nat} {Q : Exit → Act → World → Prop} {a : Act} {w : World} {l : List Oper} (S : World → Prop) (N : Nat) (hm : P.follows .mixedOrders = true) (hN : l.length = N)
    (hsel : Region.noSelect l.toArray = true) (hS : S w.drew) (h : hWalk P l.toArray Q S N (Array.replicate N false) a w.drew) : (Code.region id l.toArray true).wp P Q a w := by
  subst hN; unfold hWalk at h; refine wp_region_noPanic (wp_region_held (S := S) hm ?_)
  have := h hsel hS
  simpa using this
section
variable {P : Program} {ops : Array Oper} {Q : Exit → Act → World → Prop} {S : World → Prop} {N : Nat} {listed : Array Bool} {a : Act} {w : World}
theorem hWalk_take (k : Nat) {o : Oper} (hB : ((Region.ready .any ops listed).contains k && Region.free .any ops listed k) = true) (h0 : ops[k]? = some o) (hw : Region.wanted o (yielded ops a.tmps) = true)
    (h : ∃ v, (∀ w1, S w1 → (execOp a.eval o).run P w1 = .ok (.value v) w1) ∧ hWalk P ops Q S N (listed.setIfInBounds k true) (a.put o.dst v) w) : hWalk P ops Q S (N + 1) listed a w := by
  unfold hWalk at h ⊢; intro hsel hS; simp only [Bool.and_eq_true] at hB; obtain ⟨v, hv, hn⟩ := h
  exact wpAnyH_take h0 hsel hB.2 hB.1 (fun _ _ _ h => h) (.inl ⟨hw, hv⟩) hS (hn hsel hS)
/-- One of those that are ready is next. -/
def Next (P : Program) (ops : Array Oper) (Q : Exit → Act → World → Prop) (S : World → Prop) (N : Nat) (listed : Array Bool) (a : Act) (w : World) (k : Nat) : Prop :=
  ∃ o, ops[k]? = some o ∧ Region.wanted o (yielded ops a.tmps) = true ∧ ∀ K : Act → World → Prop, (∀ a w, S w → hWalk P ops Q S N (listed.setIfInBounds k true) a w → K a w) → o.wp P a w K (NoPanic Q)
theorem next_mk {k : Nat} {o : Oper} (h0 : ops[k]? = some o) (hw : Region.wanted o (yielded ops a.tmps) = true) (h : ∀ K : Act → World → Prop, (∀ a w, S w → hWalk P ops Q S N (listed.setIfInBounds k true) a w → K a w) → o.wp P a w K (NoPanic Q)) : Next P ops Q S N listed a w k := ⟨o, h0, hw, h⟩
theorem hWalk_fork (l : List Nat) (hr : Region.ready .any ops listed = l) (hl : l ≠ []) (h : ∀ k ∈ l, Next P ops Q S N listed a w k) : hWalk P ops Q S (N + 1) listed a w := by
  unfold hWalk; intro hsel hS
  refine wpAnyH_all hr hl fun k hk => ?_
  obtain ⟨o, h0, hw, hn⟩ := h k hk; unfold wpOp; simp only [h0]; rw [if_pos hw]; refine .inl (hn _ fun a' w' hs' hh => ?_); unfold hWalk at hh
  exact ⟨hs', hh hsel hs'⟩
theorem hWalk_one {i : Nat} (hr : Region.ready .any ops listed = [i]) (hi : Next P ops Q S N listed a w i) : hWalk P ops Q S (N + 1) listed a w :=
  hWalk_fork [i] hr (by simp) (fun k hk => by
    obtain rfl : k = i := by simpa using hk
    exact hi)
theorem hWalk_two {i j : Nat} (hr : Region.ready .any ops listed = [i, j]) (hi : Next P ops Q S N listed a w i) (hj : Next P ops Q S N listed a w j) : hWalk P ops Q S (N + 1) listed a w :=
  hWalk_fork [i, j] hr (by simp) (fun k hk => by
    have : k = i ∨ k = j := by simpa using hk
    rcases this with rfl | rfl
    · exact hi
    · exact hj)
theorem hWalk_three {i j m : Nat} (hr : Region.ready .any ops listed = [i, j, m]) (hi : Next P ops Q S N listed a w i) (hj : Next P ops Q S N listed a w j) (hm : Next P ops Q S N listed a w m) : hWalk P ops Q S (N + 1) listed a w :=
  hWalk_fork [i, j, m] hr (by simp) (fun k hk => by
    have : k = i ∨ k = j ∨ k = m := by simpa using hk
    rcases this with rfl | rfl | rfl
    · exact hi
    · exact hj
    · exact hm)
theorem hWalk_nil (hr : (Region.ready .any ops listed).isEmpty = true) (h : Q .normal a w) : hWalk P ops Q S 0 listed a w := by
  unfold hWalk; intro _ _
  exact ⟨by simpa using hr, h⟩
end
end Go.Proofs.Ytipjcjjjkkaigaa

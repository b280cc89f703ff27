/-
  Hosts of the call's own on the way, in one sentence: rows of hosts whose slices lie in rows of their own, kept by what makes new blocks and by an append; no condition is made.
  A region that draws its order and whose effects are forced into one order, in one sentence: as region_mix, and what only reads may come up where a chosen condition on the world holds throughout.
  A region that draws its order, walked operation by operation, in one sentence: what is pure may be taken first, and of the others that are ready each may be next; a chosen condition on the world holds throughout.
-/
import Derived.OrdersHeld
import Derived.Test.YtklldniapombiaaDLCbn07
import Derived.Test.YtklldniapombiaaDLCbn14
import Derived.Test.YtklldniapombiaaDLCbn17
namespace Go.Proofs.Ytklldniapombiaa
set_option maxRecDepth 100000
open Go.RowKit
theorem own_geB {w : World} {b e size n : Nat} {v : Value} {xs : List Value} (h : w.ownsRow b e size v n xs) : ∀ x, v.ownBlock = some x → b ≤ x ∧ x < w.heap.size := fun x hx => by
  rcases h.2 with ⟨rfl, _⟩ | ⟨g, cap, cur, rfl, hg, hb, _⟩
  · cases hx
  injection hx with hx
  have hx : g = x := hx
  subst hx
  exact ⟨hg, (Array.getElem?_eq_some_iff.1 hb).1⟩
instance : Inhabited Hd := ⟨⟨none, 0, 0, none, 0, 0⟩⟩
def Hd.c5 (h : Hd) : List Value := [.int .i64 0, .int .i64 0, .int .i64 0, .slice h.A h.n h.c, .slice h.B h.k h.d]
def flatH : List Hd → List Value
  | [] => []
  | e :: r => e.c5 ++ flatH r
theorem flatH_len : ∀ es : List Hd, (flatH es).length = es.length * 5
  | [] => rfl
  | e :: r => by
    rw [flatH, List.length_append, flatH_len r]; simp [Hd.c5]
    omega
theorem flatH_app : ∀ es fs : List Hd, flatH (es ++ fs) = flatH es ++ flatH fs
  | [], _ => rfl
  | e :: r, fs => by rw [List.cons_append, flatH, flatH_app r fs, flatH, List.append_assoc]
theorem flatH_get : ∀ (es : List Hd) (i k : Nat), i < es.length → k < 5 → (flatH es)[i * 5 + k]? = (es.getD i default).c5[k]?
  | [], i, _, hi, _ => absurd hi (by simp)
  | e :: r, 0, k, _, hk => by
    rw [flatH, Nat.zero_mul, Nat.zero_add, List.getElem?_append_left (by simpa [Hd.c5] using hk)]
    rfl
  | e :: r, i + 1, k, hi, hk => by
    have hl : e.c5.length = 5 := rfl
    rw [flatH, List.getElem?_append_right (by omega), hl, show (i + 1) * 5 + k - 5 = i * 5 + k by omega, flatH_get r i k (by simpa using hi) hk]
    rfl
theorem flatH_one (es : List Hd) : ∀ u ∈ flatH es, u.oneCell' = true := by
  induction es with
  | nil => intro u hu; cases hu
  | cons e r ih =>
    intro u hu; rw [flatH, List.mem_append] at hu
    rcases hu with hu | hu
    · simp only [Hd.c5, List.mem_cons, List.not_mem_nil, or_false] at hu
      rcases hu with rfl | rfl | rfl | rfl | rfl <;> rfl
    · exact ih u hu
theorem readsH_blk {w : World} {g t : Nat} {h : Hd} (k : w.heap[g]? = some (.cells h.c5.toArray t (0, 0))) (B : Nat) (hB : g < B) : Reads w B 5 (some ⟨g, 0, none⟩) 1 (flatH [h]) := by
  refine ⟨rfl, fun _ => ⟨_, rfl, hB, fun j u hu => ?_⟩⟩
  have ad : (⟨g, 0, none⟩ : Addr).add j = ⟨g, j, none⟩ := by
    unfold Addr.add
    split <;> simp_all
  rw [ad, cell_of_row _ _ j _ _ _ k, ← hu]; simp [flatH, Hd.c5]
/-- So many zeros. -/
def zeros (n : Nat) : List Value := List.replicate n (.int .i64 0)
/-- A host's slices lie in rows of their own. -/
def HdW (w : World) (lo many : Nat) (es : List Evt) (h : Hd) : Prop :=
  w.ownsRow lo 74 6 (.slice h.A h.n h.c) h.n (flat es) ∧ w.ownsRow lo 3 1 (.slice h.B h.k h.d) h.k (zeros many)
theorem HdW.len {w : World} {lo many : Nat} {es : List Evt} {h : Hd} (k : HdW w lo many es h) : h.n = es.length ∧ h.k = many := by
  refine ⟨(own_slice k.1).1, ?_⟩
  have := k.2.1
  simp only [zeros, List.length_replicate] at this
  omega
theorem HdW.up {w w' : World} {lo many : Nat} {es : List Evt} {h : Hd} (k : HdW w lo many es h) (u : Up w w') : HdW w' lo many es h := ⟨own_up k.1 u, own_up k.2 u⟩
theorem HdW.mono {w : World} {lo lo' many : Nat} {es : List Evt} {h : Hd} (k : HdW w lo many es h) (u : lo' ≤ lo) : HdW w lo' many es h := ⟨own_mono k.1 u, own_mono k.2 u⟩
/-- .. kept where blocks of their kinds are. -/
theorem HdW.keep {w w' : World} {lo many : Nat} {es : List Evt} {h : Hd} (k : HdW w lo many es h) (hk : ∀ g : Nat, (∃ arr : Array Value, w.heap[g]? = some (.cells arr 74 (0, 0))) ∨ (∃ arr : Array Value, w.heap[g]? = some (.cells arr 3 (0, 0))) → w'.heap[g]? = w.heap[g]?) : HdW w' lo many es h := by
  refine ⟨own_keep k.1 fun g hg _ => hk g (.inl ?_), own_keep k.2 fun g hg _ => hk g (.inr ?_)⟩
  · rcases k.1.2 with ⟨h0, _⟩ | ⟨g', cap, cur, h0, _, hb, _⟩
    · rw [h0] at hg; cases hg
    · rw [h0] at hg
      injection hg with hg
      have hg : g' = g := hg
      subst hg
      exact ⟨cur, hb⟩
  · rcases k.2.2 with ⟨h0, _⟩ | ⟨g', cap, cur, h0, _, hb, _⟩
    · rw [h0] at hg; cases hg
    · rw [h0] at hg
      injection hg with hg
      have hg : g' = g := hg
      subst hg
      exact ⟨cur, hb⟩
theorem Ap.far {w0 w : World} {b e s n n' e' s' c c' : Nat} {A A' : Option Addr} {xs xs' : List Value} (h : w0.ownsRow b e s (.slice A n c) n xs) (h' : w.ownsRow w0.heap.size e' s' (.slice A' n' c') n' xs') : Ap A n A' n' := fun _ _ b1 o b2 o' hA hA' e => by
  subst hA hA'
  have h1 := own_geB h b1 rfl
  have h2 := own_geB h' b2 rfl
  omega
theorem Ap.kind {w : World} {b e s n n' b' e' s' c c' : Nat} {A A' : Option Addr} {xs xs' : List Value} (h : w.ownsRow b e s (.slice A n c) n xs) (h' : w.ownsRow b' e' s' (.slice A' n' c') n' xs') (he : e ≠ e') : Ap A n A' n' := fun _ _ b1 o b2 o' hA hA' e => by
  subst hA hA' e
  exact own_apart h h' he b1 rfl rfl
/-- q hosts are laid. -/
structure HsW (w : World) (lo many : Nat) (es : List Evt) (q : Nat) (v : Value) (hl : List Hd) : Prop where
  len : hl.length = q
  row : w.ownsRow lo 86 5 v q (flatH hl)
  at_ : ∀ i, i < q → HdW w lo many (stk es (i : Int) es.length) (hl.getD i default)
  ape : ∀ i j, i < j → j < q → Ap (hl.getD i default).A (hl.getD i default).n (hl.getD j default).A (hl.getD j default).n
  api : ∀ i j, i < j → j < q → Ap (hl.getD i default).B (hl.getD i default).k (hl.getD j default).B (hl.getD j default).k
section
variable {w w' : World} {lo many q : Nat} {es : List Evt} {v : Value} {hl : List Hd}
theorem HsW.start (w : World) (lo many : Nat) (es : List Evt) : HsW w lo many es 0 (.slice none 0 0) [] :=
  ⟨rfl, World.ownsRow_nil _ _ _ _, fun _ h => absurd h (by omega), fun _ _ _ h => absurd h (by omega), fun _ _ _ h => absurd h (by omega)⟩
theorem HsW.up (h : HsW w lo many es q v hl) (u : Up w w') : HsW w' lo many es q v hl := ⟨h.len, own_up h.row u, fun i hi => (h.at_ i hi).up u, h.ape, h.api⟩
/-- A cell of a block of another kind is written. -/
theorem HsW.far {p o t : Nat} {u : Value} {cur : Array Value} (h : HsW w lo many es q v hl) (hp : w.heap[p]? = some (.cells cur t (0, 0))) (h1 : 86 ≠ t) (h2 : 74 ≠ t) (h3 : 3 ≠ t) : HsW (w.setCell ⟨p, o, none⟩ u) lo many es q v hl := by
  have key : ∀ g, g ≠ p → (w.setCell ⟨p, o, none⟩ u).heap[g]? = w.heap[g]? := fun g hg => Below.heap_setCell w ⟨p, o, none⟩ u g hg
  refine ⟨h.len, own_keep h.row fun g hg _ => key g (own_off h.row hp h1 g hg), fun i hi => (h.at_ i hi).keep fun g hg => key g fun e => ?_, h.ape, h.api⟩; subst e
  rcases hg with ⟨arr, hg⟩ | ⟨arr, hg⟩
  · rw [hp] at hg
    injection hg with hg
    injection hg with _ hg _
    exact h2 hg.symm
  · rw [hp] at hg
    injection hg with hg
    injection hg with _ hg _
    exact h3 hg.symm
/-- One more is appended. -/
theorem HsW.push {w0 : World} {v' : Value} {x : Hd} (h : HsW w0 lo many es q v hl) (u : Up w0 w) (hn : HdW w w0.heap.size many (stk es (q : Int) es.length) x) (hlo : lo ≤ w0.heap.size) (ho : w'.ownsRow lo 86 5 v' (q + 1) (flatH hl ++ flatH [x])) (hg : w.grownBy w' v.ownBlock) :
    HsW w' lo many es (q + 1) v' (hl ++ [x]) := by
  have hr := own_up h.row u
  have keep : ∀ {es' : List Evt} {y : Hd} {lo' : Nat}, HdW w lo' many es' y → HdW w' lo' many es' y := fun {es' y lo'} k => k.keep fun g hgk => by
    have hlt : g < w.heap.size := by rcases hgk with ⟨arr, e⟩ | ⟨arr, e⟩ <;> exact (Array.getElem?_eq_some_iff.1 e).1
    refine hg.block g hlt fun e => ?_
    rcases hr.2 with ⟨h0, _⟩ | ⟨g', cap, cur, h0, _, hb, _⟩
    · rw [h0] at e; cases e
    · rw [h0] at e
      injection e with e
      have e : g = g' := e
      subst e
      rcases hgk with ⟨arr, e⟩ | ⟨arr, e⟩
      · rw [hb] at e
        injection e with e
        injection e with _ e _
        exact absurd e (by decide)
      · rw [hb] at e
        injection e with e
        injection e with _ e _
        exact absurd e (by decide)
  have gold : ∀ i, i < q → (hl ++ [x]).getD i default = hl.getD i default := fun i hi => by
    have := h.len
    simp only [List.getD, List.getElem?_append_left (show i < hl.length by omega)]
  have gnew : (hl ++ [x]).getD q default = x := by
    have := h.len
    simp only [List.getD, List.getElem?_append_right (show hl.length ≤ q by omega), this, Nat.sub_self]
    rfl
  refine ⟨by simp [h.len], by rw [flatH_app]; exact ho, fun i hi => ?_, fun i j hij hj => ?_, fun i j hij hj => ?_⟩
  · by_cases e : i = q
    · subst e
      rw [gnew]
      exact (keep hn).mono hlo
    · rw [gold i (by omega)]
      exact keep ((h.at_ i (by omega)).up u)
  · by_cases e : j = q
    · subst e
      rw [gnew, gold i hij]
      exact Ap.far (h.at_ i hij).1 hn.1
    · rw [gold i (by omega), gold j (by omega)]
      exact h.ape i j hij (by omega)
  · by_cases e : j = q
    · subst e
      rw [gnew, gold i hij]
      exact Ap.far (h.at_ i hij).2 hn.2
    · rw [gold i (by omega), gold j (by omega)]
      exact h.api i j hij (by omega)
end
/-- A row of numbers of the call's own may be marked. -/
theorem Mkc.zeros {w : World} {lo k d m : Nat} {B : Option Addr} (h : w.ownsRow lo 3 1 (.slice B k d) k (zeros m)) : Mkc w lo B k 1 := fun hn => by
  rcases h.2 with ⟨_, h0⟩ | ⟨g', cap, cur, hv, hl, hh, hc1, _, hsz, htk⟩
  · omega
  · injection hv with hB hk hd
    subst hB hd; refine ⟨g', rfl, hl, (Array.getElem?_eq_some_iff.1 hh).1, fun j hj => ⟨?_, ?_⟩⟩
    · have e : cur.toList[j]? = (List.take (k * 1) cur.toList)[j]? := by
        rw [List.getElem?_take, if_pos hj]
      rw [htk] at e
      have hlen := h.1
      simp only [Go.Proofs.Ytklldniapombiaa.zeros, List.length_replicate] at hlen; refine ⟨0, ?_⟩; rw [cell_of_row _ _ j _ _ _ hh]; rw [← Array.getElem?_toList, e]; simp only [Go.Proofs.Ytklldniapombiaa.zeros, List.getElem?_replicate]; rw [if_pos (by omega)]
    · unfold World.frozen?
      dsimp only; rw [hh]; simp
theorem Nms.zeros {w : World} {lo k d m : Nat} {B : Option Addr} (h : w.ownsRow lo 3 1 (.slice B k d) k (zeros m)) : Nms w B k (List.replicate m 0) := by
  have hlen := h.1
  simp only [Go.Proofs.Ytklldniapombiaa.zeros, List.length_replicate] at hlen; refine ⟨by simp; omega, fun hn => ?_⟩; obtain ⟨g, cap, hv, _, hlt⟩ := h.form hn
  injection hv with hA _ hcap
  subst hA hcap; refine ⟨g, 0, rfl, hlt, fun i hi => ?_⟩
  have := h.cellAt i (by omega)
  rw [Nat.zero_add, this]; simp only [Go.Proofs.Ytklldniapombiaa.zeros, List.getElem?_replicate, List.getD]; rw [if_pos (by omega), if_pos (by omega)]
  rfl
/-- How many hosts. -/
def cbN (m : Mdl) : Nat := if mdlB m = true then m.rules.length else 0
/-- The hosts that have done nothing. -/
def cbH (m : Mdl) : List Ch := (List.range (cbN m)).map fun (i : Nat) => ⟨⟨0, 0, 0⟩, stk m.starts (i : Int) m.starts.length, List.replicate (cbN m) 0⟩
def cbL (m : Mdl) : List (List Rec) := List.replicate (cbN m) []
theorem cbN_few (m : Mdl) : cbN m ≤ 4 := by
  unfold cbN
  split
  · rename_i h
    have := mdlB_few h
    omega
  · omega
theorem cbH_at {m : Mdl} {i : Nat} (hi : i < cbN m) : (cbH m).getD i default = ⟨⟨0, 0, 0⟩, stk m.starts (i : Int) m.starts.length, List.replicate (cbN m) 0⟩ := by
  simp [cbH, List.getD, hi]
/-- What both give. -/
def CbVal (m : Mdl) (v : Value) (w : World) : Prop := ∃ HA hc LB lc, v = .agg #[.slice HA (cbN m) hc, .slice LB (cbN m) lc] ∧ CbV w HA (cbN m) LB (cbN m) (cbH m) (cbL m)
theorem HsW.chs {w : World} {lo many : Nat} {m : Mdl} {HA : Option Addr} {hc : Nat} {hl : List Hd} (hm : cbN m = many) (hs : m.starts.length ≤ 6) (h : HsW w lo many m.starts many (.slice HA many hc) hl) : Chs w HA many (cbH m) := by
  have m4 := cbN_few m
  refine ⟨by simp [cbH, hm], fun hn => ?_⟩; obtain ⟨g, cap, hv, _, hlt⟩ := h.row.form hn
  injection hv with hA _ hcap
  subst hA hcap
  have h5 := flatH_len hl
  have hll := h.len
  refine ⟨g, 0, rfl, hlt, fun i hi => ?_⟩
  have f : ∀ k, k < 5 → w.cell? ⟨g, 0 + i * 5 + k, none⟩ = (hl.getD i default).c5[k]? := fun k hk => by
    rw [Nat.zero_add, h.row.cellAt (i * 5 + k) (by omega), flatH_get hl i k (by omega) hk]
  have hat := h.at_ i hi
  have hle := hat.len
  have h6 := stk_len m.starts (i : Int) m.starts.length
  rw [cbH_at (by omega)]; refine ⟨_, _, _, _, _, _, ⟨f 0 (by omega), f 1 (by omega), f 2 (by omega), f 3 (by omega), f 4 (by omega)⟩, ⟨own_evs hat.1, by omega⟩, ?_, by omega⟩; rw [hm]
  exact Nms.zeros hat.2
theorem Lgs.none_ {w : World} {m : Mdl} {b n : Nat} (hn : cbN m = n) (hb : b < w.heap.size) (h : ∀ i, i < n → w.cell? ⟨b, i, none⟩ = some (.slice none 0 0)) : Lgs w (some ⟨b, 0, none⟩) n (cbL m) := by
  refine ⟨by simp [cbL, hn], fun _ => ⟨b, 0, rfl, hb, fun i hi => ⟨none, 0, 0, by rw [Nat.zero_add]; exact h i hi, ?_, by omega⟩⟩⟩
  have : (cbL m).getD i [] = [] := by
    simp only [cbL, List.getD, List.getElem?_replicate]
    split <;> rfl
  rw [this]
  exact ⟨rfl, fun h => absurd h (by omega)⟩
/-- The block of a slice. -/
def hbO (lo : Nat) : Option Addr → Nat
  | some a => a.block
  | none => lo
theorem HsW.parts {w : World} {lo many b : Nat} {m : Mdl} {HA : Option Addr} {hc : Nat} {hl : List Hd} {arr : Array Value} (hm : cbN m = many) (hs : m.starts.length ≤ 6) (h : HsW w lo many m.starts many (.slice HA many hc) hl) (hb : w.heap[b]? = some (.cells arr 60 (0, 0))) (hz : ∀ i, i < many → arr[i]? = some (.slice none 0 0)) :
    CbV w HA many (some ⟨b, 0, none⟩) many (cbH m) (cbL m) ∧ (0 < many → HA = some ⟨hbO lo HA, 0, none⟩) ∧ CAp lo (hbO lo HA) many (fun i => hl.getD i default) (some ⟨b, 0, none⟩) ∧ (0 < many → CMk w lo (hbO lo HA) many (fun i => hl.getD i default) 1 0) ∧ LgE w (some ⟨b, 0, none⟩) many := by
  have m4 := cbN_few m
  have hlt := (Array.getElem?_eq_some_iff.1 hb).1
  have hcell : ∀ i, i < many → w.cell? ⟨b, i, none⟩ = some (.slice none 0 0) := fun i hi => by
    rw [cell_of_row _ _ i _ _ _ hb]
    exact hz i hi
  have far : ∀ {t : Nat} {cur : Array Value} (g : Nat), w.heap[g]? = some (.cells cur t (0, 0)) → 74 ≠ t → 3 ≠ t → ∀ i, i < many → Far g (hl.getD i default) := fun {t cur} g hg h1 h2 i hi => by
    have hat := h.at_ i hi
    refine ⟨fun _ o hA => own_off hat.1 hg h1 g (by rw [hA]; rfl) rfl, fun _ o hA => own_off hat.2 hg h2 g (by rw [hA]; rfl) rfl⟩
  have len : ∀ i, i < many → (hl.getD i default).n ≤ 6 ∧ (hl.getD i default).k = many := fun i hi => by
    have hle := (h.at_ i hi).len
    have h6 := stk_len m.starts (i : Int) m.starts.length
    omega
  have key : (0 < many → HA = some ⟨hbO lo HA, 0, none⟩) ∧ lo ≤ hbO lo HA ∧ (0 < many → ∃ cur, w.heap[hbO lo HA]? = some (.cells cur 86 (0, 0)) ∧ ∀ i, i < many → ∀ k, k < 5 → cur[i * 5 + k]? = (hl.getD i default).c5[k]?) := by
    rcases h.row.2 with ⟨h0, h1⟩ | ⟨g, cap, cur, hv, hg, hh, hnc, _, hsz, htk⟩
    · injection h0 with hA _ _
      subst hA
      exact ⟨fun h => by omega, Nat.le_refl _, fun h => by omega⟩
    · injection hv with hA _ _
      subst hA; refine ⟨fun _ => rfl, hg, fun _ => ⟨cur, hh, fun i hi k hk => ?_⟩⟩
      have hll := h.len
      rw [← flatH_get hl i k (by omega) hk, ← htk, List.getElem?_take, if_pos (by omega), Array.getElem?_toList]
  obtain ⟨hHA, hg, hcur⟩ := key
  generalize hbO lo HA = g at hHA hg hcur ⊢
  refine ⟨?_, hHA, ?_, ?_, ?_⟩
  · exact ⟨h.chs hm hs, Lgs.none_ hm hlt hcell, by omega, by omega⟩
  · refine ⟨hg, fun i hi => ?_, h.ape, h.api, fun i j hi hj => Ap.kind (h.at_ i hi).1 (h.at_ j hj).2 (by decide), ⟨by omega, fun i hi => by have := len i hi; omega⟩, fun b' o' e hn => ?_⟩
    · obtain ⟨cur, hh, _⟩ := hcur (by omega)
      exact far g hh (by decide) (by decide) i hi
    · injection e with e
      injection e with e _ _
      subst e; obtain ⟨cur, hh, _⟩ := hcur hn; refine ⟨fun e => ?_, fun i hi => far b hb (by decide) (by decide) i hi⟩; subst e; rw [hb] at hh
      injection hh with hh
      injection hh with _ hh _
      exact absurd hh (by decide)
  · intro hn
    obtain ⟨cur, hh, hc5⟩ := hcur hn; refine ⟨⟨cur, hh, fun i hi j hj => ?_, fun i hi => ⟨hc5 i hi 3 (by omega), hc5 i hi 4 (by omega)⟩, fun i hi => absurd hi (by omega)⟩, fun i _ hi => (Mkb.own (h.at_ i hi).1).c, fun i _ hi => Mkc.zeros (h.at_ i hi).2, fun i hi => absurd hi (by omega), fun i hi => absurd hi (by omega)⟩
    have j3 : j = 0 ∨ j = 1 ∨ j = 2 := by omega
    rcases j3 with rfl | rfl | rfl
    · exact ⟨_, hc5 i hi 0 (by omega)⟩
    · exact ⟨_, hc5 i hi 1 (by omega)⟩
    · exact ⟨_, hc5 i hi 2 (by omega)⟩
  · exact fun hn => ⟨b, 0, rfl, hlt, fun i hi => ⟨none, 0, by rw [Nat.zero_add]; exact hcell i hi⟩⟩
/-- What lies from lo on is as it was. -/
structure Kpc (lo : Nat) (w w' : World) : Prop where
  size : w.heap.size ≤ w'.heap.size
  block : ∀ b, lo ≤ b → b < w.heap.size → w'.heap[b]? = w.heap[b]?
theorem Kpc.refl (lo : Nat) (w : World) : Kpc lo w w := ⟨Nat.le_refl _, fun _ _ _ => rfl⟩
theorem HsW.keepLo {w w' : World} {lo many q : Nat} {es : List Evt} {v : Value} {hl : List Hd} (h : HsW w lo many es q v hl) (k : Kpc lo w w') : HsW w' lo many es q v hl :=
  ⟨h.len, own_keep h.row fun g hg hlt => k.block g (own_geB h.row g hg).1 hlt, fun i hi => ⟨own_keep (h.at_ i hi).1 fun g hg hlt => k.block g (own_geB (h.at_ i hi).1 g hg).1 hlt, own_keep (h.at_ i hi).2 fun g hg hlt => k.block g (own_geB (h.at_ i hi).2 g hg).1 hlt⟩, h.ape, h.api⟩
/-- What is of the call's own, as long as what lies from lo on is as it was. -/
def CbKeep (lo : Nat) (m : Mdl) (v : Value) (w : World) : Prop := ∃ HA hc LB lc g hd, v = .agg #[.slice HA (cbN m) hc, .slice LB (cbN m) lc] ∧ (0 < cbN m → HA = some ⟨g, 0, none⟩) ∧ CAp lo g (cbN m) hd LB ∧
  ∀ w', Kpc lo w w' → CbV w' HA (cbN m) LB (cbN m) (cbH m) (cbL m) ∧ (0 < cbN m → CMk w' lo g (cbN m) hd 1 0) ∧ LgE w' LB (cbN m)
theorem HsW.res {w : World} {lo many b : Nat} {m : Mdl} {HA : Option Addr} {hc lc : Nat} {hl : List Hd} {arr : Array Value} (hm : cbN m = many) (hs : m.starts.length ≤ 6) (h : HsW w lo many m.starts many (.slice HA many hc) hl) (hb : w.heap[b]? = some (.cells arr 60 (0, 0))) (hlb : lo ≤ b) (hz : ∀ i, i < many → arr[i]? = some (.slice none 0 0)) :
    CbKeep lo m (.agg #[.slice HA many hc, .slice (some ⟨b, 0, none⟩) many lc]) w := by
  obtain ⟨_, h2, h3, _⟩ := HsW.parts hm hs h hb hz; subst hm; refine ⟨HA, hc, some ⟨b, 0, none⟩, lc, _, _, rfl, h2, h3, fun w' k => ?_⟩; obtain ⟨k1, _, _, k4, k5⟩ := HsW.parts rfl hs (h.keepLo k) ((k.block b hlb (Array.getElem?_eq_some_iff.1 hb).1).trans hb) hz
  exact ⟨k1, k4, k5⟩
theorem CbKeep.zero {m : Mdl} (lo : Nat) (w : World) (h : mdlB m = false) : CbKeep lo m (.agg #[.slice none 0 0, .slice none 0 0]) w := by
  have e : cbN m = 0 := by unfold cbN; rw [h]; rfl
  have eH : cbH m = [] := by unfold cbH; rw [e]; rfl
  have eL : cbL m = [] := by unfold cbL; rw [e]; rfl
  refine ⟨none, 0, none, 0, lo, fun _ => default, by rw [e], by omega, ?_, fun w' _ => ?_⟩
  · rw [e]
    exact ⟨Nat.le_refl _, fun _ h => by omega, fun _ _ _ h => by omega, fun _ _ _ h => by omega, fun _ _ h => by omega, ⟨by omega, fun _ h => by omega⟩, fun _ _ e => by cases e⟩
  · rw [e, eH, eL]
    exact ⟨⟨⟨rfl, fun h => by omega⟩, ⟨rfl, fun h => by omega⟩, by omega, by omega⟩, by omega, fun h => by omega⟩
theorem CbKeep.val {lo : Nat} {m : Mdl} {v : Value} {w : World} (h : CbKeep lo m v w) : CbVal m v w := by
  obtain ⟨HA, hc, LB, lc, g, hd, hv, _, _, hV⟩ := h
  exact ⟨HA, hc, LB, lc, hv, (hV w (Kpc.refl _ _)).1⟩
end Go.Proofs.Ytklldniapombiaa

namespace Go.Proofs.Ytklldniapombiaa
set_option maxRecDepth 100000
open Go.RowKit
def wpMixH (P : Program) (ops : Array Oper) (Q : Exit → Act → World → Prop) (S : World → Prop) : List (Nat × Bool) → Act → World → Prop
  | (k, true) :: fs, a, w => ∃ o v, ops[k]? = some o ∧ YieldsIf P ops S o v a ∧ wpMixH P ops Q S fs (a.put o.dst v) w
  | (k, false) :: fs, a, w => ∃ o, ops[k]? = some o ∧ if Region.wanted o (yielded ops a.tmps) = true then o.wp P a w (fun a' w' => S w' ∧ wpMixH P ops Q S fs a' w') Q else wpMixH P ops Q S fs (a.put o.dst undef) w
  | [], a, w => Q .normal a w
theorem wpAnyH_of_mix {P : Program} {ops : Array Oper} {Q : Exit → Act → World → Prop} {S : World → Prop} (hsel : Region.noSelect ops = true) (hQ : ∀ c (a : Act) d v w, Q (.panic c) (a.put d v) w → Q (.panic c) a w) :
    ∀ (fs : List (Nat × Bool)) (listed : Array Bool) (a : Act) (w : World), mixB ops fs listed = true → S w → wpMixH P ops Q S fs a w → wpAnyH P .any ops Q S fs.length listed a w
  | [], _, _, _, hB, _, h => ⟨by simpa [mixB] using hB, h⟩
  | (k, true) :: fs, listed, a, w, hB, hS, h => by
    simp only [mixB, Bool.and_eq_true] at hB; obtain ⟨o, v, h0, hy, hn⟩ := h
    exact wpAnyH_take h0 hsel hB.1.2 hB.1.1.2 (fun c a w => hQ c a _ _ w) hy hS (wpAnyH_of_mix hsel hQ fs _ _ _ hB.2 hS hn)
  | (k, false) :: fs, listed, a, w, hB, hS, h => by
    simp only [mixB, Bool.and_eq_true, decide_eq_true_eq] at hB; obtain ⟨o, h0, h⟩ := h
    refine wpAnyH_all hB.1.2 (by simp) fun i hi => ?_
    obtain rfl : i = k := by simpa using hi
    refine wpOp_mono (K := fun a' w' => S w' ∧ wpMixH P ops Q S fs a' w') (fun a' w' h' => ⟨h'.1, wpAnyH_of_mix hsel hQ fs _ _ _ hB.2 h'.1 h'.2⟩) ?_; unfold wpOp; simp only [h0]
    split
    · rename_i hw
      rw [if_pos hw] at h
      exact .inl h
    · rename_i hw
      rw [if_neg hw] at h
      exact ⟨hS, h⟩
/-- What is left to walk, kept shut. -/
@[irreducible] def mWalk (P : Program) (ops : Array Oper) (Q : Exit → Act → World → Prop) (S : World → Prop) (fs : List (Nat × Bool)) (a : Act) (w : World) : Prop := wpMixH P ops Q S fs a w
theorem region_mixH {P : Program} {id : Nat} {Q : Exit → Act → World → Prop} {a : Act} {w : World} {l : List Oper} (S : World → Prop) (fs : List (Nat × Bool)) (hm : P.follows .mixedOrders = true)
    (hB : (Region.noSelect l.toArray && decide (fs.length = l.length) && mixB l.toArray fs (Array.replicate l.toArray.size false)) = true) (hS : S w.drew)
    (h : mWalk P l.toArray (NoPanic Q) S fs a w.drew) : (Code.region id l.toArray true).wp P Q a w := by
  unfold mWalk at h; simp only [Bool.and_eq_true, decide_eq_true_eq] at hB; refine wp_region_noPanic (wp_region_held (S := S) hm ?_)
  have := wpAnyH_of_mix (P := P) (Q := NoPanic Q) hB.1.1 (fun _ _ _ _ _ h => h) fs _ a w.drew hB.2 hS h
  rw [hB.1.2] at this
  simpa using this
section
variable {P : Program} {ops : Array Oper} {Q : Exit → Act → World → Prop} {S : World → Prop} {fs : List (Nat × Bool)} {k : Nat} {o : Oper} {a : Act} {w : World}
theorem mixH_take (h0 : ops[k]? = some o) (hw : Region.wanted o (yielded ops a.tmps) = true) (h : ∃ v, (∀ w1, S w1 → (execOp a.eval o).run P w1 = .ok (.value v) w1) ∧ mWalk P ops Q S fs (a.put o.dst v) w) : mWalk P ops Q S ((k, true) :: fs) a w := by
  unfold mWalk at h ⊢; obtain ⟨v, hv, hn⟩ := h
  exact ⟨o, v, h0, .inl ⟨hw, hv⟩, hn⟩
theorem mixH_skip {b : Bool} (h0 : ops[k]? = some o) (hw : Region.wanted o (yielded ops a.tmps) = false) (h : mWalk P ops Q S fs (a.put o.dst undef) w) : mWalk P ops Q S ((k, b) :: fs) a w := by
  unfold mWalk at h ⊢
  cases b
  · refine ⟨o, h0, ?_⟩
    rw [if_neg (by rw [hw]; exact Bool.false_ne_true)]
    exact h
  · exact ⟨o, undef, h0, .inr ⟨hw, rfl⟩, h⟩
theorem mixH_go (h0 : ops[k]? = some o) (hw : Region.wanted o (yielded ops a.tmps) = true) (h : ∀ K : Act → World → Prop, (∀ a w, S w → mWalk P ops Q S fs a w → K a w) → o.wp P a w K Q) : mWalk P ops Q S ((k, false) :: fs) a w := by
  unfold mWalk at h ⊢; refine ⟨o, h0, ?_⟩; rw [if_pos hw]
  exact h _ fun _ _ hs h => ⟨hs, h⟩
theorem mixH_nil (h : Q .normal a w) : mWalk P ops (NoPanic Q) S [] a w := by
  unfold mWalk
  exact h
end
end Go.Proofs.Ytklldniapombiaa

namespace Go.Proofs.Ytklldniapombiaa
set_option maxRecDepth 100000
open Go.RowKit
/-- What is left to walk, kept shut. -/
@[irreducible] def hWalk (P : Program) (ops : Array Oper) (Q : Exit → Act → World → Prop) (S : World → Prop) (N : Nat) (listed : Array Bool) (a : Act) (w : World) : Prop :=
  Region.noSelect ops = true → S w → wpAnyH P .any ops (NoPanic Q) S N listed a w
theorem region_hWalk {P : Program} {id : Nat} {Q : Exit → Act → World → Prop} {a : Act} {w : World} {l : List Oper} (S : World → Prop) (N : Nat) (hm : P.follows .mixedOrders = true) (hN : l.length = N)
    (hsel : Region.noSelect l.toArray = true) (hS : S w.drew) (h : hWalk P l.toArray Q S N (Array.replicate N false) a w.drew) : (Code.region id l.toArray true).wp P Q a w := by
  subst hN; unfold hWalk at h; refine wp_region_noPanic (wp_region_held (S := S) hm ?_)
  have := h hsel hS
  simpa using this
section
variable {P : Program} {ops : Array Oper} {Q : Exit → Act → World → Prop} {S : World → Prop} {N : Nat} {listed : Array Bool} {a : Act} {w : World}
theorem hWalk_take (k : Nat) {o : Oper} (hB : ((Region.ready .any ops listed).contains k && Region.free .any ops listed k) = true) (h0 : ops[k]? = some o) (hw : Region.wanted o (yielded ops a.tmps) = true)
    (h : ∃ v, (∀ w1, S w1 → (execOp a.eval o).run P w1 = .ok (.value v) w1) ∧ hWalk P ops Q S N (listed.setIfInBounds k true) (a.put o.dst v) w) : hWalk P ops Q S (N + 1) listed a w := by
  unfold hWalk at h ⊢; intro hsel hS; simp only [Bool.and_eq_true] at hB; obtain ⟨v, hv, hn⟩ := h
  exact wpAnyH_take h0 hsel hB.2 hB.1 (fun _ _ _ h => h) (.inl ⟨hw, hv⟩) hS (hn hsel hS)
/-- One of those that are ready is next. -/
def Next (P : Program) (ops : Array Oper) (Q : Exit → Act → World → Prop) (S : World → Prop) (N : Nat) (listed : Array Bool) (a : Act) (w : World) (k : Nat) : Prop :=
  ∃ o, ops[k]? = some o ∧ Region.wanted o (yielded ops a.tmps) = true ∧ ∀ K : Act → World → Prop, (∀ a w, S w → hWalk P ops Q S N (listed.setIfInBounds k true) a w → K a w) → o.wp P a w K (NoPanic Q)
theorem next_mk {k : Nat} {o : Oper} (h0 : ops[k]? = some o) (hw : Region.wanted o (yielded ops a.tmps) = true) (h : ∀ K : Act → World → Prop, (∀ a w, S w → hWalk P ops Q S N (listed.setIfInBounds k true) a w → K a w) → o.wp P a w K (NoPanic Q)) : Next P ops Q S N listed a w k := ⟨o, h0, hw, h⟩
theorem hWalk_fork (l : List Nat) (hr : Region.ready .any ops listed = l) (hl : l ≠ []) (h : ∀ k ∈ l, Next P ops Q S N listed a w k) : hWalk P ops Q S (N + 1) listed a w := by
  unfold hWalk; intro hsel hS
  refine wpAnyH_all hr hl fun k hk => ?_
  obtain ⟨o, h0, hw, hn⟩ := h k hk; unfold wpOp; simp only [h0]; rw [if_pos hw]; refine .inl (hn _ fun a' w' hs' hh => ?_); unfold hWalk at hh
  exact ⟨hs', hh hsel hs'⟩
theorem hWalk_one {i : Nat} (hr : Region.ready .any ops listed = [i]) (hi : Next P ops Q S N listed a w i) : hWalk P ops Q S (N + 1) listed a w :=
  hWalk_fork [i] hr (by simp) (fun k hk => by
    obtain rfl : k = i := by simpa using hk
    exact hi)
theorem hWalk_two {i j : Nat} (hr : Region.ready .any ops listed = [i, j]) (hi : Next P ops Q S N listed a w i) (hj : Next P ops Q S N listed a w j) : hWalk P ops Q S (N + 1) listed a w :=
  hWalk_fork [i, j] hr (by simp) (fun k hk => by
    have : k = i ∨ k = j := by simpa using hk
    rcases this with rfl | rfl
    · exact hi
    · exact hj)
theorem hWalk_three {i j m : Nat} (hr : Region.ready .any ops listed = [i, j, m]) (hi : Next P ops Q S N listed a w i) (hj : Next P ops Q S N listed a w j) (hm : Next P ops Q S N listed a w m) : hWalk P ops Q S (N + 1) listed a w :=
  hWalk_fork [i, j, m] hr (by simp) (fun k hk => by
    have : k = i ∨ k = j ∨ k = m := by simpa using hk
    rcases this with rfl | rfl | rfl
    · exact hi
    · exact hj
    · exact hm)
theorem hWalk_nil (hr : (Region.ready .any ops listed).isEmpty = true) (h : Q .normal a w) : hWalk P ops Q S 0 listed a w := by
  unfold hWalk; intro _ _
  exact ⟨by simpa using hr, h⟩
end
end Go.Proofs.Ytklldniapombiaa

/-
  Conservative simulations in memory, in one sentence: rows of numbers, hosts, rows of records, as lists; no condition is made.
  What markSeqState, heldSeqState and eqSeqState return, in one sentence: the marks are laid one behind the other in three blocks, are held, and when two are the same; for simulators of the call's own.
  Marks on a conservative simulation of the call's own, in one sentence: they are laid in its blocks alone, and found again as long as these are not written; for every simulation without records whose slices lie in blocks of their own.
  The laws' marks on a conservative simulation, in one sentence: they are laid in its blocks alone, and found again; for every simulation without records whose slices lie in blocks of their own.
  Rows of the call's own are kept, in one sentence: where their block is as it was they are; rows of other elements lie apart; no condition is made.
  Records in a row of the call's own, in one sentence: their cells one behind the other, and what is read off again; for every list.
  What slices.Grow returns of nothing, in one sentence: an empty slice of events with room; for every number that lies in memory.
  What slices.Concat returns of slices of events, in one sentence: a new slice of all of them, one behind the other; for every row of slices that lies in memory.
  What Concat of one and of two slices of events gives, in one sentence: their elements in a new slice; for slices that lie in memory.
-/
import Derived.Lib.AppendZeros
import Derived.Test.YtklldniapombiaaDLCbn02
import Derived.Test.YtklldniapombiaaDLCbn03
import Derived.Test.YtklldniapombiaaDLCbn05
import Derived.Test.YtklldniapombiaaDLCbn13
namespace Go.Proofs.Ytklldniapombiaa
set_option maxRecDepth 100000
open Go.RowKit
/-- A row of numbers. -/
def Nms (w : World) (A : Option Addr) (n : Nat) (zs : List Int) : Prop :=
  zs.length = n ∧ (0 < n → ∃ b off, A = some ⟨b, off, none⟩ ∧ b < w.heap.size ∧ ∀ i, i < n → w.cell? ⟨b, off + i, none⟩ = some (.int .i64 (zs.getD i 0)))
theorem Nms.up {w w' : World} {A : Option Addr} {n : Nat} {zs : List Int} (h : Nms w A n zs) (u : Up w w') : Nms w' A n zs :=
  ⟨h.1, fun hn => by
    obtain ⟨b, off, hA, hb, hc⟩ := h.2 hn
    exact ⟨b, off, hA, Nat.lt_of_lt_of_le hb u.size, fun i hi => (u.cells _ _ hb).trans (hc i hi)⟩⟩
/-- A host. -/
structure Ch where
  now : Cst
  wait : List Evt
  ins : List Int
instance : Inhabited Ch := ⟨⟨⟨0, 0, 0⟩, [], []⟩⟩
def ChAt (w : World) (b o : Nat) (h : Ch) : Prop :=
  ∃ A n c B k d, (w.cell? ⟨b, o, none⟩ = some (.int .i64 h.now.s) ∧ w.cell? ⟨b, o + 1, none⟩ = some (.int .i64 h.now.sq) ∧ w.cell? ⟨b, o + 2, none⟩ = some (.int .i64 h.now.ct) ∧ w.cell? ⟨b, o + 3, none⟩ = some (.slice A n c) ∧ w.cell? ⟨b, o + 4, none⟩ = some (.slice B k d)) ∧
    (Evs w A n h.wait ∧ n ≤ 1048576) ∧ Nms w B k h.ins ∧ k ≤ 1048576
theorem ChAt.up {w w' : World} {b o : Nat} {h : Ch} (k : ChAt w b o h) (u : Up w w') (hb : b < w.heap.size) : ChAt w' b o h := by
  obtain ⟨A, n, c, B, k, d, ⟨h0, h1, h2, h3, h4⟩, ⟨h5, h6⟩, h7, h8⟩ := k
  exact ⟨A, n, c, B, k, d, ⟨(u.cells _ _ hb).trans h0, (u.cells _ _ hb).trans h1, (u.cells _ _ hb).trans h2, (u.cells _ _ hb).trans h3, (u.cells _ _ hb).trans h4⟩, ⟨h5.up u, h6⟩, h7.up u, h8⟩
def Chs (w : World) (A : Option Addr) (n : Nat) (hs : List Ch) : Prop :=
  hs.length = n ∧ (0 < n → ∃ b off, A = some ⟨b, off, none⟩ ∧ b < w.heap.size ∧ ∀ i, i < n → ChAt w b (off + i * 5) (hs.getD i default))
theorem Chs.up {w w' : World} {A : Option Addr} {n : Nat} {hs : List Ch} (h : Chs w A n hs) (u : Up w w') : Chs w' A n hs :=
  ⟨h.1, fun hn => by
    obtain ⟨b, off, hA, hb, hc⟩ := h.2 hn
    exact ⟨b, off, hA, Nat.lt_of_lt_of_le hb u.size, fun i hi => (hc i hi).up u hb⟩⟩
/-- Rows of records. -/
def Lgs (w : World) (A : Option Addr) (n : Nat) (ls : List (List Rec)) : Prop :=
  ls.length = n ∧ (0 < n → ∃ b off, A = some ⟨b, off, none⟩ ∧ b < w.heap.size ∧ ∀ i, i < n → ∃ A' n' c', w.cell? ⟨b, off + i, none⟩ = some (.slice A' n' c') ∧ Recs w A' n' (ls.getD i []) ∧ n' ≤ 1048576)
theorem Lgs.up {w w' : World} {A : Option Addr} {n : Nat} {ls : List (List Rec)} (h : Lgs w A n ls) (u : Up w w') : Lgs w' A n ls :=
  ⟨h.1, fun hn => by
    obtain ⟨b, off, hA, hb, hc⟩ := h.2 hn; refine ⟨b, off, hA, Nat.lt_of_lt_of_le hb u.size, fun i hi => ?_⟩; obtain ⟨A', n', c', h1, h2, h3⟩ := hc i hi
    exact ⟨A', n', c', (u.cells _ _ hb).trans h1, h2.up u, h3⟩⟩
/-- A simulation's value over its slices. -/
structure CbV (w : World) (A : Option Addr) (n : Nat) (B : Option Addr) (k : Nat) (hs : List Ch) (ls : List (List Rec)) : Prop where
  hosts : Chs w A n hs
  logs : Lgs w B k ls
  few : n ≤ 1048576 ∧ k ≤ 1048576
theorem CbV.up {w w' : World} {A B : Option Addr} {n k : Nat} {hs : List Ch} {ls : List (List Rec)} (h : CbV w A n B k hs ls) (u : Up w w') : CbV w' A n B k hs ls := ⟨h.hosts.up u, h.logs.up u, h.few⟩
end Go.Proofs.Ytklldniapombiaa

namespace Go.Proofs.Ytklldniapombiaa
set_option maxRecDepth 100000
open Go.RowKit
/-- A slice of n structs of s numbers, in a block of type t of the call's own. -/
def Mkb (w : World) (lo : Nat) (A : Option Addr) (n s t : Nat) : Prop := 0 < n → ∃ g xs, A = some ⟨g, 0, none⟩ ∧ lo ≤ g ∧ IntsOwn w g (n * s) ∧ w.heap[g]? = some (.cells xs t)
/-- The same, in a block of any type. -/
def Mkc (w : World) (lo : Nat) (A : Option Addr) (n s : Nat) : Prop := 0 < n → ∃ g, A = some ⟨g, 0, none⟩ ∧ lo ≤ g ∧ IntsOwn w g (n * s)
theorem Mkb.c {w : World} {lo : Nat} {A : Option Addr} {n s t : Nat} (h : Mkb w lo A n s t) : Mkc w lo A n s := fun hn => by
  obtain ⟨g, _, h1, h2, h3, _⟩ := h hn
  exact ⟨g, h1, h2, h3⟩
/-- Two slices lie in two blocks. -/
def Ap (A : Option Addr) (n : Nat) (A' : Option Addr) (n' : Nat) : Prop := 0 < n → 0 < n' → ∀ b o b' o', A = some ⟨b, o, none⟩ → A' = some ⟨b', o', none⟩ → b ≠ b'
end Go.Proofs.Ytklldniapombiaa

namespace Go.Proofs.Ytklldniapombiaa
set_option maxRecDepth 100000
open Go.RowKit
/-- A host's two slices. -/
structure Hd where
  A : Option Addr
  n : Nat
  c : Nat
  B : Option Addr
  k : Nat
  d : Nat
/-- The number ahead of host q. -/
def Kf (hd : Nat → Hd) (k0 : Int) : Nat → Int
  | 0 => k0
  | q + 1 => Kf hd k0 q + 3 + 6 * ((hd q).n : Int) + ((hd q).k : Int)
/-- A block is none of a host's. -/
def Far (b : Nat) (h : Hd) : Prop := (0 < h.n → ∀ o, h.A ≠ some ⟨b, o, none⟩) ∧ (0 < h.k → ∀ o, h.B ≠ some ⟨b, o, none⟩)
/-- A block is none of the simulation's that are written. -/
def NEs (g n : Nat) (hd : Nat → Hd) (b : Nat) : Prop := 0 < n → b ≠ g ∧ ∀ i, i < n → Far b (hd i)
/-- The blocks of a simulation are apart, and behind lo. -/
structure CAp (lo g n : Nat) (hd : Nat → Hd) (LB : Option Addr) : Prop where
  lo : lo ≤ g
  ge : ∀ i, i < n → Far g (hd i)
  ape : ∀ i j, i < j → j < n → Ap (hd i).A (hd i).n (hd j).A (hd j).n
  api : ∀ i j, i < j → j < n → Ap (hd i).B (hd i).k (hd j).B (hd j).k
  apx : ∀ i j, i < n → j < n → Ap (hd i).A (hd i).n (hd j).B (hd j).k
  few : n ≤ 100 ∧ ∀ i, i < n → (hd i).n ≤ 100 ∧ (hd i).k ≤ 100
  logs : ∀ b o, LB = some ⟨b, o, none⟩ → NEs g n hd b
section
variable {lo g n : Nat} {hd : Nat → Hd} {a w w' : World}
end
/-- The marks of q hosts are laid. -/
structure CMk (w : World) (lo g n : Nat) (hd : Nat → Hd) (k0 : Int) (q : Nat) : Prop where
  blk : ∃ arr, Blk w g 86 arr ∧ (∀ i, i < n → ∀ j, j < 3 → ∃ v, arr[i * 5 + j]? = some v) ∧ (∀ i, i < n → arr[i * 5 + 3]? = some (.slice (hd i).A (hd i).n (hd i).c) ∧ arr[i * 5 + 4]? = some (.slice (hd i).B (hd i).k (hd i).d)) ∧
    ∀ i, i < q → ∀ j, j < 3 → arr[i * 5 + j]? = some (.int .i64 (incr (Kf hd k0 i) j))
  ev : ∀ i, q ≤ i → i < n → Mkc w lo (hd i).A (hd i).n 6
  in_ : ∀ i, q ≤ i → i < n → Mkc w lo (hd i).B (hd i).k 1
  hev : ∀ i, i < q → Held w (hd i).A (hd i).n 6 (Kf hd k0 i + 3)
  hin : ∀ i, i < q → Held w (hd i).B (hd i).k 1 (Kf hd k0 i + 3 + 6 * ((hd i).n : Int))
end Go.Proofs.Ytklldniapombiaa

namespace Go.Proofs.Ytklldniapombiaa
set_option maxRecDepth 100000
open Go.RowKit
/-- Rows of records, all empty. -/
def LgE (w : World) (B : Option Addr) (n : Nat) : Prop := 0 < n → ∃ b off, B = some ⟨b, off, none⟩ ∧ b < w.heap.size ∧ ∀ i, i < n → ∃ A c, w.cell? ⟨b, off + i, none⟩ = some (.slice A 0 c)
end Go.Proofs.Ytklldniapombiaa

namespace Go.Proofs.Ytklldniapombiaa
set_option maxRecDepth 100000
open Go.RowKit
theorem own_keep {w w' : World} {b e size n : Nat} {v : Value} {xs : List Value} (h : w.ownsRow b e size v n xs) (k : ∀ g, v.ownBlock = some g → g < w.heap.size → w'.heap[g]? = w.heap[g]?) : w'.ownsRow b e size v n xs := by
  refine ⟨h.1, ?_⟩
  rcases h.2 with h0 | ⟨g, cap, cur, rfl, hg, hb, hr⟩
  · exact .inl h0
  · exact .inr ⟨g, cap, cur, rfl, hg, (k g rfl (Array.getElem?_eq_some_iff.1 hb).1).trans hb, hr⟩
/-- Rows of other elements lie apart. -/
theorem own_apart {w : World} {b b' e e' size size' n n' : Nat} {v v' : Value} {xs xs' : List Value} (h : w.ownsRow b e size v n xs) (h' : w.ownsRow b' e' size' v' n' xs') (he : e ≠ e') : ∀ g, v.ownBlock = some g → v'.ownBlock = some g → False := fun g h1 h2 => by
  rcases h.2 with ⟨rfl, _⟩ | ⟨g1, cap, cur, rfl, _, hb, _⟩
  · cases h1
  rcases h'.2 with ⟨rfl, _⟩ | ⟨g2, cap', cur', rfl, _, hb', _⟩
  · cases h2
  injection h1 with h1
  injection h2 with h2
  have h1 : g1 = g := h1
  have h2 : g2 = g := h2
  subst h1; subst h2; rw [hb] at hb'
  injection hb' with hb'
  injection hb' with _ hb' _
  exact he hb'
/-- A row and a block of another kind lie apart. -/
theorem own_off {w : World} {b e size n p : Nat} {v : Value} {xs : List Value} {cur : Array Value} {e' : Nat} {fz : Nat × Nat} (h : w.ownsRow b e size v n xs) (hp : w.heap[p]? = some (.cells cur e' fz)) (he : e ≠ e') : ∀ g, v.ownBlock = some g → g ≠ p := fun g h1 h2 => by
  subst h2
  rcases h.2 with ⟨rfl, _⟩ | ⟨g1, cap, cur', rfl, _, hb, _⟩
  · cases h1
  injection h1 with h1
  have h1 : g1 = g := h1
  subst h1; rw [hb] at hp
  injection hp with hp
  injection hp with _ hp _
  exact he hp
end Go.Proofs.Ytklldniapombiaa

namespace Go.Proofs.Ytklldniapombiaa
set_option maxRecDepth 100000
open Go.RowKit
def Rec.c7 (r : Rec) : List Value := [.int .i64 r.ev.t, .int .i64 r.ev.to, .int .i64 r.ev.fr, .int .i64 r.ev.sq, .int .i64 r.ev.kd, .int .i64 r.ev.dt, .int .i64 r.s]
def flat7 : List Rec → List Value
  | [] => []
  | e :: r => e.c7 ++ flat7 r
theorem flat7_len : ∀ es : List Rec, (flat7 es).length = es.length * 7
  | [] => rfl
  | e :: r => by
    rw [flat7, List.length_append, flat7_len r]; simp [Rec.c7]
    omega
theorem flat7_app : ∀ es fs : List Rec, flat7 (es ++ fs) = flat7 es ++ flat7 fs
  | [], _ => rfl
  | e :: r, fs => by rw [List.cons_append, flat7, flat7_app r fs, flat7, List.append_assoc]
theorem flat7_get : ∀ (es : List Rec) (i k : Nat), i < es.length → k < 7 → (flat7 es)[i * 7 + k]? = (es.getD i default).c7[k]?
  | [], i, _, hi, _ => absurd hi (by simp)
  | e :: r, 0, k, _, hk => by
    rw [flat7, Nat.zero_mul, Nat.zero_add, List.getElem?_append_left (by simpa [Rec.c7] using hk)]
    rfl
  | e :: r, i + 1, k, hi, hk => by
    have hl : e.c7.length = 7 := rfl
    rw [flat7, List.getElem?_append_right (by omega), hl, show (i + 1) * 7 + k - 7 = i * 7 + k by omega, flat7_get r i k (by simpa using hi) hk]
    rfl
theorem flat7_one (es : List Rec) : ∀ u ∈ flat7 es, u.oneCell' = true := by
  induction es with
  | nil => intro u hu; cases hu
  | cons e r ih =>
    intro u hu; rw [flat7, List.mem_append] at hu
    rcases hu with hu | hu
    · simp only [Rec.c7, List.mem_cons, List.not_mem_nil, or_false] at hu
      rcases hu with rfl | rfl | rfl | rfl | rfl | rfl | rfl <;> rfl
    · exact ih u hu
theorem own7_recs {w : World} {base e n c : Nat} {A : Option Addr} {es : List Rec} (h : w.ownsRow base e 7 (.slice A n c) n (flat7 es)) : Recs w A n es := by
  have hl : es.length = n := by have := h.1; rw [flat7_len] at this; omega
  refine ⟨hl, fun hn => ?_⟩; obtain ⟨g, cap, hv, _, hlt⟩ := h.form hn
  injection hv with hA _ hcap
  subst hA hcap; refine ⟨g, 0, rfl, hlt, fun i hi => ?_⟩
  have f : ∀ k, k < 7 → w.cell? ⟨g, 0 + i * 7 + k, none⟩ = (es.getD i default).c7[k]? := fun k hk => by
    rw [Nat.zero_add, h.cellAt (i * 7 + k) (by omega), flat7_get es i k (by omega) hk]
  exact ⟨f 0 (by omega), f 1 (by omega), f 2 (by omega), f 3 (by omega), f 4 (by omega), f 5 (by omega), f 6 (by omega)⟩
theorem own7_slice {w : World} {base e n : Nat} {v : Value} {es : List Rec} (h : w.ownsRow base e 7 v n (flat7 es)) : n = es.length ∧ ∃ A c, v = .slice A n c ∧ n ≤ c ∧ c ≤ 9223372036854775807 := by
  have hl : es.length = n := by have := h.1; rw [flat7_len] at this; omega
  refine ⟨hl.symm, ?_⟩
  rcases h.2 with ⟨rfl, rfl⟩ | ⟨g, cap, cur, rfl, _, _, hnc, hm, _⟩
  · exact ⟨none, 0, rfl, Nat.le_refl _, by omega⟩
  · exact ⟨_, cap, rfl, hnc, by unfold maxLen at hm; omega⟩
end Go.Proofs.Ytklldniapombiaa

namespace Go.Proofs.Ytklldniapombiaa
set_option maxRecDepth 100000
open Go.RowKit
def GrownSl (w : World) (x : Ending) (w' : World) : Prop := ∃ v, x = .returned v ∧ w'.ownsRow w.heap.size 74 6 v 0 (flat []) ∧ Up w w'
theorem zeros_size (z : Array Value) (n : Nat) : (Builtin.zeroCells z n).size = n * z.size := by simp [Builtin.zeroCells]
set_option maxHeartbeats 4000000 in
theorem grow_any (n : Nat) (w : World) (hn : n ≤ 2000000000) : Calls Try.prog 167 #[.slice none 0 0, .int .i64 n] w (GrownSl w) := by
  obtain ⟨i0, hi0, hz0, hz1, hz2⟩ := info_parts info74
  have INF := Lib.hid (And.intro hi0 (And.intro hz0 (And.intro hz1 hz2)))
  clear hi0 hz0 hz1 hz2
  by_cases h0 : n = 0
  · subst h0
    go_enter Try.func167, Try.ntmps167
    go_wp2; go_ret
    exact ⟨_, rfl, ⟨rfl, .inl ⟨rfl, rfl⟩⟩, Up.refl _⟩
  · have p0 : 0 < n := by omega
    have p1 : (0 : Int) < n := by omega
    have p2 : ¬ (n : Int) < 0 := by omega
    have h48 : n * i0.bytes ≤ 281474976710656 := by rw [INF.out.2.2.2]; omega
    have RUN := Lib.hid (fun ty W => Lib.run_append_nil_zeros (P := Try.prog) W 34 3 ty 74 i0 _ .i64 .i64 Try.underlying34 Try.underlying3 INF.out.1 INF.out.2.1 n p0 (by rw [INF.out.2.2.1]; omega) (by omega) h48)
    clear h48
    go_enter Try.func167, Try.ntmps167
    go_wp2_with (at_builtin; refine Lib.wpList_append_run _ rfl (.tmp 20) (.tmp 21) 34 3 rfl _ _ rfl rfl _ _ (RUN.out _ _) ?_)
    go_ret; refine ⟨_, rfl, ⟨rfl, .inr ⟨w.heap.size, grownCap w n 0 74, _, rfl, Nat.le_refl _, heap_alloc_new w.drew _, Nat.zero_le _, grownCap_le_maxLen _ _ _ _ (by simp only [maxLen]; omega), ?_, rfl⟩⟩, (Up.refl w).drew.alloc _⟩
    have := grownCap_ge w n 0 74
    rw [Array.size_append, zeros_size, zeros_size]; simp
    omega
end Go.Proofs.Ytklldniapombiaa

namespace Go.Proofs.Ytklldniapombiaa
set_option maxRecDepth 100000
open Go.RowKit
/-- The block b holds one slice for each list. -/
def Parts (w : World) (b : Nat) (L : List (List Evt)) : Prop :=
  ∀ j, j < L.length → ∃ A c, w.cell? ⟨b, j, none⟩ = some (.slice A (L.getD j []).length c) ∧ Evs w A (L.getD j []).length (L.getD j [])
theorem flat_step (L : List (List Evt)) (k : Nat) (h : k < L.length) : (L.take (k + 1)).flatten = (L.take k).flatten ++ L.getD k [] := by
  rw [List.take_succ_eq_append_getElem h, List.flatten_append]; simp [h]
theorem flat_le (L : List (List Evt)) (k : Nat) : (L.take k).flatten.length ≤ L.flatten.length := by
  have : L.flatten = (L.take k).flatten ++ (L.drop k).flatten := by rw [← List.flatten_append, List.take_append_drop]
  rw [this, List.length_append]
  omega
theorem flat_end (L : List (List Evt)) (k : Nat) (h : L.length ≤ k) : (L.take k).flatten = L.flatten := by rw [List.take_of_length_le h]
set_option maxHeartbeats 4000000 in
theorem concat_any (b cap : Nat) (L : List (List Evt)) (w : World) (hL : L.length ≤ 1000000) (hb : b < w.heap.size) (hP : Parts w b L) (hT : L.flatten.length ≤ 1000000000) :
    Calls Try.prog 130 #[.slice (some ⟨b, 0, none⟩) L.length cap] w (NewSl L.flatten w) := by
  obtain ⟨i0, hi0, hz0, hz1, hz2⟩ := info_parts info74
  have INF := Lib.hid (And.intro hi0 (And.intro hz0 (And.intro hz1 hz2)))
  have SIX := Lib.hid (show 0 < 6 by omega)
  have HP := Lib.hid hP
  have FS := Lib.hid (flat_step L)
  have FL := Lib.hid (flat_le L)
  have FE := Lib.hid (flat_end L)
  have HT := Lib.hid hT
  clear hi0 hz0 hz1 hz2 hP hT
  go_enter Try.func130, Try.ntmps130
  go_wp2
  go_loopw [3, 11] (fun s i wr => (∃ k : Nat, k ≤ L.length ∧ i = .int .i64 k ∧ s = .int .i64 ((L.take k).flatten.length : Nat)) ∧ Up w wr) (fun _ i _ => L.length - (intOf i).toNat)
  case atStart => exact ⟨⟨0, by omega, rfl, rfl⟩, Up.refl _⟩
  case round =>
    obtain ⟨⟨k, hk, rfl, rfl⟩, ur⟩ := hrel
    by_cases hlt : k < L.length
    · obtain ⟨A, c, hcell, _⟩ := HP.out k hlt
      have cell' := (ur.cells b k hb).trans hcell
      clear hcell
      have st := congrArg List.length (FS.out k hlt)
      rw [List.length_append] at st
      have le := FL.out (k + 1)
      have ht := HT.out
      generalize (L.getD k []).length = m at st cell'
      generalize hs2 : (L.take (k + 1)).flatten.length = s2 at st le
      have HS2 := Lib.hid hs2
      clear hs2
      generalize (L.take k).flatten.length = s at st
      have ST := Lib.hid st
      have sm : s + m ≤ 1000000000 := by omega
      clear st le ht
      have i3 : (k : Int) < L.length := by omega
      have i4 : IntKind.i64.wrap ((s : Int) + m) = (s : Int) + m := IntWalk.i64_in _ (by omega)
      have i5 : ¬ (s : Int) + m < 0 := by omega
      have hb' : b < wr.heap.size := by have := ur.size; omega
      go_wp2
      go_roundw
      case rel => exact ⟨⟨k + 1, by omega, by go_num, by rw [HS2.out, ST.out]; simp⟩, ur⟩
      case measure => simp [intOf]; omega
    · have i3 : ¬ (k : Int) < L.length := by omega
      rw [FE.out k (by omega)]
      have ht := HT.out
      generalize hN : L.flatten.length = N at ht
      have HN := Lib.hid hN
      clear hN
      go_wp2_with fail
      refine (grow_any N _ (by omega)).mono ?_; rintro x w1 ⟨v1, rfl, o1, u1⟩
      have O1 := Lib.hid (own_mono o1 ur.size)
      have U1 := Lib.hid (ur.trans u1)
      clear o1 u1 ur i3 hk ht
      go_wp2_with fail
      go_loopw [6, 27] (fun v i wr => (∃ k : Nat, k ≤ L.length ∧ i = .int .i64 k ∧ wr.ownsRow w.heap.size 74 6 v (L.take k).flatten.length (flat (L.take k).flatten)) ∧ Up w wr) (fun _ i _ => L.length - (intOf i).toNat)
      case atStart => exact ⟨⟨0, by omega, rfl, O1.out⟩, U1.out⟩
      case round =>
        obtain ⟨⟨k, hk, rfl, ho⟩, ur⟩ := hrel
        have HO := Lib.hid ho
        clear ho U1
        by_cases hlt : k < L.length
        · obtain ⟨A, c, hcell, hev⟩ := HP.out k hlt
          have cell' := (ur.cells b k hb).trans hcell
          have RD := Lib.hid (hev.up ur).reads
          clear hcell hev
          have fk := FS.out k hlt
          have st := congrArg List.length (FS.out k hlt)
          rw [List.length_append] at st
          generalize L.getD k [] = es at cell' RD fk st
          have FK := Lib.hid fk
          clear fk
          have ht := HT.out
          have le := FL.out (k + 1)
          have HMX := Lib.hid (show (L.take k).flatten.length + es.length ≤ maxLen by simp only [maxLen]; omega)
          have HBY := Lib.hid (show ((L.take k).flatten.length + es.length) * 48 ≤ 140737488355328 by omega)
          have HBS := Lib.hid ur.size
          have ST := Lib.hid st
          clear st ht le
          have i3 : (k : Int) < L.length := by omega
          have hb' : b < wr.heap.size := by have := HBS.out; omega
          go_wp2_with (at_builtin; refine wpList_append_any _ rfl (.tmp 31) (.tmp 32) 34 rfl w.heap.size 74 i0 _ 6 48 Try.underlying34 INF.out.1 INF.out.2.1 INF.out.2.2.1 INF.out.2.2.2 rfl SIX.out _ _ _ rfl HO.out _ _ _ _ (flat es) rfl RD.out (flat_one _) HMX.out HBY.out HBS.out ?_; intro v2 w2 ho2 hg2 _)
          have HO2 := Lib.hid ho2
          have HG2 := Lib.hid hg2
          clear ho2 hg2
          go_roundw
          case rel => exact ⟨⟨k + 1, by omega, by go_num, by rw [FK.out, flat_app, List.length_append]; exact HO2.out⟩, ur.grown HG2.out (fun j hj => (HO.out.lt j hj).1)⟩
          case measure => simp [intOf]; omega
        · have i3 : ¬ (k : Int) < L.length := by omega
          have HO2 := Lib.hid (show wr.ownsRow w.heap.size 74 6 _ L.flatten.length (flat L.flatten) from FE.out k (by omega) ▸ HO.out)
          go_wp2; go_ret
          exact NewSl.of_own HO2.out ur
end Go.Proofs.Ytklldniapombiaa

namespace Go.Proofs.Ytklldniapombiaa
set_option maxRecDepth 100000
open Go.RowKit
theorem concat2 (A1 : Option Addr) (n1 c1 : Nat) (es1 : List Evt) (A2 : Option Addr) (n2 c2 : Nat) (es2 : List Evt) (W : World) (h1 : Evs W A1 n1 es1) (h2 : Evs W A2 n2 es2) (hT : n1 + n2 ≤ 1000000000) :
    Calls Try.prog 130 #[.slice (some ⟨W.heap.size, 0, none⟩) 2 2] (W.alloc (.cells #[.slice A1 n1 c1, .slice A2 n2 c2] 34)) (NewSl (es1 ++ es2) (W.alloc (.cells #[.slice A1 n1 c1, .slice A2 n2 c2] 34))) := by
  obtain rfl := h1.1; obtain rfl := h2.1
  have hh := heap_alloc_new W (.cells #[.slice A1 es1.length c1, .slice A2 es2.length c2] 34)
  have := concat_any W.heap.size 2 [es1, es2] (W.alloc (.cells #[.slice A1 es1.length c1, .slice A2 es2.length c2] 34)) (by simp) (by simp) (fun j hj => by
    have h : j = 0 ∨ j = 1 := by simp at hj; omega
    rcases h with rfl | rfl
    · exact ⟨A1, c1, by rw [cell_of_row _ _ 0 _ _ _ hh]; rfl, h1.up ((Up.refl W).alloc _)⟩
    · exact ⟨A2, c2, by rw [cell_of_row _ _ 1 _ _ _ hh]; rfl, h2.up ((Up.refl W).alloc _)⟩) (by simpa using hT)
  simpa using this
end Go.Proofs.Ytklldniapombiaa

/-
  Values in new blocks, in one sentence: models, lists, results, new blocks that may be written, each kept as memory grows; no condition is made.
  What stands in the slots of FnExactCmpDo's regions, in one sentence: copies in new blocks, results, new blocks; no condition is made.
  Slices of structs of numbers, by their width, in one sentence: rows of cells, what marks lay there, what is kept; no condition is made.
  What marks do to component states, events and records, in one sentence: they are laid one behind the other, and held; for every slice of the call's own.
  Sequential simulators in memory, in one sentence: lists of component states and of records, and when two are the same; for all that lie in memory.
-/
import Derived.Test.YtklldniapombiaaDLEwev01
import Derived.Test.YtklldniapombiaaDLEwev03
import Derived.Test.YtklldniapombiaaDLEwev06
import Derived.Test.YtklldniapombiaaDLEwev07
import Derived.Test.YtklldniapombiaaDLEwev08
import Derived.Test.YtklldniapombiaaDLEwev09
namespace Go.Proofs.Ytklldniapombiaa
set_option maxRecDepth 100000
open Go.RowKit
theorem two_up {w w' : World} {b0 b1 : Nat} {x0 x1 x2 y0 y1 y2 : Value} (u : Up w w')
    (h : b0 < w.heap.size ∧ b1 < w.heap.size ∧ w.cell? ⟨b0, 0, none⟩ = some x0 ∧ w.cell? ⟨b0, 1, none⟩ = some x1 ∧ w.cell? ⟨b0, 2, none⟩ = some x2 ∧ w.cell? ⟨b1, 0, none⟩ = some y0 ∧ w.cell? ⟨b1, 1, none⟩ = some y1 ∧ w.cell? ⟨b1, 2, none⟩ = some y2) :
    b0 < w'.heap.size ∧ b1 < w'.heap.size ∧ w'.cell? ⟨b0, 0, none⟩ = some x0 ∧ w'.cell? ⟨b0, 1, none⟩ = some x1 ∧ w'.cell? ⟨b0, 2, none⟩ = some x2 ∧ w'.cell? ⟨b1, 0, none⟩ = some y0 ∧ w'.cell? ⟨b1, 1, none⟩ = some y1 ∧ w'.cell? ⟨b1, 2, none⟩ = some y2 := by
  obtain ⟨h0, h1, k0, k1, k2, l0, l1, l2⟩ := h
  have := u.size
  exact ⟨by omega, by omega, (u.cells _ _ h0).trans k0, (u.cells _ _ h0).trans k1, (u.cells _ _ h0).trans k2, (u.cells _ _ h1).trans l0, (u.cells _ _ h1).trans l1, (u.cells _ _ h1).trans l2⟩
end Go.Proofs.Ytklldniapombiaa

namespace Go.Proofs.Ytklldniapombiaa
set_option maxRecDepth 100000
open Go.RowKit
theorem Box3.ints {lo hi : Nat} {w w' : World} {b : Nat} {i j l : Value} (h : Box3 w b i j l) (m : Ints lo hi w w') (hb : hi ≤ b) : Box3 w' b i j l :=
  h.keep m.size (fun o => m.cells b o h.lt (.inr hb))
theorem eqCst_any (a b : Cst) (w : World) : Calls Try.prog 138 #[a.v, b.v] w fun x w' => x = .returned (.bool (decide (a = b))) ∧ Up w w' := by
  obtain ⟨a0, a1, a2⟩ := a; obtain ⟨b0, b1, b2⟩ := b
  have hf := Lib.hid (show decide ((⟨a0, a1, a2⟩ : Cst) = ⟨b0, b1, b2⟩) = (decide (a0 = b0) && (decide (a1 = b1) && decide (a2 = b2))) by rw [Bool.eq_iff_iff]; simp)
  generalize decide ((⟨a0, a1, a2⟩ : Cst) = ⟨b0, b1, b2⟩) = r at hf ⊢
  unfold Cst.v; dsimp only
  by_cases h0 : a0 = b0
  · by_cases h1 : a1 = b1
    · by_cases h2 : a2 = b2
      · have HR := Lib.hid (show r = true by rw [hf.out]; simp [h0, h1, h2])
        subst h0 h1 h2; clear hf
        go_enter Try.func138, Try.ntmps138
        go_wp2; go_ret
        exact ⟨ret_bool HR.out.symm, ((Up.refl _).alloc _).alloc _⟩
      · have HR := Lib.hid (show r = false by rw [hf.out]; simp [h2])
        have h2' : (a2 != b2) = true := by simp [h2]
        subst h0 h1; clear hf
        go_enter Try.func138, Try.ntmps138
        go_wp2; go_ret
        exact ⟨ret_bool HR.out.symm, ((Up.refl _).alloc _).alloc _⟩
    · have HR := Lib.hid (show r = false by rw [hf.out]; simp [h1])
      have h1' : (a1 != b1) = true := by simp [h1]
      subst h0; clear hf
      go_enter Try.func138, Try.ntmps138
      go_wp2; go_ret
      exact ⟨ret_bool HR.out.symm, ((Up.refl _).alloc _).alloc _⟩
  · have HR := Lib.hid (show r = false by rw [hf.out]; simp [h0])
    have h0' : (a0 != b0) = true := by simp [h0]
    clear hf
    go_enter Try.func138, Try.ntmps138
    go_wp2; go_ret
    exact ⟨ret_bool HR.out.symm, ((Up.refl _).alloc _).alloc _⟩
end Go.Proofs.Ytklldniapombiaa

namespace Go.Proofs.Ytklldniapombiaa
set_option maxRecDepth 100000
open Go.RowKit
/-- One more, so many times. -/
def incr (K : Int) : Nat → Int
  | 0 => K
  | j + 1 => incr K j + 1
theorem incr_eq (K : Int) : ∀ j : Nat, incr K j = K + j
  | 0 => by simp [incr]
  | j + 1 => by rw [incr, incr_eq K j]; omega
/-- The world with numbers laid one behind the other. -/
def putN (w : World) (g o : Nat) (K : Int) : Nat → World
  | 0 => w
  | j + 1 => (putN w g o K j).setCell ⟨g, o + j, none⟩ (.int .i64 (incr K j))
theorem putN_other (w : World) (g o : Nat) (K : Int) (b p : Nat) : ∀ s : Nat, (b ≠ g ∨ p < o ∨ o + s ≤ p) → (putN w g o K s).cell? ⟨b, p, none⟩ = w.cell? ⟨b, p, none⟩
  | 0, _ => rfl
  | s + 1, h => by rw [putN, World.cell?_setCell_other _ _ _ _ (addr_ne (by omega)), putN_other w g o K b p s (by omega)]
theorem putN_frozen (w : World) (g o : Nat) (K : Int) (a : Addr) : ∀ s : Nat, (putN w g o K s).frozen? a = w.frozen? a
  | 0 => rfl
  | s + 1 => by
    have := putN_frozen w g o K a s
    simpa [putN, go_sem] using this
theorem putN_size (w : World) (g o : Nat) (K : Int) : ∀ s : Nat, (putN w g o K s).heap.size = w.heap.size
  | 0 => rfl
  | s + 1 => by
    have := putN_size w g o K s
    simpa [putN] using this
theorem putN_at (w : World) (g o : Nat) (K : Int) : ∀ s : Nat, (∀ j, j < s → ∃ v, w.cell? ⟨g, o + j, none⟩ = some v) → ∀ j, j < s → (putN w g o K s).cell? ⟨g, o + j, none⟩ = some (.int .i64 (incr K j))
  | 0, _, j, hj => absurd hj (by omega)
  | s + 1, h, j, hj => by
    rw [putN]
    by_cases e : j = s
    · subst e
      obtain ⟨v, hv⟩ := h j (by omega)
      exact World.cell?_setCell_same _ _ _ ((putN_other w g o K g (o + j) j (by omega)).trans hv)
    · rw [World.cell?_setCell_other _ _ _ _ (addr_ne (by omega))]
      exact putN_at w g o K s (fun i hi => h i (by omega)) j (by omega)
theorem Mv.putN {g : Nat} {a w : World} (h : Mv g a w) (o : Nat) (K : Int) : ∀ s : Nat, Mv g a (Go.Proofs.Ytklldniapombiaa.putN w g o K s)
  | 0 => h
  | s + 1 => (Mv.putN h o K s).setCell _
/-- A block of the call's own of so many numbers. -/
def IntsOwn (w : World) (g N : Nat) : Prop := g < w.heap.size ∧ ∀ j, j < N → IntC w g j
theorem IntsOwn.up {w w' : World} {g N : Nat} (h : IntsOwn w g N) (u : Up w w') : IntsOwn w' g N :=
  ⟨Nat.lt_of_lt_of_le h.1 u.size, fun j hj => by
    obtain ⟨⟨z, hz⟩, hf⟩ := h.2 j hj
    exact ⟨⟨z, (u.cells _ _ h.1).trans hz⟩, (u.frozens _ _ h.1).trans hf⟩⟩
theorem IntsOwn.mv {w w' : World} {g k N : Nat} (h : IntsOwn w g N) (u : Mv k w w') (hne : g ≠ k) : IntsOwn w' g N :=
  ⟨Nat.lt_of_lt_of_le h.1 u.size, fun j hj => by
    obtain ⟨⟨z, hz⟩, hf⟩ := h.2 j hj
    exact ⟨⟨z, (u.cells _ _ h.1 hne).trans hz⟩, (u.frozens _ _ h.1 hne).trans hf⟩⟩
theorem IntsOwn.put {w : World} {g N o s : Nat} {K : Int} (h : IntsOwn w g N) : IntsOwn (Go.Proofs.Ytklldniapombiaa.putN w g o K s) g N := by
  refine ⟨by rw [putN_size]; exact h.1, fun j hj => ?_⟩; obtain ⟨⟨z, hz⟩, hf⟩ := h.2 j hj; refine ⟨?_, (putN_frozen _ _ _ _ _ _).trans hf⟩
  induction s with
  | zero => exact ⟨z, hz⟩
  | succ s ih =>
    obtain ⟨z', hz'⟩ := ih; rw [putN]
    by_cases e : o + s = j
    · subst e
      exact ⟨_, World.cell?_setCell_same _ _ _ hz'⟩
    · exact ⟨z', (World.cell?_setCell_other _ _ _ _ (addr_ne (by omega))).trans hz'⟩
/-- The marks lie there: row i begins with k0 + s i. -/
def Held (w : World) (A : Option Addr) (n s : Nat) (k0 : Int) : Prop :=
  0 < n → ∃ b off, A = some ⟨b, off, none⟩ ∧ b < w.heap.size ∧ ∀ i, i < n → ∀ j, j < s → w.cell? ⟨b, off + i * s + j, none⟩ = some (.int .i64 (incr (k0 + (s : Int) * (i : Int)) j))
theorem Held.up {w w' : World} {A : Option Addr} {n s : Nat} {k0 : Int} (h : Held w A n s k0) (u : Up w w') : Held w' A n s k0 := fun hn => by
  obtain ⟨b, off, hA, hb, hc⟩ := h hn
  exact ⟨b, off, hA, Nat.lt_of_lt_of_le hb u.size, fun i hi j hj => (u.cells _ _ hb).trans (hc i hi j hj)⟩
theorem Held.mv {w w' : World} {A : Option Addr} {n s g : Nat} {k0 : Int} (h : Held w A n s k0) (m : Mv g w w') (hne : ∀ b off, A = some ⟨b, off, none⟩ → b ≠ g) : Held w' A n s k0 := fun hn => by
  obtain ⟨b, off, hA, hb, hc⟩ := h hn
  exact ⟨b, off, hA, Nat.lt_of_lt_of_le hb m.size, fun i hi j hj => (m.cells _ _ hb (hne b off hA)).trans (hc i hi j hj)⟩
theorem Held.none_ (w : World) (A : Option Addr) (s : Nat) (k0 : Int) : Held w A 0 s k0 := fun h => absurd h (by omega)
/-- On the way: k rows are laid. -/
def HeldTo (w : World) (g n s k : Nat) (k0 : Int) : Prop := IntsOwn w g (n * s) ∧ ∀ i, i < k → ∀ j, j < s → w.cell? ⟨g, i * s + j, none⟩ = some (.int .i64 (incr (k0 + (s : Int) * (i : Int)) j))
theorem HeldTo.step {w : World} {g n s k : Nat} {k0 : Int} (h : HeldTo w g n s k k0) (hk : k < n) : HeldTo (Go.Proofs.Ytklldniapombiaa.putN w g (k * s) (k0 + (s : Int) * (k : Int)) s) g n s (k + 1) k0 := by
  have le1 : (k + 1) * s ≤ n * s := Nat.mul_le_mul_right s (by omega)
  have e1 : (k + 1) * s = k * s + s := by rw [Nat.add_mul, Nat.one_mul]
  refine ⟨h.1.put, fun i hi j hj => ?_⟩
  by_cases hik : i = k
  · subst hik
    exact putN_at w g (i * s) _ s (fun j hj => by
      obtain ⟨⟨z, hz⟩, _⟩ := h.1.2 (i * s + j) (by omega)
      exact ⟨_, hz⟩) j hj
  · have le2 : (i + 1) * s ≤ k * s := Nat.mul_le_mul_right s (by omega)
    have e2 : (i + 1) * s = i * s + s := by rw [Nat.add_mul, Nat.one_mul]
    exact (putN_other w g (k * s) _ g (i * s + j) s (by omega)).trans (h.2 i (by omega) j hj)
theorem HeldTo.held {w : World} {g n s : Nat} {k0 : Int} (h : HeldTo w g n s n k0) : Held w (some ⟨g, 0, none⟩) n s k0 := fun _ => ⟨g, 0, rfl, h.1.1, fun i hi j hj => by rw [Nat.zero_add]; exact h.2 i hi j hj⟩
end Go.Proofs.Ytklldniapombiaa

namespace Go.Proofs.Ytklldniapombiaa
set_option maxRecDepth 100000
open Go.RowKit
theorem markC_no (A : Option Addr) (c : Nat) (k0 : Int) (w : World) : Calls Try.prog 87 #[.slice A 0 c, .int .i64 k0] w fun x w' => x = .returned (.int .i64 k0) ∧ Up w w' := by
  go_enter Try.func87, Try.ntmps87
  go_wp2
  go_loopw [1, 5] (fun m i wr => m = .int .i64 k0 ∧ i = .int .i64 0 ∧ Up w wr) (fun _ _ _ => 0)
  case atStart => exact ⟨rfl, rfl, Up.refl _⟩
  case round =>
    obtain ⟨rfl, rfl, u⟩ := hrel; go_wp2; go_ret
    exact ⟨rfl, u⟩
theorem markE_no (A : Option Addr) (c : Nat) (k0 : Int) (w : World) : Calls Try.prog 32 #[.slice A 0 c, .int .i64 k0] w fun x w' => x = .returned (.int .i64 k0) ∧ Up w w' := by
  go_enter Try.func32, Try.ntmps32
  go_wp2
  go_loopw [1, 5] (fun m i wr => m = .int .i64 k0 ∧ i = .int .i64 0 ∧ Up w wr) (fun _ _ _ => 0)
  case atStart => exact ⟨rfl, rfl, Up.refl _⟩
  case round =>
    obtain ⟨rfl, rfl, u⟩ := hrel; go_wp2; go_ret
    exact ⟨rfl, u⟩
theorem markR_no (A : Option Addr) (c : Nat) (k0 : Int) (w : World) : Calls Try.prog 88 #[.slice A 0 c, .int .i64 k0] w fun x w' => x = .returned (.int .i64 k0) ∧ Up w w' := by
  go_enter Try.func88, Try.ntmps88
  go_wp2
  go_loopw [1, 5] (fun m i wr => m = .int .i64 k0 ∧ i = .int .i64 0 ∧ Up w wr) (fun _ _ _ => 0)
  case atStart => exact ⟨rfl, rfl, Up.refl _⟩
  case round =>
    obtain ⟨rfl, rfl, u⟩ := hrel; go_wp2; go_ret
    exact ⟨rfl, u⟩
end Go.Proofs.Ytklldniapombiaa

namespace Go.Proofs.Ytklldniapombiaa
set_option maxRecDepth 100000
open Go.RowKit
/-- A record: the event, and the state behind it. -/
structure Rec where
  ev : Evt
  s : Int
deriving DecidableEq
instance : Inhabited Rec := ⟨⟨default, 0⟩⟩
instance : Inhabited Cst := ⟨⟨0, 0, 0⟩⟩
def Rec.v (r : Rec) : Value := .agg #[.int .i64 r.ev.t, .int .i64 r.ev.to, .int .i64 r.ev.fr, .int .i64 r.ev.sq, .int .i64 r.ev.kd, .int .i64 r.ev.dt, .int .i64 r.s]
/-- A sequential simulator. -/
structure Sq where
  comps : List Cst
  wait : List Evt
  log : List Rec
deriving DecidableEq
/-- The cells of one, from o on. -/
def CstAt (w : World) (b o : Nat) (x : Cst) : Prop :=
  w.cell? ⟨b, o, none⟩ = some (.int .i64 x.s) ∧ w.cell? ⟨b, o + 1, none⟩ = some (.int .i64 x.sq) ∧ w.cell? ⟨b, o + 2, none⟩ = some (.int .i64 x.ct)
/-- The slice at A of n elements holds the list. -/
def Csts (w : World) (A : Option Addr) (n : Nat) (xs : List Cst) : Prop :=
  xs.length = n ∧ (0 < n → ∃ b off, A = some ⟨b, off, none⟩ ∧ b < w.heap.size ∧ ∀ i, i < n → CstAt w b (off + i * 3) (xs.getD i default))
theorem CstAt.keep {w w' : World} {b o : Nat} {x : Cst} (h : CstAt w b o x) (k : ∀ j, w'.cell? ⟨b, j, none⟩ = w.cell? ⟨b, j, none⟩) : CstAt w' b o x := by
  obtain ⟨h0, h1, h2⟩ := h
  exact ⟨(k _).trans h0, (k _).trans h1, (k _).trans h2⟩
theorem CstAt.up {w w' : World} {b o : Nat} {x : Cst} (h : CstAt w b o x) (u : Up w w') (hb : b < w.heap.size) : CstAt w' b o x := h.keep fun j => u.cells b j hb
theorem Csts.up {w w' : World} {A : Option Addr} {n : Nat} {xs : List Cst} (h : Csts w A n xs) (u : Up w w') : Csts w' A n xs :=
  ⟨h.1, fun hn => by
    obtain ⟨b, off, hA, hb, hc⟩ := h.2 hn
    exact ⟨b, off, hA, Nat.lt_of_lt_of_le hb u.size, fun i hi => (hc i hi).up u hb⟩⟩
/-- The cells of one, from o on. -/
def RecAt (w : World) (b o : Nat) (x : Rec) : Prop :=
  w.cell? ⟨b, o, none⟩ = some (.int .i64 x.ev.t) ∧ w.cell? ⟨b, o + 1, none⟩ = some (.int .i64 x.ev.to) ∧ w.cell? ⟨b, o + 2, none⟩ = some (.int .i64 x.ev.fr) ∧ w.cell? ⟨b, o + 3, none⟩ = some (.int .i64 x.ev.sq) ∧ w.cell? ⟨b, o + 4, none⟩ = some (.int .i64 x.ev.kd) ∧ w.cell? ⟨b, o + 5, none⟩ = some (.int .i64 x.ev.dt) ∧ w.cell? ⟨b, o + 6, none⟩ = some (.int .i64 x.s)
/-- The slice at A of n elements holds the list. -/
def Recs (w : World) (A : Option Addr) (n : Nat) (xs : List Rec) : Prop :=
  xs.length = n ∧ (0 < n → ∃ b off, A = some ⟨b, off, none⟩ ∧ b < w.heap.size ∧ ∀ i, i < n → RecAt w b (off + i * 7) (xs.getD i default))
theorem RecAt.keep {w w' : World} {b o : Nat} {x : Rec} (h : RecAt w b o x) (k : ∀ j, w'.cell? ⟨b, j, none⟩ = w.cell? ⟨b, j, none⟩) : RecAt w' b o x := by
  obtain ⟨h0, h1, h2, h3, h4, h5, h6⟩ := h
  exact ⟨(k _).trans h0, (k _).trans h1, (k _).trans h2, (k _).trans h3, (k _).trans h4, (k _).trans h5, (k _).trans h6⟩
theorem RecAt.up {w w' : World} {b o : Nat} {x : Rec} (h : RecAt w b o x) (u : Up w w') (hb : b < w.heap.size) : RecAt w' b o x := h.keep fun j => u.cells b j hb
theorem Recs.up {w w' : World} {A : Option Addr} {n : Nat} {xs : List Rec} (h : Recs w A n xs) (u : Up w w') : Recs w' A n xs :=
  ⟨h.1, fun hn => by
    obtain ⟨b, off, hA, hb, hc⟩ := h.2 hn
    exact ⟨b, off, hA, Nat.lt_of_lt_of_le hb u.size, fun i hi => (hc i hi).up u hb⟩⟩
theorem eqT_drop {α : Type} [DecidableEq α] (d : α) (es fs : List α) (hl : es.length = fs.length) (k : Nat) (h : k < es.length) : decide (es.drop k = fs.drop k) = (decide (es.getD k d = fs.getD k d) && decide (es.drop (k + 1) = fs.drop (k + 1))) := by
  have h2 : k < fs.length := by omega
  have g1 : es.getD k d = es[k] := by simp [h]
  have g2 : fs.getD k d = fs[k] := by simp [h2]
  rw [List.drop_eq_getElem_cons h, List.drop_eq_getElem_cons h2, g1, g2, Bool.eq_iff_iff, Bool.and_eq_true, decide_eq_true_iff, decide_eq_true_iff, decide_eq_true_iff, List.cons.injEq]
set_option maxHeartbeats 4000000 in
theorem eqC_any (A B : Option Addr) (n m capa capb : Nat) (es fs : List Cst) (w : World) (hn : n ≤ 1000000000) (hE : Csts w A n es) (hF : Csts w B m fs) :
    Calls Try.prog 84 #[.slice A n capa, .slice B m capb] w fun x w' => x = .returned (.bool (decide (es = fs))) ∧ Up w w' := by
  by_cases hnm : n = m
  · subst hnm
    have H0 := Lib.hid (show decide (es.drop 0 = fs.drop 0) = decide (es = fs) from rfl)
    have ST := Lib.hid (eqT_drop default es fs (by rw [hE.1, hF.1]))
    have HE := Lib.hid hE
    have HF := Lib.hid hF
    have LE := Lib.hid hE.1
    have LF := Lib.hid hF.1
    have CL := Lib.hid (fun a b W => eqCst_any a b W)
    generalize hr : decide (es = fs) = res at H0 ⊢
    clear hE hF hr
    go_enter Try.func84, Try.ntmps84
    go_wp2
    go_loopw [5] (fun i wr => (∃ k : Nat, k ≤ n ∧ i = .int .i64 k ∧ Hid (decide (es.drop k = fs.drop k) = res)) ∧ Up w wr) (fun i _ => n - (intOf i).toNat)
    case atStart => exact ⟨⟨0, by omega, rfl, H0⟩, Up.refl _⟩
    case round =>
      obtain ⟨⟨k, hk, rfl, HR⟩, ur⟩ := hrel
      by_cases hlt : k < n
      · obtain ⟨b, off, hA, hb, hc⟩ := HE.out.2 (by omega)
        obtain ⟨b2, off2, hA2, hb2, hc2⟩ := HF.out.2 (by omega); subst hA hA2
        have a0 := (hc k hlt).up ur hb
        have a1 := (hc2 k hlt).up ur hb2
        have hb' : b < wr.heap.size := by have := ur.size; omega
        have hb2' : b2 < wr.heap.size := by have := ur.size; omega
        clear hc hc2
        have S := ST.out k (by rw [LE.out]; exact hlt)
        have cl := CL.out (es.getD k default) (fs.getD k default)
        generalize es.getD k default = p at a0 S cl
        generalize fs.getD k default = q at a1 S cl
        have S' := Lib.hid S
        clear S
        generalize decide (p = q) = r at S' cl
        unfold CstAt at a0 a1; unfold Cst.v at cl; obtain ⟨p0, p1, p2⟩ := a0; obtain ⟨q0, q1, q2⟩ := a1
        have C := Lib.hid cl
        clear cl
        have i4 : (k : Int) < n := by omega
        have UR := Lib.hid ur
        clear ur
        go_wp2_with fail
        refine region_qw (by kernel_rfl) (by kernel_rfl) ?_; refine qWalk_step ?_; intro K hK; go_simp; apply Exists.intro; refine And.intro ?_ ?_
        · intro w1 hw1
          try go_simp
          try rfl
        try go_simp
        refine hK _ ?_; clear hK K; refine qWalk_step ?_; intro K hK; go_simp; apply Exists.intro; refine And.intro ?_ ?_
        · intro w1 hw1
          try go_simp
          try rfl
        try go_simp
        refine hK _ ?_; clear hK K; refine qWalk_step ?_; intro K hK; go_simp; apply Exists.intro; refine And.intro ?_ ?_
        · intro w1 hw1
          try go_simp
          try rfl
        try go_simp
        refine hK _ ?_; clear hK K; refine qWalk_step ?_; intro K hK; go_simp; apply Exists.intro; refine And.intro ?_ ?_
        · intro w1 hw1
          obtain ⟨hc, hf, hz⟩ := hw1.facts
          try simp at hz
          try go_simp
          try rfl
        try go_simp
        refine hK _ ?_; clear hK K; refine qWalk_step ?_; intro K hK; go_simp; apply Exists.intro; refine And.intro ?_ ?_
        · intro w1 hw1
          try go_simp
          try rfl
        try go_simp
        refine hK _ ?_; clear hK K; refine qWalk_step ?_; intro K hK; go_simp; apply Exists.intro; refine And.intro ?_ ?_
        · intro w1 hw1
          try go_simp
          try rfl
        try go_simp
        refine hK _ ?_; clear hK K; refine qWalk_step ?_; intro K hK; go_simp; apply Exists.intro; refine And.intro ?_ ?_
        · intro w1 hw1
          try go_simp
          try rfl
        try go_simp
        refine hK _ ?_; clear hK K; refine qWalk_step ?_; intro K hK; go_simp; apply Exists.intro; refine And.intro ?_ ?_
        · intro w1 hw1
          obtain ⟨hc, hf, hz⟩ := hw1.facts
          try simp at hz
          try go_simp
          try rfl
        try go_simp
        refine hK _ ?_; clear hK K; refine qWalk_step ?_; intro K hK; go_simp; apply Exists.intro; refine And.intro ?_ ?_
        · intro w1 hw1
          try go_simp
          exact up_call hw1 (C.out _)
        try go_simp
        refine hK _ ?_; clear hK K; refine qWalk_step ?_; intro K hK; go_simp; apply Exists.intro; refine And.intro ?_ ?_
        · intro w1 hw1
          try go_simp
          try rfl
        try go_simp
        refine hK _ ?_; clear hK K; refine qWalk_nil ?_; intro wA uA
        have UA := Lib.hid (UR.out.trans uA)
        clear uA p0 p1 p2 q0 q1 q2 C
        cases r
        · go_wp2
          go_ret
          exact ⟨ret_bool (by rw [← HR.out, S'.out]; rfl), UA.out⟩
        · have RN := Lib.hid (show decide (es.drop (k + 1) = fs.drop (k + 1)) = res by rw [← HR.out, S'.out]; rfl)
          go_wp2
          go_roundw
          case rel => exact ⟨⟨k + 1, by omega, by go_num, RN⟩, UA.out⟩
          case measure => simp [intOf]; omega
      · have e : decide (es.drop k = fs.drop k) = true := by rw [List.drop_eq_nil_of_le (by rw [LE.out]; omega), List.drop_eq_nil_of_le (by rw [LF.out]; omega)]; rfl
        have E := Lib.hid e
        have i4 : ¬ (k : Int) < n := by omega
        clear e; go_wp2; go_ret
        exact ⟨ret_bool (by rw [← HR.out, E.out]), ur⟩
  · have hf := Lib.hid (show decide (es = fs) = false from decide_eq_false fun h => hnm (by rw [← hE.1, ← hF.1, h]))
    generalize decide (es = fs) = r at hf ⊢
    have hne : ((n : Int) != (m : Int)) = true := by rw [bne_iff_ne]; omega
    have HN := Lib.hid hnm
    clear hE hF hnm
    go_enter Try.func84, Try.ntmps84
    go_wp2; go_ret
    exact ⟨ret_bool hf.out.symm, Up.refl _⟩
set_option maxHeartbeats 4000000 in
theorem eqRec_any (a b : Rec) (w : World) : Calls Try.prog 139 #[a.v, b.v] w fun x w' => x = .returned (.bool (decide (a = b))) ∧ Up w w' := by
  obtain ⟨⟨a0, a1, a2, a3, a4, a5⟩, a6⟩ := a; obtain ⟨⟨b0, b1, b2, b3, b4, b5⟩, b6⟩ := b
  have hf := Lib.hid (show decide ((⟨⟨a0, a1, a2, a3, a4, a5⟩, a6⟩ : Rec) = ⟨⟨b0, b1, b2, b3, b4, b5⟩, b6⟩) = (eqB ⟨a0, a1, a2, a3, a4, a5⟩ ⟨b0, b1, b2, b3, b4, b5⟩ && decide (a6 = b6)) by unfold eqB; rw [Bool.eq_iff_iff]; simp)
  generalize decide ((⟨⟨a0, a1, a2, a3, a4, a5⟩, a6⟩ : Rec) = ⟨⟨b0, b1, b2, b3, b4, b5⟩, b6⟩) = r at hf ⊢
  have CL := fun W => eqEvt_any ⟨a0, a1, a2, a3, a4, a5⟩ ⟨b0, b1, b2, b3, b4, b5⟩ W
  generalize eqB ⟨a0, a1, a2, a3, a4, a5⟩ ⟨b0, b1, b2, b3, b4, b5⟩ = q at hf CL
  unfold Evt.v at CL; unfold Rec.v; dsimp only at CL ⊢
  have C := Lib.hid CL
  clear CL
  go_enter Try.func139, Try.ntmps139
  go_wp2_with fail
  have ua := Lib.hid (((Up.refl w).alloc (.cells #[.int .i64 a0, .int .i64 a1, .int .i64 a2, .int .i64 a3, .int .i64 a4, .int .i64 a5, .int .i64 a6] 180)).alloc (.cells #[.int .i64 b0, .int .i64 b1, .int .i64 b2, .int .i64 b3, .int .i64 b4, .int .i64 b5, .int .i64 b6] 180))
  refine (C.out _).mono ?_; rintro x w1 ⟨rfl, u1⟩
  have U1 := Lib.hid (ua.out.trans u1)
  obtain ⟨hc, hf1, hz⟩ := u1.facts; simp at hz; clear u1 ua
  cases q
  · have HR := Lib.hid (show r = false by rw [hf.out]; rfl)
    clear hf; go_wp2; go_ret
    exact ⟨ret_bool HR.out.symm, U1.out⟩
  · by_cases h : a6 = b6
    · have HR := Lib.hid (show r = true by rw [hf.out]; simp [h])
      subst h; clear hf; go_wp2; go_ret
      exact ⟨ret_bool HR.out.symm, U1.out⟩
    · have HR := Lib.hid (show r = false by rw [hf.out]; simp [h])
      have h0' : (a6 != b6) = true := by simp [h]
      clear hf; go_wp2; go_ret
      exact ⟨ret_bool HR.out.symm, U1.out⟩
set_option maxHeartbeats 4000000 in
theorem eqR_any (A B : Option Addr) (n m capa capb : Nat) (es fs : List Rec) (w : World) (hn : n ≤ 1000000000) (hE : Recs w A n es) (hF : Recs w B m fs) :
    Calls Try.prog 85 #[.slice A n capa, .slice B m capb] w fun x w' => x = .returned (.bool (decide (es = fs))) ∧ Up w w' := by
  by_cases hnm : n = m
  · subst hnm
    have H0 := Lib.hid (show decide (es.drop 0 = fs.drop 0) = decide (es = fs) from rfl)
    have ST := Lib.hid (eqT_drop default es fs (by rw [hE.1, hF.1]))
    have HE := Lib.hid hE
    have HF := Lib.hid hF
    have LE := Lib.hid hE.1
    have LF := Lib.hid hF.1
    have CL := Lib.hid (fun a b W => eqRec_any a b W)
    generalize hr : decide (es = fs) = res at H0 ⊢
    clear hE hF hr
    go_enter Try.func85, Try.ntmps85
    go_wp2
    go_loopw [5] (fun i wr => (∃ k : Nat, k ≤ n ∧ i = .int .i64 k ∧ Hid (decide (es.drop k = fs.drop k) = res)) ∧ Up w wr) (fun i _ => n - (intOf i).toNat)
    case atStart => exact ⟨⟨0, by omega, rfl, H0⟩, Up.refl _⟩
    case round =>
      obtain ⟨⟨k, hk, rfl, HR⟩, ur⟩ := hrel
      by_cases hlt : k < n
      · obtain ⟨b, off, hA, hb, hc⟩ := HE.out.2 (by omega)
        obtain ⟨b2, off2, hA2, hb2, hc2⟩ := HF.out.2 (by omega); subst hA hA2
        have a0 := (hc k hlt).up ur hb
        have a1 := (hc2 k hlt).up ur hb2
        have hb' : b < wr.heap.size := by have := ur.size; omega
        have hb2' : b2 < wr.heap.size := by have := ur.size; omega
        clear hc hc2
        have S := ST.out k (by rw [LE.out]; exact hlt)
        have cl := CL.out (es.getD k default) (fs.getD k default)
        generalize es.getD k default = p at a0 S cl
        generalize fs.getD k default = q at a1 S cl
        have S' := Lib.hid S
        clear S
        generalize decide (p = q) = r at S' cl
        unfold RecAt at a0 a1; unfold Rec.v at cl; obtain ⟨p0, p1, p2, p3, p4, p5, p6⟩ := a0; obtain ⟨q0, q1, q2, q3, q4, q5, q6⟩ := a1
        have C := Lib.hid cl
        clear cl
        have i4 : (k : Int) < n := by omega
        have UR := Lib.hid ur
        clear ur
        go_wp2_with fail
        refine region_qw (by kernel_rfl) (by kernel_rfl) ?_; refine qWalk_step ?_; intro K hK; go_simp; apply Exists.intro; refine And.intro ?_ ?_
        · intro w1 hw1
          try go_simp
          try rfl
        try go_simp
        refine hK _ ?_; clear hK K; refine qWalk_step ?_; intro K hK; go_simp; apply Exists.intro; refine And.intro ?_ ?_
        · intro w1 hw1
          try go_simp
          try rfl
        try go_simp
        refine hK _ ?_; clear hK K; refine qWalk_step ?_; intro K hK; go_simp; apply Exists.intro; refine And.intro ?_ ?_
        · intro w1 hw1
          try go_simp
          try rfl
        try go_simp
        refine hK _ ?_; clear hK K; refine qWalk_step ?_; intro K hK; go_simp; apply Exists.intro; refine And.intro ?_ ?_
        · intro w1 hw1
          obtain ⟨hc, hf, hz⟩ := hw1.facts
          try simp at hz
          try go_simp
          try rfl
        try go_simp
        refine hK _ ?_; clear hK K; refine qWalk_step ?_; intro K hK; go_simp; apply Exists.intro; refine And.intro ?_ ?_
        · intro w1 hw1
          try go_simp
          try rfl
        try go_simp
        refine hK _ ?_; clear hK K; refine qWalk_step ?_; intro K hK; go_simp; apply Exists.intro; refine And.intro ?_ ?_
        · intro w1 hw1
          try go_simp
          try rfl
        try go_simp
        refine hK _ ?_; clear hK K; refine qWalk_step ?_; intro K hK; go_simp; apply Exists.intro; refine And.intro ?_ ?_
        · intro w1 hw1
          try go_simp
          try rfl
        try go_simp
        refine hK _ ?_; clear hK K; refine qWalk_step ?_; intro K hK; go_simp; apply Exists.intro; refine And.intro ?_ ?_
        · intro w1 hw1
          obtain ⟨hc, hf, hz⟩ := hw1.facts
          try simp at hz
          try go_simp
          try rfl
        try go_simp
        refine hK _ ?_; clear hK K; refine qWalk_step ?_; intro K hK; go_simp; apply Exists.intro; refine And.intro ?_ ?_
        · intro w1 hw1
          try go_simp
          exact up_call hw1 (C.out _)
        try go_simp
        refine hK _ ?_; clear hK K; refine qWalk_step ?_; intro K hK; go_simp; apply Exists.intro; refine And.intro ?_ ?_
        · intro w1 hw1
          try go_simp
          try rfl
        try go_simp
        refine hK _ ?_; clear hK K; refine qWalk_nil ?_; intro wA uA
        have UA := Lib.hid (UR.out.trans uA)
        clear uA p0 p1 p2 p3 p4 p5 p6 q0 q1 q2 q3 q4 q5 q6 C
        cases r
        · go_wp2
          go_ret
          exact ⟨ret_bool (by rw [← HR.out, S'.out]; rfl), UA.out⟩
        · have RN := Lib.hid (show decide (es.drop (k + 1) = fs.drop (k + 1)) = res by rw [← HR.out, S'.out]; rfl)
          go_wp2
          go_roundw
          case rel => exact ⟨⟨k + 1, by omega, by go_num, RN⟩, UA.out⟩
          case measure => simp [intOf]; omega
      · have e : decide (es.drop k = fs.drop k) = true := by rw [List.drop_eq_nil_of_le (by rw [LE.out]; omega), List.drop_eq_nil_of_le (by rw [LF.out]; omega)]; rfl
        have E := Lib.hid e
        have i4 : ¬ (k : Int) < n := by omega
        clear e; go_wp2; go_ret
        exact ⟨ret_bool (by rw [← HR.out, E.out]), ur⟩
  · have hf := Lib.hid (show decide (es = fs) = false from decide_eq_false fun h => hnm (by rw [← hE.1, ← hF.1, h]))
    generalize decide (es = fs) = r at hf ⊢
    have hne : ((n : Int) != (m : Int)) = true := by rw [bne_iff_ne]; omega
    have HN := Lib.hid hnm
    clear hE hF hnm
    go_enter Try.func85, Try.ntmps85
    go_wp2; go_ret
    exact ⟨ret_bool hf.out.symm, Up.refl _⟩
end Go.Proofs.Ytklldniapombiaa

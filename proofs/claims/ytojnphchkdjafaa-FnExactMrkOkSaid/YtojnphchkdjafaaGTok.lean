/-
  Marks and tokens as values, what is valid of them and what a visit makes of them, in one sentence: pure functions of numbers, and what toGvtMark, toGvtTok, eqGvtMark and eqGvtTok return; no condition is made.
-/
import Derived.Test.YtojnphchkdjafaaOk
import Derived.Test.YtojnphchkdjafaaIMdl
import Derived.Test.YtojnphchkdjafaaMEq
namespace Go.Proofs.Ytojnphchkdjafaa
set_option maxRecDepth 100000
open Go.RowKit

/-- A mark. -/
structure Gm where
  r : Int
  e : Int
  o : Int
  l : Int
deriving DecidableEq
instance : Inhabited Gm := ⟨⟨0, 0, 0, 0⟩⟩
def Gm.v (g : Gm) : Value := .agg #[.int .i64 g.r, .int .i64 g.e, .int .i64 g.o, .int .i64 g.l]
def Gm.ok (g : Gm) : Prop := I64 g.r ∧ I64 g.e ∧ I64 g.o ∧ I64 g.l
/-- A token. -/
structure Gk where
  on : Bool
  r : Int
  a : Int
  n : Int
  l : Int
deriving DecidableEq
instance : Inhabited Gk := ⟨⟨false, 0, 0, 0, 0⟩⟩
def Gk.v (t : Gk) : Value := .agg #[.bool t.on, .int .i64 t.r, .int .i64 t.a, .int .i64 t.n, .int .i64 t.l]
def Gk.ok (t : Gk) : Prop := I64 t.r ∧ I64 t.a ∧ I64 t.n ∧ I64 t.l

def gmB (til : Int) (g : Gm) : Bool := inB g.r 0 999 && inB g.e (-9999) 9999 && inB g.o (-9999) 9999 && inB g.l 0 (til + 1)
def gkB (til many : Int) (t : Gk) : Bool := inB t.r 0 999 && inB t.a 0 (many - 1) && inB t.n (-39996) 39996 && inB t.l 0 (til + 1)
def mayV (til : Int) (t : Gk) (g : Gm) (least : Int) : Bool := t.on && inB least 0 (til + 1) && inB (t.r - g.r) 0 1
/-- A visit of a host among so many. -/
def visM (til : Int) (t : Gk) (g : Gm) : Gm := if g.r < t.r then ⟨t.r, g.e, g.o, til + 1⟩ else g
def visG (t : Gk) (g : Gm) : Gm := if t.r % 2 = 1 then ⟨g.r, 0, g.o, g.l⟩ else ⟨g.r, g.e, 0, g.l⟩
def visN (t : Gk) (g : Gm) : Int := if t.r % 2 = 1 then t.n + g.e else t.n + g.o
def visE (til many : Int) (t : Gk) : Gk × Int :=
  if t.a < many then (t, -1) else if t.n = 0 then (⟨false, t.r, 0, t.n, til + 1⟩, t.l) else (⟨t.on, t.r, 0, t.n, til + 1⟩, -1)
def visK (til many : Int) (t : Gk) (g : Gm) (least : Int) : Gk × Gm × Int :=
  let h := visM til t g
  let x := visE til many ⟨t.on, t.r, t.a + 1, visN t h, min t.l (min least h.l)⟩
  (x.1, visG t h, x.2)
def tokB (m : Mdl) (t : Gk) (g : Gm) (least : Int) : Bool := mdlB m && gkB m.til m.rules.length t && gmB m.til g && mayV m.til t g least
def tokP (m : Mdl) (t : Gk) (g : Gm) (least : Int) : Gk × Gm × Int := if tokB m t g least then visK m.til m.rules.length t g least else (default, default, -1)
def tokV (x : Gk × Gm × Int) : Value := .tuple #[x.1.v, x.2.1.v, .int .i64 x.2.2]

/-- A block read. -/
def Bk (w : World) (b : Nat) (arr : Array Value) : Prop := ∃ e, w.heap[b]? = some (.cells arr e (0, 0))
theorem Bk.cell {w : World} {b j : Nat} {arr : Array Value} {v : Value} (h : Bk w b arr) (hv : arr[j]? = some v) : w.cell? ⟨b, j, none⟩ = some v := by
  obtain ⟨e, h⟩ := h
  rw [cell_of_row _ _ j _ _ _ h]
  exact hv
theorem Bk.lt {w : World} {b : Nat} {arr : Array Value} (h : Bk w b arr) : b < w.heap.size := by
  obtain ⟨e, h⟩ := h
  exact (Array.getElem?_eq_some_iff.1 h).1
theorem Bk.frozen {w : World} {b : Nat} {arr : Array Value} (h : Bk w b arr) (j : Nat) : w.frozen? ⟨b, j, none⟩ = false := by
  obtain ⟨e, h⟩ := h
  unfold World.frozen?
  rw [h]
  simp
theorem Bk.up {w w' : World} {b : Nat} {arr : Array Value} (h : Bk w b arr) (k : Up w w') : Bk w' b arr := by
  have hl := h.lt
  obtain ⟨e, h⟩ := h
  exact ⟨e, (k.below.block b hl).trans h⟩
theorem Bk.new (w : World) (arr : Array Value) (e : Nat) : Bk (w.alloc (.cells arr e)) w.heap.size arr := ⟨e, heap_alloc_new w _⟩
theorem Bk.alloc {w : World} {b : Nat} {arr : Array Value} (h : Bk w b arr) (o : Obj) : Bk (w.alloc o) b arr := h.up ((Up.refl _).alloc o)

theorem toGm_any (g : Gm) (w : World) : Calls Try.prog 21 #[g.v] w fun x w' => x = .returned g.v ∧ Up w w' := by
  obtain ⟨r, e, o, l⟩ := g
  unfold Gm.v
  dsimp only
  go_enter Try.func21, Try.ntmps21
  go_wp2
  refine bodyPost_ret (v := .agg #[.int .i64 r, .int .i64 e, .int .i64 o, .int .i64 l]) (by simp [results, Try.results21, go_sem]) rfl ⟨rfl, (((Up.refl _).alloc _).alloc _).alloc _⟩
theorem toGk_any (t : Gk) (w : World) : Calls Try.prog 23 #[t.v] w fun x w' => x = .returned t.v ∧ Up w w' := by
  obtain ⟨on, r, a, n, l⟩ := t
  unfold Gk.v
  dsimp only
  go_enter Try.func23, Try.ntmps23
  go_wp2
  refine bodyPost_ret (v := .agg #[.bool on, .int .i64 r, .int .i64 a, .int .i64 n, .int .i64 l]) (by simp [results, Try.results23, go_sem]) rfl ⟨rfl, (((Up.refl _).alloc _).alloc _).alloc _⟩
theorem eqGm_any (g : Gm) (w : World) : Calls Try.prog 25 #[g.v, g.v] w fun x w' => x = .returned (.bool true) ∧ Up w w' := by
  obtain ⟨r, e, o, l⟩ := g
  unfold Gm.v
  dsimp only
  go_enter Try.func25, Try.ntmps25
  go_wp2
  go_ret
  exact ⟨rfl, ((Up.refl _).alloc _).alloc _⟩
theorem eqGk_any (t : Gk) (w : World) : Calls Try.prog 24 #[t.v, t.v] w fun x w' => x = .returned (.bool true) ∧ Up w w' := by
  obtain ⟨on, r, a, n, l⟩ := t
  unfold Gk.v
  dsimp only
  go_enter Try.func24, Try.ntmps24
  go_wp2
  go_ret
  exact ⟨rfl, ((Up.refl _).alloc _).alloc _⟩

end Go.Proofs.Ytojnphchkdjafaa

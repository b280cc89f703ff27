/-
  What it means that a simulator is one, in one sentence: two ways to say it agree; no condition is made.
  A step of a simulator as lists, in one sentence: the waiting list has what is sent, each at its place; no condition is made.
-/
import Derived.Test.YtklldniapombiaaDLWev14
import Derived.Test.YtklldniapombiaaDLWev15
import Derived.Test.YtklldniapombiaaDLWev21
import Derived.Test.YtklldniapombiaaDLWev27
namespace Go.Proofs.Ytklldniapombiaa
set_option maxRecDepth 100000
open Go.RowKit
/-- Is the event behind the one ahead of it, if there is one? -/
def behind : Option Evt → Evt → Bool
  | none, _ => true
  | some q, e => ltE q e
/-- Are the records in order, behind p, each of them one? -/
def logB (many : Int) : Option Evt → List Rec → Bool
  | _, [] => true
  | p, r :: rs => recB many r && behind p r.ev && logB many (some r.ev) rs
/-- The last one's event. -/
def lastP : Option Evt → List Rec → Option Evt
  | p, [] => p
  | _, r :: rs => lastP (some r.ev) rs
/-- Is what comes next behind the last? -/
def joinB : Option Evt → List Evt → Bool
  | _, [] => true
  | p, e :: _ => behind p e
def riseP : Option Evt → List Evt → Bool
  | none, es => riseB es
  | some q, es => riseB (q :: es)
theorem riseP_cons (p : Option Evt) (e : Evt) (es : List Evt) : riseP p (e :: es) = (behind p e && riseP (some e) es) := by
  cases p with
  | none => simp [riseP, behind]
  | some q => simp [riseP, behind, riseB]
theorem log_join (many : Int) (wait : List Evt) : ∀ (log : List Rec) (p : Option Evt), (riseP p (log.map (·.ev) ++ wait) && log.all (recB many)) = (logB many p log && (riseB wait && joinB (lastP p log) wait))
  | [], p => by
    cases wait with
    | nil => cases p <;> simp [riseP, riseB, logB, joinB]
    | cons e es =>
      rw [List.map_nil, List.nil_append, riseP_cons]; simp only [logB, lastP, joinB, List.all_nil, Bool.and_true, Bool.true_and, riseP]; rw [Bool.and_comm]
  | r :: rs, p => by
    have ih := log_join many wait rs (some r.ev)
    rw [List.map_cons, List.cons_append, riseP_cons, List.all_cons, logB, lastP]
    generalize riseP (some r.ev) (rs.map (·.ev) ++ wait) = a at ih ⊢
    generalize rs.all (recB many) = b at ih ⊢
    generalize logB many (some r.ev) rs = c at ih ⊢
    generalize (riseB wait && joinB (lastP (some r.ev) rs) wait) = d at ih ⊢
    generalize recB many r = x
    generalize behind p r.ev = y
    revert ih
    cases a <;> cases b <;> cases c <;> cases d <;> cases x <;> cases y <;> simp
/-- What spec.SeqOk says. -/
def sqS (m : Mdl) (n nc : Nat) (s : Sq) : Bool :=
  mdlB m && (decide (nc = n) && (riseB s.wait && (s.comps.all cstB && (s.wait.all (takB n m.til) && (logB n none s.log && joinB (lastP none s.log) s.wait)))))
theorem sqS_fit (m : Mdl) (n nc : Nat) (s : Sq) : sqS m n nc s = (mdlB m && fitB n m.til nc s) := by
  have h := log_join n s.wait s.log none
  unfold sqS fitB; rw [show decide ((nc : Int) = (n : Int)) = decide (nc = n) by rw [Bool.eq_iff_iff, decide_eq_true_iff, decide_eq_true_iff]; omega]; rw [riseP] at h
  generalize riseB (s.log.map (·.ev) ++ s.wait) = a at h ⊢
  generalize s.log.all (recB n) = b at h ⊢
  generalize logB n none s.log = c at h ⊢
  generalize riseB s.wait = d at h ⊢
  generalize joinB (lastP none s.log) s.wait = e at h ⊢
  generalize decide (nc = n) = f
  generalize s.comps.all cstB = g
  generalize s.wait.all (takB n m.til) = i
  revert h
  cases mdlB m <;> cases a <;> cases b <;> cases c <;> cases d <;> cases e <;> cases f <;> cases g <;> cases i <;> simp
/-- The event ahead of place k. -/
def prevP (log : List Rec) (k : Nat) : Option Evt := if k = 0 then none else some (log.getD (k - 1) default).ev
theorem prevP_succ (log : List Rec) (k : Nat) : prevP log (k + 1) = some (log.getD k default).ev := by simp [prevP]
theorem logB_drop (many : Int) (log : List Rec) (k : Nat) (p : Option Evt) (h : k < log.length) : logB many p (log.drop k) = (recB many (log.getD k default) && behind p (log.getD k default).ev && logB many (some (log.getD k default).ev) (log.drop (k + 1))) := by
  rw [List.drop_eq_getElem_cons h, logB]; simp [h]
theorem logB_end (many : Int) (log : List Rec) (k : Nat) (p : Option Evt) (h : log.length ≤ k) : logB many p (log.drop k) = true := by
  rw [List.drop_eq_nil_of_le h, logB]
theorem lastP_eq : ∀ (log : List Rec) (p : Option Evt), lastP p log = if log.length = 0 then p else some (log.getD (log.length - 1) default).ev
  | [], p => rfl
  | [r], p => rfl
  | r :: r' :: rs, p => by
    rw [lastP, lastP_eq (r' :: rs)]; simp
theorem RecAt.new (w : World) (r : Rec) (t : TypeId) : RecAt (w.alloc (.cells #[.int .i64 r.ev.t, .int .i64 r.ev.to, .int .i64 r.ev.fr, .int .i64 r.ev.sq, .int .i64 r.ev.kd, .int .i64 r.ev.dt, .int .i64 r.s] t)) w.heap.size 0 r := by
  have c := fun j => cells_new w #[.int .i64 r.ev.t, .int .i64 r.ev.to, .int .i64 r.ev.fr, .int .i64 r.ev.sq, .int .i64 r.ev.kd, .int .i64 r.ev.dt, .int .i64 r.s] t j
  exact ⟨c 0, c 1, c 2, c 3, c 4, c 5, c 6⟩
end Go.Proofs.Ytklldniapombiaa

namespace Go.Proofs.Ytklldniapombiaa
set_option maxRecDepth 100000
open Go.RowKit
def insAll (ds r : List Evt) : List Evt := ds.foldl (fun es e => ins e es) r
theorem insAll_snoc (ds r : List Evt) (d : Evt) : insAll (ds ++ [d]) r = ins d (insAll ds r) := by simp [insAll, List.foldl_append]
theorem insAll_perm : ∀ ds r : List Evt, (insAll ds r).Perm (ds ++ r)
  | [], _ => List.Perm.refl _
  | d :: ds, r => (insAll_perm ds (ins d r)).trans (((ins_perm d r).append_left ds).trans List.perm_middle)
theorem insAll_len (ds r : List Evt) : (insAll ds r).length = ds.length + r.length := by rw [(insAll_perm ds r).length_eq, List.length_append]
/-- The simulator behind a step, and if there was one. -/
def stpS (m : Mdl) (s : Sq) : Sq × Bool :=
  match s.wait with
  | [] => (s, false)
  | e :: r => (⟨s.comps.set e.to.toNat (doE m (s.comps.getD e.to.toNat default) e).1, insAll (doE m (s.comps.getD e.to.toNat default) e).2 r, s.log ++ [⟨e, (doE m (s.comps.getD e.to.toNat default) e).1.s⟩]⟩, true)
def stpR (m : Mdl) (n nc : Nat) (s : Sq) : Sq × Bool := if sqS m n nc s = true then stpS m s else (⟨[], [], []⟩, false)
end Go.Proofs.Ytklldniapombiaa

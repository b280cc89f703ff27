/-
  What it means that a simulator is one, in one sentence: two ways to say it agree; no condition is made.
  Parts of a slice of events, in one sentence: what its front and its rest hold, and which parts of a rising list rise.
  Of a simulator that fits its model, in one sentence: its pending events are a heap, the first may be done, and it sends two at most; no condition is made.
  What resume returns, in one sentence: a pointer to a new block with copies of the simulator's lists in rows of the call's own; for every simulator of short lists that lies in memory.
  What impl.SeqStep returns, in one sentence: nothing unless the simulator fits the model, else the simulator a step further, in rows of the call's own; for every model and every simulator of short lists that lie in memory.
  Simulators in rows that lie apart, in one sentence: marks may be written into them, and numbers elsewhere leave them; no condition is made.
  What spec.SeqStep returns, in one sentence: the simulator behind a step and if there was one, or zero values and false; for every model and every simulator that lie in memory.
  What a component sends, in one sentence: valid events from it, later, not behind the end, with rising numbers from its own on; for every list of valid sends.
-/
import Derived.Test.YtjdoealcmokakaaDLSeqAll02
import Derived.Test.YtjdoealcmokakaaDLSeqAll07
import Derived.Test.YtjdoealcmokakaaDLSeqAll15
import Derived.Test.YtjdoealcmokakaaDLSeqAll16
import Derived.Test.YtjdoealcmokakaaDLSeqAll18
import Derived.Test.YtjdoealcmokakaaDLSeqAll20
import Derived.Test.YtjdoealcmokakaaDLSeqAll21
import Derived.Test.YtjdoealcmokakaaDLSeqAll22
import Derived.Test.YtjdoealcmokakaaDLSeqAll23
import Derived.Test.YtjdoealcmokakaaDLSeqAll30
import Derived.Test.YtjdoealcmokakaaDLSeqAll37
import Derived.Test.YtjdoealcmokakaaDLSeqAll38
import Derived.Test.YtjdoealcmokakaaDLSeqAll39
import Derived.Test.YtjdoealcmokakaaDLSeqAll40
import Derived.Test.YtjdoealcmokakaaDLSeqAll41
namespace Go.Proofs.Ytjdoealcmokakaa
set_option maxRecDepth 100000
open Go.RowKit
/-- Is the event behind the one ahead of it, if there is one? -/
def behind : Option Evt → Evt → Bool
  | none, _ => true
  | some q, e => ltE q e
/-- Are the records in order, behind p, each of them one? -/
def logB (many : Int) : Option Evt → List Rec → Bool
  | _, [] => true
  | p, r :: rs => recB many r && behind p r.ev && logB many (some r.ev) rs
/-- The last one's event. -/
def lastP : Option Evt → List Rec → Option Evt
  | p, [] => p
  | _, r :: rs => lastP (some r.ev) rs
/-- Is what comes next behind the last? -/
def joinB : Option Evt → List Evt → Bool
  | _, [] => true
  | p, e :: _ => behind p e
def riseP : Option Evt → List Evt → Bool
  | none, es => riseB es
  | some q, es => riseB (q :: es)
theorem riseP_cons (p : Option Evt) (e : Evt) (es : List Evt) : riseP p (e :: es) = (behind p e && riseP (some e) es) := by
  cases p with
  | none => simp [riseP, behind]
  | some q => simp [riseP, behind, riseB]
theorem log_join (many : Int) (wait : List Evt) : ∀ (log : List Rec) (p : Option Evt), (riseP p (log.map (·.ev) ++ wait) && log.all (recB many)) = (logB many p log && (riseB wait && joinB (lastP p log) wait))
  | [], p => by
    cases wait with
    | nil => cases p <;> simp [riseP, riseB, logB, joinB]
    | cons e es =>
      rw [List.map_nil, List.nil_append, riseP_cons]; simp only [logB, lastP, joinB, List.all_nil, Bool.and_true, Bool.true_and, riseP]; rw [Bool.and_comm]
  | r :: rs, p => by
    have ih := log_join many wait rs (some r.ev)
    rw [List.map_cons, List.cons_append, riseP_cons, List.all_cons, logB, lastP]
    generalize riseP (some r.ev) (rs.map (·.ev) ++ wait) = a at ih ⊢
    generalize rs.all (recB many) = b at ih ⊢
    generalize logB many (some r.ev) rs = c at ih ⊢
    generalize (riseB wait && joinB (lastP (some r.ev) rs) wait) = d at ih ⊢
    generalize recB many r = x
    generalize behind p r.ev = y
    revert ih
    cases a <;> cases b <;> cases c <;> cases d <;> cases x <;> cases y <;> simp
/-- What spec.SeqOk says. -/
def sqS (m : Mdl) (n nc : Nat) (s : Sq) : Bool :=
  mdlB m && (decide (nc = n) && (riseB s.wait && (s.comps.all cstB && (s.wait.all (takB n m.til) && (logB n none s.log && joinB (lastP none s.log) s.wait)))))
theorem sqS_fit (m : Mdl) (n nc : Nat) (s : Sq) : sqS m n nc s = (mdlB m && fitB n m.til nc s) := by
  have h := log_join n s.wait s.log none
  unfold sqS fitB; rw [show decide ((nc : Int) = (n : Int)) = decide (nc = n) by rw [Bool.eq_iff_iff, decide_eq_true_iff, decide_eq_true_iff]; omega]; rw [riseP] at h
  generalize riseB (s.log.map (·.ev) ++ s.wait) = a at h ⊢
  generalize s.log.all (recB n) = b at h ⊢
  generalize logB n none s.log = c at h ⊢
  generalize riseB s.wait = d at h ⊢
  generalize joinB (lastP none s.log) s.wait = e at h ⊢
  generalize decide (nc = n) = f
  generalize s.comps.all cstB = g
  generalize s.wait.all (takB n m.til) = i
  revert h
  cases mdlB m <;> cases a <;> cases b <;> cases c <;> cases d <;> cases e <;> cases f <;> cases g <;> cases i <;> simp
end Go.Proofs.Ytjdoealcmokakaa

namespace Go.Proofs.Ytjdoealcmokakaa
set_option maxRecDepth 100000
open Go.RowKit
theorem rise_drop (es : List Evt) (h : riseB es = true) : ∀ k, riseB (es.drop k) = true
  | 0 => h
  | k + 1 => by
    by_cases hk : k + 1 < es.length
    · have := rise_drop es h k
      rw [riseB_drop es k hk, Bool.and_eq_true] at this
      exact this.2
    · rw [List.drop_eq_nil_of_le (by omega)]
      rfl
section
variable {P : Program}
end
end Go.Proofs.Ytjdoealcmokakaa

namespace Go.Proofs.Ytjdoealcmokakaa
set_option maxRecDepth 100000
open Go.RowKit
theorem sendsE_most (til s : Int) (e : Evt) : ∀ (xs : List Evt) (q : Int), (sendsE til s e xs q).1.length ≤ xs.length
  | [], _ => Nat.le_refl _
  | x :: xs, q => by
    rw [sendsE]
    split
    · exact Nat.le_succ_of_le (sendsE_most til s e xs q)
    · split
      · exact Nat.succ_le_succ (sendsE_most til s e xs (q + 1))
      · exact Nat.le_succ_of_le (sendsE_most til s e xs (q + 1))
theorem ruleOf_rule (kd many : Int) : ∀ (rs : List Rule) (bf : Int) (r : Rule), rulesB many bf rs = true → ruleOf kd rs = some r → ruleB r many = true
  | [], _, _, _, h => by cases h
  | x :: rs, bf, r, h, hr => by
    rw [rulesB, Bool.and_eq_true, Bool.and_eq_true] at h; rw [ruleOf] at hr
    split at hr
    · injection hr with hr
      exact hr ▸ h.1.2
    · exact ruleOf_rule kd many rs x.kd r h.2 hr
theorem doE_len {m : Mdl} {c : Cst} {e : Evt} (h : mdlB m = true) : (doE m c e).2.length ≤ 2 := by
  unfold doE
  split
  · simp
  · rename_i r hr
    refine Nat.le_trans (sendsE_most _ _ _ _ _) ?_; simp only [mdlB, Bool.and_eq_true] at h
    have hm : rulesB m.rules.length (-1) (m.rules.getD e.to.toNat []) = true := by
      by_cases hl : e.to.toNat < m.rules.length
      · have := List.all_eq_true.1 h.2 (m.rules[e.to.toNat]) (List.getElem_mem hl)
        simpa [List.getD, hl] using this
      · simp [List.getD, hl, rulesB]
    have := ruleOf_rule _ _ _ _ _ hm hr
    simp only [ruleB, Bool.and_eq_true, decide_eq_true_eq] at this
    omega
theorem rise_pair9 (es : List Evt) (h : riseB es = true) (k : Nat) (hk : k + 1 < es.length) : ltE (es.getD k default) (es.getD (k + 1) default) = true := by
  have h1 := rise_drop es h k
  rw [riseB_drop es k hk, Bool.and_eq_true] at h1
  exact h1.1
theorem rise_lt9 (es : List Evt) (h : riseB es = true) (i : Nat) : ∀ d, i + d + 1 < es.length → ltE (es.getD i default) (es.getD (i + d + 1) default) = true
  | 0, hd => rise_pair9 es h i hd
  | d + 1, hd => ltE_trans _ _ _ (rise_lt9 es h i d (by omega)) (rise_pair9 es h (i + d + 1) (by omega))
theorem rise_heap (es : List Evt) (h : riseB es = true) : HeapF (fun i => es.getD i default) es.length := fun i h0 hi => by
  have := rise_lt9 es h ((i - 1) / 2) (i - (i - 1) / 2 - 1) (by omega)
  rw [show (i - 1) / 2 + (i - (i - 1) / 2 - 1) + 1 = i by omega] at this
  exact ltE_le this
end Go.Proofs.Ytjdoealcmokakaa

namespace Go.Proofs.Ytjdoealcmokakaa
set_option maxRecDepth 100000
open Go.RowKit
set_option maxHeartbeats 8000000 in
theorem resume_any (mb : Nat) (many til : Int) (Ac : Option Addr) (nc cc : Nat) (Aw : Option Addr) (nw cw : Nat) (Al : Option Addr) (nl cl : Nat) (s : Sq) (w : World) (hS : nc ≤ 1100000 ∧ nw ≤ 1100000 ∧ nl ≤ 1100000) (hC : Csts w Ac nc s.comps) (hW : Evs w Aw nw s.wait) (hL : Recs w Al nl s.log) :
    Calls Try.prog 42 #[.agg #[.map (some mb), .int .i64 many, .int .i64 til], .agg #[.slice Ac nc cc, .slice Aw nw cw, .slice Al nl cl]] w fun x w' => ∃ p, x = .returned (.pointer (some ⟨p, 0, none⟩)) ∧ Alone w.heap.size mb many til nc nw nl s p w' ∧ Up w w' := by
  have X0 := Lib.hid ((Box3.new w (.map (some mb)) (.int .i64 many) (.int .i64 til) 71).up ((Up.refl _).alloc (.cells #[.slice Ac nc cc, .slice Aw nw cw, .slice Al nl cl] 36)))
  have X1 := Lib.hid (Box3.new (w.alloc (.cells #[.map (some mb), .int .i64 many, .int .i64 til] 71)) (.slice Ac nc cc) (.slice Aw nw cw) (.slice Al nl cl) 36)
  simp only [World.size_alloc] at X1
  have UW := Lib.hid (((Up.refl w).alloc (.cells #[.map (some mb), .int .i64 many, .int .i64 til] 71)).alloc (.cells #[.slice Ac nc cc, .slice Aw nw cw, .slice Al nl cl] 36))
  have CC := Lib.hid (fun (b : Nat) W (hb : b < W.heap.size) (h : W.cell? ⟨b, 0, none⟩ = some (.slice Ac nc cc)) (u : Up w W) => (show Calls Try.prog 69 #[.slice (some ⟨b, 0, none⟩) 1 1] W (fun x w' => ∃ A9 c9, x = .returned (.slice A9 nc c9) ∧ nc ≤ c9 ∧ c9 ≤ 9223372036854775807 ∧ True ∧ w'.ownsRow W.heap.size 46 3 (.slice A9 nc c9) nc (flat3 s.comps) ∧ Up W w') from
    (concatC_any b 1 [s.comps] W (by simp) hb (fun j hj => by have : j = 0 := (by simpa using hj); subst this; exact ⟨Ac, cc, by simpa [hC.1] using h, by simpa [hC.1] using hC.up u⟩) (by simp [hC.1]; omega)).mono fun x w' h => by
      obtain ⟨A9, c9, rfl, h1, h2, h3, h4, h5⟩ := h; simp only [List.flatten_cons, List.flatten_nil, List.append_nil, hC.1] at h1 h2 h4 ⊢
      exact ⟨A9, c9, rfl, h1, h2, trivial, h4, h5⟩))
  have CW := Lib.hid (fun (b : Nat) W (hb : b < W.heap.size) (h : W.cell? ⟨b, 0, none⟩ = some (.slice Aw nw cw)) (u : Up w W) => (show Calls Try.prog 62 #[.slice (some ⟨b, 0, none⟩) 1 1] W (fun x w' => ∃ A9 c9, x = .returned (.slice A9 nw c9) ∧ nw ≤ c9 ∧ c9 ≤ 9223372036854775807 ∧ True ∧ w'.ownsRow W.heap.size 39 6 (.slice A9 nw c9) nw (flat s.wait) ∧ Up W w') from
    (concat_any b 1 [s.wait] W (by simp) hb (fun j hj => by have : j = 0 := (by simpa using hj); subst this; exact ⟨Aw, cw, by simpa [hW.1] using h, by simpa [hW.1] using hW.up u⟩) (by simp [hW.1]; omega)).mono fun x w' h => by
      obtain ⟨A9, c9, rfl, h1, h2, h3, h4, h5⟩ := h; simp only [List.flatten_cons, List.flatten_nil, List.append_nil, hW.1] at h1 h2 h4 ⊢
      exact ⟨A9, c9, rfl, h1, h2, trivial, h4, h5⟩))
  have CL := Lib.hid (fun (b : Nat) W (hb : b < W.heap.size) (h : W.cell? ⟨b, 0, none⟩ = some (.slice Al nl cl)) (u : Up w W) => (show Calls Try.prog 70 #[.slice (some ⟨b, 0, none⟩) 1 1] W (fun x w' => ∃ A9 c9, x = .returned (.slice A9 nl c9) ∧ nl ≤ c9 ∧ c9 ≤ 9223372036854775807 ∧ True ∧ w'.ownsRow W.heap.size 41 7 (.slice A9 nl c9) nl (flat7 s.log) ∧ Up W w') from
    (concatR_any b 1 [s.log] W (by simp) hb (fun j hj => by have : j = 0 := (by simpa using hj); subst this; exact ⟨Al, cl, by simpa [hL.1] using h, by simpa [hL.1] using hL.up u⟩) (by simp [hL.1]; omega)).mono fun x w' h => by
      obtain ⟨A9, c9, rfl, h1, h2, h3, h4, h5⟩ := h; simp only [List.flatten_cons, List.flatten_nil, List.append_nil, hL.1] at h1 h2 h4 ⊢
      exact ⟨A9, c9, rfl, h1, h2, trivial, h4, h5⟩))
  clear hC hW hL hS
  go_enter Try.func42, Try.ntmps42
  go_wp2_with fail
  generalize (w.alloc (.cells #[.map (some mb), .int .i64 many, .int .i64 til] 71)).alloc (.cells #[.slice Ac nc cc, .slice Aw nw cw, .slice Al nl cl] 36) = W0 at *
  have hs0 := UW.out.size
  generalize hb3 : w.heap.size + 1 = b3 at *
  refine region_relyT 15 [] [(15, false)] [5, 6, 7, 8, 9, 10, 11, 12, 13, 14, 15, 16, 17, 18, 19] 15 (fun _ w1 => Up W0 w1) Up (fun i v w => resA W0.heap.size mb many til Ac nc cc Aw nw cw Al nl cl b3 s i v w) (by kernel_rfl) (by kernel_rfl) (by kernel_rfl) (by kernel_rfl) ((Up.refl _).drew) (fun slot_ _ _ _ h u => resA_up W0.heap.size mb many til Ac nc cc Aw nw cw Al nl cl b3 s slot_ h u) ?_ ?_ ?_
  · simp only [List.take_succ_cons, List.take_zero]
    refine stepsT_op (by kernel_rfl) ?_ ?_
    · intro X w1 k1 hG hdep
      obtain ⟨p0, p1, p2⟩ := And.intro ((X0.out.up hG).c0) (And.intro ((X0.out.up hG).c1) ((X0.out.up hG).c2))
      have lp := (X0.out.up hG).lt
      simp only [opW_def, mixT]; go_simp
      exact ⟨⟨.agg #[.map (some mb), .int .i64 many, .int .i64 til], by first | rfl | simp [Act.put], Up.refl _, hG, (show resA W0.heap.size mb many til Ac nc cc Aw nw cw Al nl cl b3 s 5 _ _ from by first | (rw [resA_5]; exact rfl) | rw [resA_5])⟩⟩
    refine stepsT_op (by kernel_rfl) ?_ ?_
    · intro X w1 k1 hG hdep
      obtain ⟨p0, p1, p2⟩ := And.intro ((X1.out.up hG).c0) (And.intro ((X1.out.up hG).c1) ((X1.out.up hG).c2))
      have lp := (X1.out.up hG).lt
      simp only [opW_def, mixT]; go_simp
      exact ⟨⟨.pointer (some ⟨b3, 0, none⟩), by first | rfl | simp [Act.put], Up.refl _, hG, (show resA W0.heap.size mb many til Ac nc cc Aw nw cw Al nl cl b3 s 6 _ _ from by first | (rw [resA_6]; exact rfl) | rw [resA_6])⟩⟩
    refine stepsT_op (by kernel_rfl) ?_ ?_
    · intro X w1 k1 hG hdep
      have e6 : resA W0.heap.size mb many til Ac nc cc Aw nw cw Al nl cl b3 s 6 (X 6) w1 := hdep 6 (by decide +kernel)
      rw [resA_6] at e6; obtain ⟨p0, p1, p2⟩ := And.intro ((X1.out.up hG).c0) (And.intro ((X1.out.up hG).c1) ((X1.out.up hG).c2))
      have lp := (X1.out.up hG).lt
      simp only [opW_def, mixT, e6]; go_simp
      exact ⟨⟨.slice Ac nc cc, by first | rfl | simp [Act.put], Up.refl _, hG, (show resA W0.heap.size mb many til Ac nc cc Aw nw cw Al nl cl b3 s 7 _ _ from by first | (rw [resA_7]; exact rfl) | rw [resA_7])⟩⟩
    refine stepsT_op (by kernel_rfl) ?_ ?_
    · intro X w1 k1 hG hdep
      have e7 : resA W0.heap.size mb many til Ac nc cc Aw nw cw Al nl cl b3 s 7 (X 7) w1 := hdep 7 (by decide +kernel)
      rw [resA_7] at e7
      have hlo := hG.size
      simp only [opW_def, mixT, e7]; go_simp
      exact ⟨⟨_, by first | rfl | simp [Act.put], (Up.refl _).alloc _, hG.alloc _, (show resA W0.heap.size mb many til Ac nc cc Aw nw cw Al nl cl b3 s 8 _ _ from by first | (rw [resA_8]; exact IsRow1.new w1 _ _ hlo) | rw [resA_8])⟩⟩
    refine stepsT_op (by kernel_rfl) ?_ ?_
    · intro X w1 k1 hG hdep
      have e8 : resA W0.heap.size mb many til Ac nc cc Aw nw cw Al nl cl b3 s 8 (X 8) w1 := hdep 8 (by decide +kernel)
      rw [resA_8] at e8; obtain ⟨gb, e8, lb, lt, cb⟩ := e8
      have hlo := hG.size
      simp only [opW_def, mixT, e8]; go_simp; refine (CC.out gb w1 lt cb (UW.out.trans hG)).mono ?_; rintro x w2 ⟨A9, c9, rfl, _, _, _, ho, u⟩
      exact ⟨⟨_, by first | rfl | simp [Act.put], u, hG.trans u, (show resA W0.heap.size mb many til Ac nc cc Aw nw cw Al nl cl b3 s 9 _ _ from by first | (rw [resA_9]; exact own_mono ho hlo) | rw [resA_9])⟩⟩
    refine stepsT_op (by kernel_rfl) ?_ ?_
    · intro X w1 k1 hG hdep
      obtain ⟨p0, p1, p2⟩ := And.intro ((X1.out.up hG).c0) (And.intro ((X1.out.up hG).c1) ((X1.out.up hG).c2))
      have lp := (X1.out.up hG).lt
      simp only [opW_def, mixT]; go_simp
      exact ⟨⟨.pointer (some ⟨b3, 1, none⟩), by first | rfl | simp [Act.put], Up.refl _, hG, (show resA W0.heap.size mb many til Ac nc cc Aw nw cw Al nl cl b3 s 10 _ _ from by first | (rw [resA_10]; exact rfl) | rw [resA_10])⟩⟩
    refine stepsT_op (by kernel_rfl) ?_ ?_
    · intro X w1 k1 hG hdep
      have e10 : resA W0.heap.size mb many til Ac nc cc Aw nw cw Al nl cl b3 s 10 (X 10) w1 := hdep 10 (by decide +kernel)
      rw [resA_10] at e10; obtain ⟨p0, p1, p2⟩ := And.intro ((X1.out.up hG).c0) (And.intro ((X1.out.up hG).c1) ((X1.out.up hG).c2))
      have lp := (X1.out.up hG).lt
      simp only [opW_def, mixT, e10]; go_simp
      exact ⟨⟨.slice Aw nw cw, by first | rfl | simp [Act.put], Up.refl _, hG, (show resA W0.heap.size mb many til Ac nc cc Aw nw cw Al nl cl b3 s 11 _ _ from by first | (rw [resA_11]; exact rfl) | rw [resA_11])⟩⟩
    refine stepsT_op (by kernel_rfl) ?_ ?_
    · intro X w1 k1 hG hdep
      have e11 : resA W0.heap.size mb many til Ac nc cc Aw nw cw Al nl cl b3 s 11 (X 11) w1 := hdep 11 (by decide +kernel)
      rw [resA_11] at e11
      have hlo := hG.size
      simp only [opW_def, mixT, e11]; go_simp
      exact ⟨⟨_, by first | rfl | simp [Act.put], (Up.refl _).alloc _, hG.alloc _, (show resA W0.heap.size mb many til Ac nc cc Aw nw cw Al nl cl b3 s 12 _ _ from by first | (rw [resA_12]; exact IsRow1.new w1 _ _ hlo) | rw [resA_12])⟩⟩
    refine stepsT_op (by kernel_rfl) ?_ ?_
    · intro X w1 k1 hG hdep
      have e12 : resA W0.heap.size mb many til Ac nc cc Aw nw cw Al nl cl b3 s 12 (X 12) w1 := hdep 12 (by decide +kernel)
      rw [resA_12] at e12; obtain ⟨gb, e12, lb, lt, cb⟩ := e12
      have hlo := hG.size
      simp only [opW_def, mixT, e12]; go_simp; refine (CW.out gb w1 lt cb (UW.out.trans hG)).mono ?_; rintro x w2 ⟨A9, c9, rfl, _, _, _, ho, u⟩
      exact ⟨⟨_, by first | rfl | simp [Act.put], u, hG.trans u, (show resA W0.heap.size mb many til Ac nc cc Aw nw cw Al nl cl b3 s 13 _ _ from by first | (rw [resA_13]; exact own_mono ho hlo) | rw [resA_13])⟩⟩
    refine stepsT_op (by kernel_rfl) ?_ ?_
    · intro X w1 k1 hG hdep
      obtain ⟨p0, p1, p2⟩ := And.intro ((X1.out.up hG).c0) (And.intro ((X1.out.up hG).c1) ((X1.out.up hG).c2))
      have lp := (X1.out.up hG).lt
      simp only [opW_def, mixT]; go_simp
      exact ⟨⟨.pointer (some ⟨b3, 2, none⟩), by first | rfl | simp [Act.put], Up.refl _, hG, (show resA W0.heap.size mb many til Ac nc cc Aw nw cw Al nl cl b3 s 14 _ _ from by first | (rw [resA_14]; exact rfl) | rw [resA_14])⟩⟩
    refine stepsT_op (by kernel_rfl) ?_ ?_
    · intro X w1 k1 hG hdep
      have e14 : resA W0.heap.size mb many til Ac nc cc Aw nw cw Al nl cl b3 s 14 (X 14) w1 := hdep 14 (by decide +kernel)
      rw [resA_14] at e14; obtain ⟨p0, p1, p2⟩ := And.intro ((X1.out.up hG).c0) (And.intro ((X1.out.up hG).c1) ((X1.out.up hG).c2))
      have lp := (X1.out.up hG).lt
      simp only [opW_def, mixT, e14]; go_simp
      exact ⟨⟨.slice Al nl cl, by first | rfl | simp [Act.put], Up.refl _, hG, (show resA W0.heap.size mb many til Ac nc cc Aw nw cw Al nl cl b3 s 15 _ _ from by first | (rw [resA_15]; exact rfl) | rw [resA_15])⟩⟩
    refine stepsT_op (by kernel_rfl) ?_ ?_
    · intro X w1 k1 hG hdep
      have e15 : resA W0.heap.size mb many til Ac nc cc Aw nw cw Al nl cl b3 s 15 (X 15) w1 := hdep 15 (by decide +kernel)
      rw [resA_15] at e15
      have hlo := hG.size
      simp only [opW_def, mixT, e15]; go_simp
      exact ⟨⟨_, by first | rfl | simp [Act.put], (Up.refl _).alloc _, hG.alloc _, (show resA W0.heap.size mb many til Ac nc cc Aw nw cw Al nl cl b3 s 16 _ _ from by first | (rw [resA_16]; exact IsRow1.new w1 _ _ hlo) | rw [resA_16])⟩⟩
    refine stepsT_op (by kernel_rfl) ?_ ?_
    · intro X w1 k1 hG hdep
      have e16 : resA W0.heap.size mb many til Ac nc cc Aw nw cw Al nl cl b3 s 16 (X 16) w1 := hdep 16 (by decide +kernel)
      rw [resA_16] at e16; obtain ⟨gb, e16, lb, lt, cb⟩ := e16
      have hlo := hG.size
      simp only [opW_def, mixT, e16]; go_simp; refine (CL.out gb w1 lt cb (UW.out.trans hG)).mono ?_; rintro x w2 ⟨A9, c9, rfl, _, _, _, ho, u⟩
      exact ⟨⟨_, by first | rfl | simp [Act.put], u, hG.trans u, (show resA W0.heap.size mb many til Ac nc cc Aw nw cw Al nl cl b3 s 17 _ _ from by first | (rw [resA_17]; exact own_mono ho hlo) | rw [resA_17])⟩⟩
    refine stepsT_op (by kernel_rfl) ?_ ?_
    · intro X w1 k1 hG hdep
      have e5 : resA W0.heap.size mb many til Ac nc cc Aw nw cw Al nl cl b3 s 5 (X 5) w1 := hdep 5 (by decide +kernel)
      rw [resA_5] at e5
      have e9 : resA W0.heap.size mb many til Ac nc cc Aw nw cw Al nl cl b3 s 9 (X 9) w1 := hdep 9 (by decide +kernel)
      rw [resA_9] at e9
      have e13 : resA W0.heap.size mb many til Ac nc cc Aw nw cw Al nl cl b3 s 13 (X 13) w1 := hdep 13 (by decide +kernel)
      rw [resA_13] at e13
      have e17 : resA W0.heap.size mb many til Ac nc cc Aw nw cw Al nl cl b3 s 17 (X 17) w1 := hdep 17 (by decide +kernel)
      rw [resA_17] at e17; obtain ⟨A9, c9, hX9, _, _⟩ := (own3_slice e9).2; rw [hX9] at e9; obtain ⟨A13, c13, hX13, _, _⟩ := (own_slice e13).2; rw [hX13] at e13; obtain ⟨A17, c17, hX17, _, _⟩ := (own7_slice e17).2; rw [hX17] at e17; simp only [opW_def, mixT, e5, hX9, hX13, hX17]; go_simp
      exact ⟨⟨_, by first | rfl | simp [Act.put], Up.refl _, hG, (show resA W0.heap.size mb many til Ac nc cc Aw nw cw Al nl cl b3 s 18 _ _ from by first | (rw [resA_18]; exact ⟨_, _, _, rfl, ⟨e9, e13, e17⟩⟩) | rw [resA_18])⟩⟩
    refine stepsT_op (by kernel_rfl) ?_ ?_
    · intro X w1 k1 hG hdep
      have e18 : resA W0.heap.size mb many til Ac nc cc Aw nw cw Al nl cl b3 s 18 (X 18) w1 := hdep 18 (by decide +kernel)
      rw [resA_18] at e18; obtain ⟨vc, vw, vl, e18, ha⟩ := e18
      have hlo := hG.size
      simp only [opW_def, mixT, e18]; go_simp
      exact ⟨⟨_, by first | rfl | simp [Act.put], (Up.refl _).alloc _, hG.alloc _, (show resA W0.heap.size mb many til Ac nc cc Aw nw cw Al nl cl b3 s 19 _ _ from by first | (rw [resA_19]; exact ⟨w1.heap.size, rfl, hlo, vc, vw, vl, heap_alloc_new w1 _, ha.up ((Up.refl _).alloc _)⟩) | rw [resA_19])⟩⟩
    exact trivial
  · intro h p _ hp
    cases hp
  · intro X w1 hG hR
    have e19 : resA W0.heap.size mb many til Ac nc cc Aw nw cw Al nl cl b3 s 19 (X 19) w1 := hR 14 (by omega)
    rw [resA_19] at e19; obtain ⟨p, e19, ha⟩ := e19; clear hR; simp only [mixT, e19]; refine mix_go rfl (by rfl) (fun K hK => ?_); go_simp; refine hK _ _ ?_; clear hK K; refine mix_nil ?_; obtain ⟨hlo, vc, vw, vl, h2, h3⟩ := ha
    have RES := Lib.hid (show Alone w.heap.size mb many til nc nw nl s p w1 from ⟨by omega, vc, vw, vl, h2, ⟨own_mono h3.c hs0, own_mono h3.q hs0, own_mono h3.l hs0⟩⟩)
    go_wp2; go_ret
    exact ⟨p, rfl, RES.out, UW.out.trans hG⟩
end Go.Proofs.Ytjdoealcmokakaa

namespace Go.Proofs.Ytjdoealcmokakaa
set_option maxRecDepth 100000
open Go.RowKit
theorem step_none (p : Nat) (Aw : Option Addr) (cw : Nat) (w : World) (_hlt : p < w.heap.size) (e4 : w.cell? ⟨p, 4, none⟩ = some (.slice Aw 0 cw)) :
    Calls Try.prog 43 #[.pointer (some ⟨p, 0, none⟩)] w fun x w' => x = .returned (.bool false) ∧ w' = w := by
  go_enter Try.func43, Try.ntmps43
  go_wp2; go_ret
  exact ⟨rfl, rfl⟩
end Go.Proofs.Ytjdoealcmokakaa

namespace Go.Proofs.Ytjdoealcmokakaa
set_option maxRecDepth 100000
open Go.RowKit
theorem Mkc.row {w : World} {lo e s n c : Nat} {A : Option Addr} {xs : List Value} (h : w.ownsRow lo e s (.slice A n c) n xs) (hi : ∀ x ∈ xs, ∃ z : Int, x = .int .i64 z) : Mkc w lo A n s := fun hn => by
  have h9 := h
  rcases h.2 with ⟨_, h0⟩ | ⟨g, cap, cur, hv, hg, hb, hnc, hm, hs, ht⟩
  · omega
  · injection hv with hA _ _
    subst hA; refine ⟨g, rfl, hg, (Array.getElem?_eq_some_iff.1 hb).1, fun j hj => ⟨?_, h9.frozenAt j⟩⟩
    have hj2 : j < xs.length := by rw [h.1]; exact hj
    obtain ⟨z, hz⟩ := hi xs[j] (List.getElem_mem hj2); refine ⟨z, ?_⟩; rw [cell_of_row _ _ j _ _ _ hb, ← hz]
    have h1 : xs[j]? = some xs[j] := List.getElem?_eq_getElem hj2
    rw [← h1]
    have h2 : (cur.toList.take (n * s))[j]? = cur.toList[j]? := List.getElem?_take_of_lt hj
    rw [ht] at h2; rw [h2]; simp
theorem flat3_int : ∀ (es : List Cst) (x : Value), x ∈ flat3 es → ∃ z : Int, x = .int .i64 z
  | [], x, h => by cases h
  | e :: r, x, h => by
    rw [flat3] at h
    rcases List.mem_cons.1 h with rfl | h
    · exact ⟨_, rfl⟩
    rcases List.mem_cons.1 h with rfl | h
    · exact ⟨_, rfl⟩
    rcases List.mem_cons.1 h with rfl | h
    · exact ⟨_, rfl⟩
    exact flat3_int r x h
theorem flat_int : ∀ (es : List Evt) (x : Value), x ∈ flat es → ∃ z : Int, x = .int .i64 z
  | [], x, h => by cases h
  | e :: r, x, h => by
    rw [flat] at h
    iterate 6
      rcases List.mem_cons.1 h with rfl | h
      · exact ⟨_, rfl⟩
    exact flat_int r x h
theorem flat7_int : ∀ (es : List Rec) (x : Value), x ∈ flat7 es → ∃ z : Int, x = .int .i64 z
  | [], x, h => by cases h
  | e :: r, x, h => by
    rw [flat7] at h
    iterate 7
      rcases List.mem_cons.1 h with rfl | h
      · exact ⟨_, rfl⟩
    exact flat7_int r x h
/-- A simulator in three rows of the call's own that lie apart. -/
structure SqW (w : World) (lo : Nat) (Ac : Option Addr) (nc : Nat) (Aw : Option Addr) (nw : Nat) (Al : Option Addr) (nl : Nat) (s : Sq) : Prop where
  v : SqV w Ac nc Aw nw Al nl s
  m1 : Mkc w lo Ac nc 3
  m2 : Mkc w lo Aw nw 6
  m3 : Mkc w lo Al nl 7
  p12 : Ap Ac nc Aw nw
  p13 : Ap Ac nc Al nl
  p23 : Ap Aw nw Al nl
theorem SqW.none_ (w : World) (lo : Nat) : SqW w lo none 0 none 0 none 0 ⟨[], [], []⟩ :=
  ⟨⟨⟨rfl, fun h => absurd h (by omega)⟩, ⟨rfl, fun h => absurd h (by omega)⟩, ⟨rfl, fun h => absurd h (by omega)⟩⟩, fun h => absurd h (by omega), fun h => absurd h (by omega), fun h => absurd h (by omega), fun h => absurd h (by omega), fun h => absurd h (by omega), fun h => absurd h (by omega)⟩
theorem ap_of {A A' : Option Addr} {n n' c c' : Nat} (h : ∀ x, (Value.slice A n c).ownBlock = some x → (Value.slice A' n' c').ownBlock ≠ some x) : Ap A n A' n' := fun _ _ b o b' o' hA hA' e => by
  subst hA hA' e
  exact h b rfl rfl
end Go.Proofs.Ytjdoealcmokakaa

namespace Go.Proofs.Ytjdoealcmokakaa
set_option maxRecDepth 100000
open Go.RowKit
/-- What a step of the reference leaves, of any simulator. -/
def L3F (lo : Nat) (R : Sq × Bool) (z w : World) (vc0 vl0 : Value) (x : Ending) (w' : World) : Prop :=
  Up z w' ∧ (∀ b, b < w.heap.size → (∀ x, vc0.ownBlock = some x → x ≠ b) → (∀ x, vl0.ownBlock = some x → x ≠ b) → w'.heap[b]? = w.heap[b]?) ∧ w.heap.size ≤ w'.heap.size ∧ ∃ vc vw vl, x = .returned (.tuple #[.agg #[vc, vw, vl], .bool R.2]) ∧
    w'.ownsRow lo 46 3 vc R.1.comps.length (flat3 R.1.comps) ∧ w'.ownsRow lo 39 6 vw R.1.wait.length (flat R.1.wait) ∧ w'.ownsRow lo 41 7 vl R.1.log.length (flat7 R.1.log)
set_option maxHeartbeats 4000000 in
theorem specL3_none (vm vc vl : Value) (Aw : Option Addr) (cw : Nat) (A : Option Addr) (an ac : Nat) (B : Option Addr) (bk bd : Nat) (til : Int) (hm : vm = .agg #[.slice A an ac, .slice B bk bd, .int .i64 til]) (Ac Al : Option Addr) (nc cc nl cl : Nat) (hc : vc = .slice Ac nc cc) (hl : vl = .slice Al nl cl) (w : World) :
    Calls Try.prog 54 #[vm, .agg #[vc, .slice Aw 0 cw, vl]] w fun x w' => x = .returned (.tuple #[.agg #[vc, .slice Aw 0 cw, vl], .bool false]) ∧ Up w w' := by
  subst hm hc hl
  have XS := BoxF.new (w.alloc (.cells #[.slice A an ac, .slice B bk bd, .int .i64 til] 26)) (.slice Ac nc cc) (.slice Aw 0 cw) (.slice Al nl cl) 36
  have XR := BoxF.new ((w.alloc (.cells #[.slice A an ac, .slice B bk bd, .int .i64 til] 26)).alloc (.cells #[.slice Ac nc cc, .slice Aw 0 cw, .slice Al nl cl] 36)) (.slice none 0 0) (.slice none 0 0) (.slice none 0 0) 36
  simp only [World.size_alloc] at XS XR
  have UW := Lib.hid ((((Up.refl w).alloc (.cells #[.slice A an ac, .slice B bk bd, .int .i64 til] 26)).alloc (.cells #[.slice Ac nc cc, .slice Aw 0 cw, .slice Al nl cl] 36)).alloc (.cells #[.slice none 0 0, .slice none 0 0, .slice none 0 0] 36))
  have XS := Lib.hid (XS.up ((Up.refl _).alloc (.cells #[.slice none 0 0, .slice none 0 0, .slice none 0 0] 36)))
  have XR := Lib.hid XR
  go_enter Try.func54, Try.ntmps54
  go_upto_region 1 with fail
  generalize ((w.alloc (.cells #[.slice A an ac, .slice B bk bd, .int .i64 til] 26)).alloc (.cells #[.slice Ac nc cc, .slice Aw 0 cw, .slice Al nl cl] 36)).alloc (.cells #[.slice none 0 0, .slice none 0 0, .slice none 0 0] 36) = W at *
  generalize hb4 : w.heap.size + 1 + 1 = b4 at *
  generalize hb3 : w.heap.size + 1 = b3 at *
  have ne34 : ¬ b3 = b4 := by omega
  have ne43 : ¬ b4 = b3 := by omega
  have W4 := Lib.hid (show w.heap.size ≤ b4 by omega)
  clear hb4 hb3; obtain ⟨c0, c1, c2⟩ := And.intro XS.out.k.c0 (And.intro XS.out.k.c1 XS.out.k.c2)
  have sl := XS.out.k.lt
  obtain ⟨y0, y1, y2⟩ := And.intro XR.out.k.c0 (And.intro XR.out.k.c1 XR.out.k.c2)
  have yl := XR.out.k.lt
  have yf := XR.out.f
  have LB := XR.out.laid (.slice Ac nc cc) (.slice Aw 0 cw) (.slice Al nl cl)
  obtain ⟨k0, k1, k2⟩ := And.intro LB.c0 (And.intro LB.c1 LB.c2)
  have M4 := ((((Up.refl W).mv b4).setCell (o := 0) (.slice Ac nc cc)).setCell (o := 1) (.slice Aw 0 cw) |>.setCell (o := 2) (.slice Al nl cl))
  have UE := Lib.hid (M4.up UW.out W4.out)
  clear LB M4; go_wp2
  exact bodyPost_ret (v := .tuple #[.agg #[.slice Ac nc cc, .slice Aw 0 cw, .slice Al nl cl], .bool false]) (by simp [results, Try.results54, go_sem, k0, k1, k2]) rfl ⟨rfl, UE.out⟩
theorem sqw_rows {w : World} {lo n1 n2 n3 c1 c2 c3 : Nat} {A1 A2 A3 : Option Addr} {s : Sq} (h1 : w.ownsRow lo 46 3 (.slice A1 n1 c1) n1 (flat3 s.comps)) (h2 : w.ownsRow lo 39 6 (.slice A2 n2 c2) n2 (flat s.wait)) (h3 : w.ownsRow lo 41 7 (.slice A3 n3 c3) n3 (flat7 s.log)) : SqW w lo A1 n1 A2 n2 A3 n3 s :=
  ⟨⟨own3_csts h1, own_evs h2, own7_recs h3⟩, Mkc.row h1 (flat3_int _), Mkc.row h2 (flat_int _), Mkc.row h3 (flat7_int _), ap_of (own_apart h1 h2 (by decide)), ap_of (own_apart h1 h3 (by decide)), ap_of (own_apart h2 h3 (by decide))⟩
end Go.Proofs.Ytjdoealcmokakaa

namespace Go.Proofs.Ytjdoealcmokakaa
set_option maxRecDepth 100000
open Go.RowKit
/-- One event that is sent. -/
structure SentF (til many : Int) (e : Evt) (lo hi : Int) (x : Evt) : Prop where
  sq : lo ≤ x.sq ∧ x.sq < hi
  fr : x.fr = e.to
  t : e.t < x.t ∧ x.t ≤ til
  to_ : 0 ≤ x.to ∧ x.to < many
  kd : 0 ≤ x.kd ∧ x.kd ≤ 2
  dt : 0 ≤ x.dt ∧ x.dt ≤ 96
structure SendsF (til many : Int) (e : Evt) (q q' : Int) (n : Nat) (L : List Evt) : Prop where
  len : q + L.length ≤ q'
  top : q' ≤ 12
  few : q' ≤ q + n
  each : ∀ i, i < L.length → SentF til many e (q + i) q' (L.getD i default)
  rise : ∀ i j, j < i → i < L.length → (L.getD j default).sq < (L.getD i default).sq
theorem sendsE_facts (til s many : Int) (e : Evt) : ∀ (xs : List Evt) (q : Int), (∀ x ∈ xs, sndB x many = true) → 0 ≤ q → q ≤ 12 → SendsF til many e q (sendsE til s e xs q).2 xs.length (sendsE til s e xs q).1
  | [], q, _, _, h1 => by
    simp only [sendsE]
    exact ⟨by simp, h1, by simp, fun i hi => by simp at hi, fun i j _ hi => by simp at hi⟩
  | x :: xs, q, hx, h0, h1 => by
    have hb := hx x List.mem_cons_self
    have hr : ∀ y ∈ xs, sndB y many = true := fun y hy => hx y (List.mem_cons_of_mem _ hy)
    unfold sndB at hb; simp only [Bool.and_eq_true, inB_iff] at hb; rw [sendsE]
    by_cases hs : s % x.kd ≠ x.dt ∨ q = 12
    · rw [if_pos hs]
      have ih := sendsE_facts til s many e xs q hr h0 h1
      exact ⟨ih.len, ih.top, by have := ih.few; rw [List.length_cons]; omega, ih.each, ih.rise⟩
    · rw [if_neg hs]
      have hq : q ≠ 12 := fun h => hs (.inr h)
      have ih := sendsE_facts til s many e xs (q + 1) hr (by omega) (by omega)
      by_cases ht : e.t + x.to ≤ til
      · rw [if_pos ht]
        have hl := ih.len
        refine ⟨by rw [List.length_cons]; dsimp only; omega, ih.top, by have := ih.few; rw [List.length_cons]; dsimp only; omega, fun i hi => ?_, fun i j hji hi => ?_⟩
        · cases i with
          | zero =>
            have hz : SentF til many e (q + ((0 : Nat) : Int)) (sendsE til s e xs (q + 1)).2 ⟨e.t + x.to, x.t, e.to, q, x.fr, (s + x.sq) % 97⟩ :=
              ⟨⟨by dsimp only; omega, by dsimp only; omega⟩, rfl, ⟨by dsimp only; omega, ht⟩, ⟨by dsimp only; omega, by dsimp only; omega⟩, ⟨by dsimp only; omega, by dsimp only; omega⟩, ⟨by dsimp only; omega, by dsimp only; omega⟩⟩
            exact hz
          | succ i =>
            have h := ih.each i (by simpa using hi)
            exact ⟨⟨by have := h.sq.1; rw [List.getD_cons_succ]; omega, h.sq.2⟩, h.fr, h.t, h.to_, h.kd, h.dt⟩
        · cases i with
          | zero => omega
          | succ i =>
            have hi' : i < (sendsE til s e xs (q + 1)).1.length := by simpa using hi
            cases j with
            | zero =>
              have h := (ih.each i hi').sq.1
              rw [List.getD_cons_succ, List.getD_cons_zero]; dsimp only
              omega
            | succ j => exact ih.rise i j (by omega) hi'
      · rw [if_neg ht]
        exact ⟨by have := ih.len; omega, ih.top, by have := ih.few; rw [List.length_cons]; omega, fun i hi => by
          have h := ih.each i hi
          exact ⟨⟨by have := h.sq.1; omega, h.sq.2⟩, h.fr, h.t, h.to_, h.kd, h.dt⟩, ih.rise⟩
end Go.Proofs.Ytjdoealcmokakaa

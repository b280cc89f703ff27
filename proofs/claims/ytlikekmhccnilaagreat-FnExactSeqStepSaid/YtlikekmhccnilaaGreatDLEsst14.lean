/-
  Sequential simulators in memory, in one sentence: lists of component states and of records, and when two are the same; for all that lie in memory.
  What markSeqState, heldSeqState and eqSeqState return, in one sentence: the marks are laid one behind the other in three blocks, are held, and when two are the same; for simulators of the call's own.
-/
import Derived.Test.YtlikekmhccnilaaGreatDLEsst12
import Derived.Test.YtlikekmhccnilaaGreatDLEsst13
namespace Go.Proofs.YtlikekmhccnilaaGreat
set_option maxRecDepth 100000
open Go.RowKit
/-- A record: the event, and the state behind it. -/
structure Rec where
  ev : Evt
  s : Int
deriving DecidableEq
instance : Inhabited Rec := ⟨⟨default, 0⟩⟩
instance : Inhabited Cst := ⟨⟨0, 0, 0⟩⟩
def Rec.v (r : Rec) : Value := .agg #[.int .i64 r.ev.t, .int .i64 r.ev.to, .int .i64 r.ev.fr, .int .i64 r.ev.sq, .int .i64 r.ev.kd, .int .i64 r.ev.dt, .int .i64 r.s]
/-- A sequential simulator. -/
structure Sq where
  comps : List Cst
  wait : List Evt
  log : List Rec
deriving DecidableEq
/-- The cells of one, from o on. -/
def CstAt (w : World) (b o : Nat) (x : Cst) : Prop :=
  w.cell? ⟨b, o, none⟩ = some (.int .i64 x.s) ∧ w.cell? ⟨b, o + 1, none⟩ = some (.int .i64 x.sq) ∧ w.cell? ⟨b, o + 2, none⟩ = some (.int .i64 x.ct)
/-- The slice at A of n elements holds the list. -/
def Csts (w : World) (A : Option Addr) (n : Nat) (xs : List Cst) : Prop :=
  xs.length = n ∧ (0 < n → ∃ b off, A = some ⟨b, off, none⟩ ∧ b < w.heap.size ∧ ∀ i, i < n → CstAt w b (off + i * 3) (xs.getD i default))
theorem CstAt.keep {w w' : World} {b o : Nat} {x : Cst} (h : CstAt w b o x) (k : ∀ j, w'.cell? ⟨b, j, none⟩ = w.cell? ⟨b, j, none⟩) : CstAt w' b o x := by
  obtain ⟨h0, h1, h2⟩ := h
  exact ⟨(k _).trans h0, (k _).trans h1, (k _).trans h2⟩
theorem CstAt.up {w w' : World} {b o : Nat} {x : Cst} (h : CstAt w b o x) (u : Up w w') (hb : b < w.heap.size) : CstAt w' b o x := h.keep fun j => u.cells b j hb
theorem Csts.up {w w' : World} {A : Option Addr} {n : Nat} {xs : List Cst} (h : Csts w A n xs) (u : Up w w') : Csts w' A n xs :=
  ⟨h.1, fun hn => by
    obtain ⟨b, off, hA, hb, hc⟩ := h.2 hn
    exact ⟨b, off, hA, Nat.lt_of_lt_of_le hb u.size, fun i hi => (hc i hi).up u hb⟩⟩
/-- The cells of one, from o on. -/
def RecAt (w : World) (b o : Nat) (x : Rec) : Prop :=
  w.cell? ⟨b, o, none⟩ = some (.int .i64 x.ev.t) ∧ w.cell? ⟨b, o + 1, none⟩ = some (.int .i64 x.ev.to) ∧ w.cell? ⟨b, o + 2, none⟩ = some (.int .i64 x.ev.fr) ∧ w.cell? ⟨b, o + 3, none⟩ = some (.int .i64 x.ev.sq) ∧ w.cell? ⟨b, o + 4, none⟩ = some (.int .i64 x.ev.kd) ∧ w.cell? ⟨b, o + 5, none⟩ = some (.int .i64 x.ev.dt) ∧ w.cell? ⟨b, o + 6, none⟩ = some (.int .i64 x.s)
/-- The slice at A of n elements holds the list. -/
def Recs (w : World) (A : Option Addr) (n : Nat) (xs : List Rec) : Prop :=
  xs.length = n ∧ (0 < n → ∃ b off, A = some ⟨b, off, none⟩ ∧ b < w.heap.size ∧ ∀ i, i < n → RecAt w b (off + i * 7) (xs.getD i default))
theorem RecAt.keep {w w' : World} {b o : Nat} {x : Rec} (h : RecAt w b o x) (k : ∀ j, w'.cell? ⟨b, j, none⟩ = w.cell? ⟨b, j, none⟩) : RecAt w' b o x := by
  obtain ⟨h0, h1, h2, h3, h4, h5, h6⟩ := h
  exact ⟨(k _).trans h0, (k _).trans h1, (k _).trans h2, (k _).trans h3, (k _).trans h4, (k _).trans h5, (k _).trans h6⟩
theorem RecAt.up {w w' : World} {b o : Nat} {x : Rec} (h : RecAt w b o x) (u : Up w w') (hb : b < w.heap.size) : RecAt w' b o x := h.keep fun j => u.cells b j hb
theorem Recs.up {w w' : World} {A : Option Addr} {n : Nat} {xs : List Rec} (h : Recs w A n xs) (u : Up w w') : Recs w' A n xs :=
  ⟨h.1, fun hn => by
    obtain ⟨b, off, hA, hb, hc⟩ := h.2 hn
    exact ⟨b, off, hA, Nat.lt_of_lt_of_le hb u.size, fun i hi => (hc i hi).up u hb⟩⟩
theorem eqT_drop {α : Type} [DecidableEq α] (d : α) (es fs : List α) (hl : es.length = fs.length) (k : Nat) (h : k < es.length) : decide (es.drop k = fs.drop k) = (decide (es.getD k d = fs.getD k d) && decide (es.drop (k + 1) = fs.drop (k + 1))) := by
  have h2 : k < fs.length := by omega
  have g1 : es.getD k d = es[k] := by simp [h]
  have g2 : fs.getD k d = fs[k] := by simp [h2]
  rw [List.drop_eq_getElem_cons h, List.drop_eq_getElem_cons h2, g1, g2, Bool.eq_iff_iff, Bool.and_eq_true, decide_eq_true_iff, decide_eq_true_iff, decide_eq_true_iff, List.cons.injEq]
set_option maxHeartbeats 4000000 in
theorem eqC_any (A B : Option Addr) (n m capa capb : Nat) (es fs : List Cst) (w : World) (hn : n ≤ 1000000000) (hE : Csts w A n es) (hF : Csts w B m fs) :
    Calls Tryz.prog 65 #[.slice A n capa, .slice B m capb] w fun x w' => x = .returned (.bool (decide (es = fs))) ∧ Up w w' := by
  by_cases hnm : n = m
  · subst hnm
    have H0 := Lib.hid (show decide (es.drop 0 = fs.drop 0) = decide (es = fs) from rfl)
    have ST := Lib.hid (eqT_drop default es fs (by rw [hE.1, hF.1]))
    have HE := Lib.hid hE
    have HF := Lib.hid hF
    have LE := Lib.hid hE.1
    have LF := Lib.hid hF.1
    have CL := Lib.hid (fun a b W => eqCst_any a b W)
    generalize hr : decide (es = fs) = res at H0 ⊢
    clear hE hF hr
    go_enter Tryz.func65, Tryz.ntmps65
    go_wp2
    go_loopw [5] (fun i wr => (∃ k : Nat, k ≤ n ∧ i = .int .i64 k ∧ Hid (decide (es.drop k = fs.drop k) = res)) ∧ Up w wr) (fun i _ => n - (intOf i).toNat)
    case atStart => exact ⟨⟨0, by omega, rfl, H0⟩, Up.refl _⟩
    case round =>
      obtain ⟨⟨k, hk, rfl, HR⟩, ur⟩ := hrel
      by_cases hlt : k < n
      · obtain ⟨b, off, hA, hb, hc⟩ := HE.out.2 (by omega)
        obtain ⟨b2, off2, hA2, hb2, hc2⟩ := HF.out.2 (by omega); subst hA hA2
        have a0 := (hc k hlt).up ur hb
        have a1 := (hc2 k hlt).up ur hb2
        have hb' : b < wr.heap.size := by have := ur.size; omega
        have hb2' : b2 < wr.heap.size := by have := ur.size; omega
        clear hc hc2
        have S := ST.out k (by rw [LE.out]; exact hlt)
        have cl := CL.out (es.getD k default) (fs.getD k default)
        generalize es.getD k default = p at a0 S cl
        generalize fs.getD k default = q at a1 S cl
        have S' := Lib.hid S
        clear S
        generalize decide (p = q) = r at S' cl
        unfold CstAt at a0 a1; unfold Cst.v at cl; obtain ⟨p0, p1, p2⟩ := a0; obtain ⟨q0, q1, q2⟩ := a1
        have C := Lib.hid cl
        clear cl
        have i4 : (k : Int) < n := by omega
        have UR := Lib.hid ur
        clear ur
        go_wp2_with fail
        refine region_qw (by kernel_rfl) (by kernel_rfl) ?_; refine qWalk_step ?_; intro K hK; go_simp; apply Exists.intro; refine And.intro ?_ ?_
        · intro w1 hw1
          try go_simp
          try rfl
        try go_simp
        refine hK _ ?_; clear hK K; refine qWalk_step ?_; intro K hK; go_simp; apply Exists.intro; refine And.intro ?_ ?_
        · intro w1 hw1
          try go_simp
          try rfl
        try go_simp
        refine hK _ ?_; clear hK K; refine qWalk_step ?_; intro K hK; go_simp; apply Exists.intro; refine And.intro ?_ ?_
        · intro w1 hw1
          try go_simp
          try rfl
        try go_simp
        refine hK _ ?_; clear hK K; refine qWalk_step ?_; intro K hK; go_simp; apply Exists.intro; refine And.intro ?_ ?_
        · intro w1 hw1
          obtain ⟨hc, hf, hz⟩ := hw1.facts
          try simp at hz
          try go_simp
          try rfl
        try go_simp
        refine hK _ ?_; clear hK K; refine qWalk_step ?_; intro K hK; go_simp; apply Exists.intro; refine And.intro ?_ ?_
        · intro w1 hw1
          try go_simp
          try rfl
        try go_simp
        refine hK _ ?_; clear hK K; refine qWalk_step ?_; intro K hK; go_simp; apply Exists.intro; refine And.intro ?_ ?_
        · intro w1 hw1
          try go_simp
          try rfl
        try go_simp
        refine hK _ ?_; clear hK K; refine qWalk_step ?_; intro K hK; go_simp; apply Exists.intro; refine And.intro ?_ ?_
        · intro w1 hw1
          try go_simp
          try rfl
        try go_simp
        refine hK _ ?_; clear hK K; refine qWalk_step ?_; intro K hK; go_simp; apply Exists.intro; refine And.intro ?_ ?_
        · intro w1 hw1
          obtain ⟨hc, hf, hz⟩ := hw1.facts
          try simp at hz
          try go_simp
          try rfl
        try go_simp
        refine hK _ ?_; clear hK K; refine qWalk_step ?_; intro K hK; go_simp; apply Exists.intro; refine And.intro ?_ ?_
        · intro w1 hw1
          try go_simp
          exact up_call hw1 (C.out _)
        try go_simp
        refine hK _ ?_; clear hK K; refine qWalk_step ?_; intro K hK; go_simp; apply Exists.intro; refine And.intro ?_ ?_
        · intro w1 hw1
          try go_simp
          try rfl
        try go_simp
        refine hK _ ?_; clear hK K; refine qWalk_nil ?_; intro wA uA
        have UA := Lib.hid (UR.out.trans uA)
        clear uA p0 p1 p2 q0 q1 q2 C
        cases r
        · go_wp2
          go_ret
          exact ⟨ret_bool (by rw [← HR.out, S'.out]; rfl), UA.out⟩
        · have RN := Lib.hid (show decide (es.drop (k + 1) = fs.drop (k + 1)) = res by rw [← HR.out, S'.out]; rfl)
          go_wp2
          go_roundw
          case rel => exact ⟨⟨k + 1, by omega, by go_num, RN⟩, UA.out⟩
          case measure => simp [intOf]; omega
      · have e : decide (es.drop k = fs.drop k) = true := by rw [List.drop_eq_nil_of_le (by rw [LE.out]; omega), List.drop_eq_nil_of_le (by rw [LF.out]; omega)]; rfl
        have E := Lib.hid e
        have i4 : ¬ (k : Int) < n := by omega
        clear e; go_wp2; go_ret
        exact ⟨ret_bool (by rw [← HR.out, E.out]), ur⟩
  · have hf := Lib.hid (show decide (es = fs) = false from decide_eq_false fun h => hnm (by rw [← hE.1, ← hF.1, h]))
    generalize decide (es = fs) = r at hf ⊢
    have hne : ((n : Int) != (m : Int)) = true := by rw [bne_iff_ne]; omega
    have HN := Lib.hid hnm
    clear hE hF hnm
    go_enter Tryz.func65, Tryz.ntmps65
    go_wp2; go_ret
    exact ⟨ret_bool hf.out.symm, Up.refl _⟩
set_option maxHeartbeats 4000000 in
theorem eqRec_any (a b : Rec) (w : World) : Calls Tryz.prog 79 #[a.v, b.v] w fun x w' => x = .returned (.bool (decide (a = b))) ∧ Up w w' := by
  obtain ⟨⟨a0, a1, a2, a3, a4, a5⟩, a6⟩ := a; obtain ⟨⟨b0, b1, b2, b3, b4, b5⟩, b6⟩ := b
  have hf := Lib.hid (show decide ((⟨⟨a0, a1, a2, a3, a4, a5⟩, a6⟩ : Rec) = ⟨⟨b0, b1, b2, b3, b4, b5⟩, b6⟩) = (eqB ⟨a0, a1, a2, a3, a4, a5⟩ ⟨b0, b1, b2, b3, b4, b5⟩ && decide (a6 = b6)) by unfold eqB; rw [Bool.eq_iff_iff]; simp)
  generalize decide ((⟨⟨a0, a1, a2, a3, a4, a5⟩, a6⟩ : Rec) = ⟨⟨b0, b1, b2, b3, b4, b5⟩, b6⟩) = r at hf ⊢
  have CL := fun W => eqEvt_any ⟨a0, a1, a2, a3, a4, a5⟩ ⟨b0, b1, b2, b3, b4, b5⟩ W
  generalize eqB ⟨a0, a1, a2, a3, a4, a5⟩ ⟨b0, b1, b2, b3, b4, b5⟩ = q at hf CL
  unfold Evt.v at CL; unfold Rec.v; dsimp only at CL ⊢
  have C := Lib.hid CL
  clear CL
  go_enter Tryz.func79, Tryz.ntmps79
  go_wp2_with fail
  have ua := Lib.hid (((Up.refl w).alloc (.cells #[.int .i64 a0, .int .i64 a1, .int .i64 a2, .int .i64 a3, .int .i64 a4, .int .i64 a5, .int .i64 a6] 132)).alloc (.cells #[.int .i64 b0, .int .i64 b1, .int .i64 b2, .int .i64 b3, .int .i64 b4, .int .i64 b5, .int .i64 b6] 132))
  refine (C.out _).mono ?_; rintro x w1 ⟨rfl, u1⟩
  have U1 := Lib.hid (ua.out.trans u1)
  obtain ⟨hc, hf1, hz⟩ := u1.facts; simp at hz; clear u1 ua
  cases q
  · have HR := Lib.hid (show r = false by rw [hf.out]; rfl)
    clear hf; go_wp2; go_ret
    exact ⟨ret_bool HR.out.symm, U1.out⟩
  · by_cases h : a6 = b6
    · have HR := Lib.hid (show r = true by rw [hf.out]; simp [h])
      subst h; clear hf; go_wp2; go_ret
      exact ⟨ret_bool HR.out.symm, U1.out⟩
    · have HR := Lib.hid (show r = false by rw [hf.out]; simp [h])
      have h0' : (a6 != b6) = true := by simp [h]
      clear hf; go_wp2; go_ret
      exact ⟨ret_bool HR.out.symm, U1.out⟩
set_option maxHeartbeats 4000000 in
theorem eqR_any (A B : Option Addr) (n m capa capb : Nat) (es fs : List Rec) (w : World) (hn : n ≤ 1000000000) (hE : Recs w A n es) (hF : Recs w B m fs) :
    Calls Tryz.prog 26 #[.slice A n capa, .slice B m capb] w fun x w' => x = .returned (.bool (decide (es = fs))) ∧ Up w w' := by
  by_cases hnm : n = m
  · subst hnm
    have H0 := Lib.hid (show decide (es.drop 0 = fs.drop 0) = decide (es = fs) from rfl)
    have ST := Lib.hid (eqT_drop default es fs (by rw [hE.1, hF.1]))
    have HE := Lib.hid hE
    have HF := Lib.hid hF
    have LE := Lib.hid hE.1
    have LF := Lib.hid hF.1
    have CL := Lib.hid (fun a b W => eqRec_any a b W)
    generalize hr : decide (es = fs) = res at H0 ⊢
    clear hE hF hr
    go_enter Tryz.func26, Tryz.ntmps26
    go_wp2
    go_loopw [5] (fun i wr => (∃ k : Nat, k ≤ n ∧ i = .int .i64 k ∧ Hid (decide (es.drop k = fs.drop k) = res)) ∧ Up w wr) (fun i _ => n - (intOf i).toNat)
    case atStart => exact ⟨⟨0, by omega, rfl, H0⟩, Up.refl _⟩
    case round =>
      obtain ⟨⟨k, hk, rfl, HR⟩, ur⟩ := hrel
      by_cases hlt : k < n
      · obtain ⟨b, off, hA, hb, hc⟩ := HE.out.2 (by omega)
        obtain ⟨b2, off2, hA2, hb2, hc2⟩ := HF.out.2 (by omega); subst hA hA2
        have a0 := (hc k hlt).up ur hb
        have a1 := (hc2 k hlt).up ur hb2
        have hb' : b < wr.heap.size := by have := ur.size; omega
        have hb2' : b2 < wr.heap.size := by have := ur.size; omega
        clear hc hc2
        have S := ST.out k (by rw [LE.out]; exact hlt)
        have cl := CL.out (es.getD k default) (fs.getD k default)
        generalize es.getD k default = p at a0 S cl
        generalize fs.getD k default = q at a1 S cl
        have S' := Lib.hid S
        clear S
        generalize decide (p = q) = r at S' cl
        unfold RecAt at a0 a1; unfold Rec.v at cl; obtain ⟨p0, p1, p2, p3, p4, p5, p6⟩ := a0; obtain ⟨q0, q1, q2, q3, q4, q5, q6⟩ := a1
        have C := Lib.hid cl
        clear cl
        have i4 : (k : Int) < n := by omega
        have UR := Lib.hid ur
        clear ur
        go_wp2_with fail
        refine region_qw (by kernel_rfl) (by kernel_rfl) ?_; refine qWalk_step ?_; intro K hK; go_simp; apply Exists.intro; refine And.intro ?_ ?_
        · intro w1 hw1
          try go_simp
          try rfl
        try go_simp
        refine hK _ ?_; clear hK K; refine qWalk_step ?_; intro K hK; go_simp; apply Exists.intro; refine And.intro ?_ ?_
        · intro w1 hw1
          try go_simp
          try rfl
        try go_simp
        refine hK _ ?_; clear hK K; refine qWalk_step ?_; intro K hK; go_simp; apply Exists.intro; refine And.intro ?_ ?_
        · intro w1 hw1
          try go_simp
          try rfl
        try go_simp
        refine hK _ ?_; clear hK K; refine qWalk_step ?_; intro K hK; go_simp; apply Exists.intro; refine And.intro ?_ ?_
        · intro w1 hw1
          obtain ⟨hc, hf, hz⟩ := hw1.facts
          try simp at hz
          try go_simp
          try rfl
        try go_simp
        refine hK _ ?_; clear hK K; refine qWalk_step ?_; intro K hK; go_simp; apply Exists.intro; refine And.intro ?_ ?_
        · intro w1 hw1
          try go_simp
          try rfl
        try go_simp
        refine hK _ ?_; clear hK K; refine qWalk_step ?_; intro K hK; go_simp; apply Exists.intro; refine And.intro ?_ ?_
        · intro w1 hw1
          try go_simp
          try rfl
        try go_simp
        refine hK _ ?_; clear hK K; refine qWalk_step ?_; intro K hK; go_simp; apply Exists.intro; refine And.intro ?_ ?_
        · intro w1 hw1
          try go_simp
          try rfl
        try go_simp
        refine hK _ ?_; clear hK K; refine qWalk_step ?_; intro K hK; go_simp; apply Exists.intro; refine And.intro ?_ ?_
        · intro w1 hw1
          obtain ⟨hc, hf, hz⟩ := hw1.facts
          try simp at hz
          try go_simp
          try rfl
        try go_simp
        refine hK _ ?_; clear hK K; refine qWalk_step ?_; intro K hK; go_simp; apply Exists.intro; refine And.intro ?_ ?_
        · intro w1 hw1
          try go_simp
          exact up_call hw1 (C.out _)
        try go_simp
        refine hK _ ?_; clear hK K; refine qWalk_step ?_; intro K hK; go_simp; apply Exists.intro; refine And.intro ?_ ?_
        · intro w1 hw1
          try go_simp
          try rfl
        try go_simp
        refine hK _ ?_; clear hK K; refine qWalk_nil ?_; intro wA uA
        have UA := Lib.hid (UR.out.trans uA)
        clear uA p0 p1 p2 p3 p4 p5 p6 q0 q1 q2 q3 q4 q5 q6 C
        cases r
        · go_wp2
          go_ret
          exact ⟨ret_bool (by rw [← HR.out, S'.out]; rfl), UA.out⟩
        · have RN := Lib.hid (show decide (es.drop (k + 1) = fs.drop (k + 1)) = res by rw [← HR.out, S'.out]; rfl)
          go_wp2
          go_roundw
          case rel => exact ⟨⟨k + 1, by omega, by go_num, RN⟩, UA.out⟩
          case measure => simp [intOf]; omega
      · have e : decide (es.drop k = fs.drop k) = true := by rw [List.drop_eq_nil_of_le (by rw [LE.out]; omega), List.drop_eq_nil_of_le (by rw [LF.out]; omega)]; rfl
        have E := Lib.hid e
        have i4 : ¬ (k : Int) < n := by omega
        clear e; go_wp2; go_ret
        exact ⟨ret_bool (by rw [← HR.out, E.out]), ur⟩
  · have hf := Lib.hid (show decide (es = fs) = false from decide_eq_false fun h => hnm (by rw [← hE.1, ← hF.1, h]))
    generalize decide (es = fs) = r at hf ⊢
    have hne : ((n : Int) != (m : Int)) = true := by rw [bne_iff_ne]; omega
    have HN := Lib.hid hnm
    clear hE hF hnm
    go_enter Tryz.func26, Tryz.ntmps26
    go_wp2; go_ret
    exact ⟨ret_bool hf.out.symm, Up.refl _⟩
end Go.Proofs.YtlikekmhccnilaaGreat

namespace Go.Proofs.YtlikekmhccnilaaGreat
set_option maxRecDepth 100000
open Go.RowKit
/-- The same, in a block of any type. -/
def Mkc (w : World) (lo : Nat) (A : Option Addr) (n s : Nat) : Prop := 0 < n → ∃ g, A = some ⟨g, 0, none⟩ ∧ lo ≤ g ∧ IntsOwn w g (n * s)
theorem Mkc.up {w w' : World} {lo : Nat} {A : Option Addr} {n s : Nat} (h : Mkc w lo A n s) (u : Up w w') : Mkc w' lo A n s := fun hn => by
  obtain ⟨g, hA, hl, ho⟩ := h hn
  exact ⟨g, hA, hl, ho.up u⟩
theorem Mkc.ne {w : World} {lo : Nat} {A : Option Addr} {n s b : Nat} (h : Mkc w lo A n s) (hb : w.heap.size ≤ b) (hn : 0 < n) (g : Nat) (hA : A = some ⟨g, 0, none⟩) : g ≠ b := by
  obtain ⟨g', h1, _, h3⟩ := h hn; rw [h1] at hA
  injection hA with hA
  injection hA with hA _ _
  have := h3.1
  omega
/-- Its block alone was written, if it has any. -/
def Wr (lo : Nat) (A : Option Addr) (n : Nat) (w w' : World) : Prop := (n = 0 ∧ Up w w') ∨ (0 < n ∧ ∃ g, A = some ⟨g, 0, none⟩ ∧ lo ≤ g ∧ Mv g w w')
/-- Two slices lie in two blocks. -/
def Ap (A : Option Addr) (n : Nat) (A' : Option Addr) (n' : Nat) : Prop := 0 < n → 0 < n' → ∀ b o b' o', A = some ⟨b, o, none⟩ → A' = some ⟨b', o', none⟩ → b ≠ b'
theorem Ap.symm {A A' : Option Addr} {n n' : Nat} (h : Ap A n A' n') : Ap A' n' A n := fun h1 h2 b o b' o' e1 e2 e => h h2 h1 b' o' b o e2 e1 e.symm
theorem Wr.up {lo : Nat} {A : Option Addr} {n : Nat} {a w w' : World} (h : Wr lo A n w w') (k : Up a w) (hl : a.heap.size ≤ lo) : Up a w' := by
  rcases h with ⟨_, u⟩ | ⟨_, g, _, hg, m⟩
  · exact k.trans u
  · exact m.up k (by omega)
theorem Wr.size {lo : Nat} {A : Option Addr} {n : Nat} {w w' : World} (h : Wr lo A n w w') : w.heap.size ≤ w'.heap.size := by
  rcases h with ⟨_, u⟩ | ⟨_, g, _, _, m⟩
  · exact u.size
  · exact m.size
theorem Mkc.wr {w w' : World} {lo lo' : Nat} {A A' : Option Addr} {n n' s : Nat} (h : Mkc w lo A n s) (hw : Wr lo' A' n' w w') (ha : Ap A n A' n') : Mkc w' lo A n s := by
  rcases hw with ⟨_, u⟩ | ⟨hn', g', hA', _, m⟩
  · exact h.up u
  · intro hn
    obtain ⟨g, hA, hl, ho⟩ := h hn
    have hne := ha hn hn' g 0 g' 0 hA hA'
    exact ⟨g, hA, hl, ho.mv m hne⟩
theorem Held.wr {w w' : World} {lo' : Nat} {A A' : Option Addr} {n n' s : Nat} {k0 : Int} (h : Held w A n s k0) (hw : Wr lo' A' n' w w') (ha : Ap A n A' n') : Held w' A n s k0 := by
  rcases hw with ⟨_, u⟩ | ⟨hn', g', hA', _, m⟩
  · exact h.up u
  · intro hn
    exact (h.mv m (fun b off hA => ha hn hn' b off g' 0 hA hA')) hn
theorem markC_k (lo : Nat) (A : Option Addr) (n c : Nat) (k0 : Int) (w : World) (hn : n ≤ 1048576) (h0 : 0 ≤ k0) (h1 : k0 ≤ 1000000000000) (h : Mkc w lo A n 3) :
    Calls Tryz.prog 70 #[.slice A n c, .int .i64 k0] w fun x w' => x = .returned (.int .i64 (k0 + 3 * (n : Int))) ∧ Held w' A n 3 k0 ∧ Wr lo A n w w' := by
  rcases Nat.eq_zero_or_pos n with hz | hz
  · subst hz
    refine (markC_no A c k0 w).mono ?_; rintro x w' ⟨rfl, u⟩
    exact ⟨by simp, Held.none_ _ _ _ _, .inl ⟨rfl, u⟩⟩
  · obtain ⟨g, rfl, hg, ho⟩ := h hz
    refine (markC_any g n c k0 w hn h0 h1 ho).mono ?_; rintro x w' ⟨rfl, hh, m⟩
    exact ⟨rfl, hh, .inr ⟨hz, g, rfl, hg, m⟩⟩
theorem markE_k (lo : Nat) (A : Option Addr) (n c : Nat) (k0 : Int) (w : World) (hn : n ≤ 1048576) (h0 : 0 ≤ k0) (h1 : k0 ≤ 1000000000000) (h : Mkc w lo A n 6) :
    Calls Tryz.prog 69 #[.slice A n c, .int .i64 k0] w fun x w' => x = .returned (.int .i64 (k0 + 6 * (n : Int))) ∧ Held w' A n 6 k0 ∧ Wr lo A n w w' := by
  rcases Nat.eq_zero_or_pos n with hz | hz
  · subst hz
    refine (markE_no A c k0 w).mono ?_; rintro x w' ⟨rfl, u⟩
    exact ⟨by simp, Held.none_ _ _ _ _, .inl ⟨rfl, u⟩⟩
  · obtain ⟨g, rfl, hg, ho⟩ := h hz
    refine (markE_any g n c k0 w hn h0 h1 ho).mono ?_; rintro x w' ⟨rfl, hh, m⟩
    exact ⟨rfl, hh, .inr ⟨hz, g, rfl, hg, m⟩⟩
theorem markR_k (lo : Nat) (A : Option Addr) (n c : Nat) (k0 : Int) (w : World) (hn : n ≤ 1048576) (h0 : 0 ≤ k0) (h1 : k0 ≤ 1000000000000) (h : Mkc w lo A n 7) :
    Calls Tryz.prog 27 #[.slice A n c, .int .i64 k0] w fun x w' => x = .returned (.int .i64 (k0 + 7 * (n : Int))) ∧ Held w' A n 7 k0 ∧ Wr lo A n w w' := by
  rcases Nat.eq_zero_or_pos n with hz | hz
  · subst hz
    refine (markR_no A c k0 w).mono ?_; rintro x w' ⟨rfl, u⟩
    exact ⟨by simp, Held.none_ _ _ _ _, .inl ⟨rfl, u⟩⟩
  · obtain ⟨g, rfl, hg, ho⟩ := h hz
    refine (markR_any g n c k0 w hn h0 h1 ho).mono ?_; rintro x w' ⟨rfl, hh, m⟩
    exact ⟨rfl, hh, .inr ⟨hz, g, rfl, hg, m⟩⟩
theorem Box3.wr {w w' : World} {lo b : Nat} {A : Option Addr} {n : Nat} {x y z : Value} (h : Box3 w b x y z) (hw : Wr lo A n w w') (hne : 0 < n → ∀ g, A = some ⟨g, 0, none⟩ → g ≠ b) : Box3 w' b x y z := by
  rcases hw with ⟨_, u⟩ | ⟨hn, g, hA, _, m⟩
  · exact h.up u
  · have := hne hn g hA
    exact h.keep m.size (fun o => m.cells b o h.lt (by omega))
def HeldSq (w : World) (Ac : Option Addr) (nc : Nat) (Aw : Option Addr) (nw : Nat) (Al : Option Addr) (nl : Nat) : Prop :=
  Held w Ac nc 3 1 ∧ Held w Aw nw 6 (1 + 3 * (nc : Int)) ∧ Held w Al nl 7 (1 + 3 * (nc : Int) + 6 * (nw : Int))
theorem HeldSq.up {w w' : World} {Ac Aw Al : Option Addr} {nc nw nl : Nat} (h : HeldSq w Ac nc Aw nw Al nl) (u : Up w w') : HeldSq w' Ac nc Aw nw Al nl := ⟨h.1.up u, h.2.1.up u, h.2.2.up u⟩
set_option maxHeartbeats 4000000 in
theorem markSq_ap (lo : Nat) (Ac : Option Addr) (nc cc : Nat) (Aw : Option Addr) (nw cw : Nat) (Al : Option Addr) (nl cl : Nat) (w : World) (h1 : nc ≤ 1048576) (h2 : nw ≤ 1048576) (h3 : nl ≤ 1048576)
    (m1 : Mkc w lo Ac nc 3) (m2 : Mkc w lo Aw nw 6) (m3 : Mkc w lo Al nl 7) (p12 : Ap Ac nc Aw nw) (p13 : Ap Ac nc Al nl) (p23 : Ap Aw nw Al nl) :
    Calls Tryz.prog 20 #[.agg #[.slice Ac nc cc, .slice Aw nw cw, .slice Al nl cl], .int .i64 1] w fun x w' => x = .returned (.int .i64 (1 + 3 * (nc : Int) + 6 * (nw : Int) + 7 * (nl : Int))) ∧ HeldSq w' Ac nc Aw nw Al nl ∧ (∀ a, Up a w → a.heap.size ≤ lo → lo ≤ w.heap.size → Up a w') ∧ (∀ b x y z, Box3 w b x y z → (0 < nc → ∀ g, Ac = some ⟨g, 0, none⟩ → g ≠ b) → (0 < nw → ∀ g, Aw = some ⟨g, 0, none⟩ → g ≠ b) → (0 < nl → ∀ g, Al = some ⟨g, 0, none⟩ → g ≠ b) → Box3 w' b x y z) ∧ w.heap.size ≤ w'.heap.size := by
  have a12 := Lib.hid p12
  have a13 := Lib.hid p13
  have a21 := Lib.hid p12.symm
  have a23 := Lib.hid p23
  have a31 := Lib.hid p13.symm
  have a32 := Lib.hid p23.symm
  clear p12 p13 p23
  have ua := Lib.hid ((Up.refl w).alloc (.cells #[.slice Ac nc cc, .slice Aw nw cw, .slice Al nl cl] 36))
  have M1 := Lib.hid (m1.up ua.out)
  have M2 := Lib.hid (m2.up ua.out)
  have M3 := Lib.hid (m3.up ua.out)
  have BX := Lib.hid (Box3.new w (.slice Ac nc cc) (.slice Aw nw cw) (.slice Al nl cl) 36)
  have N2 := Lib.hid (fun b (hb : w.heap.size ≤ b) (h : 0 < nw) => (show ∀ g, Aw = some ⟨g, 0, none⟩ → g ≠ b from fun g hA e => by obtain ⟨g', h1, _, h3⟩ := m2 h; rw [h1] at hA; injection hA with hA; injection hA with hA _ _; have := h3.1; omega))
  have N1 := Lib.hid (fun b (hb : w.heap.size ≤ b) (h : 0 < nc) => (show ∀ g, Ac = some ⟨g, 0, none⟩ → g ≠ b from fun g hA e => by obtain ⟨g', h1, _, h3⟩ := m1 h; rw [h1] at hA; injection hA with hA; injection hA with hA _ _; have := h3.1; omega))
  clear m1 m2 m3
  go_enter Tryz.func20, Tryz.ntmps20
  go_wp2_with fail
  generalize hb : w.heap.size = bx at *
  generalize w.alloc (.cells #[.slice Ac nc cc, .slice Aw nw cw, .slice Al nl cl] 36) = W at *
  refine (markC_k lo Ac nc cc 1 W h1 (by omega) (by omega) M1.out).mono ?_; rintro x w1 ⟨rfl, hh1, wr1⟩
  have H1 := Lib.hid hh1
  have R1 := Lib.hid wr1
  have M2 := Lib.hid (M2.out.wr wr1 a21.out)
  have M3 := Lib.hid (M3.out.wr wr1 a31.out)
  have BX := Lib.hid (BX.out.wr wr1 (fun h => N1.out bx (by omega) h))
  obtain ⟨q0, q1, q2⟩ := And.intro BX.out.c0 (And.intro BX.out.c1 BX.out.c2); clear hh1 wr1
  have K1 : 0 ≤ 1 + 3 * (nc : Int) ∧ 1 + 3 * (nc : Int) ≤ 10000000 := by omega
  go_wp2_with fail
  refine (markE_k lo Aw nw cw (1 + 3 * (nc : Int)) w1 h2 (by omega) (by omega) M2.out).mono ?_; rintro x w2 ⟨rfl, hh1, wr1⟩
  have H2 := Lib.hid hh1
  have R2 := Lib.hid wr1
  have H1 := Lib.hid (H1.out.wr wr1 a12.out)
  have M3 := Lib.hid (M3.out.wr wr1 a32.out)
  have BX := Lib.hid (BX.out.wr wr1 (fun h => N2.out bx (by omega) h))
  clear q0 q1 q2; obtain ⟨q0, q1, q2⟩ := And.intro BX.out.c0 (And.intro BX.out.c1 BX.out.c2); clear hh1 wr1
  have K2 : 0 ≤ 1 + 3 * (nc : Int) + 6 * (nw : Int) ∧ 1 + 3 * (nc : Int) + 6 * (nw : Int) ≤ 100000000 := by omega
  go_wp2_with fail
  refine (markR_k lo Al nl cl (1 + 3 * (nc : Int) + 6 * (nw : Int)) w2 h3 (by omega) (by omega) M3.out).mono ?_; rintro x w3 ⟨rfl, hh1, wr1⟩
  have HE := Lib.hid (show HeldSq w3 Ac nc Aw nw Al nl from ⟨H1.out.wr wr1 a13.out, H2.out.wr wr1 a23.out, hh1⟩)
  have UE := Lib.hid (fun a (ha : Up a w) (hl : a.heap.size ≤ lo) => (show Up a w3 from wr1.up (R2.out.up (R1.out.up (ha.trans ua.out) hl) hl) hl))
  have BE := Lib.hid (fun b x y z (h : Box3 w b x y z) n1 n2 n3 => (((h.up ua.out).wr R1.out n1).wr R2.out n2).wr wr1 n3)
  have SE := Lib.hid (show w.heap.size ≤ w3.heap.size from Nat.le_trans ua.out.size (Nat.le_trans R1.out.size (Nat.le_trans R2.out.size wr1.size)))
  clear hh1 wr1 q0 q1 q2; go_wp2; go_ret
  exact ⟨rfl, HE.out, fun a ha hl _ => UE.out a ha hl, BE.out, SE.out⟩
set_option maxHeartbeats 4000000 in
theorem heldSq_any (Ac : Option Addr) (nc cc : Nat) (Aw : Option Addr) (nw cw : Nat) (Al : Option Addr) (nl cl : Nat) (w : World) (h1 : nc ≤ 1048576) (h2 : nw ≤ 1048576) (h3 : nl ≤ 1048576) (h : HeldSq w Ac nc Aw nw Al nl) :
    Calls Tryz.prog 21 #[.agg #[.slice Ac nc cc, .slice Aw nw cw, .slice Al nl cl], .int .i64 1] w fun x w' => x = .returned (.int .i64 (1 + 3 * (nc : Int) + 6 * (nw : Int) + 7 * (nl : Int))) ∧ Up w w' := by
  have H := Lib.hid h
  have ua := Lib.hid ((Up.refl w).alloc (.cells #[.slice Ac nc cc, .slice Aw nw cw, .slice Al nl cl] 36))
  have BX := Lib.hid (Box3.new w (.slice Ac nc cc) (.slice Aw nw cw) (.slice Al nl cl) 36)
  clear h
  go_enter Tryz.func21, Tryz.ntmps21
  go_wp2_with fail
  generalize w.alloc (.cells #[.slice Ac nc cc, .slice Aw nw cw, .slice Al nl cl] 36) = W at *
  refine (heldC_any Ac nc cc 1 W h1 (by omega) (by omega) (H.out.1.up ua.out)).mono ?_; rintro x w1 ⟨rfl, u1⟩
  have U1 := Lib.hid (ua.out.trans u1)
  have BX := Lib.hid (BX.out.up u1)
  obtain ⟨q0, q1, q2⟩ := And.intro BX.out.c0 (And.intro BX.out.c1 BX.out.c2)
  have K1 : 0 ≤ 1 + 3 * (nc : Int) ∧ 1 + 3 * (nc : Int) ≤ 10000000 := by omega
  have K1' : ¬ 1 + 3 * (nc : Int) < 0 := by omega
  clear u1
  go_wp2_with fail
  refine (heldE_any Aw nw cw (1 + 3 * (nc : Int)) w1 h2 (by omega) (by omega) (H.out.2.1.up U1.out)).mono ?_; rintro x w2 ⟨rfl, u1⟩
  have U2 := Lib.hid (U1.out.trans u1)
  have BX := Lib.hid (BX.out.up u1)
  clear q0 q1 q2; obtain ⟨q0, q1, q2⟩ := And.intro BX.out.c0 (And.intro BX.out.c1 BX.out.c2)
  have K2 : 0 ≤ 1 + 3 * (nc : Int) + 6 * (nw : Int) ∧ 1 + 3 * (nc : Int) + 6 * (nw : Int) ≤ 100000000 := by omega
  have K2' : ¬ 1 + 3 * (nc : Int) + 6 * (nw : Int) < 0 := by omega
  clear u1
  go_wp2_with fail
  refine (heldR_any Al nl cl (1 + 3 * (nc : Int) + 6 * (nw : Int)) w2 h3 (by omega) (by omega) (H.out.2.2.up U2.out)).mono ?_; rintro x w3 ⟨rfl, u1⟩
  have U3 := Lib.hid (U2.out.trans u1)
  have K3' : ¬ 1 + 3 * (nc : Int) + 6 * (nw : Int) + 7 * (nl : Int) < 0 := by omega
  clear u1 q0 q1 q2; go_wp2; go_ret
  exact ⟨rfl, U3.out⟩
/-- A simulator's value, over these slices. -/
structure SqV (w : World) (Ac : Option Addr) (nc : Nat) (Aw : Option Addr) (nw : Nat) (Al : Option Addr) (nl : Nat) (s : Sq) : Prop where
  comps : Csts w Ac nc s.comps
  wait : Evs w Aw nw s.wait
  log : Recs w Al nl s.log
theorem SqV.up {w w' : World} {Ac Aw Al : Option Addr} {nc nw nl : Nat} {s : Sq} (h : SqV w Ac nc Aw nw Al nl s) (u : Up w w') : SqV w' Ac nc Aw nw Al nl s := ⟨h.comps.up u, h.wait.up u, h.log.up u⟩
set_option maxHeartbeats 4000000 in
theorem eqSq_any (Ac : Option Addr) (nc cc : Nat) (Aw : Option Addr) (nw cw : Nat) (Al : Option Addr) (nl cl : Nat) (s : Sq) (Bc : Option Addr) (mc dc : Nat) (Bw : Option Addr) (mw dw : Nat) (Bl : Option Addr) (ml dl : Nat) (s' : Sq) (w : World)
    (h1 : nc ≤ 1000000000) (h2 : nw ≤ 1000000000) (h3 : nl ≤ 1000000000) (h : SqV w Ac nc Aw nw Al nl s) (h' : SqV w Bc mc Bw mw Bl ml s') :
    Calls Tryz.prog 17 #[.agg #[.slice Ac nc cc, .slice Aw nw cw, .slice Al nl cl], .agg #[.slice Bc mc dc, .slice Bw mw dw, .slice Bl ml dl]] w fun x w' => x = .returned (.bool (decide (s = s'))) ∧ Up w w' := by
  have hf := Lib.hid (show decide (s = s') = (decide (s.comps = s'.comps) && (decide (s.wait = s'.wait) && decide (s.log = s'.log))) by
    obtain ⟨a, b, c⟩ := s; obtain ⟨a', b', c'⟩ := s'; rw [Bool.eq_iff_iff]
    simp)
  have H := Lib.hid h
  have H' := Lib.hid h'
  have X0 := Lib.hid ((Box3.new w (.slice Ac nc cc) (.slice Aw nw cw) (.slice Al nl cl) 36).up ((Up.refl _).alloc (.cells #[.slice Bc mc dc, .slice Bw mw dw, .slice Bl ml dl] 36)))
  have X1 := Lib.hid (Box3.new (w.alloc (.cells #[.slice Ac nc cc, .slice Aw nw cw, .slice Al nl cl] 36)) (.slice Bc mc dc) (.slice Bw mw dw) (.slice Bl ml dl) 36)
  simp only [World.size_alloc] at X1
  have ua := Lib.hid (((Up.refl w).alloc (.cells #[.slice Ac nc cc, .slice Aw nw cw, .slice Al nl cl] 36)).alloc (.cells #[.slice Bc mc dc, .slice Bw mw dw, .slice Bl ml dl] 36))
  have C1 := Lib.hid (fun W (u : Up w W) => eqC_any Ac Bc nc mc cc dc s.comps s'.comps W h1 (h.comps.up u) (h'.comps.up u))
  have C2 := Lib.hid (fun W (u : Up w W) => eqS_any Aw Bw nw mw cw dw s.wait s'.wait W h2 (h.wait.up u) (h'.wait.up u))
  have C3 := Lib.hid (fun W (u : Up w W) => eqR_any Al Bl nl ml cl dl s.log s'.log W h3 (h.log.up u) (h'.log.up u))
  generalize decide (s = s') = r at hf ⊢
  generalize decide (s.comps = s'.comps) = r1 at hf C1
  generalize decide (s.wait = s'.wait) = r2 at hf C2
  generalize decide (s.log = s'.log) = r3 at hf C3
  clear h h'
  go_enter Tryz.func17, Tryz.ntmps17
  go_wp2_with fail
  generalize (w.alloc (.cells #[.slice Ac nc cc, .slice Aw nw cw, .slice Al nl cl] 36)).alloc (.cells #[.slice Bc mc dc, .slice Bw mw dw, .slice Bl ml dl] 36) = W at *
  refine (C1.out _ ua.out).mono ?_; rintro x w1 ⟨rfl, u1⟩
  have ua := Lib.hid (ua.out.trans u1)
  have X0 := Lib.hid (X0.out.up u1)
  have X1 := Lib.hid (X1.out.up u1)
  clear u1
  cases r1
  · have HR := Lib.hid (show r = false by rw [hf.out]; rfl)
    clear hf; go_wp2; go_ret
    exact ⟨ret_bool HR.out.symm, ua.out⟩
  · obtain ⟨q0, q1, q2⟩ := And.intro X0.out.c0 (And.intro X0.out.c1 X0.out.c2)
    obtain ⟨p0, p1, p2⟩ := And.intro X1.out.c0 (And.intro X1.out.c1 X1.out.c2)
    go_wp2_with fail
    refine (C2.out _ ua.out).mono ?_; rintro x w2 ⟨rfl, u1⟩
    have ua := Lib.hid (ua.out.trans u1)
    have X0 := Lib.hid (X0.out.up u1)
    have X1 := Lib.hid (X1.out.up u1)
    clear u1 q0 q1 q2 p0 p1 p2
    cases r2
    · have HR := Lib.hid (show r = false by rw [hf.out]; rfl)
      clear hf; go_wp2; go_ret
      exact ⟨ret_bool HR.out.symm, ua.out⟩
    · obtain ⟨q0, q1, q2⟩ := And.intro X0.out.c0 (And.intro X0.out.c1 X0.out.c2)
      obtain ⟨p0, p1, p2⟩ := And.intro X1.out.c0 (And.intro X1.out.c1 X1.out.c2)
      go_wp2_with fail
      refine (C3.out _ ua.out).mono ?_; rintro x w3 ⟨rfl, u1⟩
      have ua := Lib.hid (ua.out.trans u1)
      have HR := Lib.hid (show r = r3 by rw [hf.out]; rfl)
      clear u1 q0 q1 q2 p0 p1 p2 hf
      cases r3
      · go_wp2
        go_ret
        exact ⟨ret_bool HR.out.symm, ua.out⟩
      · go_wp2
        go_ret
        exact ⟨ret_bool HR.out.symm, ua.out⟩
end Go.Proofs.YtlikekmhccnilaaGreat

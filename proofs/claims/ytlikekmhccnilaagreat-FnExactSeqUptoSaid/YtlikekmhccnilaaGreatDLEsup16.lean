/-
  Sequential simulators in memory, in one sentence: lists of component states and of records, and when two are the same; for all that lie in memory.
  Component states in a row of the call's own, in one sentence: their cells one behind the other, and what is read off again; for every list.
  Records in a row of the call's own, in one sentence: their cells one behind the other, and what is read off again; for every list.
-/
import Derived.Test.YtlikekmhccnilaaGreatDLEsup03
import Derived.Test.YtlikekmhccnilaaGreatDLEsup14
import Derived.Test.YtlikekmhccnilaaGreatDLEsup15
namespace Go.Proofs.YtlikekmhccnilaaGreat
set_option maxRecDepth 100000
open Go.RowKit
/-- A record: the event, and the state behind it. -/
structure Rec where
  ev : Evt
  s : Int
deriving DecidableEq
instance : Inhabited Rec := ⟨⟨default, 0⟩⟩
instance : Inhabited Cst := ⟨⟨0, 0, 0⟩⟩
def Rec.v (r : Rec) : Value := .agg #[.int .i64 r.ev.t, .int .i64 r.ev.to, .int .i64 r.ev.fr, .int .i64 r.ev.sq, .int .i64 r.ev.kd, .int .i64 r.ev.dt, .int .i64 r.s]
/-- A sequential simulator. -/
structure Sq where
  comps : List Cst
  wait : List Evt
  log : List Rec
deriving DecidableEq
/-- The cells of one, from o on. -/
def CstAt (w : World) (b o : Nat) (x : Cst) : Prop :=
  w.cell? ⟨b, o, none⟩ = some (.int .i64 x.s) ∧ w.cell? ⟨b, o + 1, none⟩ = some (.int .i64 x.sq) ∧ w.cell? ⟨b, o + 2, none⟩ = some (.int .i64 x.ct)
/-- The slice at A of n elements holds the list. -/
def Csts (w : World) (A : Option Addr) (n : Nat) (xs : List Cst) : Prop :=
  xs.length = n ∧ (0 < n → ∃ b off, A = some ⟨b, off, none⟩ ∧ b < w.heap.size ∧ ∀ i, i < n → CstAt w b (off + i * 3) (xs.getD i default))
theorem CstAt.keep {w w' : World} {b o : Nat} {x : Cst} (h : CstAt w b o x) (k : ∀ j, w'.cell? ⟨b, j, none⟩ = w.cell? ⟨b, j, none⟩) : CstAt w' b o x := by
  obtain ⟨h0, h1, h2⟩ := h
  exact ⟨(k _).trans h0, (k _).trans h1, (k _).trans h2⟩
theorem CstAt.up {w w' : World} {b o : Nat} {x : Cst} (h : CstAt w b o x) (u : Up w w') (hb : b < w.heap.size) : CstAt w' b o x := h.keep fun j => u.cells b j hb
theorem Csts.up {w w' : World} {A : Option Addr} {n : Nat} {xs : List Cst} (h : Csts w A n xs) (u : Up w w') : Csts w' A n xs :=
  ⟨h.1, fun hn => by
    obtain ⟨b, off, hA, hb, hc⟩ := h.2 hn
    exact ⟨b, off, hA, Nat.lt_of_lt_of_le hb u.size, fun i hi => (hc i hi).up u hb⟩⟩
/-- The cells of one, from o on. -/
def RecAt (w : World) (b o : Nat) (x : Rec) : Prop :=
  w.cell? ⟨b, o, none⟩ = some (.int .i64 x.ev.t) ∧ w.cell? ⟨b, o + 1, none⟩ = some (.int .i64 x.ev.to) ∧ w.cell? ⟨b, o + 2, none⟩ = some (.int .i64 x.ev.fr) ∧ w.cell? ⟨b, o + 3, none⟩ = some (.int .i64 x.ev.sq) ∧ w.cell? ⟨b, o + 4, none⟩ = some (.int .i64 x.ev.kd) ∧ w.cell? ⟨b, o + 5, none⟩ = some (.int .i64 x.ev.dt) ∧ w.cell? ⟨b, o + 6, none⟩ = some (.int .i64 x.s)
/-- The slice at A of n elements holds the list. -/
def Recs (w : World) (A : Option Addr) (n : Nat) (xs : List Rec) : Prop :=
  xs.length = n ∧ (0 < n → ∃ b off, A = some ⟨b, off, none⟩ ∧ b < w.heap.size ∧ ∀ i, i < n → RecAt w b (off + i * 7) (xs.getD i default))
theorem RecAt.keep {w w' : World} {b o : Nat} {x : Rec} (h : RecAt w b o x) (k : ∀ j, w'.cell? ⟨b, j, none⟩ = w.cell? ⟨b, j, none⟩) : RecAt w' b o x := by
  obtain ⟨h0, h1, h2, h3, h4, h5, h6⟩ := h
  exact ⟨(k _).trans h0, (k _).trans h1, (k _).trans h2, (k _).trans h3, (k _).trans h4, (k _).trans h5, (k _).trans h6⟩
theorem RecAt.up {w w' : World} {b o : Nat} {x : Rec} (h : RecAt w b o x) (u : Up w w') (hb : b < w.heap.size) : RecAt w' b o x := h.keep fun j => u.cells b j hb
theorem Recs.up {w w' : World} {A : Option Addr} {n : Nat} {xs : List Rec} (h : Recs w A n xs) (u : Up w w') : Recs w' A n xs :=
  ⟨h.1, fun hn => by
    obtain ⟨b, off, hA, hb, hc⟩ := h.2 hn
    exact ⟨b, off, hA, Nat.lt_of_lt_of_le hb u.size, fun i hi => (hc i hi).up u hb⟩⟩
theorem eqT_drop {α : Type} [DecidableEq α] (d : α) (es fs : List α) (hl : es.length = fs.length) (k : Nat) (h : k < es.length) : decide (es.drop k = fs.drop k) = (decide (es.getD k d = fs.getD k d) && decide (es.drop (k + 1) = fs.drop (k + 1))) := by
  have h2 : k < fs.length := by omega
  have g1 : es.getD k d = es[k] := by simp [h]
  have g2 : fs.getD k d = fs[k] := by simp [h2]
  rw [List.drop_eq_getElem_cons h, List.drop_eq_getElem_cons h2, g1, g2, Bool.eq_iff_iff, Bool.and_eq_true, decide_eq_true_iff, decide_eq_true_iff, decide_eq_true_iff, List.cons.injEq]
set_option maxHeartbeats 4000000 in
theorem eqC_any (A B : Option Addr) (n m capa capb : Nat) (es fs : List Cst) (w : World) (hn : n ≤ 1000000000) (hE : Csts w A n es) (hF : Csts w B m fs) :
    Calls Tryz.prog 65 #[.slice A n capa, .slice B m capb] w fun x w' => x = .returned (.bool (decide (es = fs))) ∧ Up w w' := by
  by_cases hnm : n = m
  · subst hnm
    have H0 := Lib.hid (show decide (es.drop 0 = fs.drop 0) = decide (es = fs) from rfl)
    have ST := Lib.hid (eqT_drop default es fs (by rw [hE.1, hF.1]))
    have HE := Lib.hid hE
    have HF := Lib.hid hF
    have LE := Lib.hid hE.1
    have LF := Lib.hid hF.1
    have CL := Lib.hid (fun a b W => eqCst_any a b W)
    generalize hr : decide (es = fs) = res at H0 ⊢
    clear hE hF hr
    go_enter Tryz.func65, Tryz.ntmps65
    go_wp2
    go_loopw [5] (fun i wr => (∃ k : Nat, k ≤ n ∧ i = .int .i64 k ∧ Hid (decide (es.drop k = fs.drop k) = res)) ∧ Up w wr) (fun i _ => n - (intOf i).toNat)
    case atStart => exact ⟨⟨0, by omega, rfl, H0⟩, Up.refl _⟩
    case round =>
      obtain ⟨⟨k, hk, rfl, HR⟩, ur⟩ := hrel
      by_cases hlt : k < n
      · obtain ⟨b, off, hA, hb, hc⟩ := HE.out.2 (by omega)
        obtain ⟨b2, off2, hA2, hb2, hc2⟩ := HF.out.2 (by omega); subst hA hA2
        have a0 := (hc k hlt).up ur hb
        have a1 := (hc2 k hlt).up ur hb2
        have hb' : b < wr.heap.size := by have := ur.size; omega
        have hb2' : b2 < wr.heap.size := by have := ur.size; omega
        clear hc hc2
        have S := ST.out k (by rw [LE.out]; exact hlt)
        have cl := CL.out (es.getD k default) (fs.getD k default)
        generalize es.getD k default = p at a0 S cl
        generalize fs.getD k default = q at a1 S cl
        have S' := Lib.hid S
        clear S
        generalize decide (p = q) = r at S' cl
        unfold CstAt at a0 a1; unfold Cst.v at cl; obtain ⟨p0, p1, p2⟩ := a0; obtain ⟨q0, q1, q2⟩ := a1
        have C := Lib.hid cl
        clear cl
        have i4 : (k : Int) < n := by omega
        have UR := Lib.hid ur
        clear ur
        go_wp2_with fail
        refine region_qw (by kernel_rfl) (by kernel_rfl) ?_; refine qWalk_step ?_; intro K hK; go_simp; apply Exists.intro; refine And.intro ?_ ?_
        · intro w1 hw1
          try go_simp
          try rfl
        try go_simp
        refine hK _ ?_; clear hK K; refine qWalk_step ?_; intro K hK; go_simp; apply Exists.intro; refine And.intro ?_ ?_
        · intro w1 hw1
          try go_simp
          try rfl
        try go_simp
        refine hK _ ?_; clear hK K; refine qWalk_step ?_; intro K hK; go_simp; apply Exists.intro; refine And.intro ?_ ?_
        · intro w1 hw1
          try go_simp
          try rfl
        try go_simp
        refine hK _ ?_; clear hK K; refine qWalk_step ?_; intro K hK; go_simp; apply Exists.intro; refine And.intro ?_ ?_
        · intro w1 hw1
          obtain ⟨hc, hf, hz⟩ := hw1.facts
          try simp at hz
          try go_simp
          try rfl
        try go_simp
        refine hK _ ?_; clear hK K; refine qWalk_step ?_; intro K hK; go_simp; apply Exists.intro; refine And.intro ?_ ?_
        · intro w1 hw1
          try go_simp
          try rfl
        try go_simp
        refine hK _ ?_; clear hK K; refine qWalk_step ?_; intro K hK; go_simp; apply Exists.intro; refine And.intro ?_ ?_
        · intro w1 hw1
          try go_simp
          try rfl
        try go_simp
        refine hK _ ?_; clear hK K; refine qWalk_step ?_; intro K hK; go_simp; apply Exists.intro; refine And.intro ?_ ?_
        · intro w1 hw1
          try go_simp
          try rfl
        try go_simp
        refine hK _ ?_; clear hK K; refine qWalk_step ?_; intro K hK; go_simp; apply Exists.intro; refine And.intro ?_ ?_
        · intro w1 hw1
          obtain ⟨hc, hf, hz⟩ := hw1.facts
          try simp at hz
          try go_simp
          try rfl
        try go_simp
        refine hK _ ?_; clear hK K; refine qWalk_step ?_; intro K hK; go_simp; apply Exists.intro; refine And.intro ?_ ?_
        · intro w1 hw1
          try go_simp
          exact up_call hw1 (C.out _)
        try go_simp
        refine hK _ ?_; clear hK K; refine qWalk_step ?_; intro K hK; go_simp; apply Exists.intro; refine And.intro ?_ ?_
        · intro w1 hw1
          try go_simp
          try rfl
        try go_simp
        refine hK _ ?_; clear hK K; refine qWalk_nil ?_; intro wA uA
        have UA := Lib.hid (UR.out.trans uA)
        clear uA p0 p1 p2 q0 q1 q2 C
        cases r
        · go_wp2
          go_ret
          exact ⟨ret_bool (by rw [← HR.out, S'.out]; rfl), UA.out⟩
        · have RN := Lib.hid (show decide (es.drop (k + 1) = fs.drop (k + 1)) = res by rw [← HR.out, S'.out]; rfl)
          go_wp2
          go_roundw
          case rel => exact ⟨⟨k + 1, by omega, by go_num, RN⟩, UA.out⟩
          case measure => simp [intOf]; omega
      · have e : decide (es.drop k = fs.drop k) = true := by rw [List.drop_eq_nil_of_le (by rw [LE.out]; omega), List.drop_eq_nil_of_le (by rw [LF.out]; omega)]; rfl
        have E := Lib.hid e
        have i4 : ¬ (k : Int) < n := by omega
        clear e; go_wp2; go_ret
        exact ⟨ret_bool (by rw [← HR.out, E.out]), ur⟩
  · have hf := Lib.hid (show decide (es = fs) = false from decide_eq_false fun h => hnm (by rw [← hE.1, ← hF.1, h]))
    generalize decide (es = fs) = r at hf ⊢
    have hne : ((n : Int) != (m : Int)) = true := by rw [bne_iff_ne]; omega
    have HN := Lib.hid hnm
    clear hE hF hnm
    go_enter Tryz.func65, Tryz.ntmps65
    go_wp2; go_ret
    exact ⟨ret_bool hf.out.symm, Up.refl _⟩
set_option maxHeartbeats 4000000 in
theorem eqRec_any (a b : Rec) (w : World) : Calls Tryz.prog 79 #[a.v, b.v] w fun x w' => x = .returned (.bool (decide (a = b))) ∧ Up w w' := by
  obtain ⟨⟨a0, a1, a2, a3, a4, a5⟩, a6⟩ := a; obtain ⟨⟨b0, b1, b2, b3, b4, b5⟩, b6⟩ := b
  have hf := Lib.hid (show decide ((⟨⟨a0, a1, a2, a3, a4, a5⟩, a6⟩ : Rec) = ⟨⟨b0, b1, b2, b3, b4, b5⟩, b6⟩) = (eqB ⟨a0, a1, a2, a3, a4, a5⟩ ⟨b0, b1, b2, b3, b4, b5⟩ && decide (a6 = b6)) by unfold eqB; rw [Bool.eq_iff_iff]; simp)
  generalize decide ((⟨⟨a0, a1, a2, a3, a4, a5⟩, a6⟩ : Rec) = ⟨⟨b0, b1, b2, b3, b4, b5⟩, b6⟩) = r at hf ⊢
  have CL := fun W => eqEvt_any ⟨a0, a1, a2, a3, a4, a5⟩ ⟨b0, b1, b2, b3, b4, b5⟩ W
  generalize eqB ⟨a0, a1, a2, a3, a4, a5⟩ ⟨b0, b1, b2, b3, b4, b5⟩ = q at hf CL
  unfold Evt.v at CL; unfold Rec.v; dsimp only at CL ⊢
  have C := Lib.hid CL
  clear CL
  go_enter Tryz.func79, Tryz.ntmps79
  go_wp2_with fail
  have ua := Lib.hid (((Up.refl w).alloc (.cells #[.int .i64 a0, .int .i64 a1, .int .i64 a2, .int .i64 a3, .int .i64 a4, .int .i64 a5, .int .i64 a6] 132)).alloc (.cells #[.int .i64 b0, .int .i64 b1, .int .i64 b2, .int .i64 b3, .int .i64 b4, .int .i64 b5, .int .i64 b6] 132))
  refine (C.out _).mono ?_; rintro x w1 ⟨rfl, u1⟩
  have U1 := Lib.hid (ua.out.trans u1)
  obtain ⟨hc, hf1, hz⟩ := u1.facts; simp at hz; clear u1 ua
  cases q
  · have HR := Lib.hid (show r = false by rw [hf.out]; rfl)
    clear hf; go_wp2; go_ret
    exact ⟨ret_bool HR.out.symm, U1.out⟩
  · by_cases h : a6 = b6
    · have HR := Lib.hid (show r = true by rw [hf.out]; simp [h])
      subst h; clear hf; go_wp2; go_ret
      exact ⟨ret_bool HR.out.symm, U1.out⟩
    · have HR := Lib.hid (show r = false by rw [hf.out]; simp [h])
      have h0' : (a6 != b6) = true := by simp [h]
      clear hf; go_wp2; go_ret
      exact ⟨ret_bool HR.out.symm, U1.out⟩
set_option maxHeartbeats 4000000 in
theorem eqR_any (A B : Option Addr) (n m capa capb : Nat) (es fs : List Rec) (w : World) (hn : n ≤ 1000000000) (hE : Recs w A n es) (hF : Recs w B m fs) :
    Calls Tryz.prog 26 #[.slice A n capa, .slice B m capb] w fun x w' => x = .returned (.bool (decide (es = fs))) ∧ Up w w' := by
  by_cases hnm : n = m
  · subst hnm
    have H0 := Lib.hid (show decide (es.drop 0 = fs.drop 0) = decide (es = fs) from rfl)
    have ST := Lib.hid (eqT_drop default es fs (by rw [hE.1, hF.1]))
    have HE := Lib.hid hE
    have HF := Lib.hid hF
    have LE := Lib.hid hE.1
    have LF := Lib.hid hF.1
    have CL := Lib.hid (fun a b W => eqRec_any a b W)
    generalize hr : decide (es = fs) = res at H0 ⊢
    clear hE hF hr
    go_enter Tryz.func26, Tryz.ntmps26
    go_wp2
    go_loopw [5] (fun i wr => (∃ k : Nat, k ≤ n ∧ i = .int .i64 k ∧ Hid (decide (es.drop k = fs.drop k) = res)) ∧ Up w wr) (fun i _ => n - (intOf i).toNat)
    case atStart => exact ⟨⟨0, by omega, rfl, H0⟩, Up.refl _⟩
    case round =>
      obtain ⟨⟨k, hk, rfl, HR⟩, ur⟩ := hrel
      by_cases hlt : k < n
      · obtain ⟨b, off, hA, hb, hc⟩ := HE.out.2 (by omega)
        obtain ⟨b2, off2, hA2, hb2, hc2⟩ := HF.out.2 (by omega); subst hA hA2
        have a0 := (hc k hlt).up ur hb
        have a1 := (hc2 k hlt).up ur hb2
        have hb' : b < wr.heap.size := by have := ur.size; omega
        have hb2' : b2 < wr.heap.size := by have := ur.size; omega
        clear hc hc2
        have S := ST.out k (by rw [LE.out]; exact hlt)
        have cl := CL.out (es.getD k default) (fs.getD k default)
        generalize es.getD k default = p at a0 S cl
        generalize fs.getD k default = q at a1 S cl
        have S' := Lib.hid S
        clear S
        generalize decide (p = q) = r at S' cl
        unfold RecAt at a0 a1; unfold Rec.v at cl; obtain ⟨p0, p1, p2, p3, p4, p5, p6⟩ := a0; obtain ⟨q0, q1, q2, q3, q4, q5, q6⟩ := a1
        have C := Lib.hid cl
        clear cl
        have i4 : (k : Int) < n := by omega
        have UR := Lib.hid ur
        clear ur
        go_wp2_with fail
        refine region_qw (by kernel_rfl) (by kernel_rfl) ?_; refine qWalk_step ?_; intro K hK; go_simp; apply Exists.intro; refine And.intro ?_ ?_
        · intro w1 hw1
          try go_simp
          try rfl
        try go_simp
        refine hK _ ?_; clear hK K; refine qWalk_step ?_; intro K hK; go_simp; apply Exists.intro; refine And.intro ?_ ?_
        · intro w1 hw1
          try go_simp
          try rfl
        try go_simp
        refine hK _ ?_; clear hK K; refine qWalk_step ?_; intro K hK; go_simp; apply Exists.intro; refine And.intro ?_ ?_
        · intro w1 hw1
          try go_simp
          try rfl
        try go_simp
        refine hK _ ?_; clear hK K; refine qWalk_step ?_; intro K hK; go_simp; apply Exists.intro; refine And.intro ?_ ?_
        · intro w1 hw1
          obtain ⟨hc, hf, hz⟩ := hw1.facts
          try simp at hz
          try go_simp
          try rfl
        try go_simp
        refine hK _ ?_; clear hK K; refine qWalk_step ?_; intro K hK; go_simp; apply Exists.intro; refine And.intro ?_ ?_
        · intro w1 hw1
          try go_simp
          try rfl
        try go_simp
        refine hK _ ?_; clear hK K; refine qWalk_step ?_; intro K hK; go_simp; apply Exists.intro; refine And.intro ?_ ?_
        · intro w1 hw1
          try go_simp
          try rfl
        try go_simp
        refine hK _ ?_; clear hK K; refine qWalk_step ?_; intro K hK; go_simp; apply Exists.intro; refine And.intro ?_ ?_
        · intro w1 hw1
          try go_simp
          try rfl
        try go_simp
        refine hK _ ?_; clear hK K; refine qWalk_step ?_; intro K hK; go_simp; apply Exists.intro; refine And.intro ?_ ?_
        · intro w1 hw1
          obtain ⟨hc, hf, hz⟩ := hw1.facts
          try simp at hz
          try go_simp
          try rfl
        try go_simp
        refine hK _ ?_; clear hK K; refine qWalk_step ?_; intro K hK; go_simp; apply Exists.intro; refine And.intro ?_ ?_
        · intro w1 hw1
          try go_simp
          exact up_call hw1 (C.out _)
        try go_simp
        refine hK _ ?_; clear hK K; refine qWalk_step ?_; intro K hK; go_simp; apply Exists.intro; refine And.intro ?_ ?_
        · intro w1 hw1
          try go_simp
          try rfl
        try go_simp
        refine hK _ ?_; clear hK K; refine qWalk_nil ?_; intro wA uA
        have UA := Lib.hid (UR.out.trans uA)
        clear uA p0 p1 p2 p3 p4 p5 p6 q0 q1 q2 q3 q4 q5 q6 C
        cases r
        · go_wp2
          go_ret
          exact ⟨ret_bool (by rw [← HR.out, S'.out]; rfl), UA.out⟩
        · have RN := Lib.hid (show decide (es.drop (k + 1) = fs.drop (k + 1)) = res by rw [← HR.out, S'.out]; rfl)
          go_wp2
          go_roundw
          case rel => exact ⟨⟨k + 1, by omega, by go_num, RN⟩, UA.out⟩
          case measure => simp [intOf]; omega
      · have e : decide (es.drop k = fs.drop k) = true := by rw [List.drop_eq_nil_of_le (by rw [LE.out]; omega), List.drop_eq_nil_of_le (by rw [LF.out]; omega)]; rfl
        have E := Lib.hid e
        have i4 : ¬ (k : Int) < n := by omega
        clear e; go_wp2; go_ret
        exact ⟨ret_bool (by rw [← HR.out, E.out]), ur⟩
  · have hf := Lib.hid (show decide (es = fs) = false from decide_eq_false fun h => hnm (by rw [← hE.1, ← hF.1, h]))
    generalize decide (es = fs) = r at hf ⊢
    have hne : ((n : Int) != (m : Int)) = true := by rw [bne_iff_ne]; omega
    have HN := Lib.hid hnm
    clear hE hF hnm
    go_enter Tryz.func26, Tryz.ntmps26
    go_wp2; go_ret
    exact ⟨ret_bool hf.out.symm, Up.refl _⟩
end Go.Proofs.YtlikekmhccnilaaGreat

namespace Go.Proofs.YtlikekmhccnilaaGreat
set_option maxRecDepth 100000
open Go.RowKit
def Cst.c3 (r : Cst) : List Value := [.int .i64 r.s, .int .i64 r.sq, .int .i64 r.ct]
def flat3 : List Cst → List Value
  | [] => []
  | e :: r => e.c3 ++ flat3 r
theorem flat3_len : ∀ es : List Cst, (flat3 es).length = es.length * 3
  | [] => rfl
  | e :: r => by
    rw [flat3, List.length_append, flat3_len r]; simp [Cst.c3]
    omega
theorem flat3_app : ∀ es fs : List Cst, flat3 (es ++ fs) = flat3 es ++ flat3 fs
  | [], _ => rfl
  | e :: r, fs => by rw [List.cons_append, flat3, flat3_app r fs, flat3, List.append_assoc]
theorem flat3_get : ∀ (es : List Cst) (i k : Nat), i < es.length → k < 3 → (flat3 es)[i * 3 + k]? = (es.getD i default).c3[k]?
  | [], i, _, hi, _ => absurd hi (by simp)
  | e :: r, 0, k, _, hk => by
    rw [flat3, Nat.zero_mul, Nat.zero_add, List.getElem?_append_left (by simpa [Cst.c3] using hk)]
    rfl
  | e :: r, i + 1, k, hi, hk => by
    have hl : e.c3.length = 3 := rfl
    rw [flat3, List.getElem?_append_right (by omega), hl, show (i + 1) * 3 + k - 3 = i * 3 + k by omega, flat3_get r i k (by simpa using hi) hk]
    rfl
theorem flat3_one (es : List Cst) : ∀ u ∈ flat3 es, u.oneCell' = true := by
  induction es with
  | nil => intro u hu; cases hu
  | cons e r ih =>
    intro u hu; rw [flat3, List.mem_append] at hu
    rcases hu with hu | hu
    · simp only [Cst.c3, List.mem_cons, List.not_mem_nil, or_false] at hu
      rcases hu with rfl | rfl | rfl <;> rfl
    · exact ih u hu
theorem own3_csts {w : World} {base e n c : Nat} {A : Option Addr} {es : List Cst} (h : w.ownsRow base e 3 (.slice A n c) n (flat3 es)) : Csts w A n es := by
  have hl : es.length = n := by have := h.1; rw [flat3_len] at this; omega
  refine ⟨hl, fun hn => ?_⟩; obtain ⟨g, cap, hv, _, hlt⟩ := h.form hn
  injection hv with hA _ hcap
  subst hA hcap; refine ⟨g, 0, rfl, hlt, fun i hi => ?_⟩
  have f : ∀ k, k < 3 → w.cell? ⟨g, 0 + i * 3 + k, none⟩ = (es.getD i default).c3[k]? := fun k hk => by
    rw [Nat.zero_add, h.cellAt (i * 3 + k) (by omega), flat3_get es i k (by omega) hk]
  exact ⟨f 0 (by omega), f 1 (by omega), f 2 (by omega)⟩
theorem own3_slice {w : World} {base e n : Nat} {v : Value} {es : List Cst} (h : w.ownsRow base e 3 v n (flat3 es)) : n = es.length ∧ ∃ A c, v = .slice A n c ∧ n ≤ c ∧ c ≤ 9223372036854775807 := by
  have hl : es.length = n := by have := h.1; rw [flat3_len] at this; omega
  refine ⟨hl.symm, ?_⟩
  rcases h.2 with ⟨rfl, rfl⟩ | ⟨g, cap, cur, rfl, _, _, hnc, hm, _⟩
  · exact ⟨none, 0, rfl, Nat.le_refl _, by omega⟩
  · exact ⟨_, cap, rfl, hnc, by unfold maxLen at hm; omega⟩
theorem CstAt.at3 {w : World} {b o k : Nat} {r : Cst} {u : Value} (h : CstAt w b o r) (hk : k < 3) (hu : r.c3[k]? = some u) : w.cell? ⟨b, o + k, none⟩ = some u := by
  obtain ⟨h0, h1, h2⟩ := h
  have e : k = 0 ∨ k = 1 ∨ k = 2 := by omega
  rcases e with rfl | rfl | rfl
  · exact h0.trans hu
  · exact h1.trans hu
  · exact h2.trans hu
theorem Csts.reads {w : World} {A : Option Addr} {n : Nat} {es : List Cst} (h : Csts w A n es) : Reads w w.heap.size 3 A n (flat3 es) := by
  refine ⟨by rw [flat3_len, h.1], fun hn => ?_⟩; obtain ⟨b, off, hA, hb, hc⟩ := h.2 hn; refine ⟨_, hA, hb, fun j u hu => ?_⟩
  have hj : j < (flat3 es).length := (List.getElem?_eq_some_iff.1 hu).1
  rw [flat3_len, h.1] at hj
  have e : j = j / 3 * 3 + j % 3 := by omega
  have hi : j / 3 < n := by omega
  rw [e, flat3_get es _ _ (by rw [h.1]; exact hi) (by omega)] at hu
  have := (hc _ hi).at3 (by omega) hu
  have ad : (⟨b, off, none⟩ : Addr).add j = ⟨b, off + j / 3 * 3 + j % 3, none⟩ := by
    unfold Addr.add
    split
    · rename_i h0; subst h0; rfl
    · rw [Nat.add_assoc, ← e]
  rw [ad]
  exact this
end Go.Proofs.YtlikekmhccnilaaGreat

namespace Go.Proofs.YtlikekmhccnilaaGreat
set_option maxRecDepth 100000
open Go.RowKit
def Rec.c7 (r : Rec) : List Value := [.int .i64 r.ev.t, .int .i64 r.ev.to, .int .i64 r.ev.fr, .int .i64 r.ev.sq, .int .i64 r.ev.kd, .int .i64 r.ev.dt, .int .i64 r.s]
def flat7 : List Rec → List Value
  | [] => []
  | e :: r => e.c7 ++ flat7 r
theorem flat7_len : ∀ es : List Rec, (flat7 es).length = es.length * 7
  | [] => rfl
  | e :: r => by
    rw [flat7, List.length_append, flat7_len r]; simp [Rec.c7]
    omega
theorem flat7_app : ∀ es fs : List Rec, flat7 (es ++ fs) = flat7 es ++ flat7 fs
  | [], _ => rfl
  | e :: r, fs => by rw [List.cons_append, flat7, flat7_app r fs, flat7, List.append_assoc]
theorem flat7_get : ∀ (es : List Rec) (i k : Nat), i < es.length → k < 7 → (flat7 es)[i * 7 + k]? = (es.getD i default).c7[k]?
  | [], i, _, hi, _ => absurd hi (by simp)
  | e :: r, 0, k, _, hk => by
    rw [flat7, Nat.zero_mul, Nat.zero_add, List.getElem?_append_left (by simpa [Rec.c7] using hk)]
    rfl
  | e :: r, i + 1, k, hi, hk => by
    have hl : e.c7.length = 7 := rfl
    rw [flat7, List.getElem?_append_right (by omega), hl, show (i + 1) * 7 + k - 7 = i * 7 + k by omega, flat7_get r i k (by simpa using hi) hk]
    rfl
theorem flat7_one (es : List Rec) : ∀ u ∈ flat7 es, u.oneCell' = true := by
  induction es with
  | nil => intro u hu; cases hu
  | cons e r ih =>
    intro u hu; rw [flat7, List.mem_append] at hu
    rcases hu with hu | hu
    · simp only [Rec.c7, List.mem_cons, List.not_mem_nil, or_false] at hu
      rcases hu with rfl | rfl | rfl | rfl | rfl | rfl | rfl <;> rfl
    · exact ih u hu
theorem own7_recs {w : World} {base e n c : Nat} {A : Option Addr} {es : List Rec} (h : w.ownsRow base e 7 (.slice A n c) n (flat7 es)) : Recs w A n es := by
  have hl : es.length = n := by have := h.1; rw [flat7_len] at this; omega
  refine ⟨hl, fun hn => ?_⟩; obtain ⟨g, cap, hv, _, hlt⟩ := h.form hn
  injection hv with hA _ hcap
  subst hA hcap; refine ⟨g, 0, rfl, hlt, fun i hi => ?_⟩
  have f : ∀ k, k < 7 → w.cell? ⟨g, 0 + i * 7 + k, none⟩ = (es.getD i default).c7[k]? := fun k hk => by
    rw [Nat.zero_add, h.cellAt (i * 7 + k) (by omega), flat7_get es i k (by omega) hk]
  exact ⟨f 0 (by omega), f 1 (by omega), f 2 (by omega), f 3 (by omega), f 4 (by omega), f 5 (by omega), f 6 (by omega)⟩
theorem own7_slice {w : World} {base e n : Nat} {v : Value} {es : List Rec} (h : w.ownsRow base e 7 v n (flat7 es)) : n = es.length ∧ ∃ A c, v = .slice A n c ∧ n ≤ c ∧ c ≤ 9223372036854775807 := by
  have hl : es.length = n := by have := h.1; rw [flat7_len] at this; omega
  refine ⟨hl.symm, ?_⟩
  rcases h.2 with ⟨rfl, rfl⟩ | ⟨g, cap, cur, rfl, _, _, hnc, hm, _⟩
  · exact ⟨none, 0, rfl, Nat.le_refl _, by omega⟩
  · exact ⟨_, cap, rfl, hnc, by unfold maxLen at hm; omega⟩
end Go.Proofs.YtlikekmhccnilaaGreat

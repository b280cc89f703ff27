/-
  What eqMdlRule, eqMdlRuleS, eqMdlRuleSS and eqMdlModel return, in one sentence: whether the two are the same; for all that lie in memory.
-/
import Derived.Test.YtakmlfgkppekoaaDLEbak02
import Derived.Test.YtakmlfgkppekoaaDLEbak03
import Derived.Test.YtakmlfgkppekoaaDLEbak04
import Derived.Test.YtakmlfgkppekoaaDLEbak09
namespace Go.Proofs.Ytakmlfgkppekoaa
set_option maxRecDepth 100000
open Go.RowKit
theorem eqRule_mk (k a b c k' a' b' c' : Int) (s s' : List Evt) : decide ((⟨k, a, b, c, s⟩ : Rule) = ⟨k', a', b', c', s'⟩) = (decide (k = k') && decide (a = a') && decide (b = b') && decide (c = c') && decide (s = s')) := by
  rw [Bool.eq_iff_iff]; simp [and_assoc]
theorem eqG_drop {α : Type} [DecidableEq α] (d : α) (es fs : List α) (h : es.length = fs.length) (k : Nat) (hk : k < es.length) :
    decide (es.drop k = fs.drop k) = (decide (es.getD k d = fs.getD k d) && decide (es.drop (k + 1) = fs.drop (k + 1))) := by
  have hk2 : k < fs.length := by omega
  have e1 : es.drop k = es[k] :: es.drop (k + 1) := List.drop_eq_getElem_cons hk
  have e2 : fs.drop k = fs[k] :: fs.drop (k + 1) := List.drop_eq_getElem_cons hk2
  have g1 : es.getD k d = es[k] := by simp [hk]
  have g2 : fs.getD k d = fs[k] := by simp [hk2]
  rw [e1, e2, g1, g2, Bool.eq_iff_iff, Bool.and_eq_true, decide_eq_true_iff, decide_eq_true_iff, decide_eq_true_iff, List.cons.injEq]
set_option maxHeartbeats 2000000 in
theorem eqRule_any (r s : Rule) (A : Option Addr) (n c : Nat) (B : Option Addr) (k d : Nat) (w : World) (hn : n ≤ 1000000000) (hE : Evs w A n r.sends) (hF : Evs w B k s.sends) :
    Calls Try.prog 141 #[r.v (.slice A n c), s.v (.slice B k d)] w fun x w' => x = .returned (.bool (decide (r = s))) ∧ Up w w' := by
  obtain ⟨kd, ra, rb, rc, es⟩ := r; obtain ⟨ld, sa, sb, sc, fs⟩ := s
  have HF := Lib.hid (eqRule_mk kd ra rb rc ld sa sb sc es fs)
  have u0 := ((Up.refl w).alloc (.cells #[.int .i64 kd, .int .i64 ra, .int .i64 rb, .int .i64 rc, .slice A n c] 63)).alloc (.cells #[.int .i64 ld, .int .i64 sa, .int .i64 sb, .int .i64 sc, .slice B k d] 63)
  have CL := Lib.hid (eqSndS_any A B n k c d es fs _ hn (hE.up u0) (hF.up u0))
  have U0 := Lib.hid u0
  generalize decide ((⟨kd, ra, rb, rc, es⟩ : Rule) = ⟨ld, sa, sb, sc, fs⟩) = res at HF ⊢
  generalize decide (es = fs) = q at HF CL
  clear hE hF u0; unfold Rule.v; dsimp only
  go_enter Try.func141, Try.ntmps141
  by_cases h0 : kd = ld
  · subst h0
    by_cases h1 : ra = sa
    · subst h1
      by_cases h2 : rb = sb
      · subst h2
        by_cases h3 : rc = sc
        · subst h3
          have R := Lib.hid (show res = q by rw [HF.out]; simp)
          clear HF
          go_wp2_with fail
          refine CL.out.mono ?_; rintro x w1 ⟨rfl, u1⟩
          have U1 := Lib.hid (U0.out.trans u1)
          clear u1
          cases q
          · go_wp2
            go_ret
            exact ⟨ret_bool R.out.symm, U1.out⟩
          · go_wp2
            go_ret
            exact ⟨ret_bool R.out.symm, U1.out⟩
        · have R := Lib.hid (show res = false by rw [HF.out, decide_eq_false h3]; simp)
          clear HF; go_wp2; go_ret
          exact ⟨ret_bool R.out.symm, U0.out⟩
      · have R := Lib.hid (show res = false by rw [HF.out, decide_eq_false h2]; simp)
        clear HF; go_wp2; go_ret
        exact ⟨ret_bool R.out.symm, U0.out⟩
    · have R := Lib.hid (show res = false by rw [HF.out, decide_eq_false h1]; simp)
      clear HF; go_wp2; go_ret
      exact ⟨ret_bool R.out.symm, U0.out⟩
  · have R := Lib.hid (show res = false by rw [HF.out, decide_eq_false h0]; simp)
    clear HF; go_wp2; go_ret
    exact ⟨ret_bool R.out.symm, U0.out⟩
/-- Each sends few. -/
def Small (rs : List Rule) : Prop := ∀ i, i < rs.length → (rs.getD i default).sends.length ≤ 1048576
set_option maxHeartbeats 2000000 in
theorem eqRuleS_any (A B : Option Addr) (n m capa capb : Nat) (es fs : List Rule) (w : World) (hE : Rules w A n es) (hF : Rules w B m fs) (hS : Small es) :
    Calls Try.prog 112 #[.slice A n capa, .slice B m capb] w fun x w' => x = .returned (.bool (decide (es = fs))) ∧ Up w w' := by
  by_cases hnm : n = m
  · subst hnm
    have hbig := hE.2.1
    have H0 := Lib.hid (show decide (es.drop 0 = fs.drop 0) = decide (es = fs) from rfl)
    have ST := Lib.hid (eqG_drop default es fs (by rw [hE.1, hF.1]))
    have HE := Lib.hid hE
    have HF := Lib.hid hF
    have LE := Lib.hid hE.1
    have LF := Lib.hid hF.1
    have SM := Lib.hid hS
    have CL := Lib.hid (fun a b A n c B k d W hn h1 h2 => eqRule_any a b A n c B k d W hn h1 h2)
    generalize hr : decide (es = fs) = res at H0 ⊢
    clear hE hF hr hS
    go_enter Try.func112, Try.ntmps112
    go_wp2
    go_loopw [5] (fun i wr => (∃ k : Nat, k ≤ n ∧ i = .int .i64 k ∧ Hid (decide (es.drop k = fs.drop k) = res)) ∧ Up w wr) (fun i _ => n - (intOf i).toNat)
    case atStart => exact ⟨⟨0, by omega, rfl, H0⟩, Up.refl _⟩
    case round =>
      obtain ⟨⟨k, hk, rfl, HR⟩, ur⟩ := hrel
      by_cases hlt : k < n
      · obtain ⟨b, off, hA, hb, hc⟩ := (HE.out.up ur).2.2 (by omega)
        obtain ⟨b2, off2, hA2, hb2, hc2⟩ := (HF.out.up ur).2.2 (by omega); subst hA hA2
        have a0 := hc k hlt
        have a1 := hc2 k hlt
        clear hc hc2
        have S := ST.out k (by rw [LE.out]; exact hlt)
        rw [HR.out] at S
        have sm := SM.out k (by rw [LE.out]; exact hlt)
        have cl := CL.out (es.getD k default) (fs.getD k default)
        generalize es.getD k default = p at a0 S cl sm
        generalize fs.getD k default = q at a1 S cl
        obtain ⟨A3, n3, c3, ⟨p0, p1, p2, p3, p4⟩, hn3, he3⟩ := a0; obtain ⟨B3, m3, d3, ⟨q0, q1, q2, q3, q4⟩, hm3, hf3⟩ := a1
        have cl2 := fun W (u : Up wr W) => cl A3 n3 c3 B3 m3 d3 W (by rw [← he3.1]; omega) (he3.up u) (hf3.up u)
        generalize decide (p = q) = r at S cl2
        have S' := Lib.hid S
        obtain ⟨pk, pa, pb, pc, ps⟩ := p; obtain ⟨qk, qa, qb, qc, qs⟩ := q; unfold Rule.v at cl2; dsimp only at p0 p1 p2 p3 p4 q0 q1 q2 q3 q4 cl2
        have C := Lib.hid cl2
        have UR := Lib.hid ur
        clear cl cl2 S he3 hf3 sm ur
        have i4 : (k : Int) < n := by omega
        have i5 : IntKind.i64.wrap ((k : Int) + 1) = (k : Int) + 1 := IntWalk.i64_in _ (by omega)
        go_wp2_with fail
        refine region_qw (by kernel_rfl) (by kernel_rfl) ?_; refine qWalk_step ?_; intro K hK; go_simp; apply Exists.intro; refine And.intro ?_ ?_
        · intro w1 hw1
          try go_simp
          try rfl
        try go_simp
        refine hK _ ?_; clear hK K; refine qWalk_step ?_; intro K hK; go_simp; apply Exists.intro; refine And.intro ?_ ?_
        · intro w1 hw1
          try go_simp
          try rfl
        try go_simp
        refine hK _ ?_; clear hK K; refine qWalk_step ?_; intro K hK; go_simp; apply Exists.intro; refine And.intro ?_ ?_
        · intro w1 hw1
          try go_simp
          try rfl
        try go_simp
        refine hK _ ?_; clear hK K; refine qWalk_step ?_; intro K hK; go_simp; apply Exists.intro; refine And.intro ?_ ?_
        · intro w1 hw1
          obtain ⟨hc, hf, hz⟩ := hw1.facts
          try simp at hz
          try go_simp
          try rfl
        try go_simp
        refine hK _ ?_; clear hK K; refine qWalk_step ?_; intro K hK; go_simp; apply Exists.intro; refine And.intro ?_ ?_
        · intro w1 hw1
          try go_simp
          try rfl
        try go_simp
        refine hK _ ?_; clear hK K; refine qWalk_step ?_; intro K hK; go_simp; apply Exists.intro; refine And.intro ?_ ?_
        · intro w1 hw1
          try go_simp
          try rfl
        try go_simp
        refine hK _ ?_; clear hK K; refine qWalk_step ?_; intro K hK; go_simp; apply Exists.intro; refine And.intro ?_ ?_
        · intro w1 hw1
          try go_simp
          try rfl
        try go_simp
        refine hK _ ?_; clear hK K; refine qWalk_step ?_; intro K hK; go_simp; apply Exists.intro; refine And.intro ?_ ?_
        · intro w1 hw1
          obtain ⟨hc, hf, hz⟩ := hw1.facts
          try simp at hz
          try go_simp
          try rfl
        try go_simp
        refine hK _ ?_; clear hK K; refine qWalk_step ?_; intro K hK; go_simp; apply Exists.intro; refine And.intro ?_ ?_
        · intro w1 hw1
          try go_simp
          exact up_call hw1 (C.out _ hw1)
        try go_simp
        refine hK _ ?_; clear hK K; refine qWalk_step ?_; intro K hK; go_simp; apply Exists.intro; refine And.intro ?_ ?_
        · intro w1 hw1
          try go_simp
          try rfl
        try go_simp
        refine hK _ ?_; clear hK K; refine qWalk_nil ?_; intro wA uA
        have UA := Lib.hid (UR.out.trans uA)
        clear uA
        cases r
        · go_wp2
          go_ret
          exact ⟨ret_bool (by rw [S'.out]; rfl), UA.out⟩
        · go_wp2
          go_roundw
          case rel => exact ⟨⟨k + 1, by omega, by first | rfl | go_num, Lib.hid (by rw [S'.out, Bool.true_and])⟩, UA.out⟩
          case measure => (simp [intOf]; try omega)
      · have e1 : es.drop k = [] := List.drop_eq_nil_of_le (by rw [LE.out]; omega)
        have e2 : fs.drop k = [] := List.drop_eq_nil_of_le (by rw [LF.out]; omega)
        have R := Lib.hid (show res = true by rw [← HR.out, e1, e2]; rfl)
        have i4 : ¬ (k : Int) < n := by omega
        clear e1 e2; go_wp2; go_ret
        exact ⟨ret_bool R.out.symm, ur⟩
  · have R := Lib.hid (show decide (es = fs) = false from decide_eq_false fun e => hnm (by rw [← hE.1, ← hF.1, e]))
    generalize decide (es = fs) = res at R ⊢
    have j1 : ¬ (n : Int) = m := by omega
    go_enter Try.func112, Try.ntmps112
    go_wp2; go_ret
    exact ⟨ret_bool R.out.symm, Up.refl _⟩
set_option maxHeartbeats 2000000 in
theorem eqRuleSS_any (A B : Option Addr) (n m capa capb : Nat) (es fs : List (List Rule)) (w : World) (hE : Rulz w A n es) (hF : Rulz w B m fs) (hS : ∀ i, i < es.length → Small (es.getD i [])) :
    Calls Try.prog 71 #[.slice A n capa, .slice B m capb] w fun x w' => x = .returned (.bool (decide (es = fs))) ∧ Up w w' := by
  by_cases hnm : n = m
  · subst hnm
    have hbig := hE.2.1
    have H0 := Lib.hid (show decide (es.drop 0 = fs.drop 0) = decide (es = fs) from rfl)
    have ST := Lib.hid (eqG_drop [] es fs (by rw [hE.1, hF.1]))
    have HE := Lib.hid hE
    have HF := Lib.hid hF
    have LE := Lib.hid hE.1
    have LF := Lib.hid hF.1
    have SM := Lib.hid hS
    have CL := Lib.hid (fun a b A n c B k d W h1 h2 hs => eqRuleS_any A B n k c d a b W h1 h2 hs)
    generalize hr : decide (es = fs) = res at H0 ⊢
    clear hE hF hr hS
    go_enter Try.func71, Try.ntmps71
    go_wp2
    go_loopw [5] (fun i wr => (∃ k : Nat, k ≤ n ∧ i = .int .i64 k ∧ Hid (decide (es.drop k = fs.drop k) = res)) ∧ Up w wr) (fun i _ => n - (intOf i).toNat)
    case atStart => exact ⟨⟨0, by omega, rfl, H0⟩, Up.refl _⟩
    case round =>
      obtain ⟨⟨k, hk, rfl, HR⟩, ur⟩ := hrel
      by_cases hlt : k < n
      · obtain ⟨b, off, hA, hb, hc⟩ := (HE.out.up ur).2.2 (by omega)
        obtain ⟨b2, off2, hA2, hb2, hc2⟩ := (HF.out.up ur).2.2 (by omega); subst hA hA2; obtain ⟨A3, n3, c3, p0, he3⟩ := hc k hlt; obtain ⟨B3, m3, d3, q0, hf3⟩ := hc2 k hlt; clear hc hc2
        have S := ST.out k (by rw [LE.out]; exact hlt)
        rw [HR.out] at S
        have sm := SM.out k (by rw [LE.out]; exact hlt)
        have cl := CL.out (es.getD k []) (fs.getD k [])
        generalize es.getD k [] = p at he3 S cl sm
        generalize fs.getD k [] = q at hf3 S cl
        have cl2 := fun W (u : Up wr W) => cl A3 n3 c3 B3 m3 d3 W (he3.up u) (hf3.up u) sm
        generalize decide (p = q) = r at S cl2
        have S' := Lib.hid S
        have C := Lib.hid cl2
        have UR := Lib.hid ur
        clear cl cl2 S he3 hf3 sm ur
        have i4 : (k : Int) < n := by omega
        have i5 : IntKind.i64.wrap ((k : Int) + 1) = (k : Int) + 1 := IntWalk.i64_in _ (by omega)
        go_wp2_with fail
        refine region_qw (by kernel_rfl) (by kernel_rfl) ?_; refine qWalk_step ?_; intro K hK; go_simp; apply Exists.intro; refine And.intro ?_ ?_
        · intro w1 hw1
          try go_simp
          try rfl
        try go_simp
        refine hK _ ?_; clear hK K; refine qWalk_step ?_; intro K hK; go_simp; apply Exists.intro; refine And.intro ?_ ?_
        · intro w1 hw1
          try go_simp
          try rfl
        try go_simp
        refine hK _ ?_; clear hK K; refine qWalk_step ?_; intro K hK; go_simp; apply Exists.intro; refine And.intro ?_ ?_
        · intro w1 hw1
          try go_simp
          try rfl
        try go_simp
        refine hK _ ?_; clear hK K; refine qWalk_step ?_; intro K hK; go_simp; apply Exists.intro; refine And.intro ?_ ?_
        · intro w1 hw1
          obtain ⟨hc, hf, hz⟩ := hw1.facts
          try simp at hz
          try go_simp
          try rfl
        try go_simp
        refine hK _ ?_; clear hK K; refine qWalk_step ?_; intro K hK; go_simp; apply Exists.intro; refine And.intro ?_ ?_
        · intro w1 hw1
          try go_simp
          try rfl
        try go_simp
        refine hK _ ?_; clear hK K; refine qWalk_step ?_; intro K hK; go_simp; apply Exists.intro; refine And.intro ?_ ?_
        · intro w1 hw1
          try go_simp
          try rfl
        try go_simp
        refine hK _ ?_; clear hK K; refine qWalk_step ?_; intro K hK; go_simp; apply Exists.intro; refine And.intro ?_ ?_
        · intro w1 hw1
          try go_simp
          try rfl
        try go_simp
        refine hK _ ?_; clear hK K; refine qWalk_step ?_; intro K hK; go_simp; apply Exists.intro; refine And.intro ?_ ?_
        · intro w1 hw1
          obtain ⟨hc, hf, hz⟩ := hw1.facts
          try simp at hz
          try go_simp
          try rfl
        try go_simp
        refine hK _ ?_; clear hK K; refine qWalk_step ?_; intro K hK; go_simp; apply Exists.intro; refine And.intro ?_ ?_
        · intro w1 hw1
          try go_simp
          exact up_call hw1 (C.out _ hw1)
        try go_simp
        refine hK _ ?_; clear hK K; refine qWalk_step ?_; intro K hK; go_simp; apply Exists.intro; refine And.intro ?_ ?_
        · intro w1 hw1
          try go_simp
          try rfl
        try go_simp
        refine hK _ ?_; clear hK K; refine qWalk_nil ?_; intro wA uA
        have UA := Lib.hid (UR.out.trans uA)
        clear uA
        cases r
        · go_wp2
          go_ret
          exact ⟨ret_bool (by rw [S'.out]; rfl), UA.out⟩
        · go_wp2
          go_roundw
          case rel => exact ⟨⟨k + 1, by omega, by first | rfl | go_num, Lib.hid (by rw [S'.out, Bool.true_and])⟩, UA.out⟩
          case measure => (simp [intOf]; try omega)
      · have e1 : es.drop k = [] := List.drop_eq_nil_of_le (by rw [LE.out]; omega)
        have e2 : fs.drop k = [] := List.drop_eq_nil_of_le (by rw [LF.out]; omega)
        have R := Lib.hid (show res = true by rw [← HR.out, e1, e2]; rfl)
        have i4 : ¬ (k : Int) < n := by omega
        clear e1 e2; go_wp2; go_ret
        exact ⟨ret_bool R.out.symm, ur⟩
  · have R := Lib.hid (show decide (es = fs) = false from decide_eq_false fun e => hnm (by rw [← hE.1, ← hF.1, e]))
    generalize decide (es = fs) = res at R ⊢
    have j1 : ¬ (n : Int) = m := by omega
    go_enter Try.func71, Try.ntmps71
    go_wp2; go_ret
    exact ⟨ret_bool R.out.symm, Up.refl _⟩
/-- The model is of a size that was counted. -/
def FitM (m : Mdl) : Prop := (∀ i, i < m.rules.length → Small (m.rules.getD i [])) ∧ m.starts.length ≤ 1048576
theorem eqMdl_mk (r r' : List (List Rule)) (s s' : List Evt) (t t' : Int) : decide ((⟨r, s, t⟩ : Mdl) = ⟨r', s', t'⟩) = (decide (r = r') && decide (s = s') && decide (t = t')) := by
  rw [Bool.eq_iff_iff]; simp [and_assoc]
set_option maxHeartbeats 2000000 in
theorem eqMdl_any (A : Option Addr) (n c : Nat) (B : Option Addr) (k d : Nat) (m : Mdl) (A' : Option Addr) (n' c' : Nat) (B' : Option Addr) (k' d' : Nat) (m' : Mdl) (w : World) (hM : MdlV w A n B k m) (hM' : MdlV w A' n' B' k' m') (hS : FitM m) :
    Calls Try.prog 22 #[.agg #[.slice A n c, .slice B k d, .int .i64 m.til], .agg #[.slice A' n' c', .slice B' k' d', .int .i64 m'.til]] w fun x w' => x = .returned (.bool (decide (m = m'))) ∧ Up w w' := by
  obtain ⟨rs, es, til⟩ := m; obtain ⟨rs', es', til'⟩ := m'
  have HF := Lib.hid (eqMdl_mk rs rs' es es' til til')
  have CR := Lib.hid (fun W (u : Up w W) => eqRuleSS_any A A' n n' c c' rs rs' W (hM.rules.up u) (hM'.rules.up u) hS.1)
  have CE := Lib.hid (fun W (u : Up w W) => eqS_any B B' k k' d d' es es' W (by have := hM.starts.1; have := hS.2; dsimp only at *; omega) (hM.starts.up u) (hM'.starts.up u))
  have b0 := (Box3.new w (.slice A n c) (.slice B k d) (.int .i64 til) 33).up ((Up.refl _).alloc (.cells #[.slice A' n' c', .slice B' k' d', .int .i64 til'] 33))
  have B0 := Lib.hid b0
  have B1 := Lib.hid (Box3.new (w.alloc (.cells #[.slice A n c, .slice B k d, .int .i64 til] 33)) (.slice A' n' c') (.slice B' k' d') (.int .i64 til') 33)
  have U0 := Lib.hid (((Up.refl w).alloc (.cells #[.slice A n c, .slice B k d, .int .i64 til] 33)).alloc (.cells #[.slice A' n' c', .slice B' k' d', .int .i64 til'] 33))
  generalize decide ((⟨rs, es, til⟩ : Mdl) = ⟨rs', es', til'⟩) = res at HF ⊢
  generalize decide (rs = rs') = q at HF CR
  generalize decide (es = es') = p at HF CE
  clear hM hM' b0 hS; dsimp only
  go_enter Try.func22, Try.ntmps22
  go_wp2_with fail
  refine (CR.out _ U0.out).mono ?_; rintro x w1 ⟨rfl, u1⟩
  have U1 := Lib.hid (U0.out.trans u1)
  have x0 := B0.out.up u1
  have x1 := B1.out.up u1
  simp only [World.size_alloc] at x1; obtain ⟨p0, p1, p2⟩ := And.intro x0.c0 (And.intro x0.c1 x0.c2); obtain ⟨q0, q1, q2⟩ := And.intro x1.c0 (And.intro x1.c1 x1.c2)
  have X0 := Lib.hid x0
  have X1 := Lib.hid x1
  clear u1 x0 x1
  cases q
  · have R := Lib.hid (show res = false by rw [HF.out]; rfl)
    go_wp2; go_ret
    exact ⟨ret_bool R.out.symm, U1.out⟩
  · go_wp2_with fail
    refine (CE.out _ U1.out).mono ?_; rintro x w2 ⟨rfl, u2⟩
    have U2 := Lib.hid (U1.out.trans u2)
    have x0 := X0.out.up u2
    have x1 := X1.out.up u2
    clear p0 p1 p2 q0 q1 q2; obtain ⟨p0, p1, p2⟩ := And.intro x0.c0 (And.intro x0.c1 x0.c2); obtain ⟨q0, q1, q2⟩ := And.intro x1.c0 (And.intro x1.c1 x1.c2); clear u2 x0 x1
    cases p
    · have R := Lib.hid (show res = false by rw [HF.out]; rfl)
      go_wp2; go_ret
      exact ⟨ret_bool R.out.symm, U2.out⟩
    · by_cases ht : til = til'
      · have R := Lib.hid (show res = true by rw [HF.out, decide_eq_true ht]; rfl)
        clear HF; go_wp2; go_ret
        exact ⟨ret_bool R.out.symm, U2.out⟩
      · have R := Lib.hid (show res = false by rw [HF.out, decide_eq_false ht]; rfl)
        clear HF; go_wp2; go_ret
        exact ⟨ret_bool R.out.symm, U2.out⟩
end Go.Proofs.Ytakmlfgkppekoaa

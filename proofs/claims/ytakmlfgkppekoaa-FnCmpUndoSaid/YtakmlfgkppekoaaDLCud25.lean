/-
  What holds returns, in one sentence: whether the condition of a send holds; for a state and a send in bounds.
  What invertible, holding, previous and undo return, in one sentence: whether a is not 0, how many sends' conditions hold, the state ahead, and the component ahead of an event; for a machine that holds a valid model's rules and a valid component.
  What previous returns, in one sentence: the state ahead of an event; for a rule, a state and data in bounds, where a is not 0.
  What undo returns, in one sentence: the component ahead of an event and true, or the zero state and false; for a machine that holds a valid model's rules and a valid component.
  What spec.RevInverse returns, in one sentence: the inverse modulo 97, and 0 where there is none; for every number.
-/
import Derived.Test.YtakmlfgkppekoaaDLCud23
import Derived.Test.YtakmlfgkppekoaaDLCud24
namespace Go.Proofs.Ytakmlfgkppekoaa
set_option maxRecDepth 100000
open Go.RowKit
theorem holds_any (x : Evt) (S : Int) (hS : 0 ≤ S ∧ S ≤ 1000) (hk : 1 ≤ x.kd ∧ x.kd ≤ 1000) (w : World) :
    Calls Try.prog 121 #[x.v, .int .i64 S] w fun z w' => z = .returned (.bool (decide (S % x.kd = x.dt))) ∧ Up w w' := by
  obtain ⟨xt, xto, xfr, xsq, xkd, xdt⟩ := x; unfold Evt.v; dsimp only at hk ⊢
  have r1 : S.tmod xkd = S % xkd := Int.tmod_eq_emod_of_nonneg hS.1
  have r0 : ¬ xkd = 0 := by omega
  have rb : 0 ≤ S % xkd ∧ S % xkd ≤ 1000 := ⟨Int.emod_nonneg _ r0, by have := Int.emod_lt_of_pos S (show 0 < xkd by omega); omega⟩
  have r2 : IntKind.i64.wrap (S % xkd) = S % xkd := IntWalk.i64_in _ (by omega)
  by_cases h1 : S % xkd = xdt
  · have hb1 : (S % xkd == xdt) = true := by simp [h1]
    have HD := Lib.hid (show decide (S % xkd = xdt) = true from decide_eq_true h1)
    generalize decide (S % xkd = xdt) = d at HD ⊢
    clear h1 rb
    go_enter Try.func121, Try.ntmps121
    go_wp2_with fail
    go_quiet (fail)
    go_wp2; go_ret
    exact ⟨ret_bool HD.out.symm, ((Up.refl _).alloc _).drewN _⟩
  · have hb1 : (S % xkd == xdt) = false := by simp [h1]
    have HD := Lib.hid (show decide (S % xkd = xdt) = false from decide_eq_false h1)
    generalize decide (S % xkd = xdt) = d at HD ⊢
    clear h1 rb
    go_enter Try.func121, Try.ntmps121
    go_wp2_with fail
    go_quiet (fail)
    go_wp2; go_ret
    exact ⟨ret_bool HD.out.symm, ((Up.refl _).alloc _).drewN _⟩
end Go.Proofs.Ytakmlfgkppekoaa

namespace Go.Proofs.Ytakmlfgkppekoaa
set_option maxRecDepth 100000
open Go.RowKit
theorem invertible_any (r : Rule) (S : Value) (w : World) (n c : Nat) (A : Option Addr) (hS : S = .slice A n c) :
    Calls Try.prog 70 #[r.v S] w fun z w' => z = .returned (.bool (decide (r.a ≠ 0))) ∧ Up w w' := by
  obtain ⟨kd, ra, rb, rc, es⟩ := r; subst hS; unfold Rule.v; dsimp only
  by_cases h : ra = 0
  · subst h
    go_enter Try.func70, Try.ntmps70
    go_wp2; go_ret
    exact ⟨rfl, (Up.refl _).alloc _⟩
  · have h1 : (ra != 0) = true := by simp [h]
    have HD := Lib.hid (show decide (ra ≠ 0) = true from decide_eq_true h)
    generalize decide (ra ≠ 0) = d at HD ⊢
    go_enter Try.func70, Try.ntmps70
    go_wp2; go_ret
    exact ⟨ret_bool HD.out.symm, (Up.refl _).alloc _⟩
set_option maxHeartbeats 4000000 in
theorem holding_any (r : Rule) (w : World) (n c : Nat) (A : Option Addr) (hE : Evs w A n r.sends) (hs : ∀ i, i < r.sends.length → 1 ≤ (r.sends.getD i default).kd ∧ (r.sends.getD i default).kd ≤ 1000) (hn : n ≤ 2) (s : Int) (hS : 0 ≤ s ∧ s ≤ 1000) :
    Calls Try.prog 114 #[r.v (.slice A n c), .int .i64 s] w fun z w' => z = .returned (.int .i64 (nHold s r.sends)) ∧ Up w w' := by
  obtain ⟨kd, ra, rb, rc, es⟩ := r; unfold Rule.v; dsimp only at hE hs ⊢
  have HE := Lib.hid hE
  have HK := Lib.hid hs
  have LN := Lib.hid hE.1
  have ND := Lib.hid (fun k h => nHold_drop s es k h)
  have NL := Lib.hid (nHold_le s es)
  have NE := Lib.hid (show ∀ k, es.length ≤ k → nHold s (es.drop k) = 0 from fun k h => by rw [List.drop_eq_nil_of_le h]; rfl)
  have H0 := Lib.hid (show 0 + nHold s (es.drop 0) = nHold s es by rw [List.drop_zero]; omega)
  have U0 := Lib.hid ((Up.refl w).alloc (.cells #[.int .i64 kd, .int .i64 ra, .int .i64 rb, .int .i64 rc, .slice A n c] 63))
  generalize nHold s es = N at H0 NL ⊢
  clear hE hs
  go_enter Try.func114, Try.ntmps114
  go_wp2
  go_loopw [5, 11] (fun l i wr => (∃ (q : Nat) (z : Int), q ≤ n ∧ i = .int .i64 q ∧ l = .int .i64 z ∧ (0 ≤ z ∧ z ≤ q) ∧ Hid (z + nHold s (es.drop q) = N)) ∧ Up w wr) (fun _ i _ => n - (intOf i).toNat)
  case atStart => exact ⟨⟨0, 0, by omega, rfl, rfl, by omega, H0⟩, U0.out⟩
  case round =>
    obtain ⟨⟨q, z, hq, rfl, rfl, hz, HZ⟩, ur⟩ := hrel; obtain ⟨wo, hwo⟩ : ∃ W, W = wr := ⟨_, rfl⟩; subst hwo
    have UR := Lib.hid ur
    clear ur
    by_cases hlt : q < n
    · obtain ⟨b, off, hA, hb, hc⟩ := (HE.out.up UR.out).2 (by omega)
      subst hA
      have a0 := hc q hlt
      have DR := Lib.hid (ND.out q (by rw [LN.out]; exact hlt))
      have hk := HK.out q (by rw [LN.out]; exact hlt)
      clear hc
      generalize es.getD q default = x at a0 DR hk
      have CH := Lib.hid (fun W => holds_any x s hS hk W)
      obtain ⟨xt, xto, xfr, xsq, xkd, xdt⟩ := x; unfold EvAt at a0; unfold Evt.v at CH; dsimp only at a0 DR CH; obtain ⟨v0, v1, v2, v3, v4, v5⟩ := a0
      have UX := Lib.hid (UR.out.alloc (.cells #[.int .i64 xt, .int .i64 xto, .int .i64 xfr, .int .i64 xsq, .int .i64 xkd, .int .i64 xdt] 140))
      have i4 : (q : Int) < n := by omega
      have i5 : IntKind.i64.wrap ((q : Int) + 1) = (q : Int) + 1 := IntWalk.i64_in _ (by omega)
      have i6 : IntKind.i64.wrap (z + 1) = z + 1 := IntWalk.i64_in _ (by omega)
      by_cases h1 : s % xkd = xdt
      · have HN := Lib.hid (show z + 1 + nHold s (es.drop (q + 1)) = N by rw [← HZ.out, DR.out, if_pos h1]; omega)
        rw [decide_eq_true h1] at CH; clear h1 DR hk
        go_wp2_with fail
        refine (CH.out _).mono ?_; rintro x w1 ⟨rfl, u1⟩
        have U1 := Lib.hid (UX.out.trans u1)
        clear u1 v0 v1 v2 v3 v4 v5; go_wp2
        go_roundw
        case rel => exact ⟨⟨q + 1, z + 1, by omega, by go_num, rfl, by omega, HN⟩, U1.out⟩
        case measure => simp [intOf]; omega
      · have HN := Lib.hid (show z + nHold s (es.drop (q + 1)) = N by rw [← HZ.out, DR.out, if_neg h1]; omega)
        rw [decide_eq_false h1] at CH; clear h1 DR hk
        go_wp2_with fail
        refine (CH.out _).mono ?_; rintro x w1 ⟨rfl, u1⟩
        have U1 := Lib.hid (UX.out.trans u1)
        clear u1 v0 v1 v2 v3 v4 v5; go_wp2
        go_roundw
        case rel => exact ⟨⟨q + 1, z, by omega, by go_num, rfl, by omega, HN⟩, U1.out⟩
        case measure => simp [intOf]; omega
    · have HN := Lib.hid (show z = N by rw [← HZ.out, NE.out q (by rw [LN.out]; omega)]; omega)
      have i4 : ¬ (q : Int) < n := by omega
      go_wp2; go_ret
      exact ⟨ret_int HN.out, UR.out⟩
end Go.Proofs.Ytakmlfgkppekoaa

namespace Go.Proofs.Ytakmlfgkppekoaa
set_option maxRecDepth 100000
open Go.RowKit
set_option maxHeartbeats 4000000 in
theorem previous_any (r : Rule) (S : Value) (s d : Int) (ha : 1 ≤ r.a ∧ r.a ≤ 96) (hb : 0 ≤ r.b ∧ r.b ≤ 96) (hc : 0 ≤ r.c ∧ r.c ≤ 96) (hs : 0 ≤ s ∧ s ≤ 96) (hd : 0 ≤ d ∧ d ≤ 96) (w : World) (n c : Nat) (A : Option Addr) (hS : S = .slice A n c) :
    Calls Try.prog 115 #[r.v S, .int .i64 s, .int .i64 d] w fun z w' => z = .returned (.int .i64 (prevR r s d)) ∧ Up w w' := by
  have PV := Lib.hid (show (s - (r.b * d % 97 + r.c) % 97 + 97) % 97 * invV r.a % 97 = prevR r s d from rfl)
  generalize prevR r s d = res at PV ⊢
  obtain ⟨kd, ra, rb, rc, es⟩ := r; subst hS; dsimp only at ha hb hc PV ⊢
  have T1 := Lib.hid (fun W => (timesw_any rb d (by omega) (by omega) W).mono (R' := fun z w' => z = .returned (.int .i64 (rb * d % 97)) ∧ Up W w') (by rintro z w' ⟨rfl, rfl⟩; exact ⟨rfl, Up.refl _⟩))
  have p1 : 0 ≤ rb * d % 97 ∧ rb * d % 97 ≤ 96 := by omega
  generalize rb * d % 97 = x at T1 PV p1
  have P1 := Lib.hid (fun W => plus_up x rc (by omega) (by omega) W)
  have p2 : 0 ≤ (x + rc) % 97 ∧ (x + rc) % 97 ≤ 96 := by omega
  generalize (x + rc) % 97 = y at P1 PV p2
  have M1 := Lib.hid (fun W => (minus_any s y (by omega) p2 W).mono (R' := fun z w' => z = .returned (.int .i64 ((s - y + 97) % 97)) ∧ Up W w') (by rintro z w' ⟨rfl, rfl⟩; exact ⟨rfl, Up.refl _⟩))
  have p3 : 0 ≤ (s - y + 97) % 97 ∧ (s - y + 97) % 97 ≤ 96 := by omega
  generalize (s - y + 97) % 97 = u at M1 PV p3
  have V1 := Lib.hid (fun W => inverse_any ra ha W)
  have p4 := invV_le ra
  generalize invV ra = i at V1 PV p4
  have T2 := Lib.hid (fun W => (timesw_any u i (by omega) (by omega) W).mono (R' := fun z w' => z = .returned (.int .i64 (u * i % 97)) ∧ Up W w') (by rintro z w' ⟨rfl, rfl⟩; exact ⟨rfl, Up.refl _⟩))
  rw [PV.out] at T2
  have B5 := Lib.hid (Box5.new w (.int .i64 kd) (.int .i64 ra) (.int .i64 rb) (.int .i64 rc) (.slice A n c) 63)
  have u0 := Lib.hid ((Up.refl w).alloc (.cells #[.int .i64 kd, .int .i64 ra, .int .i64 rb, .int .i64 rc, .slice A n c] 63))
  clear ha hb hc hs hd p1 p2 p3 p4 PV; unfold Rule.v; dsimp only
  go_enter Try.func115, Try.ntmps115
  go_wp2_with fail
  refine region_qw (by kernel_rfl) (by kernel_rfl) ?_; refine qWalk_step ?_; intro K hK; go_simp; apply Exists.intro; refine And.intro ?_ ?_
  · intro w1 hw1
    try go_simp
    try rfl
  try go_simp
  refine hK _ ?_; clear hK K; refine qWalk_step ?_; intro K hK; go_simp; apply Exists.intro; refine And.intro ?_ ?_
  · intro w1 hw1
    obtain ⟨hc, hf, hz⟩ := hw1.facts
    try simp at hz
    try go_simp
    try rfl
  try go_simp
  refine hK _ ?_; clear hK K; refine qWalk_step ?_; intro K hK; go_simp; apply Exists.intro; refine And.intro ?_ ?_
  · intro w1 hw1
    try go_simp
    try rfl
  try go_simp
  refine hK _ ?_; clear hK K; refine qWalk_step ?_; intro K hK; go_simp; apply Exists.intro; refine And.intro ?_ ?_
  · intro w1 hw1
    try go_simp
    exact up_call hw1 (T1.out _)
  try go_simp
  refine hK _ ?_; clear hK K; refine qWalk_step ?_; intro K hK; go_simp; apply Exists.intro; refine And.intro ?_ ?_
  · intro w1 hw1
    try go_simp
    try rfl
  try go_simp
  refine hK _ ?_; clear hK K; refine qWalk_step ?_; intro K hK; go_simp; apply Exists.intro; refine And.intro ?_ ?_
  · intro w1 hw1
    obtain ⟨hc, hf, hz⟩ := hw1.facts
    try simp at hz
    try go_simp
    try rfl
  try go_simp
  refine hK _ ?_; clear hK K; refine qWalk_step ?_; intro K hK; go_simp; apply Exists.intro; refine And.intro ?_ ?_
  · intro w1 hw1
    try go_simp
    exact up_call hw1 (P1.out _)
  try go_simp
  refine hK _ ?_; clear hK K; refine qWalk_step ?_; intro K hK; go_simp; apply Exists.intro; refine And.intro ?_ ?_
  · intro w1 hw1
    try go_simp
    try rfl
  try go_simp
  refine hK _ ?_; clear hK K; refine qWalk_nil ?_; intro wA uA
  have B5 := Lib.hid (B5.out.up uA)
  have u0 := Lib.hid (u0.out.trans uA)
  clear uA; obtain ⟨q0, q1, q2, q3, q4⟩ := And.intro B5.out.c0 (And.intro B5.out.c1 (And.intro B5.out.c2 (And.intro B5.out.c3 B5.out.c4)))
  have ql := B5.out.lt
  go_wp2_with fail
  refine region_qw (by kernel_rfl) (by kernel_rfl) ?_; refine qWalk_step ?_; intro K hK; go_simp; apply Exists.intro; refine And.intro ?_ ?_
  · intro w1 hw1
    try go_simp
    try rfl
  try go_simp
  refine hK _ ?_; clear hK K; refine qWalk_step ?_; intro K hK; go_simp; apply Exists.intro; refine And.intro ?_ ?_
  · intro w1 hw1
    try go_simp
    try rfl
  try go_simp
  refine hK _ ?_; clear hK K; refine qWalk_step ?_; intro K hK; go_simp; apply Exists.intro; refine And.intro ?_ ?_
  · intro w1 hw1
    try go_simp
    exact up_call hw1 (M1.out _)
  try go_simp
  refine hK _ ?_; clear hK K; refine qWalk_step ?_; intro K hK; go_simp; apply Exists.intro; refine And.intro ?_ ?_
  · intro w1 hw1
    try go_simp
    try rfl
  try go_simp
  refine hK _ ?_; clear hK K; refine qWalk_step ?_; intro K hK; go_simp; apply Exists.intro; refine And.intro ?_ ?_
  · intro w1 hw1
    obtain ⟨hc, hf, hz⟩ := hw1.facts
    try simp at hz
    try go_simp
    try rfl
  try go_simp
  refine hK _ ?_; clear hK K; refine qWalk_step ?_; intro K hK; go_simp; apply Exists.intro; refine And.intro ?_ ?_
  · intro w1 hw1
    try go_simp
    exact up_call hw1 (V1.out _)
  try go_simp
  refine hK _ ?_; clear hK K; refine qWalk_step ?_; intro K hK; go_simp; apply Exists.intro; refine And.intro ?_ ?_
  · intro w1 hw1
    try go_simp
    exact up_call hw1 (T2.out _)
  try go_simp
  refine hK _ ?_; clear hK K; refine qWalk_step ?_; intro K hK; go_simp; apply Exists.intro; refine And.intro ?_ ?_
  · intro w1 hw1
    try go_simp
    try rfl
  try go_simp
  refine hK _ ?_; clear hK K; refine qWalk_nil ?_; intro wB uB
  have U := Lib.hid (u0.out.trans uB)
  clear uB; go_wp2; go_ret
  exact ⟨rfl, U.out⟩
end Go.Proofs.Ytakmlfgkppekoaa

namespace Go.Proofs.Ytakmlfgkppekoaa
set_option maxRecDepth 100000
open Go.RowKit
theorem Box5.farU {w : World} {b : Nat} {x y z u v : Value} (h : Box5 w b x y z u v) {p : Addr} (hp : p.block ≠ b) (q : Value) : Box5 (w.setCell p q) b x y z u v := by
  have k : ∀ j, (w.setCell p q).cell? ⟨b, j, none⟩ = w.cell? ⟨b, j, none⟩ := fun j => World.cell?_setCell_other _ _ _ _ (fun e => hp (by rw [e]))
  exact ⟨by simpa using h.lt, (k 0).trans h.c0, (k 1).trans h.c1, (k 2).trans h.c2, (k 3).trans h.c3, (k 4).trans h.c4⟩
/-- What undoing returns. -/
def undoR : Option Cst → Value
  | some y => .tuple #[y.v, .bool true]
  | none => .tuple #[.agg #[.int .i64 0, .int .i64 0, .int .i64 0], .bool false]
set_option maxHeartbeats 8000000 in
theorem undo_any (mb : Nat) (m : Mdl) (c : Cst) (e : Evt) (w : World) (hM : Mach w mb m) (hm : mdlB m = true) (hc : cstB c = true) (hI : c.ct ≤ 9223372036854775807) :
    Calls Try.prog 77 #[.agg #[.map (some mb), .int .i64 m.rules.length, .int .i64 m.til], c.v, e.v] w fun x w' => x = .returned (undoR (undoE m c e)) ∧ Up w w' := by
  have TK := Lib.hid (fun W => takes_any (.agg #[.map (some mb), .int .i64 m.rules.length, .int .i64 m.til]) m.rules.length m.til e (some mb) rfl W)
  have few := mdlB_few hm
  have tl := mdlB_til hm
  have hcs := cst_parts hc
  have UD := Lib.hid (show undoE m c e = _ from by unfold undoE; rfl)
  have OKP := Lib.hid (fun (h : okB e m.rules.length = true) => (show (0 ≤ e.to ∧ e.to.toNat < m.rules.length) ∧ (0 ≤ e.kd ∧ e.kd ≤ 2) ∧ (0 ≤ e.dt ∧ e.dt ≤ 96) from by simp only [okB, Bool.and_eq_true, inB_iff] at h; omega))
  have RP := Lib.hid (fun r (h : e.to.toNat < m.rules.length) (hr : ruleOf e.kd (m.rules.getD e.to.toNat []) = some r) => ruleB_parts (mdlB_rule hm h hr))
  have HM := Lib.hid hM
  generalize undoE m c e = res at UD ⊢
  generalize hmany : (m.rules.length : Int) = many at *
  have HMN := Lib.hid hmany
  clear hmany hM hm hc
  generalize hok : okB e many = ok at *
  clear hok
  generalize htl : m.til = til at *
  clear htl
  generalize hlt : decide (e.t ≤ til) = le at *
  clear hlt; obtain ⟨cs, cq, ct⟩ := c; obtain ⟨et, eto, efr, esq, ekd, edt⟩ := e; unfold Evt.v at TK; unfold Cst.v Evt.v; dsimp only at TK hcs hI UD OKP RP ⊢; obtain ⟨⟨s0, s1⟩, ⟨q0, q1⟩, t0⟩ := hcs
  have UW := Lib.hid (((((Up.refl w).alloc (.cells #[.map (some mb), .int .i64 many, .int .i64 til] 106)).alloc (.cells #[.int .i64 cs, .int .i64 cq, .int .i64 ct] 41)).alloc (.cells #[.int .i64 et, .int .i64 eto, .int .i64 efr, .int .i64 esq, .int .i64 ekd, .int .i64 edt] 45)).alloc (.cells #[.int .i64 0, .int .i64 0, .int .i64 0] 41))
  have X3 := Lib.hid ((Box3.new w (.map (some mb)) (.int .i64 many) (.int .i64 til) 106).up ((((Up.refl _).alloc (.cells #[.int .i64 cs, .int .i64 cq, .int .i64 ct] 41)).alloc (.cells #[.int .i64 et, .int .i64 eto, .int .i64 efr, .int .i64 esq, .int .i64 ekd, .int .i64 edt] 45)).alloc (.cells #[.int .i64 0, .int .i64 0, .int .i64 0] 41)))
  have X4 := Lib.hid ((Cell3.new (w.alloc (.cells #[.map (some mb), .int .i64 many, .int .i64 til] 106)) cs cq ct 41).up (((Up.refl _).alloc (.cells #[.int .i64 et, .int .i64 eto, .int .i64 efr, .int .i64 esq, .int .i64 ekd, .int .i64 edt] 45)).alloc (.cells #[.int .i64 0, .int .i64 0, .int .i64 0] 41)))
  have X5 := Lib.hid ((Box.new ((w.alloc (.cells #[.map (some mb), .int .i64 many, .int .i64 til] 106)).alloc (.cells #[.int .i64 cs, .int .i64 cq, .int .i64 ct] 41)) ⟨et, eto, efr, esq, ekd, edt⟩ 45).up ((Up.refl _).alloc (.cells #[.int .i64 0, .int .i64 0, .int .i64 0] 41)))
  have X6 := Lib.hid (Cell3.new (((w.alloc (.cells #[.map (some mb), .int .i64 many, .int .i64 til] 106)).alloc (.cells #[.int .i64 cs, .int .i64 cq, .int .i64 ct] 41)).alloc (.cells #[.int .i64 et, .int .i64 eto, .int .i64 efr, .int .i64 esq, .int .i64 ekd, .int .i64 edt] 45)) 0 0 0 41)
  simp only [World.size_alloc] at X4 X5 X6
  go_enter Try.func77, Try.ntmps77
  go_wp2_with fail
  generalize hb3 : w.heap.size = b3 at *
  generalize hb4 : b3 + 1 = b4 at *
  generalize hb5 : b4 + 1 = b5 at *
  generalize hb6 : b5 + 1 = b6 at *
  have B4 := Lib.hid (show w.heap.size ≤ b4 by omega)
  have B6 := Lib.hid (show w.heap.size ≤ b6 by omega)
  refine (TK.out _).mono ?_; rintro x w1 ⟨rfl, u1⟩
  have U1 := Lib.hid (UW.out.trans u1)
  replace X3 := Lib.hid (X3.out.up u1)
  replace X4 := Lib.hid (X4.out.up u1)
  replace X5 := Lib.hid (X5.out.up u1)
  replace X6 := Lib.hid (X6.out.up u1)
  have L46 := Lib.hid (And.intro X4.out.lt X6.out.lt)
  clear u1 TK UW
  have OG := Lib.hid (show (ok && le) = true → ok = true from fun h => (Bool.and_eq_true_iff.1 h).1)
  generalize (ok && le) = g at UD OG
  cases g
  · have EQ := Lib.hid (show res = none from UD.out.trans (if_neg (by simp)))
    clear UD; obtain ⟨d0, d1, d2⟩ := And.intro X6.out.c0 (And.intro X6.out.c1 X6.out.c2)
    have df := X6.out.f
    have dl := X6.out.lt
    obtain ⟨k0, k1, k2⟩ := And.intro (X6.out.laid' 0 0 0).c0 (And.intro (X6.out.laid' 0 0 0).c1 (X6.out.laid' 0 0 0).c2)
    have UE := Lib.hid (((U1.out.setCell (p := ⟨b6, 0, none⟩) B6.out (.int .i64 0)).setCell (p := ⟨b6, 1, none⟩) B6.out (.int .i64 0)).setCell (p := ⟨b6, 2, none⟩) B6.out (.int .i64 0))
    go_wp2
    exact bodyPost_ret (v := .tuple #[.agg #[.int .i64 0, .int .i64 0, .int .i64 0], .bool false]) (by simp [results, Try.results77, go_sem, k0, k1, k2]) rfl ⟨by rw [EQ.out]; rfl, UE.out⟩
  · obtain ⟨p0, p1, p2⟩ := And.intro X4.out.c0 (And.intro X4.out.c1 X4.out.c2)
    have pf := X4.out.f
    have pl := X4.out.lt
    by_cases h0 : ct = 0
    · have EQ := Lib.hid (show res = none from UD.out.trans (if_neg (by simp [h0])))
      subst h0; clear UD; obtain ⟨d0, d1, d2⟩ := And.intro X6.out.c0 (And.intro X6.out.c1 X6.out.c2)
      have df := X6.out.f
      have dl := X6.out.lt
      obtain ⟨k0, k1, k2⟩ := And.intro (X6.out.laid' 0 0 0).c0 (And.intro (X6.out.laid' 0 0 0).c1 (X6.out.laid' 0 0 0).c2)
      have UE := Lib.hid (((U1.out.setCell (p := ⟨b6, 0, none⟩) B6.out (.int .i64 0)).setCell (p := ⟨b6, 1, none⟩) B6.out (.int .i64 0)).setCell (p := ⟨b6, 2, none⟩) B6.out (.int .i64 0))
      go_wp2
      exact bodyPost_ret (v := .tuple #[.agg #[.int .i64 0, .int .i64 0, .int .i64 0], .bool false]) (by simp [results, Try.results77, go_sem, k0, k1, k2]) rfl ⟨by rw [EQ.out]; rfl, UE.out⟩
    · have h0' : (ct == 0) = false := by simp [h0]
      by_cases h12 : cq = 12
      · have EQ := Lib.hid (show res = none from UD.out.trans (if_neg (by simp [h12])))
        subst h12; clear UD; obtain ⟨d0, d1, d2⟩ := And.intro X6.out.c0 (And.intro X6.out.c1 X6.out.c2)
        have df := X6.out.f
        have dl := X6.out.lt
        obtain ⟨k0, k1, k2⟩ := And.intro (X6.out.laid' 0 0 0).c0 (And.intro (X6.out.laid' 0 0 0).c1 (X6.out.laid' 0 0 0).c2)
        have UE := Lib.hid (((U1.out.setCell (p := ⟨b6, 0, none⟩) B6.out (.int .i64 0)).setCell (p := ⟨b6, 1, none⟩) B6.out (.int .i64 0)).setCell (p := ⟨b6, 2, none⟩) B6.out (.int .i64 0))
        go_wp2
        exact bodyPost_ret (v := .tuple #[.agg #[.int .i64 0, .int .i64 0, .int .i64 0], .bool false]) (by simp [results, Try.results77, go_sem, k0, k1, k2]) rfl ⟨by rw [EQ.out]; rfl, UE.out⟩
      · have h12' : (cq == 12) = false := by simp [h12]
        replace UD := Lib.hid (UD.out.trans (if_pos ⟨rfl, h0, h12⟩))
        have OK := Lib.hid (OKP.out (OG.out rfl))
        have i1 : IntKind.i64.wrap (ct - 1) = ct - 1 := IntWalk.i64_in _ (by omega)
        have K4 := Lib.hid (X4.out.set2 (ct - 1))
        have U2 := Lib.hid (U1.out.setCell (p := ⟨b4, 2, none⟩) B4.out (.int .i64 (ct - 1)))
        have LK := Lib.hid (HM.out.look U2.out eto ekd (by have := OK.out; unfold I64; omega) (by have := OK.out; unfold I64; omega) (by have := OK.out; omega))
        replace X3 := Lib.hid (show Box3 (w1.setCell ⟨b4, 2, none⟩ (.int .i64 (ct - 1))) b3 (.map (some mb)) (.int .i64 many) (.int .i64 til) from X3.out.keep (by simp) (fun o => World.cell?_setCell_other _ _ _ _ (fun e => by injection e with e; omega)))
        replace X5 := Lib.hid (X5.out.setFar (p := ⟨b4, 2, none⟩) (by dsimp only; omega) (.int .i64 (ct - 1)))
        replace X6 := Lib.hid (X6.out.far (p := ⟨b4, 2, none⟩) (by dsimp only; omega) (.int .i64 (ct - 1)))
        clear OG OKP
        rcases LK.out with ⟨hno, hrun⟩ | ⟨RU, As, ns, cp, hyes, hns, hev3, hrun⟩
        · rw [hno] at UD
          dsimp only at UD
          have EQ := Lib.hid (show res = some ⟨cs, cq, ct - 1⟩ from UD.out)
          have U3 := Lib.hid (U2.out.alloc (.cells #[.int .i64 0, .int .i64 0, .int .i64 0, .int .i64 0, .slice none 0 0] 63))
          obtain ⟨a0, a1, a2⟩ := And.intro X3.out.c0 (And.intro X3.out.c1 X3.out.c2)
          have al := X3.out.lt
          obtain ⟨⟨y0, y1, y2, y3, y4, y5⟩, -⟩ := X5.out.mk6
          have yl := X5.out.lt
          obtain ⟨g0, g1, g2⟩ := And.intro K4.out.c0 (And.intro K4.out.c1 K4.out.c2)
          have gl := K4.out.lt
          replace X6 := Lib.hid (X6.out.up ((Up.refl _).alloc (.cells #[.int .i64 0, .int .i64 0, .int .i64 0, .int .i64 0, .slice none 0 0] 63)))
          obtain ⟨d0, d1, d2⟩ := And.intro X6.out.c0 (And.intro X6.out.c1 X6.out.c2)
          have df := X6.out.f
          have dl := X6.out.lt
          obtain ⟨k0, k1, k2⟩ := And.intro (X6.out.laid' cs cq (ct - 1)).c0 (And.intro (X6.out.laid' cs cq (ct - 1)).c1 (X6.out.laid' cs cq (ct - 1)).c2)
          have UE := Lib.hid (((U3.out.setCell (p := ⟨b6, 0, none⟩) B6.out (.int .i64 cs)).setCell (p := ⟨b6, 1, none⟩) B6.out (.int .i64 cq)).setCell (p := ⟨b6, 2, none⟩) B6.out (.int .i64 (ct - 1)))
          go_wp2
          exact bodyPost_ret (v := .tuple #[.agg #[.int .i64 cs, .int .i64 cq, .int .i64 (ct - 1)], .bool true]) (by simp [results, Try.results77, go_sem, k0, k1, k2]) rfl ⟨by rw [EQ.out]; rfl, UE.out⟩
        · have hRP := RP.out RU (by have := OK.out; omega) hyes
          obtain ⟨hsn, hlen, hra, hrb, hrc⟩ := hRP
          have SN := Lib.hid (fun i hi => (sndB_parts (hsn i hi)).2.2)
          rw [hyes] at UD; dsimp only at UD
          have UD2 := Lib.hid UD.out
          clear UD LK hyes
          have hns2 : ns ≤ 2 := by have := hev3.1; omega
          have CH := Lib.hid (fun W hE => holding_any RU W ns cp As hE (fun i hi => by have := SN.out i hi; omega) hns2 cs ⟨s0, by omega⟩)
          have CV := Lib.hid (fun W => invertible_any RU (.slice As ns cp) W ns cp As rfl)
          have CP := Lib.hid (fun ha W => previous_any RU (.slice As ns cp) cs edt ⟨ha, hra.2⟩ hrb hrc ⟨s0, s1⟩ (OK.out.2.2) W ns cp As rfl)
          have NL := Lib.hid (nHold_le cs RU.sends)
          have E3 := Lib.hid (hev3.up U2.out)
          clear hsn hev3
          generalize nHold cs RU.sends = nh at *
          generalize prevR RU cs edt = pr at *
          obtain ⟨kd, ra, rb, rc, es⟩ := RU; unfold Rule.v at CH CV CP; dsimp only at CH CV CP hra hrb hrc UD2 NL E3 hlen hrun
          have U3 := Lib.hid (U2.out.alloc (.cells #[.int .i64 kd, .int .i64 ra, .int .i64 rb, .int .i64 rc, .slice As ns cp] 63))
          obtain ⟨a0, a1, a2⟩ := And.intro X3.out.c0 (And.intro X3.out.c1 X3.out.c2)
          have al := X3.out.lt
          obtain ⟨⟨y0, y1, y2, y3, y4, y5⟩, -⟩ := X5.out.mk6
          have yl := X5.out.lt
          obtain ⟨g0, g1, g2⟩ := And.intro K4.out.c0 (And.intro K4.out.c1 K4.out.c2)
          have gl := K4.out.lt
          have uR := (Up.refl (w1.setCell ⟨b4, 2, none⟩ (.int .i64 (ct - 1)))).alloc (.cells #[.int .i64 kd, .int .i64 ra, .int .i64 rb, .int .i64 rc, .slice As ns cp] 63)
          have x9 := Box5.new (w1.setCell ⟨b4, 2, none⟩ (.int .i64 (ct - 1))) (.int .i64 kd) (.int .i64 ra) (.int .i64 rb) (.int .i64 rc) (.slice As ns cp) 63
          rw [World.size_setCell] at x9
          have X9 := Lib.hid x9
          clear x9
          have Y4 := Lib.hid (K4.out.up uR)
          have Y5 := Lib.hid (X5.out.up uR)
          have Y6 := Lib.hid (X6.out.up uR)
          have E4 := Lib.hid (E3.out.up uR)
          clear uR
          go_wp2_with fail
          generalize (w1.setCell ⟨b4, 2, none⟩ (.int .i64 (ct - 1))).alloc (.cells #[.int .i64 kd, .int .i64 ra, .int .i64 rb, .int .i64 rc, .slice As ns cp] 63) = W3 at *
          generalize hb9 : w1.heap.size = b9 at *
          have B9 := Lib.hid (show b4 ≠ b9 ∧ b6 ≠ b9 ∧ b6 ≠ b4 ∧ w.heap.size ≤ b9 from by have := L46.out; omega)
          clear hb9 a0 a1 a2 al y0 y1 y2 y3 y4 y5 yl g0 g1 g2 gl p0 p1 p2 pf pl X4 K4 X3 E3 hrun; refine (CH.out _ E4.out).mono ?_; rintro x w4 ⟨rfl, u4⟩
          replace U3 := Lib.hid (U3.out.trans u4)
          replace X9 := Lib.hid (X9.out.up u4)
          replace Y4 := Lib.hid (Y4.out.up u4)
          replace Y5 := Lib.hid (Y5.out.up u4)
          replace Y6 := Lib.hid (Y6.out.up u4)
          clear u4 CH E4; obtain ⟨r0, r1, r2, r3, r4⟩ := And.intro X9.out.c0 (And.intro X9.out.c1 (And.intro X9.out.c2 (And.intro X9.out.c3 X9.out.c4)))
          have rl := X9.out.lt
          go_wp2_with fail
          refine (CV.out _).mono ?_; rintro x w5 ⟨rfl, u5⟩
          replace U3 := Lib.hid (U3.out.trans u5)
          replace X9 := Lib.hid (X9.out.up u5)
          replace Y4 := Lib.hid (Y4.out.up u5)
          replace Y5 := Lib.hid (Y5.out.up u5)
          replace X6 := Lib.hid (Y6.out.up u5)
          clear u5 CV Y6 r0 r1 r2 r3 r4 rl
          by_cases hra0 : ra = 0
          · have EQ := Lib.hid (show res = none from UD2.out.trans (if_pos (.inl hra0)))
            have HD : decide (¬ ra = 0) = false := decide_eq_false (by omega)
            clear UD2 CP; obtain ⟨d0, d1, d2⟩ := And.intro X6.out.c0 (And.intro X6.out.c1 X6.out.c2)
            have df := X6.out.f
            have dl := X6.out.lt
            obtain ⟨k0, k1, k2⟩ := And.intro (X6.out.laid' 0 0 0).c0 (And.intro (X6.out.laid' 0 0 0).c1 (X6.out.laid' 0 0 0).c2)
            have UE := Lib.hid (((U3.out.setCell (p := ⟨b6, 0, none⟩) B6.out (.int .i64 0)).setCell (p := ⟨b6, 1, none⟩) B6.out (.int .i64 0)).setCell (p := ⟨b6, 2, none⟩) B6.out (.int .i64 0))
            go_wp2
            exact bodyPost_ret (v := .tuple #[.agg #[.int .i64 0, .int .i64 0, .int .i64 0], .bool false]) (by simp [results, Try.results77, go_sem, k0, k1, k2]) rfl ⟨by rw [EQ.out]; rfl, UE.out⟩
          · have HD : decide (¬ ra = 0) = true := decide_eq_true hra0
            obtain ⟨g0, g1, g2⟩ := And.intro Y4.out.c0 (And.intro Y4.out.c1 Y4.out.c2)
            have gl := Y4.out.lt
            have gf := Y4.out.f
            by_cases hlt : cq < nh
            · have EQ := Lib.hid (show res = none from UD2.out.trans (if_pos (.inr hlt)))
              clear UD2 CP; obtain ⟨d0, d1, d2⟩ := And.intro X6.out.c0 (And.intro X6.out.c1 X6.out.c2)
              have df := X6.out.f
              have dl := X6.out.lt
              obtain ⟨k0, k1, k2⟩ := And.intro (X6.out.laid' 0 0 0).c0 (And.intro (X6.out.laid' 0 0 0).c1 (X6.out.laid' 0 0 0).c2)
              have UE := Lib.hid (((U3.out.setCell (p := ⟨b6, 0, none⟩) B6.out (.int .i64 0)).setCell (p := ⟨b6, 1, none⟩) B6.out (.int .i64 0)).setCell (p := ⟨b6, 2, none⟩) B6.out (.int .i64 0))
              go_wp2
              exact bodyPost_ret (v := .tuple #[.agg #[.int .i64 0, .int .i64 0, .int .i64 0], .bool false]) (by simp [results, Try.results77, go_sem, k0, k1, k2]) rfl ⟨by rw [EQ.out]; rfl, UE.out⟩
            · have UD2 := Lib.hid (UD2.out.trans (if_neg (by omega)))
              have nl := NL.out
              have i2 : IntKind.i64.wrap (cq - nh) = cq - nh := IntWalk.i64_in _ (by omega)
              have K4 := Lib.hid (Y4.out.set1 (cq - nh))
              have U5 := Lib.hid (U3.out.setCell (p := ⟨b4, 1, none⟩) B4.out (.int .i64 (cq - nh)))
              have b9n := B9.out
              replace X9 := Lib.hid (X9.out.farU (p := ⟨b4, 1, none⟩) (by dsimp only; omega) (.int .i64 (cq - nh)))
              replace Y5 := Lib.hid (Y5.out.setFar (p := ⟨b4, 1, none⟩) (by dsimp only; omega) (.int .i64 (cq - nh)))
              replace X6 := Lib.hid (X6.out.far (p := ⟨b4, 1, none⟩) (by dsimp only; omega) (.int .i64 (cq - nh)))
              obtain ⟨r0, r1, r2, r3, r4⟩ := And.intro X9.out.c0 (And.intro X9.out.c1 (And.intro X9.out.c2 (And.intro X9.out.c3 X9.out.c4)))
              have rl := X9.out.lt
              obtain ⟨⟨y0, y1, y2, y3, y4, y5⟩, -⟩ := Y5.out.mk6
              have yl := Y5.out.lt
              clear b9n nl
              go_wp2_with fail
              refine (CP.out (by omega) _).mono ?_; rintro x w6 ⟨rfl, u6⟩
              replace U5 := Lib.hid (U5.out.trans u6)
              replace K4 := Lib.hid (K4.out.up u6)
              replace X6 := Lib.hid (X6.out.up u6)
              clear u6 r0 r1 r2 r3 r4 rl y0 y1 y2 y3 y4 y5 yl g0 g1 g2 gl gf; obtain ⟨g0, g1, g2⟩ := And.intro K4.out.c0 (And.intro K4.out.c1 K4.out.c2)
              have gl := K4.out.lt
              have gf := K4.out.f
              have b9n := B9.out
              have J4 := Lib.hid (K4.out.set0 pr)
              replace U5 := Lib.hid (U5.out.setCell (p := ⟨b4, 0, none⟩) B4.out (.int .i64 pr))
              replace X6 := Lib.hid (X6.out.far (p := ⟨b4, 0, none⟩) (by dsimp only; omega) (.int .i64 pr))
              clear b9n; obtain ⟨d0, d1, d2⟩ := And.intro X6.out.c0 (And.intro X6.out.c1 X6.out.c2)
              have df := X6.out.f
              have dl := X6.out.lt
              obtain ⟨j0, j1, j2⟩ := And.intro J4.out.c0 (And.intro J4.out.c1 J4.out.c2); obtain ⟨k0, k1, k2⟩ := And.intro (X6.out.laid' pr (cq - nh) (ct - 1)).c0 (And.intro (X6.out.laid' pr (cq - nh) (ct - 1)).c1 (X6.out.laid' pr (cq - nh) (ct - 1)).c2)
              have UE := Lib.hid (((U5.out.setCell (p := ⟨b6, 0, none⟩) B6.out (.int .i64 pr)).setCell (p := ⟨b6, 1, none⟩) B6.out (.int .i64 (cq - nh))).setCell (p := ⟨b6, 2, none⟩) B6.out (.int .i64 (ct - 1)))
              go_wp2
              exact bodyPost_ret (v := .tuple #[.agg #[.int .i64 pr, .int .i64 (cq - nh), .int .i64 (ct - 1)], .bool true]) (by simp [results, Try.results77, go_sem, k0, k1, k2]) rfl ⟨by rw [UD2.out]; rfl, UE.out⟩
end Go.Proofs.Ytakmlfgkppekoaa

namespace Go.Proofs.Ytakmlfgkppekoaa
set_option maxRecDepth 100000
open Go.RowKit
set_option maxHeartbeats 4000000 in
theorem specRvi_any (a : Int) (w : World) :
    Calls Try.prog 16 #[.int .i64 a] w fun x w' => x = .returned (.int .i64 (invV a)) ∧ w = w' := by
  by_cases hin : 1 ≤ a ∧ a ≤ 96
  · have HV := Lib.hid (fun b hb => invV_iff (b := b) hin hb)
    have HP := Lib.hid (And.intro (invV_pos hin) (invV_le a).2)
    generalize invV a = r at HV HP ⊢
    have hb : inB a 1 96 = true := inB_iff.2 hin
    go_enter Try.func16, Try.ntmps16
    go_wp2
    go_loopw [3] (fun i wr => (∃ q : Nat, 1 ≤ q ∧ (q : Int) ≤ r ∧ i = .int .i64 q) ∧ w = wr) (fun i _ => 97 - (intOf i).toNat)
    case atStart => exact ⟨⟨1, by omega, by have := HP.out; omega, rfl⟩, rfl⟩
    case round =>
      obtain ⟨⟨q, hq, hqr, rfl⟩, rfl⟩ := hrel
      have hp := HP.out
      have i4 : (q : Int) < 97 := by omega
      have h0 : 0 ≤ a * (q : Int) := Int.mul_nonneg (by omega) (by omega)
      have h1 : a * (q : Int) ≤ 96 * 96 := Int.mul_le_mul hin.2 (by omega) (by omega) (by omega)
      have i1 : IntKind.i64.wrap (a * (q : Int)) = a * (q : Int) := IntWalk.i64_in _ (by omega)
      have i2 : (a * (q : Int)).tmod 97 = a * (q : Int) % 97 := Int.tmod_eq_emod_of_nonneg h0
      have i3 : IntKind.i64.wrap (a * (q : Int) % 97) = a * (q : Int) % 97 := IntWalk.i64_in _ (by omega)
      have i5 : IntKind.i64.wrap ((q : Int) + 1) = (q : Int) + 1 := IntWalk.i64_in _ (by omega)
      have hv := HV.out q (by omega)
      by_cases hq2 : (q : Int) = r
      · have hv1 : a * (q : Int) % 97 = 1 := hv.2 hq2
        have EQ := Lib.hid hq2
        clear hv hp hq2 h0 h1
        go_wp2_with (go_at_call 64; refine (l1In_any _ _ _ _).mono ?_; rintro e w' ⟨rfl, rfl⟩)
        go_ret
        exact ⟨ret_int EQ.out, rfl⟩
      · have hv1 : (a * (q : Int) % 97 == 1) = false := by
          rw [beq_eq_false_iff_ne]
          exact fun h => hq2 (hv.1 h)
        have LT := Lib.hid (show ((q + 1 : Nat) : Int) ≤ r by omega)
        clear hv hp hq2 h0 h1
        go_wp2_with (go_at_call 64; refine (l1In_any _ _ _ _).mono ?_; rintro e w' ⟨rfl, rfl⟩)
        go_roundw
        case rel => exact ⟨⟨q + 1, by omega, LT.out, by go_num⟩, by first | rfl | trivial⟩
        case measure => simp [intOf]; omega
  · have HV := Lib.hid (invV_no hin)
    have hb : inB a 1 96 = false := inB_no.2 hin
    clear hin
    go_enter Try.func16, Try.ntmps16
    go_wp2
    go_loopw [3] (fun i wr => (∃ q : Nat, q ≤ 97 ∧ i = .int .i64 q) ∧ w = wr) (fun i _ => 97 - (intOf i).toNat)
    case atStart => exact ⟨⟨1, by omega, rfl⟩, rfl⟩
    case round =>
      obtain ⟨⟨q, hq, rfl⟩, rfl⟩ := hrel
      by_cases hlt : q < 97
      · have i4 : (q : Int) < 97 := by omega
        have i5 : IntKind.i64.wrap ((q : Int) + 1) = (q : Int) + 1 := IntWalk.i64_in _ (by omega)
        go_wp2_with (go_at_call 64; refine (l1In_any _ _ _ _).mono ?_; rintro e w' ⟨rfl, rfl⟩)
        go_roundw
        case rel => exact ⟨⟨q + 1, by omega, by go_num⟩, by first | rfl | trivial⟩
        case measure => simp [intOf]; omega
      · have i4 : ¬ (q : Int) < 97 := by omega
        go_wp2; go_ret
        exact ⟨ret_int HV.out.symm, rfl⟩
end Go.Proofs.Ytakmlfgkppekoaa

/-
  What stands in the slots of FnExactCmpDo's regions, in one sentence: copies in new blocks, results, new blocks; no condition is made.
  What spec.l2Rule returns, in one sentence: the first rule of the kind and true, or the zero rule and false; for every list of rules that lies in memory.
  The region of spec.l2Do that finds the rule: its slots' relations, in one sentence: one row a slot; no condition is made.
-/
import Derived.Test.YtakmlfgkppekoaaDLEcdo03
import Derived.Test.YtakmlfgkppekoaaDLEcdo07
import Derived.Test.YtakmlfgkppekoaaDLEcdo08
import Derived.Test.YtakmlfgkppekoaaDLEcdo09
import Derived.Test.YtakmlfgkppekoaaDLEcdo11
namespace Go.Proofs.Ytakmlfgkppekoaa
set_option maxRecDepth 100000
open Go.RowKit
theorem own_ints {lo hi : Nat} {w w' : World} {b e size n : Nat} {v : Value} {xs : List Value} (h : w.ownsRow b e size v n xs) (m : Ints lo hi w w') (hb : hi ≤ b) : w'.ownsRow b e size v n xs := by
  obtain ⟨h1, h2⟩ := h; refine ⟨h1, ?_⟩
  rcases h2 with h2 | ⟨g, cap, cur, hv, hg, hh, hr⟩
  · exact .inl h2
  · exact .inr ⟨g, cap, cur, hv, hg, (m.block g (Array.getElem?_eq_some_iff.1 hh).1 (.inr (by omega))).trans hh, hr⟩
theorem Cell3.ints {lo hi : Nat} {w w' : World} {b : Nat} {i j l : Int} (h : Cell3 w b i j l) (m : Ints lo hi w w') (hb : hi ≤ b) : Cell3 w' b i j l :=
  h.keep m.size (fun o => m.cells b o h.lt (.inr hb)) (fun o => m.frozen b o h.lt)
theorem eqCst_any (a b : Cst) (w : World) : Calls Try.prog 27 #[a.v, b.v] w fun x w' => x = .returned (.bool (decide (a = b))) ∧ Up w w' := by
  obtain ⟨a0, a1, a2⟩ := a; obtain ⟨b0, b1, b2⟩ := b
  have hf := Lib.hid (show decide ((⟨a0, a1, a2⟩ : Cst) = ⟨b0, b1, b2⟩) = (decide (a0 = b0) && (decide (a1 = b1) && decide (a2 = b2))) by rw [Bool.eq_iff_iff]; simp)
  generalize decide ((⟨a0, a1, a2⟩ : Cst) = ⟨b0, b1, b2⟩) = r at hf ⊢
  unfold Cst.v; dsimp only
  by_cases h0 : a0 = b0
  · by_cases h1 : a1 = b1
    · by_cases h2 : a2 = b2
      · have HR := Lib.hid (show r = true by rw [hf.out]; simp [h0, h1, h2])
        subst h0 h1 h2; clear hf
        go_enter Try.func27, Try.ntmps27
        go_wp2; go_ret
        exact ⟨ret_bool HR.out.symm, ((Up.refl _).alloc _).alloc _⟩
      · have HR := Lib.hid (show r = false by rw [hf.out]; simp [h2])
        have h2' : (a2 != b2) = true := by simp [h2]
        subst h0 h1; clear hf
        go_enter Try.func27, Try.ntmps27
        go_wp2; go_ret
        exact ⟨ret_bool HR.out.symm, ((Up.refl _).alloc _).alloc _⟩
    · have HR := Lib.hid (show r = false by rw [hf.out]; simp [h1])
      have h1' : (a1 != b1) = true := by simp [h1]
      subst h0; clear hf
      go_enter Try.func27, Try.ntmps27
      go_wp2; go_ret
      exact ⟨ret_bool HR.out.symm, ((Up.refl _).alloc _).alloc _⟩
  · have HR := Lib.hid (show r = false by rw [hf.out]; simp [h0])
    have h0' : (a0 != b0) = true := by simp [h0]
    clear hf
    go_enter Try.func27, Try.ntmps27
    go_wp2; go_ret
    exact ⟨ret_bool HR.out.symm, ((Up.refl _).alloc _).alloc _⟩
theorem sendsE_len (til s : Int) (e : Evt) : ∀ (xs : List Evt) (q : Int), (sendsE til s e xs q).1.length ≤ xs.length
  | [], q => by simp [sendsE]
  | x :: xs, q => by
    rw [sendsE]
    have h1 := sendsE_len til s e xs q
    have h2 := sendsE_len til s e xs (q + 1)
    split
    · simp only [List.length_cons]; omega
    · split
      · simp only [List.length_cons]; omega
      · simp only [List.length_cons]; omega
theorem doM_len (m : Mdl) (s : Cst) (e : Evt) : (doM m s e).2.length ≤ 2 := by
  unfold doM
  split
  · rename_i h
    simp only [mayB, okB, Bool.and_eq_true, inB_iff] at h; obtain ⟨⟨⟨hm, _⟩, hev⟩, _⟩ := h; unfold doE
    split
    · simp
    · rename_i r hr
      have hb := mdlB_rule (i := e.to.toNat) hm (by omega) hr
      have := (ruleB_parts hb).2.1
      have h1 := sendsE_len m.til ((r.a * s.s + r.b * e.dt + r.c) % 97) e r.sends s.sq
      dsimp only
      omega
  · simp
def cdA (lo : Nat) (VM VC VE : Value) (m : Mdl) (n k : Nat) (s : Cst) (out : List Evt) (d : Nat) (v : Value) (w : World) : Prop :=
  if d = 24 then v = VM else if d = 25 then IsMdl lo m n k v w else if d = 26 then v = VC else if d = 27 then v = VC else if d = 28 then v = VE else if d = 29 then v = VE else if d = 30 then IsDo s out v w else if d = 23 then IsDo s out v w else if d = 31 then v = s.v else if d = 32 then IsList out v w else if d = 8 then NewB 3 41 lo v w else True
theorem cdA_24 (lo : Nat) (VM VC VE : Value) (m : Mdl) (n k : Nat) (s : Cst) (out : List Evt) (v : Value) (w : World) : cdA lo VM VC VE m n k s out 24 v w = (v = VM) := by simp [cdA]
theorem cdA_25 (lo : Nat) (VM VC VE : Value) (m : Mdl) (n k : Nat) (s : Cst) (out : List Evt) (v : Value) (w : World) : cdA lo VM VC VE m n k s out 25 v w = (IsMdl lo m n k v w) := by simp [cdA]
theorem cdA_26 (lo : Nat) (VM VC VE : Value) (m : Mdl) (n k : Nat) (s : Cst) (out : List Evt) (v : Value) (w : World) : cdA lo VM VC VE m n k s out 26 v w = (v = VC) := by simp [cdA]
theorem cdA_27 (lo : Nat) (VM VC VE : Value) (m : Mdl) (n k : Nat) (s : Cst) (out : List Evt) (v : Value) (w : World) : cdA lo VM VC VE m n k s out 27 v w = (v = VC) := by simp [cdA]
theorem cdA_28 (lo : Nat) (VM VC VE : Value) (m : Mdl) (n k : Nat) (s : Cst) (out : List Evt) (v : Value) (w : World) : cdA lo VM VC VE m n k s out 28 v w = (v = VE) := by simp [cdA]
theorem cdA_29 (lo : Nat) (VM VC VE : Value) (m : Mdl) (n k : Nat) (s : Cst) (out : List Evt) (v : Value) (w : World) : cdA lo VM VC VE m n k s out 29 v w = (v = VE) := by simp [cdA]
theorem cdA_30 (lo : Nat) (VM VC VE : Value) (m : Mdl) (n k : Nat) (s : Cst) (out : List Evt) (v : Value) (w : World) : cdA lo VM VC VE m n k s out 30 v w = (IsDo s out v w) := by simp [cdA]
theorem cdA_23 (lo : Nat) (VM VC VE : Value) (m : Mdl) (n k : Nat) (s : Cst) (out : List Evt) (v : Value) (w : World) : cdA lo VM VC VE m n k s out 23 v w = (IsDo s out v w) := by simp [cdA]
theorem cdA_31 (lo : Nat) (VM VC VE : Value) (m : Mdl) (n k : Nat) (s : Cst) (out : List Evt) (v : Value) (w : World) : cdA lo VM VC VE m n k s out 31 v w = (v = s.v) := by simp [cdA]
theorem cdA_32 (lo : Nat) (VM VC VE : Value) (m : Mdl) (n k : Nat) (s : Cst) (out : List Evt) (v : Value) (w : World) : cdA lo VM VC VE m n k s out 32 v w = (IsList out v w) := by simp [cdA]
theorem cdA_8 (lo : Nat) (VM VC VE : Value) (m : Mdl) (n k : Nat) (s : Cst) (out : List Evt) (v : Value) (w : World) : cdA lo VM VC VE m n k s out 8 v w = (NewB 3 41 lo v w) := by simp [cdA]
theorem cdA_up (lo : Nat) (VM VC VE : Value) (m : Mdl) (n k : Nat) (s : Cst) (out : List Evt) (d : Nat) {v : Value} {w w' : World} (h : cdA lo VM VC VE m n k s out d v w) (u : Up w w') : cdA lo VM VC VE m n k s out d v w' := by
  unfold cdA at h ⊢
  by_cases h24 : d = 24
  · rw [if_pos h24] at h ⊢
    exact h
  rw [if_neg h24] at h ⊢
  by_cases h25 : d = 25
  · rw [if_pos h25] at h ⊢
    exact h.up u
  rw [if_neg h25] at h ⊢
  by_cases h26 : d = 26
  · rw [if_pos h26] at h ⊢
    exact h
  rw [if_neg h26] at h ⊢
  by_cases h27 : d = 27
  · rw [if_pos h27] at h ⊢
    exact h
  rw [if_neg h27] at h ⊢
  by_cases h28 : d = 28
  · rw [if_pos h28] at h ⊢
    exact h
  rw [if_neg h28] at h ⊢
  by_cases h29 : d = 29
  · rw [if_pos h29] at h ⊢
    exact h
  rw [if_neg h29] at h ⊢
  by_cases h30 : d = 30
  · rw [if_pos h30] at h ⊢
    exact h.up u
  rw [if_neg h30] at h ⊢
  by_cases h23 : d = 23
  · rw [if_pos h23] at h ⊢
    exact h.up u
  rw [if_neg h23] at h ⊢
  by_cases h31 : d = 31
  · rw [if_pos h31] at h ⊢
    exact h
  rw [if_neg h31] at h ⊢
  by_cases h32 : d = 32
  · rw [if_pos h32] at h ⊢
    exact h.up u
  rw [if_neg h32] at h ⊢
  by_cases h8 : d = 8
  · rw [if_pos h8] at h ⊢
    exact h.up u
  rw [if_neg h8] at h ⊢
  exact trivial
def cdB (lo : Nat) (VM VC VE : Value) (s : Cst) (out : List Evt) (d : Nat) (v : Value) (w : World) : Prop :=
  if d = 36 then v = VM else if d = 37 then v = VC else if d = 38 then v = VC else if d = 39 then v = VE else if d = 40 then v = VE else if d = 41 then IsDoO lo s out v w else if d = 35 then IsDoO lo s out v w else if d = 42 then v = s.v else if d = 43 then IsOwnL lo out v w else if d = 11 then NewB 3 41 lo v w else True
theorem cdB_36 (lo : Nat) (VM VC VE : Value) (s : Cst) (out : List Evt) (v : Value) (w : World) : cdB lo VM VC VE s out 36 v w = (v = VM) := by simp [cdB]
theorem cdB_37 (lo : Nat) (VM VC VE : Value) (s : Cst) (out : List Evt) (v : Value) (w : World) : cdB lo VM VC VE s out 37 v w = (v = VC) := by simp [cdB]
theorem cdB_38 (lo : Nat) (VM VC VE : Value) (s : Cst) (out : List Evt) (v : Value) (w : World) : cdB lo VM VC VE s out 38 v w = (v = VC) := by simp [cdB]
theorem cdB_39 (lo : Nat) (VM VC VE : Value) (s : Cst) (out : List Evt) (v : Value) (w : World) : cdB lo VM VC VE s out 39 v w = (v = VE) := by simp [cdB]
theorem cdB_40 (lo : Nat) (VM VC VE : Value) (s : Cst) (out : List Evt) (v : Value) (w : World) : cdB lo VM VC VE s out 40 v w = (v = VE) := by simp [cdB]
theorem cdB_41 (lo : Nat) (VM VC VE : Value) (s : Cst) (out : List Evt) (v : Value) (w : World) : cdB lo VM VC VE s out 41 v w = (IsDoO lo s out v w) := by simp [cdB]
theorem cdB_35 (lo : Nat) (VM VC VE : Value) (s : Cst) (out : List Evt) (v : Value) (w : World) : cdB lo VM VC VE s out 35 v w = (IsDoO lo s out v w) := by simp [cdB]
theorem cdB_42 (lo : Nat) (VM VC VE : Value) (s : Cst) (out : List Evt) (v : Value) (w : World) : cdB lo VM VC VE s out 42 v w = (v = s.v) := by simp [cdB]
theorem cdB_43 (lo : Nat) (VM VC VE : Value) (s : Cst) (out : List Evt) (v : Value) (w : World) : cdB lo VM VC VE s out 43 v w = (IsOwnL lo out v w) := by simp [cdB]
theorem cdB_11 (lo : Nat) (VM VC VE : Value) (s : Cst) (out : List Evt) (v : Value) (w : World) : cdB lo VM VC VE s out 11 v w = (NewB 3 41 lo v w) := by simp [cdB]
theorem cdB_up (lo : Nat) (VM VC VE : Value) (s : Cst) (out : List Evt) (d : Nat) {v : Value} {w w' : World} (h : cdB lo VM VC VE s out d v w) (u : Up w w') : cdB lo VM VC VE s out d v w' := by
  unfold cdB at h ⊢
  by_cases h36 : d = 36
  · rw [if_pos h36] at h ⊢
    exact h
  rw [if_neg h36] at h ⊢
  by_cases h37 : d = 37
  · rw [if_pos h37] at h ⊢
    exact h
  rw [if_neg h37] at h ⊢
  by_cases h38 : d = 38
  · rw [if_pos h38] at h ⊢
    exact h
  rw [if_neg h38] at h ⊢
  by_cases h39 : d = 39
  · rw [if_pos h39] at h ⊢
    exact h
  rw [if_neg h39] at h ⊢
  by_cases h40 : d = 40
  · rw [if_pos h40] at h ⊢
    exact h
  rw [if_neg h40] at h ⊢
  by_cases h41 : d = 41
  · rw [if_pos h41] at h ⊢
    exact h.up u
  rw [if_neg h41] at h ⊢
  by_cases h35 : d = 35
  · rw [if_pos h35] at h ⊢
    exact h.up u
  rw [if_neg h35] at h ⊢
  by_cases h42 : d = 42
  · rw [if_pos h42] at h ⊢
    exact h
  rw [if_neg h42] at h ⊢
  by_cases h43 : d = 43
  · rw [if_pos h43] at h ⊢
    exact h.up u
  rw [if_neg h43] at h ⊢
  by_cases h11 : d = 11
  · rw [if_pos h11] at h ⊢
    exact h.up u
  rw [if_neg h11] at h ⊢
  exact trivial
def cdC (lo : Nat) (VM VC VE : Value) (m : Mdl) (n k : Nat) (s : Cst) (out : List Evt) (d : Nat) (v : Value) (w : World) : Prop :=
  if d = 88 then v = VM else if d = 89 then IsMdl lo m n k v w else if d = 90 then v = VC else if d = 91 then v = VC else if d = 92 then v = VE else if d = 93 then v = VE else if d = 94 then IsDoO lo s out v w else if d = 87 then IsDoO lo s out v w else if d = 95 then v = s.v else if d = 96 then IsOwnL lo out v w else if d = 16 then NewB 3 41 lo v w else True
theorem cdC_88 (lo : Nat) (VM VC VE : Value) (m : Mdl) (n k : Nat) (s : Cst) (out : List Evt) (v : Value) (w : World) : cdC lo VM VC VE m n k s out 88 v w = (v = VM) := by simp [cdC]
theorem cdC_89 (lo : Nat) (VM VC VE : Value) (m : Mdl) (n k : Nat) (s : Cst) (out : List Evt) (v : Value) (w : World) : cdC lo VM VC VE m n k s out 89 v w = (IsMdl lo m n k v w) := by simp [cdC]
theorem cdC_90 (lo : Nat) (VM VC VE : Value) (m : Mdl) (n k : Nat) (s : Cst) (out : List Evt) (v : Value) (w : World) : cdC lo VM VC VE m n k s out 90 v w = (v = VC) := by simp [cdC]
theorem cdC_91 (lo : Nat) (VM VC VE : Value) (m : Mdl) (n k : Nat) (s : Cst) (out : List Evt) (v : Value) (w : World) : cdC lo VM VC VE m n k s out 91 v w = (v = VC) := by simp [cdC]
theorem cdC_92 (lo : Nat) (VM VC VE : Value) (m : Mdl) (n k : Nat) (s : Cst) (out : List Evt) (v : Value) (w : World) : cdC lo VM VC VE m n k s out 92 v w = (v = VE) := by simp [cdC]
theorem cdC_93 (lo : Nat) (VM VC VE : Value) (m : Mdl) (n k : Nat) (s : Cst) (out : List Evt) (v : Value) (w : World) : cdC lo VM VC VE m n k s out 93 v w = (v = VE) := by simp [cdC]
theorem cdC_94 (lo : Nat) (VM VC VE : Value) (m : Mdl) (n k : Nat) (s : Cst) (out : List Evt) (v : Value) (w : World) : cdC lo VM VC VE m n k s out 94 v w = (IsDoO lo s out v w) := by simp [cdC]
theorem cdC_87 (lo : Nat) (VM VC VE : Value) (m : Mdl) (n k : Nat) (s : Cst) (out : List Evt) (v : Value) (w : World) : cdC lo VM VC VE m n k s out 87 v w = (IsDoO lo s out v w) := by simp [cdC]
theorem cdC_95 (lo : Nat) (VM VC VE : Value) (m : Mdl) (n k : Nat) (s : Cst) (out : List Evt) (v : Value) (w : World) : cdC lo VM VC VE m n k s out 95 v w = (v = s.v) := by simp [cdC]
theorem cdC_96 (lo : Nat) (VM VC VE : Value) (m : Mdl) (n k : Nat) (s : Cst) (out : List Evt) (v : Value) (w : World) : cdC lo VM VC VE m n k s out 96 v w = (IsOwnL lo out v w) := by simp [cdC]
theorem cdC_16 (lo : Nat) (VM VC VE : Value) (m : Mdl) (n k : Nat) (s : Cst) (out : List Evt) (v : Value) (w : World) : cdC lo VM VC VE m n k s out 16 v w = (NewB 3 41 lo v w) := by simp [cdC]
theorem cdC_up (lo : Nat) (VM VC VE : Value) (m : Mdl) (n k : Nat) (s : Cst) (out : List Evt) (d : Nat) {v : Value} {w w' : World} (h : cdC lo VM VC VE m n k s out d v w) (u : Up w w') : cdC lo VM VC VE m n k s out d v w' := by
  unfold cdC at h ⊢
  by_cases h88 : d = 88
  · rw [if_pos h88] at h ⊢
    exact h
  rw [if_neg h88] at h ⊢
  by_cases h89 : d = 89
  · rw [if_pos h89] at h ⊢
    exact h.up u
  rw [if_neg h89] at h ⊢
  by_cases h90 : d = 90
  · rw [if_pos h90] at h ⊢
    exact h
  rw [if_neg h90] at h ⊢
  by_cases h91 : d = 91
  · rw [if_pos h91] at h ⊢
    exact h
  rw [if_neg h91] at h ⊢
  by_cases h92 : d = 92
  · rw [if_pos h92] at h ⊢
    exact h
  rw [if_neg h92] at h ⊢
  by_cases h93 : d = 93
  · rw [if_pos h93] at h ⊢
    exact h
  rw [if_neg h93] at h ⊢
  by_cases h94 : d = 94
  · rw [if_pos h94] at h ⊢
    exact h.up u
  rw [if_neg h94] at h ⊢
  by_cases h87 : d = 87
  · rw [if_pos h87] at h ⊢
    exact h.up u
  rw [if_neg h87] at h ⊢
  by_cases h95 : d = 95
  · rw [if_pos h95] at h ⊢
    exact h
  rw [if_neg h95] at h ⊢
  by_cases h96 : d = 96
  · rw [if_pos h96] at h ⊢
    exact h.up u
  rw [if_neg h96] at h ⊢
  by_cases h16 : d = 16
  · rw [if_pos h16] at h ⊢
    exact h.up u
  rw [if_neg h16] at h ⊢
  exact trivial
end Go.Proofs.Ytakmlfgkppekoaa

namespace Go.Proofs.Ytakmlfgkppekoaa
set_option maxRecDepth 100000
open Go.RowKit
set_option maxHeartbeats 20000000 in
theorem l2Rule_any (A : Option Addr) (n c : Nat) (kd : Int) (rs : List Rule) (w : World) (hR : Rules w A n rs) :
    Calls Try.prog 72 #[.slice A n c, .int .i64 kd] w (Found A kd rs w) := by
  have hbig := hR.2.1
  have HR := Lib.hid hR
  have LR := Lib.hid hR.1
  have RD := Lib.hid (ruleOf_drop kd rs)
  have ID := Lib.hid (ixOf_drop kd rs)
  have H0 := Lib.hid (show ruleOf kd (rs.drop 0) = ruleOf kd rs from rfl)
  have H1 := Lib.hid (show ixOf kd (rs.drop 0) + 0 = ixOf kd rs from rfl)
  clear hR
  go_enter Try.func72, Try.ntmps72
  go_wp2
  go_loopw [6] (fun i wr => (∃ q : Nat, q ≤ n ∧ i = .int .i64 q ∧ Hid (ruleOf kd (rs.drop q) = ruleOf kd rs) ∧ Hid (ixOf kd (rs.drop q) + q = ixOf kd rs)) ∧ wr = w.alloc (.cells #[.int .i64 0, .int .i64 0, .int .i64 0, .int .i64 0, .slice none 0 0] 63)) (fun i _ => n - (intOf i).toNat)
  case atStart => exact ⟨⟨0, by omega, rfl, H0, H1⟩, rfl⟩
  case round =>
    obtain ⟨⟨q, hq, rfl, HA, HI⟩, rfl⟩ := hrel
    have UA := Lib.hid ((Up.refl w).alloc (.cells #[.int .i64 0, .int .i64 0, .int .i64 0, .int .i64 0, .slice none 0 0] 63))
    by_cases hlt : q < n
    · obtain ⟨b, off, hA, hb, hc⟩ := HR.out.2.2 (by omega)
      subst hA
      have at2 := hc q hlt
      have T := RD.out q (by rw [LR.out]; exact hlt)
      rw [HA.out] at T
      have I := ID.out q (by rw [LR.out]; exact hlt)
      clear hc
      generalize rs.getD q default = r at at2 T I
      obtain ⟨A3, n3, c3, ⟨r0, r1, r2, r3, r4⟩, hn3, he3⟩ := at2; obtain ⟨k, ra, rb, rc, es⟩ := r; dsimp only at r0 r1 r2 r3 r4 T I he3
      have I := Lib.hid I
      have E3 := Lib.hid he3
      have T := Lib.hid T
      clear he3
      have i4 : (q : Int) < n := by omega
      have i5 : IntKind.i64.wrap ((q : Int) + 1) = (q : Int) + 1 := IntWalk.i64_in _ (by omega)
      by_cases hk : k = kd
      · subst hk
        have TT := Lib.hid (show ruleOf k rs = some ⟨k, ra, rb, rc, es⟩ by rw [T.out, if_pos rfl])
        have II := Lib.hid (show ixOf k rs = q by rw [← HI.out, I.out, if_pos rfl, Nat.zero_add])
        have C4 := Lib.hid r4
        have U2 := Lib.hid ((Up.refl w).alloc (.cells #[.int .i64 k, .int .i64 ra, .int .i64 rb, .int .i64 rc, .slice A3 n3 c3] 63))
        have E4 := Lib.hid (E3.out.up U2.out)
        go_wp2
        exact bodyPost_ret (v := .tuple #[.agg #[.int .i64 k, .int .i64 ra, .int .i64 rb, .int .i64 rc, .slice A3 n3 c3], .bool true]) (by simp [results, Try.results72, go_sem]) rfl ⟨U2.out, .inl ⟨⟨k, ra, rb, rc, es⟩, A3, n3, c3, TT.out, rfl, hn3, E4.out, fun b' off' hA' => by
          injection hA' with hA'
          injection hA' with h1 h2 _
          rw [← h1, ← h2, II.out]
          exact C4.out⟩⟩
      · have TT := Lib.hid (show ruleOf kd (rs.drop (q + 1)) = ruleOf kd rs by rw [T.out]; exact (if_neg hk).symm)
        have II := Lib.hid (show ixOf kd (rs.drop (q + 1)) + (q + 1) = ixOf kd rs by rw [← HI.out, I.out, if_neg hk]; omega)
        go_wp2
        go_roundw
        case rel => first | exact ⟨⟨q + 1, by omega, by first | rfl | go_num, TT, II⟩, rfl⟩ | exact ⟨q + 1, by omega, by first | rfl | go_num, TT, II⟩ | (refine ⟨⟨q + 1, by omega, by first | rfl | go_num, TT, II⟩, ?_⟩; trivial)
        case measure => (simp [intOf]; try omega)
    · have TN := Lib.hid (show ruleOf kd rs = none by rw [← HA.out, List.drop_eq_nil_of_le (by rw [LR.out]; omega)]; rfl)
      have i4 : ¬ (q : Int) < n := by omega
      go_wp2
      exact bodyPost_ret (v := .tuple #[.agg #[.int .i64 0, .int .i64 0, .int .i64 0, .int .i64 0, .slice none 0 0], .bool false]) (by simp [results, Try.results72, go_sem]) rfl ⟨UA.out, .inr ⟨TN.out, rfl⟩⟩
end Go.Proofs.Ytakmlfgkppekoaa

namespace Go.Proofs.Ytakmlfgkppekoaa
set_option maxRecDepth 100000
open Go.RowKit
theorem dR_0 {b3 b5 : Nat} {A : Option Addr} {n c bA off : Nat} {e : Evt} {A' : Option Addr} {n' c' : Nat} {r : Rule} {s : Value} {ok : Bool} {B : Nat} {v : Value} {w : World} : dR b3 b5 A n c bA off e A' n' c' r s ok B 0 v w = (v = .pointer (some ⟨b3, 0, none⟩)) := by simp [dR, dP]
theorem dR_1 {b3 b5 : Nat} {A : Option Addr} {n c bA off : Nat} {e : Evt} {A' : Option Addr} {n' c' : Nat} {r : Rule} {s : Value} {ok : Bool} {B : Nat} {v : Value} {w : World} : dR b3 b5 A n c bA off e A' n' c' r s ok B 1 v w = (v = .slice A n c) := by simp [dR, dP]
theorem dR_2 {b3 b5 : Nat} {A : Option Addr} {n c bA off : Nat} {e : Evt} {A' : Option Addr} {n' c' : Nat} {r : Rule} {s : Value} {ok : Bool} {B : Nat} {v : Value} {w : World} : dR b3 b5 A n c bA off e A' n' c' r s ok B 2 v w = (v = .pointer (some ⟨b5, 1, none⟩)) := by simp [dR, dP]
theorem dR_3 {b3 b5 : Nat} {A : Option Addr} {n c bA off : Nat} {e : Evt} {A' : Option Addr} {n' c' : Nat} {r : Rule} {s : Value} {ok : Bool} {B : Nat} {v : Value} {w : World} : dR b3 b5 A n c bA off e A' n' c' r s ok B 3 v w = (v = .int .i64 e.to) := by simp [dR, dP]
theorem dR_4 {b3 b5 : Nat} {A : Option Addr} {n c bA off : Nat} {e : Evt} {A' : Option Addr} {n' c' : Nat} {r : Rule} {s : Value} {ok : Bool} {B : Nat} {v : Value} {w : World} : dR b3 b5 A n c bA off e A' n' c' r s ok B 4 v w = (v = .pointer (some ⟨bA, off + e.to.toNat, none⟩)) := by simp [dR, dP]
theorem dR_5 {b3 b5 : Nat} {A : Option Addr} {n c bA off : Nat} {e : Evt} {A' : Option Addr} {n' c' : Nat} {r : Rule} {s : Value} {ok : Bool} {B : Nat} {v : Value} {w : World} : dR b3 b5 A n c bA off e A' n' c' r s ok B 5 v w = (v = .slice A' n' c') := by simp [dR, dP]
theorem dR_6 {b3 b5 : Nat} {A : Option Addr} {n c bA off : Nat} {e : Evt} {A' : Option Addr} {n' c' : Nat} {r : Rule} {s : Value} {ok : Bool} {B : Nat} {v : Value} {w : World} : dR b3 b5 A n c bA off e A' n' c' r s ok B 6 v w = (v = .pointer (some ⟨b5, 4, none⟩)) := by simp [dR, dP]
theorem dR_7 {b3 b5 : Nat} {A : Option Addr} {n c bA off : Nat} {e : Evt} {A' : Option Addr} {n' c' : Nat} {r : Rule} {s : Value} {ok : Bool} {B : Nat} {v : Value} {w : World} : dR b3 b5 A n c bA off e A' n' c' r s ok B 7 v w = (v = .int .i64 e.kd) := by simp [dR, dP]
theorem dR_8 {b3 b5 : Nat} {A : Option Addr} {n c bA off : Nat} {e : Evt} {A' : Option Addr} {n' c' : Nat} {r : Rule} {s : Value} {ok : Bool} {B : Nat} {v : Value} {w : World} : dR b3 b5 A n c bA off e A' n' c' r s ok B 8 v w = (v = .tuple #[r.v s, .bool ok]) := by simp [dR, dP]
theorem dR_9 {b3 b5 : Nat} {A : Option Addr} {n c bA off : Nat} {e : Evt} {A' : Option Addr} {n' c' : Nat} {r : Rule} {s : Value} {ok : Bool} {B : Nat} {v : Value} {w : World} : dR b3 b5 A n c bA off e A' n' c' r s ok B 9 v w = (v = .tuple #[r.v s, .bool ok]) := by simp [dR, dP]
theorem dR_10 {b3 b5 : Nat} {A : Option Addr} {n c bA off : Nat} {e : Evt} {A' : Option Addr} {n' c' : Nat} {r : Rule} {s : Value} {ok : Bool} {B : Nat} {v : Value} {w : World} : dR b3 b5 A n c bA off e A' n' c' r s ok B 10 v w = (v = r.v s) := by simp [dR, dP]
theorem dR_11 {b3 b5 : Nat} {A : Option Addr} {n c bA off : Nat} {e : Evt} {A' : Option Addr} {n' c' : Nat} {r : Rule} {s : Value} {ok : Bool} {B : Nat} {v : Value} {w : World} : dR b3 b5 A n c bA off e A' n' c' r s ok B 11 v w = (v = .bool ok) := by simp [dR, dP]
theorem dR_12 {b3 b5 : Nat} {A : Option Addr} {n c bA off : Nat} {e : Evt} {A' : Option Addr} {n' c' : Nat} {r : Rule} {s : Value} {ok : Bool} {B : Nat} {v : Value} {w : World} : dR b3 b5 A n c bA off e A' n' c' r s ok B 12 v w = (IsNew5 B v w) := by simp [dR]
theorem dR_13 {b3 b5 : Nat} {A : Option Addr} {n c bA off : Nat} {e : Evt} {A' : Option Addr} {n' c' : Nat} {r : Rule} {s : Value} {ok : Bool} {B : Nat} {v : Value} {w : World} : dR b3 b5 A n c bA off e A' n' c' r s ok B 13 v w = (∃ b, v = .pointer (some ⟨b, 0, none⟩) ∧ Laid5 w b (.int .i64 r.kd) (.int .i64 r.a) (.int .i64 r.b) (.int .i64 r.c) s) := by simp [dR]
theorem dR_lays {b3 b5 : Nat} {A : Option Addr} {n c bA off : Nat} {e : Evt} {A' : Option Addr} {n' c' : Nat} {r : Rule} {s : Value} {ok : Bool} {B : Nat} {v : Value} {w : World} (d : Nat) {w' : World} (h : dR b3 b5 A n c bA off e A' n' c' r s ok B d v w) (u : Lays (.int .i64 r.kd) (.int .i64 r.a) (.int .i64 r.b) (.int .i64 r.c) s w w') : dR b3 b5 A n c bA off e A' n' c' r s ok B d v w' := by
  unfold dR at h ⊢
  by_cases h1 : d = 12
  · rw [if_pos h1] at h ⊢
    exact h.lays u
  · rw [if_neg h1] at h ⊢
    by_cases h2 : d = 13
    · rw [if_pos h2] at h ⊢
      obtain ⟨b, hb, hl⟩ := h
      exact ⟨b, hb, u.laid b hl⟩
    · rw [if_neg h2] at h ⊢
      exact h
end Go.Proofs.Ytakmlfgkppekoaa

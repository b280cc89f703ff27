/-
  What spec.DskText returns, in one sentence: the word of what happens, with its number where it has one, nothing for what is none; for every kind and number.
  The walk of a region that draws, kept shut, in one sentence: as region_up, but no tactic looks into what is left to walk.
  A record's text gives its numbers back, in one sentence: two valid records of one text have the same numbers but for the sequence number; for every two records.
  A region that draws its order and whose effects are forced into one order, in one sentence: as region_mix, and what only reads may come up where a chosen condition on the world holds throughout.
  What markEvtEvtS and heldEvtEvtS do, in one sentence: the one lays numbers in a row into a list of its own, the other finds them there; for every list that lies in memory.
  What tbOk returns, in one sentence: true; no condition is made.
-/
import Derived.OrdersHeld
import Derived.Test.YtlkmhmiamdbhcaaDoorDLDsk01
import Derived.Test.YtlkmhmiamdbhcaaDoorDLDsk02
import Derived.Test.YtlkmhmiamdbhcaaDoorDLDsk03
namespace Go.Proofs.YtlkmhmiamdbhcaaDoor
set_option maxRecDepth 100000
open Go.RowKit
def wordS (k : Int) : List UInt8 := if k = 1 then [100, 111] else if k = 2 then [104, 101, 97, 114] else if k = 3 then [98, 101, 103, 105, 110] else if k = 4 then [118, 105, 115, 105, 116] else [102, 114, 101, 101]
/-- The text of what happens. -/
def dskS (k at_ : Int) : List UInt8 := if inB k 1 5 = true then (if k = 3 ∨ k = 4 then (if at_ = 0 then wordS k else []) else (if inB at_ 0 999 = true then wordS k ++ [32] ++ plainS at_ else [])) else []
theorem names_any (w : World) : Calls Tryd.prog 22 #[] w fun x w' => ∃ g, x = .returned (.slice (some ⟨g, 0, none⟩) 6 6) ∧ Blq w' g 9 #[.string ⟨([] : List UInt8).toArray⟩, .string ⟨([100, 111] : List UInt8).toArray⟩, .string ⟨([104, 101, 97, 114] : List UInt8).toArray⟩, .string ⟨([98, 101, 103, 105, 110] : List UInt8).toArray⟩, .string ⟨([118, 105, 115, 105, 116] : List UInt8).toArray⟩, .string ⟨([102, 114, 101, 101] : List UInt8).toArray⟩] ∧ Up w w' := by
  have X := Lib.hid (Blq.new w #[.string ⟨([] : List UInt8).toArray⟩, .string ⟨([100, 111] : List UInt8).toArray⟩, .string ⟨([104, 101, 97, 114] : List UInt8).toArray⟩, .string ⟨([98, 101, 103, 105, 110] : List UInt8).toArray⟩, .string ⟨([118, 105, 115, 105, 116] : List UInt8).toArray⟩, .string ⟨([102, 114, 101, 101] : List UInt8).toArray⟩] 9)
  have U := Lib.hid ((Up.refl w).alloc (.cells #[.string ⟨([] : List UInt8).toArray⟩, .string ⟨([100, 111] : List UInt8).toArray⟩, .string ⟨([104, 101, 97, 114] : List UInt8).toArray⟩, .string ⟨([98, 101, 103, 105, 110] : List UInt8).toArray⟩, .string ⟨([118, 105, 115, 105, 116] : List UInt8).toArray⟩, .string ⟨([102, 114, 101, 101] : List UInt8).toArray⟩] 9))
  go_enter Tryd.func22, Tryd.ntmps22
  go_wp2; go_ret
  exact ⟨_, rfl, X.out, U.out⟩
def dnA (k : Nat) (b0 : Nat) (wd : List UInt8) (d : Nat) (v : Value) (w : World) : Prop :=
  if d = 8 then ∃ g, v = .slice (some ⟨g, 0, none⟩) 6 6 ∧ Blq w g 9 #[.string ⟨([] : List UInt8).toArray⟩, .string ⟨([100, 111] : List UInt8).toArray⟩, .string ⟨([104, 101, 97, 114] : List UInt8).toArray⟩, .string ⟨([98, 101, 103, 105, 110] : List UInt8).toArray⟩, .string ⟨([118, 105, 115, 105, 116] : List UInt8).toArray⟩, .string ⟨([102, 114, 101, 101] : List UInt8).toArray⟩] else if d = 9 then v = .pointer (some ⟨b0, 0, none⟩) else if d = 10 then v = .int .i64 (k : Int) else if d = 11 then ∃ g, v = .pointer (some ⟨g, k, none⟩) ∧ Blq w g 9 #[.string ⟨([] : List UInt8).toArray⟩, .string ⟨([100, 111] : List UInt8).toArray⟩, .string ⟨([104, 101, 97, 114] : List UInt8).toArray⟩, .string ⟨([98, 101, 103, 105, 110] : List UInt8).toArray⟩, .string ⟨([118, 105, 115, 105, 116] : List UInt8).toArray⟩, .string ⟨([102, 114, 101, 101] : List UInt8).toArray⟩] else if d = 12 then v = .string ⟨wd.toArray⟩ else True
theorem dnA_8 (k : Nat) (b0 : Nat) (wd : List UInt8) (v : Value) (w : World) : dnA k b0 wd 8 v w = (∃ g, v = .slice (some ⟨g, 0, none⟩) 6 6 ∧ Blq w g 9 #[.string ⟨([] : List UInt8).toArray⟩, .string ⟨([100, 111] : List UInt8).toArray⟩, .string ⟨([104, 101, 97, 114] : List UInt8).toArray⟩, .string ⟨([98, 101, 103, 105, 110] : List UInt8).toArray⟩, .string ⟨([118, 105, 115, 105, 116] : List UInt8).toArray⟩, .string ⟨([102, 114, 101, 101] : List UInt8).toArray⟩]) := by simp [dnA]
theorem dnA_9 (k : Nat) (b0 : Nat) (wd : List UInt8) (v : Value) (w : World) : dnA k b0 wd 9 v w = (v = .pointer (some ⟨b0, 0, none⟩)) := by simp [dnA]
theorem dnA_10 (k : Nat) (b0 : Nat) (wd : List UInt8) (v : Value) (w : World) : dnA k b0 wd 10 v w = (v = .int .i64 (k : Int)) := by simp [dnA]
theorem dnA_11 (k : Nat) (b0 : Nat) (wd : List UInt8) (v : Value) (w : World) : dnA k b0 wd 11 v w = (∃ g, v = .pointer (some ⟨g, k, none⟩) ∧ Blq w g 9 #[.string ⟨([] : List UInt8).toArray⟩, .string ⟨([100, 111] : List UInt8).toArray⟩, .string ⟨([104, 101, 97, 114] : List UInt8).toArray⟩, .string ⟨([98, 101, 103, 105, 110] : List UInt8).toArray⟩, .string ⟨([118, 105, 115, 105, 116] : List UInt8).toArray⟩, .string ⟨([102, 114, 101, 101] : List UInt8).toArray⟩]) := by simp [dnA]
theorem dnA_12 (k : Nat) (b0 : Nat) (wd : List UInt8) (v : Value) (w : World) : dnA k b0 wd 12 v w = (v = .string ⟨wd.toArray⟩) := by simp [dnA]
theorem dnA_up (k : Nat) (b0 : Nat) (wd : List UInt8) (d : Nat) {v : Value} {w w' : World} (h : dnA k b0 wd d v w) (u : Up w w') : dnA k b0 wd d v w' := by
  unfold dnA at h ⊢
  by_cases h8 : d = 8
  · rw [if_pos h8] at h ⊢
    exact (by obtain ⟨g, h0, h1⟩ := h; exact ⟨g, h0, h1.up u⟩)
  rw [if_neg h8] at h ⊢
  by_cases h9 : d = 9
  · rw [if_pos h9] at h ⊢
    exact h
  rw [if_neg h9] at h ⊢
  by_cases h10 : d = 10
  · rw [if_pos h10] at h ⊢
    exact h
  rw [if_neg h10] at h ⊢
  by_cases h11 : d = 11
  · rw [if_pos h11] at h ⊢
    exact (by obtain ⟨g, h0, h1⟩ := h; exact ⟨g, h0, h1.up u⟩)
  rw [if_neg h11] at h ⊢
  by_cases h12 : d = 12
  · rw [if_pos h12] at h ⊢
    exact h
  rw [if_neg h12] at h ⊢
  exact trivial
set_option maxHeartbeats 3000000 in
theorem specDsk_any (k at_ : Int) (w : World) : Calls Tryd.prog 8 #[.agg #[.int .i64 k, .int .i64 at_]] w fun x w' => x = .returned (.string ⟨(dskS k at_).toArray⟩) ∧ Up w w' := by
  have XB := Lib.hid (Blq.new w #[.int .i64 k, .int .i64 at_] 25)
  have U := Lib.hid ((Up.refl w).alloc (.cells #[.int .i64 k, .int .i64 at_] 25))
  have HR := Lib.hid (show dskS k at_ = (if inB k 1 5 = true then (if k = 3 ∨ k = 4 then (if at_ = 0 then wordS k else []) else (if inB at_ 0 999 = true then wordS k ++ [32] ++ plainS at_ else [])) else []) from rfl)
  generalize dskS k at_ = res at HR ⊢
  go_enter Tryd.func8, Tryd.ntmps8
  go_wp2_with fail
  refine (l1In_any k 1 5 _).mono ?_; rintro x w1 ⟨rfl, hww⟩; subst hww
  cases hs : inB k 1 5
  · have HRR := Lib.hid (show (⟨#[]⟩ : ByteArray) = ⟨res.toArray⟩ by rw [HR.out, hs]; rfl)
    clear hs; go_wp2; go_ret
    exact ⟨ret_str HRR.out, U.out⟩
  · have hk : 1 ≤ k ∧ k ≤ 5 := by rwa [inB_iff] at hs
    have HS := Lib.hid hs
    clear hs; obtain ⟨q, rfl⟩ : ∃ q : Nat, k = q := ⟨k.toNat, by omega⟩
    have HK := Lib.hid (show 1 ≤ q ∧ q ≤ 5 by omega)
    have HW := Lib.hid (show (#[.string ⟨([] : List UInt8).toArray⟩, .string ⟨([100, 111] : List UInt8).toArray⟩, .string ⟨([104, 101, 97, 114] : List UInt8).toArray⟩, .string ⟨([98, 101, 103, 105, 110] : List UInt8).toArray⟩, .string ⟨([118, 105, 115, 105, 116] : List UInt8).toArray⟩, .string ⟨([102, 114, 101, 101] : List UInt8).toArray⟩] : Array Value)[q]? = some (.string ⟨(wordS (q : Int)).toArray⟩) by
      have h5 : q = 1 ∨ q = 2 ∨ q = 3 ∨ q = 4 ∨ q = 5 := by omega
      rcases h5 with rfl | rfl | rfl | rfl | rfl <;> rfl)
    have LW := Lib.hid (show (wordS (q : Int)).length ≤ 5 by
      have h5 : q = 1 ∨ q = 2 ∨ q = 3 ∨ q = 4 ∨ q = 5 := by omega
      rcases h5 with rfl | rfl | rfl | rfl | rfl <;> decide)
    generalize wordS (q : Int) = wd at HR HW LW
    clear hk
    go_wp2_with fail
    generalize hW0 : (w.alloc (.cells #[.int .i64 (q : Int), .int .i64 at_] 25)) = W0 at *
    generalize hb0 : w.heap.size = b0 at *
    clear hW0 hb0; refine region_relyT 5 [] [(5, false)] [8, 9, 10, 11, 12] 5 (fun _ w1 => Up W0 w1) Up (fun i v w => dnA q b0 wd i v w) (by kernel_rfl) (by kernel_rfl) (by kernel_rfl) (by kernel_rfl) ((Up.refl _).drew) (fun slot_ _ _ _ h u => dnA_up q b0 wd slot_ h u) ?_ ?_ ?_
    · simp only [List.take_succ_cons, List.take_zero]
      refine stepsT_op (by kernel_rfl) ?_ ?_
      · intro X w1 k1 hG hdep
        simp only [opW_def, mixT]; go_simp; refine (names_any _).mono ?_; rintro x wZ ⟨g, rfl, hN, u⟩
        exact ⟨⟨_, by first | rfl | simp [Act.put], u, hG.trans u, (show dnA q b0 wd 8 _ _ from by first | (rw [dnA_8]; exact ⟨_, rfl, hN⟩) | rw [dnA_8])⟩⟩
      refine stepsT_op (by kernel_rfl) ?_ ?_
      · intro X w1 k1 hG hdep
        simp only [opW_def, mixT]; go_simp
        exact ⟨⟨_, by first | rfl | simp [Act.put], Up.refl _, hG, (show dnA q b0 wd 9 _ _ from by first | (rw [dnA_9]; exact rfl) | rw [dnA_9])⟩⟩
      refine stepsT_op (by kernel_rfl) ?_ ?_
      · intro X w1 k1 hG hdep
        have e9 : dnA q b0 wd 9 (X 9) w1 := hdep 9 (by decide +kernel)
        rw [dnA_9] at e9
        have y0 := (XB.out.up hG).cell (j := 0) rfl
        have ly := (XB.out.up hG).lt
        simp only [opW_def, mixT, e9]; go_simp
        exact ⟨⟨_, by first | rfl | simp [Act.put], Up.refl _, hG, (show dnA q b0 wd 10 _ _ from by first | (rw [dnA_10]; exact rfl) | rw [dnA_10])⟩⟩
      refine stepsT_op (by kernel_rfl) ?_ ?_
      · intro X w1 k1 hG hdep
        have e8 : dnA q b0 wd 8 (X 8) w1 := hdep 8 (by decide +kernel)
        rw [dnA_8] at e8; obtain ⟨g, e8, hN⟩ := e8
        have e10 : dnA q b0 wd 10 (X 10) w1 := hdep 10 (by decide +kernel)
        rw [dnA_10] at e10
        have k6 : (q : Int) < 6 := by have := HK.out; omega
        have k0 : (0 : Int) ≤ q := by omega
        simp only [opW_def, mixT, e8, e10]; go_simp
        exact ⟨⟨_, by first | rfl | simp [Act.put], Up.refl _, hG, (show dnA q b0 wd 11 _ _ from by first | (rw [dnA_11]; exact ⟨_, rfl, hN⟩) | rw [dnA_11])⟩⟩
      refine stepsT_op (by kernel_rfl) ?_ ?_
      · intro X w1 k1 hG hdep
        have e11 : dnA q b0 wd 11 (X 11) w1 := hdep 11 (by decide +kernel)
        rw [dnA_11] at e11; obtain ⟨g, e11, hN⟩ := e11
        have y0 := hN.cell (HW.out)
        have ly := hN.lt
        simp only [opW_def, mixT, e11]; go_simp
        exact ⟨⟨_, by first | rfl | simp [Act.put], Up.refl _, hG, (show dnA q b0 wd 12 _ _ from by first | (rw [dnA_12]; exact rfl) | rw [dnA_12])⟩⟩
      exact trivial
    · intro h p _ hp
      cases hp
    · intro Xs wX hG hR
      have e12 : dnA q b0 wd 12 (Xs 12) wX := hR 4 (by omega)
      rw [dnA_12] at e12; simp only [mixT, e12]
      replace U := Lib.hid (U.out.trans hG)
      replace XB := Lib.hid (XB.out.up hG)
      clear hR hG e12 HW; refine mix_go rfl (by rfl) (fun K hK => ?_); go_simp; refine hK _ _ ?_; clear hK K; refine mix_nil ?_
      have y0 := XB.out.cell (j := 0) rfl
      have y1 := XB.out.cell (j := 1) rfl
      have ly := XB.out.lt
      by_cases h3 : q = 3
      · subst h3
        by_cases h0 : at_ = 0
        · subst h0
          have HRR := Lib.hid (show (⟨wd.toArray⟩ : ByteArray) = ⟨res.toArray⟩ by rw [HR.out]; rfl)
          go_wp2; go_ret
          exact ⟨ret_str HRR.out, U.out⟩
        · have HRR := Lib.hid (show (⟨#[]⟩ : ByteArray) = ⟨res.toArray⟩ by rw [HR.out, HS.out, if_pos rfl, if_pos (by decide), if_neg h0])
          go_wp2; go_ret
          exact ⟨ret_str HRR.out, U.out⟩
      · by_cases h4 : q = 4
        · subst h4
          by_cases h0 : at_ = 0
          · subst h0
            have HRR := Lib.hid (show (⟨wd.toArray⟩ : ByteArray) = ⟨res.toArray⟩ by rw [HR.out]; rfl)
            go_wp2; go_ret
            exact ⟨ret_str HRR.out, U.out⟩
          · have HRR := Lib.hid (show (⟨#[]⟩ : ByteArray) = ⟨res.toArray⟩ by rw [HR.out, HS.out, if_pos rfl, if_pos (by decide), if_neg h0])
            go_wp2; go_ret
            exact ⟨ret_str HRR.out, U.out⟩
        · have z3 : (q : Int) ≠ 3 := by omega
          have z4 : (q : Int) ≠ 4 := by omega
          have Z34 := Lib.hid (And.intro z3 z4)
          generalize (q : Int) = z at *
          have i3 : (z == 3) = false := by simpa using z3
          have i4 : (z == 4) = false := by simpa using z4
          clear h3 h4 z3 z4
          go_wp2_with fail
          refine (l1In_any at_ 0 999 _).mono ?_; rintro x w1 ⟨rfl, hww⟩; subst hww
          cases hs : inB at_ 0 999
          · have HRR := Lib.hid (show (⟨#[]⟩ : ByteArray) = ⟨res.toArray⟩ by rw [HR.out, HS.out, hs, if_pos rfl, if_neg (by have := Z34.out; omega)]; rfl)
            clear hs; go_wp2; go_ret
            exact ⟨ret_str HRR.out, U.out⟩
          · have HRR := Lib.hid (show res = wd ++ [32] ++ plainS at_ by rw [HR.out, HS.out, hs, if_pos rfl, if_neg (by have := Z34.out; omega)]; rfl)
            have ha : 0 ≤ at_ ∧ at_ ≤ 999 := by rwa [inB_iff] at hs
            clear hs
            have PS := Lib.hid (plain_short3 at_ ha.2)
            have PP := Lib.hid (plain_any at_ (by omega) wX)
            generalize plainS at_ = q0 at PS PP HRR
            have c1 := str_add wd [32] (by have := LW.out; simp; omega)
            have c2 := str_add (wd ++ [32]) q0 (by have := LW.out; have := PS.out; simp; omega)
            generalize wd ++ [32] = r1 at c1 c2 HRR
            generalize r1 ++ q0 = r2 at c2 HRR
            have HR2 := Lib.hid (show (⟨r2.toArray⟩ : ByteArray) = ⟨res.toArray⟩ by rw [HRR.out])
            clear HRR
            go_wp2_with fail
            refine PP.out.mono ?_; rintro x w2 ⟨rfl, u2⟩
            have U2 := Lib.hid (U.out.trans u2)
            clear u2; go_wp2; go_ret
            exact ⟨ret_str HR2.out, U2.out⟩
end Go.Proofs.YtlkmhmiamdbhcaaDoor

namespace Go.Proofs.YtlkmhmiamdbhcaaDoor
set_option maxRecDepth 100000
open Go.RowKit
/-- What is left to walk. -/
@[irreducible] def qWalk (P : Program) (ops : Array Oper) (C : World → Prop) (Q : Act → Prop) (l : List Oper) (a : Act) : Prop := wpQuiet P ops C Q l a
theorem qWalk_step {P : Program} {ops : Array Oper} {C : World → Prop} {Q : Act → Prop} {a : Act} {o : Oper} {rest : List Oper}
    (h : ∀ K : Act → Prop, (∀ a, qWalk P ops C Q rest a → K a) → if Region.wanted o (yielded ops a.tmps) then o.quiet P a C K else K (a.put o.dst undef)) : qWalk P ops C Q (o :: rest) a := by
  unfold qWalk at h ⊢
  exact wpQuiet_step h
theorem qWalk_nil {P : Program} {ops : Array Oper} {C : World → Prop} {Q : Act → Prop} {a : Act} (h : Q a) : qWalk P ops C Q [] a := by
  unfold qWalk
  exact wpQuiet_nil h
theorem region_qw {P : Program} {id : Nat} {Q : Exit → Act → World → Prop} {a : Act} {w : World} {l : List Oper} (hm : P.follows .mixedOrders = true) (hB : Region.lexB .any l.toArray = true)
    (h : qWalk P l.toArray (Up w) (fun a' => ∀ w', Up w w' → Q .normal a' w') l a) : (Code.region id l.toArray true).wp P Q a w := by
  unfold qWalk at h
  exact region_up hm hB h
end Go.Proofs.YtlkmhmiamdbhcaaDoor

namespace Go.Proofs.YtlkmhmiamdbhcaaDoor
set_option maxRecDepth 100000
open Go.RowKit
theorem cut_eq : ∀ {a b x y : List UInt8}, (∀ c ∈ a, c.toNat ≠ 32) → (∀ c ∈ b, c.toNat ≠ 32) → a ++ 32 :: x = b ++ 32 :: y → a = b ∧ x = y
  | [], [], x, y, _, _, h => ⟨rfl, by simpa using h⟩
  | [], c :: b, x, y, _, hb, h => by
    exfalso
    simp only [List.nil_append, List.cons_append, List.cons.injEq] at h
    exact hb c (by simp) (by rw [← h.1]; rfl)
  | c :: a, [], x, y, ha, _, h => by
    exfalso
    simp only [List.nil_append, List.cons_append, List.cons.injEq] at h
    exact ha c (by simp) (by rw [h.1]; rfl)
  | c :: a, d :: b, x, y, ha, hb, h => by
    simp only [List.cons_append, List.cons.injEq] at h; obtain ⟨h1, h2⟩ := cut_eq (fun e he => ha e (by simp [he])) (fun e he => hb e (by simp [he])) h.2
    exact ⟨by rw [h.1, h1], h2⟩
end Go.Proofs.YtlkmhmiamdbhcaaDoor

namespace Go.Proofs.YtlkmhmiamdbhcaaDoor
set_option maxRecDepth 100000
open Go.RowKit
def wpMixH (P : Program) (ops : Array Oper) (Q : Exit → Act → World → Prop) (S : World → Prop) : List (Nat × Bool) → Act → World → Prop
  | (k, true) :: fs, a, w => ∃ o v, ops[k]? = some o ∧ YieldsIf P ops S o v a ∧ wpMixH P ops Q S fs (a.put o.dst v) w
  | (k, false) :: fs, a, w => ∃ o, ops[k]? = some o ∧ if Region.wanted o (yielded ops a.tmps) = true then o.wp P a w (fun a' w' => S w' ∧ wpMixH P ops Q S fs a' w') Q else wpMixH P ops Q S fs (a.put o.dst undef) w
  | [], a, w => Q .normal a w
theorem wpAnyH_of_mix {P : Program} {ops : Array Oper} {Q : Exit → Act → World → Prop} {S : World → Prop} (hsel : Region.noSelect ops = true) (hQ : ∀ c (a : Act) d v w, Q (.panic c) (a.put d v) w → Q (.panic c) a w) :
    ∀ (fs : List (Nat × Bool)) (listed : Array Bool) (a : Act) (w : World), mixB ops fs listed = true → S w → wpMixH P ops Q S fs a w → wpAnyH P .any ops Q S fs.length listed a w
  | [], _, _, _, hB, _, h => ⟨by simpa [mixB] using hB, h⟩
  | (k, true) :: fs, listed, a, w, hB, hS, h => by
    simp only [mixB, Bool.and_eq_true] at hB; obtain ⟨o, v, h0, hy, hn⟩ := h
    exact wpAnyH_take h0 hsel hB.1.2 hB.1.1.2 (fun c a w => hQ c a _ _ w) hy hS (wpAnyH_of_mix hsel hQ fs _ _ _ hB.2 hS hn)
  | (k, false) :: fs, listed, a, w, hB, hS, h => by
    simp only [mixB, Bool.and_eq_true, decide_eq_true_eq] at hB; obtain ⟨o, h0, h⟩ := h
    refine wpAnyH_all hB.1.2 (by simp) fun i hi => ?_
    obtain rfl : i = k := by simpa using hi
    refine wpOp_mono (K := fun a' w' => S w' ∧ wpMixH P ops Q S fs a' w') (fun a' w' h' => ⟨h'.1, wpAnyH_of_mix hsel hQ fs _ _ _ hB.2 h'.1 h'.2⟩) ?_; unfold wpOp; simp only [h0]
    split
    · rename_i hw
      rw [if_pos hw] at h
      exact .inl h
    · rename_i hw
      rw [if_neg hw] at h
      exact ⟨hS, h⟩
/-- What is left to walk, kept shut. -/
@[irreducible] def mWalk (P : Program) (ops : Array Oper) (Q : Exit → Act → World → Prop) (S : World → Prop) (fs : List (Nat × Bool)) (a : Act) (w : World) : Prop := wpMixH P ops Q S fs a w
theorem region_mixH {P : Program} {id : Nat} {Q : Exit → Act → World → Prop} {a : Act} {w : World} {l : List Oper} (S : World → Prop) (fs : List (Nat × Bool)) (hm : P.follows .mixedOrders = true)
    (hB : (Region.noSelect l.toArray && decide (fs.length = l.length) && mixB l.toArray fs (Array.replicate l.toArray.size false)) = true) (hS : S w.drew)
    (h : mWalk P l.toArray (NoPanic Q) S fs a w.drew) : (Code.region id l.toArray true).wp P Q a w := by
  unfold mWalk at h; simp only [Bool.and_eq_true, decide_eq_true_eq] at hB; refine wp_region_noPanic (wp_region_held (S := S) hm ?_)
  have := wpAnyH_of_mix (P := P) (Q := NoPanic Q) hB.1.1 (fun _ _ _ _ _ h => h) fs _ a w.drew hB.2 hS h
  rw [hB.1.2] at this
  simpa using this
section
variable {P : Program} {ops : Array Oper} {Q : Exit → Act → World → Prop} {S : World → Prop} {fs : List (Nat × Bool)} {k : Nat} {o : Oper} {a : Act} {w : World}
theorem mixH_take (h0 : ops[k]? = some o) (hw : Region.wanted o (yielded ops a.tmps) = true) (h : ∃ v, (∀ w1, S w1 → (execOp a.eval o).run P w1 = .ok (.value v) w1) ∧ mWalk P ops Q S fs (a.put o.dst v) w) : mWalk P ops Q S ((k, true) :: fs) a w := by
  unfold mWalk at h ⊢; obtain ⟨v, hv, hn⟩ := h
  exact ⟨o, v, h0, .inl ⟨hw, hv⟩, hn⟩
theorem mixH_go (h0 : ops[k]? = some o) (hw : Region.wanted o (yielded ops a.tmps) = true) (h : ∀ K : Act → World → Prop, (∀ a w, S w → mWalk P ops Q S fs a w → K a w) → o.wp P a w K Q) : mWalk P ops Q S ((k, false) :: fs) a w := by
  unfold mWalk at h ⊢; refine ⟨o, h0, ?_⟩; rw [if_pos hw]
  exact h _ fun _ _ hs h => ⟨hs, h⟩
theorem mixH_nil (h : Q .normal a w) : mWalk P ops (NoPanic Q) S [] a w := by
  unfold mWalk
  exact h
end
end Go.Proofs.YtlkmhmiamdbhcaaDoor

namespace Go.Proofs.YtlkmhmiamdbhcaaDoor
set_option maxRecDepth 100000
open Go.RowKit
def markAt (i : Nat) : Evt := ⟨1 + 6 * i, 1 + 6 * i + 1, 1 + 6 * i + 1 + 1, 1 + 6 * i + 1 + 1 + 1, 1 + 6 * i + 1 + 1 + 1 + 1, 1 + 6 * i + 1 + 1 + 1 + 1 + 1⟩
def marks (n : Nat) : List Evt := (List.range n).map markAt
end Go.Proofs.YtlkmhmiamdbhcaaDoor

namespace Go.Proofs.YtlkmhmiamdbhcaaDoor
set_option maxRecDepth 100000
open Go.RowKit
theorem tbOk_any (w : World) : Calls Tryd.prog 19 #[] w fun x w' => x = .returned (.bool true) ∧ Up w w' := by
  have c := fun W => implOk_any ⟨0, 0, -1, 0, 0, 0⟩ 1 W
  have e1 : okB ⟨0, 0, -1, 0, 0, 0⟩ 1 = true := by decide
  rw [e1] at c; clear e1; unfold Evt.v at c; dsimp only at c
  have H := Lib.hid c
  clear c
  go_enter Tryd.func19, Tryd.ntmps19
  go_wp2_with (go_at_call 31; refine (H.out _).mono ?_; rintro e w' ⟨rfl, hb⟩)
  go_ret
  exact ⟨rfl, hb⟩
end Go.Proofs.YtlkmhmiamdbhcaaDoor

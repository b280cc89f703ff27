/-
  What FnExactSeqOk returns, in one sentence: true, with new blocks alone; for every model and every simulator that lie in memory.
-/
import Derived.Test.YtkfjemgelmbcfaaKSqSpec
import Derived.Test.YtkfjemgelmbcfaaKSqImpl
import Derived.Test.YtkfjemgelmbcfaaKSqTo2
import Derived.Test.YtkfjemgelmbcfaaKP
import Derived.Deep.RegionHeld3
namespace Go.Proofs.Ytkfjemgelmbcfaa
set_option maxRecDepth 100000
open Go.RowKit

def IsMv (m : Mdl) (til : Int) (n k : Nat) (v : Value) (w : World) : Prop := ∃ A B, v = .agg #[.slice A n n, .slice B k k, .int .i64 til] ∧ MdlV w A n B k m
theorem IsMv.up {m : Mdl} {til : Int} {n k : Nat} {v : Value} {w w' : World} (h : IsMv m til n k v w) (u : Up w w') : IsMv m til n k v w' := by
  obtain ⟨A, B, h0, h1⟩ := h
  exact ⟨A, B, h0, h1.up u⟩
def IsSv (nc nw nl : Nat) (s : Sq) (v : Value) (w : World) : Prop := ∃ g1 g2 g3 : Nat, v = .agg #[.slice (some ⟨g1, 0, none⟩) nc nc, .slice (some ⟨g2, 0, none⟩) nw nw, .slice (some ⟨g3, 0, none⟩) nl nl] ∧ SqV w (some ⟨g1, 0, none⟩) nc (some ⟨g2, 0, none⟩) nw (some ⟨g3, 0, none⟩) nl s
theorem IsSv.up {nc nw nl : Nat} {s : Sq} {v : Value} {w w' : World} (h : IsSv nc nw nl s v w) (u : Up w w') : IsSv nc nw nl s v w' := by
  obtain ⟨g1, g2, g3, h0, h1⟩ := h
  exact ⟨g1, g2, g3, h0, h1.up u⟩
def soA (VM VS : Value) (m : Mdl) (til : Int) (n k nc nw nl : Nat) (s : Sq) (r : Bool) (d : Nat) (v : Value) (w : World) : Prop :=
  if d = 20 then v = VM else if d = 21 then IsMv m til n k v w else if d = 22 then v = VS else if d = 23 then IsSv nc nw nl s v w else if d = 24 then v = .bool r else True
theorem soA_20 (VM VS : Value) (m : Mdl) (til : Int) (n k nc nw nl : Nat) (s : Sq) (r : Bool) (v : Value) (w : World) : soA VM VS m til n k nc nw nl s r 20 v w = (v = VM) := by simp [soA]
theorem soA_21 (VM VS : Value) (m : Mdl) (til : Int) (n k nc nw nl : Nat) (s : Sq) (r : Bool) (v : Value) (w : World) : soA VM VS m til n k nc nw nl s r 21 v w = (IsMv m til n k v w) := by simp [soA]
theorem soA_22 (VM VS : Value) (m : Mdl) (til : Int) (n k nc nw nl : Nat) (s : Sq) (r : Bool) (v : Value) (w : World) : soA VM VS m til n k nc nw nl s r 22 v w = (v = VS) := by simp [soA]
theorem soA_23 (VM VS : Value) (m : Mdl) (til : Int) (n k nc nw nl : Nat) (s : Sq) (r : Bool) (v : Value) (w : World) : soA VM VS m til n k nc nw nl s r 23 v w = (IsSv nc nw nl s v w) := by simp [soA]
theorem soA_24 (VM VS : Value) (m : Mdl) (til : Int) (n k nc nw nl : Nat) (s : Sq) (r : Bool) (v : Value) (w : World) : soA VM VS m til n k nc nw nl s r 24 v w = (v = .bool r) := by simp [soA]
theorem soA_up (VM VS : Value) (m : Mdl) (til : Int) (n k nc nw nl : Nat) (s : Sq) (r : Bool) (d : Nat) {v : Value} {w w' : World} (h : soA VM VS m til n k nc nw nl s r d v w) (u : Up w w') : soA VM VS m til n k nc nw nl s r d v w' := by
  unfold soA at h ⊢
  by_cases h20 : d = 20
  · rw [if_pos h20] at h ⊢
    exact h
  rw [if_neg h20] at h ⊢
  by_cases h21 : d = 21
  · rw [if_pos h21] at h ⊢
    exact h.up u
  rw [if_neg h21] at h ⊢
  by_cases h22 : d = 22
  · rw [if_pos h22] at h ⊢
    exact h
  rw [if_neg h22] at h ⊢
  by_cases h23 : d = 23
  · rw [if_pos h23] at h ⊢
    exact h.up u
  rw [if_neg h23] at h ⊢
  by_cases h24 : d = 24
  · rw [if_pos h24] at h ⊢
    exact h
  rw [if_neg h24] at h ⊢
  exact trivial

set_option maxHeartbeats 8000000 in
theorem walkEsok (v : Value) (m : Mdl) (v' : Value) (s : Sq) {w : World} (h : ∃ A n c B k d, v = .agg #[.slice A n c, .slice B k d, .int .i64 m.til] ∧ MdlV w A n B k m)
    (h' : ∃ Ac nc cc Aw nw cw Al nl cl, v' = .agg #[.slice Ac nc cc, .slice Aw nw cw, .slice Al nl cl] ∧ (nc ≤ 9223372036854775807 ∧ nw ≤ 9223372036854775807 ∧ nl ≤ 9223372036854775807) ∧ SqV w Ac nc Aw nw Al nl s) :
    Calls Try.prog 11 #[v, v'] w fun x w' => x = .returned (.bool true) ∧ Up w w' := by
  obtain ⟨A, n, c, B, k, d, rfl, hM⟩ := h
  obtain ⟨Ac, nc, cc, Aw, nw, cw, Al, nl, cl, rfl, ⟨bc, bw, bl⟩, hV⟩ := h'
  have HM := Lib.hid hM
  have hk := hM.big
  have B0 := Lib.hid ((Box3.new w (.slice A n c) (.slice B k d) (.int .i64 m.til) 38).up ((Up.refl _).alloc (.cells #[.slice Ac nc cc, .slice Aw nw cw, .slice Al nl cl] 79)))
  have B1 := Box3.new (w.alloc (.cells #[.slice A n c, .slice B k d, .int .i64 m.til] 38)) (.slice Ac nc cc) (.slice Aw nw cw) (.slice Al nl cl) 79
  simp only [World.size_alloc] at B1
  have B1 := Lib.hid B1
  have UC := Lib.hid (((Up.refl w).alloc (.cells #[.slice A n c, .slice B k d, .int .i64 m.til] 38)).alloc (.cells #[.slice Ac nc cc, .slice Aw nw cw, .slice Al nl cl] 79))
  have CS := Lib.hid (fun W (u : Up w W) => szMdl_any A n c B k d m W (hM.up u))
  have CZ := Lib.hid (fun l W a b => szSq_any Ac nc cc Aw nw cw Al nl cl l W a b bc bw bl)
  have CT := Lib.hid (fun W (u : Up w W) hS => toMdl_any A n c B k d m W (hM.up u) hS)
  have CQ := Lib.hid (fun W (u : Up w W) hS => toSq_any Ac nc cc Aw nw cw Al nl cl s W hS (hV.up u))
  have CP := Lib.hid (fun A B Ac Aw Al W (h : MdlV W A n B k m) (hS : ShortSq nc nw nl) (hv : SqV W Ac nc Aw nw Al nl s) => specSeqOk_any A n n B k k m Ac nc nc Aw nw nw Al nl nl s W h hS hv)
  have CI := Lib.hid (fun A B Ac Aw Al W (h : MdlV W A n B k m) (hS : ShortSq nc nw nl) (hv : SqV W Ac nc Aw nw Al nl s) => implSeqOk_any A n n B k k m Ac nc nc Aw nw nw Al nl nl s W h hS hv)
  have CE := Lib.hid (fun A n c B k d A' n' c' B' k' d' W (h1 : MdlV W A n B k m) (h2 : MdlV W A' n' B' k' m) (hS : FitM m) => eqMdl_any A n c B k d m A' n' c' B' k' d' m W h1 h2 hS)
  have CV := Lib.hid (fun Ac Aw Al Bc Bw Bl W (hS : ShortSq nc nw nl) (h1 : SqV W Ac nc Aw nw Al nl s) (h2 : SqV W Bc nc Bw nw Bl nl s) => eqSq_any Ac nc nc Aw nw nw Al nl nl s Bc nc nc Bw nw nw Bl nl nl s W (by have := hS.c; omega) (by have := hS.w; omega) (by have := hS.l; omega) h1 h2)
  rw [decide_eq_true (rfl : m = m)] at CE
  rw [decide_eq_true (rfl : s = s)] at CV
  generalize sqS m n nc s = r at CP CI
  have bne0 : (r != r) = false := by cases r <;> rfl
  clear hM hV
  unfold NewMdl at CT
  generalize htil : m.til = til at *
  go_enter Try.func11, Try.ntmps11
  go_wp2_with fail
  generalize (w.alloc (.cells #[.slice A n c, .slice B k d, .int .i64 til] 38)).alloc (.cells #[.slice Ac nc cc, .slice Aw nw cw, .slice Al nl cl] 79) = W at *
  generalize hb1 : w.heap.size + 1 = b1 at *
  generalize hb0 : w.heap.size = b0 at *
  clear hb1 hb0
  refine (CS.out _ UC.out).mono ?_
  rintro x w1 ⟨z, rfl, hz, u1⟩
  have UC := Lib.hid (UC.out.trans u1)
  have B0 := Lib.hid (B0.out.up u1)
  have B1 := Lib.hid (B1.out.up u1)
  clear u1
  rcases hz with rfl | ⟨z0, z1, hS⟩
  · go_wp2
    go_ret
    exact ⟨rfl, UC.out⟩
  have SH := Lib.hid hS
  have j0 : ¬ z < 0 := by omega
  clear hS
  obtain ⟨p0, p1, p2⟩ := And.intro B1.out.c0 (And.intro B1.out.c1 B1.out.c2)
  go_wp2_with fail
  refine (CZ.out z _ z0 z1).mono ?_
  rintro x w2 ⟨y, rfl, hz, u1⟩
  have UC := Lib.hid (UC.out.trans u1)
  have B0 := Lib.hid (B0.out.up u1)
  have B1 := Lib.hid (B1.out.up u1)
  clear u1 p0 p1 p2
  rcases hz with rfl | ⟨y0, y1, hS⟩
  · go_wp2
    go_ret
    exact ⟨rfl, UC.out⟩
  have SS := Lib.hid hS
  have j1 : ¬ y < 0 := by omega
  clear hS
  go_wp2_with fail
  generalize w2 = W0 at *
  refine region_relyT 5 [] [(5, false)] [20, 21, 22, 23, 24] 5 (fun _ w1 => Up W0 w1) Up (fun i v w => soA (.agg #[.slice A n c, .slice B k d, .int .i64 til]) (.agg #[.slice Ac nc cc, .slice Aw nw cw, .slice Al nl cl]) m til n k nc nw nl s r i v w) (by kernel_rfl) (by kernel_rfl) (by kernel_rfl) (by kernel_rfl) ((Up.refl _).drew) (fun slot_ _ _ _ h u => soA_up (.agg #[.slice A n c, .slice B k d, .int .i64 til]) (.agg #[.slice Ac nc cc, .slice Aw nw cw, .slice Al nl cl]) m til n k nc nw nl s r slot_ h u) ?_ ?_ ?_
  · simp only [List.take_succ_cons, List.take_zero]
    refine stepsT_op (by kernel_rfl) ?_ ?_
    · intro X w1 k1 hG hdep
      obtain ⟨q0, q1, q2⟩ := And.intro (B0.out.up hG).c0 (And.intro (B0.out.up hG).c1 (B0.out.up hG).c2)
      simp only [opW_def, mixT]
      go_simp
      exact ⟨⟨_, by first | rfl | simp [Act.put], Up.refl _, hG, (show soA (.agg #[.slice A n c, .slice B k d, .int .i64 til]) (.agg #[.slice Ac nc cc, .slice Aw nw cw, .slice Al nl cl]) m til n k nc nw nl s r 20 _ _ from by first | (rw [soA_20]; exact rfl) | rw [soA_20])⟩⟩
    refine stepsT_op (by kernel_rfl) ?_ ?_
    · intro X w1 k1 hG hdep
      have e20 : soA (.agg #[.slice A n c, .slice B k d, .int .i64 til]) (.agg #[.slice Ac nc cc, .slice Aw nw cw, .slice Al nl cl]) m til n k nc nw nl s r 20 (X 20) w1 := hdep 20 (by decide +kernel)
      rw [soA_20] at e20
      simp only [opW_def, mixT, e20]
      go_simp
      refine (CT.out _ (UC.out.trans hG) SH.out).mono ?_
      rintro x w2 ⟨g1, g2, rfl, _, _, o1, o2, u⟩
      exact ⟨⟨_, by first | rfl | simp [Act.put], u, hG.trans u, (show soA (.agg #[.slice A n c, .slice B k d, .int .i64 til]) (.agg #[.slice Ac nc cc, .slice Aw nw cw, .slice Al nl cl]) m til n k nc nw nl s r 21 _ _ from by first | (rw [soA_21]; exact ⟨_, _, rfl, NewMdl.v o1 o2 hk⟩) | rw [soA_21])⟩⟩
    refine stepsT_op (by kernel_rfl) ?_ ?_
    · intro X w1 k1 hG hdep
      obtain ⟨q0, q1, q2⟩ := And.intro (B1.out.up hG).c0 (And.intro (B1.out.up hG).c1 (B1.out.up hG).c2)
      simp only [opW_def, mixT]
      go_simp
      exact ⟨⟨_, by first | rfl | simp [Act.put], Up.refl _, hG, (show soA (.agg #[.slice A n c, .slice B k d, .int .i64 til]) (.agg #[.slice Ac nc cc, .slice Aw nw cw, .slice Al nl cl]) m til n k nc nw nl s r 22 _ _ from by first | (rw [soA_22]; exact rfl) | rw [soA_22])⟩⟩
    refine stepsT_op (by kernel_rfl) ?_ ?_
    · intro X w1 k1 hG hdep
      have e22 : soA (.agg #[.slice A n c, .slice B k d, .int .i64 til]) (.agg #[.slice Ac nc cc, .slice Aw nw cw, .slice Al nl cl]) m til n k nc nw nl s r 22 (X 22) w1 := hdep 22 (by decide +kernel)
      rw [soA_22] at e22
      simp only [opW_def, mixT, e22]
      go_simp
      refine (CQ.out _ (UC.out.trans hG) SS.out).mono ?_
      rintro x w2 ⟨g1, g2, g3, rfl, v, u⟩
      exact ⟨⟨_, by first | rfl | simp [Act.put], u, hG.trans u, (show soA (.agg #[.slice A n c, .slice B k d, .int .i64 til]) (.agg #[.slice Ac nc cc, .slice Aw nw cw, .slice Al nl cl]) m til n k nc nw nl s r 23 _ _ from by first | (rw [soA_23]; exact ⟨_, _, _, rfl, v⟩) | rw [soA_23])⟩⟩
    refine stepsT_op (by kernel_rfl) ?_ ?_
    · intro X w1 k1 hG hdep
      have e21 : soA (.agg #[.slice A n c, .slice B k d, .int .i64 til]) (.agg #[.slice Ac nc cc, .slice Aw nw cw, .slice Al nl cl]) m til n k nc nw nl s r 21 (X 21) w1 := hdep 21 (by decide +kernel)
      rw [soA_21] at e21
      obtain ⟨A1, B1, e21, mv⟩ := e21
      have e23 : soA (.agg #[.slice A n c, .slice B k d, .int .i64 til]) (.agg #[.slice Ac nc cc, .slice Aw nw cw, .slice Al nl cl]) m til n k nc nw nl s r 23 (X 23) w1 := hdep 23 (by decide +kernel)
      rw [soA_23] at e23
      obtain ⟨g1, g2, g3, e23, sv⟩ := e23
      simp only [opW_def, mixT, e21, e23]
      go_simp
      refine (CP.out _ _ _ _ _ w1 mv SS.out sv).mono ?_
      rintro x w2 ⟨rfl, u⟩
      exact ⟨⟨_, by first | rfl | simp [Act.put], u, hG.trans u, (show soA (.agg #[.slice A n c, .slice B k d, .int .i64 til]) (.agg #[.slice Ac nc cc, .slice Aw nw cw, .slice Al nl cl]) m til n k nc nw nl s r 24 _ _ from by first | (rw [soA_24]; exact rfl) | rw [soA_24])⟩⟩
    exact trivial
  · intro h p _ hp
    cases hp
  · intro X w1 hG hR
    have e24 : soA (.agg #[.slice A n c, .slice B k d, .int .i64 til]) (.agg #[.slice Ac nc cc, .slice Aw nw cw, .slice Al nl cl]) m til n k nc nw nl s r 24 (X 24) w1 := hR 4 (by omega)
    rw [soA_24] at e24
    simp only [mixT, e24]
    have UC := Lib.hid (UC.out.trans hG)
    have B0 := Lib.hid (B0.out.up hG)
    have B1 := Lib.hid (B1.out.up hG)
    clear hR hG e24
    refine mix_go rfl (by rfl) (fun K hK => ?_)
    go_simp
    refine hK _ _ ?_
    clear hK K
    refine mix_nil ?_
    obtain ⟨p0, p1, p2⟩ := And.intro B0.out.c0 (And.intro B0.out.c1 B0.out.c2)
    go_wp2_with fail
    refine (CT.out _ UC.out SH.out).mono ?_
    rintro x w3 ⟨g1, g2, rfl, _, _, o1, o2, u3⟩
    have ua := (Up.refl w3).alloc (.cells #[.slice (some ⟨g1, 0, none⟩) n n, .slice (some ⟨g2, 0, none⟩) k k, .int .i64 til] 26)
    have X7 := Lib.hid (Box3.new w3 (.slice (some ⟨g1, 0, none⟩) n n) (.slice (some ⟨g2, 0, none⟩) k k) (.int .i64 til) 26)
    have V7 := Lib.hid ((NewMdl.v o1 o2 hk).up ua)
    have u := u3.trans ua
    have UC := Lib.hid (UC.out.trans u)
    have B0 := Lib.hid (B0.out.up u)
    have B1 := Lib.hid (B1.out.up u)
    clear o1 o2 u3 ua u p0 p1 p2
    obtain ⟨p0, p1, p2⟩ := And.intro B1.out.c0 (And.intro B1.out.c1 B1.out.c2)
    go_wp2_with fail
    generalize hb7 : w3.heap.size = b7 at *
    generalize w3.alloc (.cells #[.slice (some ⟨g1, 0, none⟩) n n, .slice (some ⟨g2, 0, none⟩) k k, .int .i64 til] 26) = W3 at *
    clear hb7
    refine (CQ.out _ UC.out SS.out).mono ?_
    rintro x w4 ⟨g3, g4, g5, rfl, sv, u4⟩
    have ua := (Up.refl w4).alloc (.cells #[.slice (some ⟨g3, 0, none⟩) nc nc, .slice (some ⟨g4, 0, none⟩) nw nw, .slice (some ⟨g5, 0, none⟩) nl nl] 72)
    have X8 := Lib.hid (Box3.new w4 (.slice (some ⟨g3, 0, none⟩) nc nc) (.slice (some ⟨g4, 0, none⟩) nw nw) (.slice (some ⟨g5, 0, none⟩) nl nl) 72)
    have V8 := Lib.hid (sv.up ua)
    have u := u4.trans ua
    have UC := Lib.hid (UC.out.trans u)
    have B0 := Lib.hid (B0.out.up u)
    have B1 := Lib.hid (B1.out.up u)
    have X7 := Lib.hid (X7.out.up u)
    have V7 := Lib.hid (V7.out.up u)
    clear sv u4 ua u p0 p1 p2
    obtain ⟨p0, p1, p2⟩ := And.intro X7.out.c0 (And.intro X7.out.c1 X7.out.c2)
    have p3 := X7.out.lt
    go_wp2_with fail
    generalize hb8 : w4.heap.size = b8 at *
    generalize w4.alloc (.cells #[.slice (some ⟨g3, 0, none⟩) nc nc, .slice (some ⟨g4, 0, none⟩) nw nw, .slice (some ⟨g5, 0, none⟩) nl nl] 72) = W4 at *
    clear hb8
    refine (CI.out _ _ _ _ _ _ V7.out SS.out V8.out).mono ?_
    rintro x w5 ⟨rfl, u⟩
    have UC := Lib.hid (UC.out.trans u)
    have B0 := Lib.hid (B0.out.up u)
    have B1 := Lib.hid (B1.out.up u)
    have X7 := Lib.hid (X7.out.up u)
    have V7 := Lib.hid (V7.out.up u)
    have X8 := Lib.hid (X8.out.up u)
    have V8 := Lib.hid (V8.out.up u)
    clear u p0 p1 p2 p3
    go_wp2_with fail
    have HB := And.intro B0.out.lt (And.intro X7.out.lt (And.intro B0.out.c0 (And.intro B0.out.c1 (And.intro B0.out.c2 (And.intro X7.out.c0 (And.intro X7.out.c1 X7.out.c2))))))
    have HH := Lib.hid HB
    obtain ⟨l0, l1, q0, q1, q2, r0, r1, r2⟩ := HB
    go_region_held3 (fun w' => b0 < w'.heap.size ∧ b7 < w'.heap.size ∧ w'.cell? ⟨b0, 0, none⟩ = some (.slice A n c) ∧ w'.cell? ⟨b0, 1, none⟩ = some (.slice B k d) ∧ w'.cell? ⟨b0, 2, none⟩ = some (.int .i64 til) ∧ w'.cell? ⟨b7, 0, none⟩ = some (.slice (some ⟨g1, 0, none⟩) n n) ∧ w'.cell? ⟨b7, 1, none⟩ = some (.slice (some ⟨g2, 0, none⟩) k k) ∧ w'.cell? ⟨b7, 2, none⟩ = some (.int .i64 til))
      (first | (exact HH.out) | (exact two_up uF (by assumption)) | (exact two_up uE (by assumption)))
      (first
        | (go_at_call 20; refine (CT.out _ (UC.out.trans (Up.refl _).drew) SH.out).mono ?_; rintro x wE ⟨g6, g7, rfl, hg5, hg6, o5, o6, uE⟩; have VE := Lib.hid (NewMdl.v o5 o6 hk); clear o5 o6)
        | (go_at_call 21; refine (CE.out _ n n _ k k _ n n _ k k _ (V7.out.up ((Up.refl _).drew.trans uE)) VE.out SH.out.fit).mono ?_; rintro x wF ⟨rfl, uF⟩))
    have u := ((Up.refl w5).drew.trans uE).trans uF
    have UC := Lib.hid (UC.out.trans u)
    have B1 := Lib.hid (B1.out.up u)
    have X8 := Lib.hid (X8.out.up u)
    have V8 := Lib.hid (V8.out.up u)
    clear u uE uF l0 l1 q0 q1 q2 r0 r1 r2 VE V7 X7 HH B0
    go_wp2_with fail
    have HB := And.intro B1.out.lt (And.intro X8.out.lt (And.intro B1.out.c0 (And.intro B1.out.c1 (And.intro B1.out.c2 (And.intro X8.out.c0 (And.intro X8.out.c1 X8.out.c2))))))
    have HH := Lib.hid HB
    obtain ⟨l0, l1, q0, q1, q2, r0, r1, r2⟩ := HB
    go_region_held3 (fun w' => b1 < w'.heap.size ∧ b8 < w'.heap.size ∧ w'.cell? ⟨b1, 0, none⟩ = some (.slice Ac nc cc) ∧ w'.cell? ⟨b1, 1, none⟩ = some (.slice Aw nw cw) ∧ w'.cell? ⟨b1, 2, none⟩ = some (.slice Al nl cl) ∧ w'.cell? ⟨b8, 0, none⟩ = some (.slice (some ⟨g3, 0, none⟩) nc nc) ∧ w'.cell? ⟨b8, 1, none⟩ = some (.slice (some ⟨g4, 0, none⟩) nw nw) ∧ w'.cell? ⟨b8, 2, none⟩ = some (.slice (some ⟨g5, 0, none⟩) nl nl))
      (first | (exact HH.out) | (exact two_up uF (by assumption)) | (exact two_up uE (by assumption)))
      (first
        | (go_at_call 48; refine (CQ.out _ (UC.out.trans (Up.refl _).drew) SS.out).mono ?_; rintro x wE ⟨g6, g7, g8, rfl, ve, uE⟩; have VE := Lib.hid ve; clear ve)
        | (go_at_call 43; refine (CV.out _ _ _ _ _ _ _ SS.out (V8.out.up ((Up.refl _).drew.trans uE)) VE.out).mono ?_; rintro x wF ⟨rfl, uF⟩))
    have UE := Lib.hid (UC.out.trans (((Up.refl _).drew.trans uE).trans uF))
    clear uE uF l0 l1 q0 q1 q2 r0 r1 r2
    go_wp2
    go_ret
    exact ⟨rfl, UE.out⟩

end Go.Proofs.Ytkfjemgelmbcfaa

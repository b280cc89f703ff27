/-
  Hosts that have done nothing compared, marked and held, in one sentence: what eqHstState, markHstState and heldHstState return; for every list of waiting items.
-/
import Derived.Test.YtkfjemgelmbcfaaKHsMark
import Derived.Test.YtkfjemgelmbcfaaKTyR
namespace Go.Proofs.Ytkfjemgelmbcfaa
set_option maxRecDepth 100000
open Go.RowKit

set_option maxHeartbeats 4000000 in
theorem eqHs_any (A : Option Addr) (n c : Nat) (B : Option Addr) (d : Nat) (es : List Rec) (w : World) (hn : n ≤ 1000000000) (h : Recs w A n es) (h' : Recs w B n es) :
    Calls Try.prog 57 #[.agg #[.int .i64 0, .int .i64 0, .int .i64 0, .int .i64 0, .slice none 0 0, .slice A n c, .slice none 0 0, .slice none 0 0], .agg #[.int .i64 0, .int .i64 0, .int .i64 0, .int .i64 0, .slice none 0 0, .slice B n d, .slice none 0 0, .slice none 0 0]] w fun x w' => x = .returned (.bool true) ∧ Up w w' := by
  have X0 := Lib.hid ((Blk.new w #[.int .i64 0, .int .i64 0, .int .i64 0, .int .i64 0, .slice none 0 0, .slice A n c, .slice none 0 0, .slice none 0 0] 90).alloc (.cells #[.int .i64 0, .int .i64 0, .int .i64 0, .int .i64 0, .slice none 0 0, .slice B n d, .slice none 0 0, .slice none 0 0] 90))
  have X1 := Lib.hid (Blk.new (w.alloc (.cells #[.int .i64 0, .int .i64 0, .int .i64 0, .int .i64 0, .slice none 0 0, .slice A n c, .slice none 0 0, .slice none 0 0] 90)) #[.int .i64 0, .int .i64 0, .int .i64 0, .int .i64 0, .slice none 0 0, .slice B n d, .slice none 0 0, .slice none 0 0] 90)
  simp only [World.size_alloc] at X1
  have ua := Lib.hid (((Up.refl w).alloc (.cells #[.int .i64 0, .int .i64 0, .int .i64 0, .int .i64 0, .slice none 0 0, .slice A n c, .slice none 0 0, .slice none 0 0] 90)).alloc (.cells #[.int .i64 0, .int .i64 0, .int .i64 0, .int .i64 0, .slice none 0 0, .slice B n d, .slice none 0 0, .slice none 0 0] 90))
  have C1 := Lib.hid (fun W => eqCst_any ⟨0, 0, 0⟩ ⟨0, 0, 0⟩ W)
  rw [decide_eq_true rfl] at C1
  unfold Cst.v at C1
  have C2 := Lib.hid (fun W (u : Up w W) => eqI_any A B n n c d es es W hn (h.up u) (h'.up u))
  rw [decide_eq_true rfl] at C2
  have C3 := Lib.hid (fun W => eqI_any none none 0 0 0 0 [] [] W (by omega) (Recs.none_ W) (Recs.none_ W))
  rw [decide_eq_true rfl] at C3
  clear h h'
  go_enter Try.func57, Try.ntmps57
  go_wp2_with fail
  generalize (w.alloc (.cells #[.int .i64 0, .int .i64 0, .int .i64 0, .int .i64 0, .slice none 0 0, .slice A n c, .slice none 0 0, .slice none 0 0] 90)).alloc (.cells #[.int .i64 0, .int .i64 0, .int .i64 0, .int .i64 0, .slice none 0 0, .slice B n d, .slice none 0 0, .slice none 0 0] 90) = W at *
  generalize hb1 : w.heap.size + 1 = b1 at *
  generalize hb0 : w.heap.size = b0 at *
  clear hb0 hb1
  refine (C1.out _).mono ?_
  rintro x wA ⟨rfl, uA⟩
  replace ua := Lib.hid (ua.out.trans uA)
  replace X0 := Lib.hid (X0.out.up uA)
  replace X1 := Lib.hid (X1.out.up uA)
  clear uA
  have z0 := X0.out.cell (j := 0) rfl
  have z1 := X0.out.cell (j := 1) rfl
  have z2 := X0.out.cell (j := 2) rfl
  have z3 := X0.out.cell (j := 3) rfl
  have z4 := X0.out.cell (j := 4) rfl
  have z5 := X0.out.cell (j := 5) rfl
  have z6 := X0.out.cell (j := 6) rfl
  have z7 := X0.out.cell (j := 7) rfl
  have lz := X0.out.lt
  have y0 := X1.out.cell (j := 0) rfl
  have y1 := X1.out.cell (j := 1) rfl
  have y2 := X1.out.cell (j := 2) rfl
  have y3 := X1.out.cell (j := 3) rfl
  have y4 := X1.out.cell (j := 4) rfl
  have y5 := X1.out.cell (j := 5) rfl
  have y6 := X1.out.cell (j := 6) rfl
  have y7 := X1.out.cell (j := 7) rfl
  have ly := X1.out.lt
  go_wp2_with fail
  refine (eqDn_no none none 0 0 _).mono ?_
  rintro x wA ⟨rfl, uA⟩
  clear z0 z1 z2 z3 z4 z5 z6 z7 y0 y1 y2 y3 y4 y5 y6 y7 lz ly
  replace ua := Lib.hid (ua.out.trans uA)
  replace X0 := Lib.hid (X0.out.up uA)
  replace X1 := Lib.hid (X1.out.up uA)
  clear uA
  have z0 := X0.out.cell (j := 0) rfl
  have z1 := X0.out.cell (j := 1) rfl
  have z2 := X0.out.cell (j := 2) rfl
  have z3 := X0.out.cell (j := 3) rfl
  have z4 := X0.out.cell (j := 4) rfl
  have z5 := X0.out.cell (j := 5) rfl
  have z6 := X0.out.cell (j := 6) rfl
  have z7 := X0.out.cell (j := 7) rfl
  have lz := X0.out.lt
  have y0 := X1.out.cell (j := 0) rfl
  have y1 := X1.out.cell (j := 1) rfl
  have y2 := X1.out.cell (j := 2) rfl
  have y3 := X1.out.cell (j := 3) rfl
  have y4 := X1.out.cell (j := 4) rfl
  have y5 := X1.out.cell (j := 5) rfl
  have y6 := X1.out.cell (j := 6) rfl
  have y7 := X1.out.cell (j := 7) rfl
  have ly := X1.out.lt
  go_wp2_with fail
  refine (C2.out _ ua.out).mono ?_
  rintro x wA ⟨rfl, uA⟩
  clear z0 z1 z2 z3 z4 z5 z6 z7 y0 y1 y2 y3 y4 y5 y6 y7 lz ly
  replace ua := Lib.hid (ua.out.trans uA)
  replace X0 := Lib.hid (X0.out.up uA)
  replace X1 := Lib.hid (X1.out.up uA)
  clear uA
  have z0 := X0.out.cell (j := 0) rfl
  have z1 := X0.out.cell (j := 1) rfl
  have z2 := X0.out.cell (j := 2) rfl
  have z3 := X0.out.cell (j := 3) rfl
  have z4 := X0.out.cell (j := 4) rfl
  have z5 := X0.out.cell (j := 5) rfl
  have z6 := X0.out.cell (j := 6) rfl
  have z7 := X0.out.cell (j := 7) rfl
  have lz := X0.out.lt
  have y0 := X1.out.cell (j := 0) rfl
  have y1 := X1.out.cell (j := 1) rfl
  have y2 := X1.out.cell (j := 2) rfl
  have y3 := X1.out.cell (j := 3) rfl
  have y4 := X1.out.cell (j := 4) rfl
  have y5 := X1.out.cell (j := 5) rfl
  have y6 := X1.out.cell (j := 6) rfl
  have y7 := X1.out.cell (j := 7) rfl
  have ly := X1.out.lt
  go_wp2_with fail
  refine (C3.out _).mono ?_
  rintro x wA ⟨rfl, uA⟩
  clear z0 z1 z2 z3 z4 z5 z6 z7 y0 y1 y2 y3 y4 y5 y6 y7 lz ly
  replace ua := Lib.hid (ua.out.trans uA)
  replace X0 := Lib.hid (X0.out.up uA)
  replace X1 := Lib.hid (X1.out.up uA)
  clear uA
  have z0 := X0.out.cell (j := 0) rfl
  have z1 := X0.out.cell (j := 1) rfl
  have z2 := X0.out.cell (j := 2) rfl
  have z3 := X0.out.cell (j := 3) rfl
  have z4 := X0.out.cell (j := 4) rfl
  have z5 := X0.out.cell (j := 5) rfl
  have z6 := X0.out.cell (j := 6) rfl
  have z7 := X0.out.cell (j := 7) rfl
  have lz := X0.out.lt
  have y0 := X1.out.cell (j := 0) rfl
  have y1 := X1.out.cell (j := 1) rfl
  have y2 := X1.out.cell (j := 2) rfl
  have y3 := X1.out.cell (j := 3) rfl
  have y4 := X1.out.cell (j := 4) rfl
  have y5 := X1.out.cell (j := 5) rfl
  have y6 := X1.out.cell (j := 6) rfl
  have y7 := X1.out.cell (j := 7) rfl
  have ly := X1.out.lt
  go_wp2_with fail
  refine (eqKp_no none none 0 0 _).mono ?_
  rintro x wA ⟨rfl, uA⟩
  clear z0 z1 z2 z3 z4 z5 z6 z7 y0 y1 y2 y3 y4 y5 y6 y7 lz ly
  replace ua := Lib.hid (ua.out.trans uA)
  replace X0 := Lib.hid (X0.out.up uA)
  replace X1 := Lib.hid (X1.out.up uA)
  clear uA
  have z0 := X0.out.cell (j := 0) rfl
  have z1 := X0.out.cell (j := 1) rfl
  have z2 := X0.out.cell (j := 2) rfl
  have z3 := X0.out.cell (j := 3) rfl
  have z4 := X0.out.cell (j := 4) rfl
  have z5 := X0.out.cell (j := 5) rfl
  have z6 := X0.out.cell (j := 6) rfl
  have z7 := X0.out.cell (j := 7) rfl
  have lz := X0.out.lt
  have y0 := X1.out.cell (j := 0) rfl
  have y1 := X1.out.cell (j := 1) rfl
  have y2 := X1.out.cell (j := 2) rfl
  have y3 := X1.out.cell (j := 3) rfl
  have y4 := X1.out.cell (j := 4) rfl
  have y5 := X1.out.cell (j := 5) rfl
  have y6 := X1.out.cell (j := 6) rfl
  have y7 := X1.out.cell (j := 7) rfl
  have ly := X1.out.lt
  go_wp2
  go_ret
  exact ⟨rfl, ua.out⟩

theorem Blk.wr {w w' : World} {lo b t : Nat} {A : Option Addr} {n : Nat} {arr : Array Value} (h : Blk w b t arr) (hw : Wr lo A n w w') (hne : 0 < n → ∀ g, A = some ⟨g, 0, none⟩ → g ≠ b) : Blk w' b t arr := by
  rcases hw with ⟨_, u⟩ | ⟨hn, g, hA, _, m⟩
  · exact h.up u
  · have := hne hn g hA
    exact h.mv m (by omega)

set_option maxHeartbeats 4000000 in
theorem markHs_any (lo : Nat) (A : Option Addr) (n c : Nat) (w : World) (hn : n ≤ 1048576) (h : Mkb w lo A n 7 94) :
    Calls Try.prog 58 #[.agg #[.int .i64 0, .int .i64 0, .int .i64 0, .int .i64 0, .slice none 0 0, .slice A n c, .slice none 0 0, .slice none 0 0], .int .i64 1] w fun x w' => x = .returned (.int .i64 (1 + 7 * (n : Int))) ∧ Held w' A n 7 1 ∧ (∀ a, Up a w → a.heap.size ≤ lo → lo ≤ w.heap.size → Up a w') ∧ (∀ b t arr, Blk w b t arr → (0 < n → ∀ g, A = some ⟨g, 0, none⟩ → g ≠ b) → Blk w' b t arr) ∧ w.heap.size ≤ w'.heap.size := by
  have ua := Lib.hid ((Up.refl w).alloc (.cells #[.int .i64 0, .int .i64 0, .int .i64 0, .int .i64 0, .slice none 0 0, .slice A n c, .slice none 0 0, .slice none 0 0] 90))
  have M := Lib.hid (h.up ua.out)
  have X0 := Lib.hid (Blk.new w #[.int .i64 0, .int .i64 0, .int .i64 0, .int .i64 0, .slice none 0 0, .slice A n c, .slice none 0 0, .slice none 0 0] 90)
  have NE := Lib.hid (fun (hp : 0 < n) => (show ∀ g, A = some ⟨g, 0, none⟩ → g ≠ w.heap.size from fun g hA e => by obtain ⟨g', xs, h1, _, h3, _⟩ := h hp; rw [h1] at hA; injection hA with hA; injection hA with hA _ _; have := h3.1; omega))
  have U0 := Lib.hid ua.out
  clear h
  go_enter Try.func58, Try.ntmps58
  go_wp2_with fail
  generalize hb : w.heap.size = bx at *
  generalize w.alloc (.cells #[.int .i64 0, .int .i64 0, .int .i64 0, .int .i64 0, .slice none 0 0, .slice A n c, .slice none 0 0, .slice none 0 0] 90) = W at *
  refine (markDn_no none 0 1 W).mono ?_
  rintro x w1 ⟨rfl, u1⟩
  replace X0 := Lib.hid (X0.out.up u1)
  replace M := Lib.hid (M.out.up u1)
  replace U0 := Lib.hid (U0.out.trans u1)
  clear u1
  have z0 := X0.out.cell (j := 0) rfl
  have z1 := X0.out.cell (j := 1) rfl
  have z2 := X0.out.cell (j := 2) rfl
  have z3 := X0.out.cell (j := 3) rfl
  have z4 := X0.out.cell (j := 4) rfl
  have z5 := X0.out.cell (j := 5) rfl
  have z6 := X0.out.cell (j := 6) rfl
  have z7 := X0.out.cell (j := 7) rfl
  have lz := X0.out.lt
  go_wp2_with fail
  refine (markI_k lo A n c _ 1 w1 hn (by omega) (by omega) M.out).mono ?_
  rintro x w2 ⟨rfl, hh1, wr1⟩
  clear z0 z1 z2 z3 z4 z5 z6 z7 lz
  have H1 := Lib.hid hh1
  have R1 := Lib.hid wr1
  replace X0 := Lib.hid (X0.out.wr wr1 NE.out)
  have K1 : 0 ≤ 1 + 7 * (n : Int) ∧ 1 + 7 * (n : Int) ≤ 10000000 := by omega
  clear hh1 wr1
  have z0 := X0.out.cell (j := 0) rfl
  have z1 := X0.out.cell (j := 1) rfl
  have z2 := X0.out.cell (j := 2) rfl
  have z3 := X0.out.cell (j := 3) rfl
  have z4 := X0.out.cell (j := 4) rfl
  have z5 := X0.out.cell (j := 5) rfl
  have z6 := X0.out.cell (j := 6) rfl
  have z7 := X0.out.cell (j := 7) rfl
  have lz := X0.out.lt
  go_wp2_with fail
  refine (markI_no none 0 (1 + 7 * (n : Int)) w2).mono ?_
  rintro x w3 ⟨rfl, u3⟩
  clear z0 z1 z2 z3 z4 z5 z6 z7 lz
  replace X0 := Lib.hid (X0.out.up u3)
  have U3 := Lib.hid u3
  clear u3
  have z0 := X0.out.cell (j := 0) rfl
  have z1 := X0.out.cell (j := 1) rfl
  have z2 := X0.out.cell (j := 2) rfl
  have z3 := X0.out.cell (j := 3) rfl
  have z4 := X0.out.cell (j := 4) rfl
  have z5 := X0.out.cell (j := 5) rfl
  have z6 := X0.out.cell (j := 6) rfl
  have z7 := X0.out.cell (j := 7) rfl
  have lz := X0.out.lt
  go_wp2_with fail
  refine (markKp_no none 0 (1 + 7 * (n : Int)) w3).mono ?_
  rintro x w4 ⟨rfl, u4⟩
  clear z0 z1 z2 z3 z4 z5 z6 z7 lz
  have U4 := Lib.hid (U3.out.trans u4)
  clear u4
  go_wp2
  go_ret
  refine ⟨rfl, H1.out.up U4.out, fun a ha hl _ => (R1.out.up (ha.trans U0.out) hl).trans U4.out, fun b t arr hb hne => ((hb.up U0.out).wr R1.out hne).up U4.out, ?_⟩
  have s0 := U0.out.size
  have s1 := R1.out.size
  have s4 := U4.out.size
  omega

set_option maxHeartbeats 4000000 in
theorem heldHs_any (A : Option Addr) (n c : Nat) (w : World) (hn : n ≤ 1048576) (h : Held w A n 7 1) :
    Calls Try.prog 59 #[.agg #[.int .i64 0, .int .i64 0, .int .i64 0, .int .i64 0, .slice none 0 0, .slice A n c, .slice none 0 0, .slice none 0 0], .int .i64 1] w fun x w' => x = .returned (.int .i64 (1 + 7 * (n : Int))) ∧ Up w w' := by
  have HH := Lib.hid h
  have ua := Lib.hid ((Up.refl w).alloc (.cells #[.int .i64 0, .int .i64 0, .int .i64 0, .int .i64 0, .slice none 0 0, .slice A n c, .slice none 0 0, .slice none 0 0] 90))
  have X0 := Lib.hid (Blk.new w #[.int .i64 0, .int .i64 0, .int .i64 0, .int .i64 0, .slice none 0 0, .slice A n c, .slice none 0 0, .slice none 0 0] 90)
  have K1 : 0 ≤ 1 + 7 * (n : Int) ∧ 1 + 7 * (n : Int) ≤ 10000000 := by omega
  have K1' : ¬ 1 + 7 * (n : Int) < 0 := by omega
  clear h
  go_enter Try.func59, Try.ntmps59
  go_wp2_with fail
  generalize w.alloc (.cells #[.int .i64 0, .int .i64 0, .int .i64 0, .int .i64 0, .slice none 0 0, .slice A n c, .slice none 0 0, .slice none 0 0] 90) = W at *
  refine (heldDn_no none 0 1 W).mono ?_
  rintro x wA ⟨rfl, uA⟩
  replace ua := Lib.hid (ua.out.trans uA)
  replace X0 := Lib.hid (X0.out.up uA)
  clear uA
  have z0 := X0.out.cell (j := 0) rfl
  have z1 := X0.out.cell (j := 1) rfl
  have z2 := X0.out.cell (j := 2) rfl
  have z3 := X0.out.cell (j := 3) rfl
  have z4 := X0.out.cell (j := 4) rfl
  have z5 := X0.out.cell (j := 5) rfl
  have z6 := X0.out.cell (j := 6) rfl
  have z7 := X0.out.cell (j := 7) rfl
  have lz := X0.out.lt
  go_wp2_with fail
  refine (heldI_any A n c 1 _ hn (by omega) (by omega) (HH.out.up ua.out)).mono ?_
  rintro x wA ⟨rfl, uA⟩
  clear z0 z1 z2 z3 z4 z5 z6 z7 lz
  replace ua := Lib.hid (ua.out.trans uA)
  replace X0 := Lib.hid (X0.out.up uA)
  clear uA
  have z0 := X0.out.cell (j := 0) rfl
  have z1 := X0.out.cell (j := 1) rfl
  have z2 := X0.out.cell (j := 2) rfl
  have z3 := X0.out.cell (j := 3) rfl
  have z4 := X0.out.cell (j := 4) rfl
  have z5 := X0.out.cell (j := 5) rfl
  have z6 := X0.out.cell (j := 6) rfl
  have z7 := X0.out.cell (j := 7) rfl
  have lz := X0.out.lt
  go_wp2_with fail
  refine (heldI_any none 0 0 (1 + 7 * (n : Int)) _ (by omega) (by omega) (by omega) (Held.none_ _ _ _ _)).mono ?_
  rintro x wA ⟨rfl, uA⟩
  clear z0 z1 z2 z3 z4 z5 z6 z7 lz
  replace ua := Lib.hid (ua.out.trans uA)
  replace X0 := Lib.hid (X0.out.up uA)
  clear uA
  have z0 := X0.out.cell (j := 0) rfl
  have z1 := X0.out.cell (j := 1) rfl
  have z2 := X0.out.cell (j := 2) rfl
  have z3 := X0.out.cell (j := 3) rfl
  have z4 := X0.out.cell (j := 4) rfl
  have z5 := X0.out.cell (j := 5) rfl
  have z6 := X0.out.cell (j := 6) rfl
  have z7 := X0.out.cell (j := 7) rfl
  have lz := X0.out.lt
  go_wp2_with fail
  refine (heldKp_no none 0 (1 + 7 * (n : Int)) _).mono ?_
  rintro x wA ⟨rfl, uA⟩
  clear z0 z1 z2 z3 z4 z5 z6 z7 lz
  replace ua := Lib.hid (ua.out.trans uA)
  replace X0 := Lib.hid (X0.out.up uA)
  clear uA
  have z0 := X0.out.cell (j := 0) rfl
  have z1 := X0.out.cell (j := 1) rfl
  have z2 := X0.out.cell (j := 2) rfl
  have z3 := X0.out.cell (j := 3) rfl
  have z4 := X0.out.cell (j := 4) rfl
  have z5 := X0.out.cell (j := 5) rfl
  have z6 := X0.out.cell (j := 6) rfl
  have z7 := X0.out.cell (j := 7) rfl
  have lz := X0.out.lt
  go_wp2
  go_ret
  exact ⟨rfl, ua.out⟩

end Go.Proofs.Ytkfjemgelmbcfaa

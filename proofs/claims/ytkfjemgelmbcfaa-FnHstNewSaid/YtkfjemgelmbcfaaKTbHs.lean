/-
  What tbHost says of one host that has done nothing and lies in memory twice, in one sentence: the same; for every such host.
-/
import Derived.Test.YtkfjemgelmbcfaaKTbItm
import Derived.Test.YtkfjemgelmbcfaaKTyR
import Derived.Test.YtkfjemgelmbcfaaKCstNe
namespace Go.Proofs.Ytkfjemgelmbcfaa
set_option maxRecDepth 100000
open Go.RowKit

set_option maxHeartbeats 4000000 in
theorem tbHs_same (A : Option Addr) (n c : Nat) (B : Option Addr) (d : Nat) (es : List Rec) (w : World) (hn : n ≤ 1000000000) (h : Recs w A n es) (h' : Recs w B n es) :
    Calls Try.prog 54 #[.agg #[.int .i64 0, .int .i64 0, .int .i64 0, .int .i64 0, .slice none 0 0, .slice A n c, .slice none 0 0, .slice none 0 0], .agg #[.int .i64 0, .int .i64 0, .int .i64 0, .int .i64 0, .slice none 0 0, .slice B n d, .slice none 0 0, .slice none 0 0]] w fun x w' => x = .returned (.bool true) ∧ Up w w' := by
  have X0 := Lib.hid ((Blk.new w #[.int .i64 0, .int .i64 0, .int .i64 0, .int .i64 0, .slice none 0 0, .slice A n c, .slice none 0 0, .slice none 0 0] 90).alloc (.cells #[.int .i64 0, .int .i64 0, .int .i64 0, .int .i64 0, .slice none 0 0, .slice B n d, .slice none 0 0, .slice none 0 0] 90))
  have X1 := Lib.hid (Blk.new (w.alloc (.cells #[.int .i64 0, .int .i64 0, .int .i64 0, .int .i64 0, .slice none 0 0, .slice A n c, .slice none 0 0, .slice none 0 0] 90)) #[.int .i64 0, .int .i64 0, .int .i64 0, .int .i64 0, .slice none 0 0, .slice B n d, .slice none 0 0, .slice none 0 0] 90)
  simp only [World.size_alloc] at X1
  have ua := Lib.hid (((Up.refl w).alloc (.cells #[.int .i64 0, .int .i64 0, .int .i64 0, .int .i64 0, .slice none 0 0, .slice A n c, .slice none 0 0, .slice none 0 0] 90)).alloc (.cells #[.int .i64 0, .int .i64 0, .int .i64 0, .int .i64 0, .slice none 0 0, .slice B n d, .slice none 0 0, .slice none 0 0] 90))
  have C1 := Lib.hid (fun W (u : Up w W) => tbItems_same A B n c d es W hn (h.up u) (h'.up u))
  have C2 := Lib.hid (fun W => tbItems_same none none 0 0 0 [] W (by omega) (Recs.none_ W) (Recs.none_ W))
  have CN := fun W => neq_cst ⟨0, 0, 0⟩ ⟨0, 0, 0⟩ W
  rw [eqD_refl] at CN
  unfold Cst.v at CN
  have gd := guard_cst
  clear h h'
  go_enter Try.func54, Try.ntmps54
  go_wp2_with fail
  generalize (w.alloc (.cells #[.int .i64 0, .int .i64 0, .int .i64 0, .int .i64 0, .slice none 0 0, .slice A n c, .slice none 0 0, .slice none 0 0] 90)).alloc (.cells #[.int .i64 0, .int .i64 0, .int .i64 0, .int .i64 0, .slice none 0 0, .slice B n d, .slice none 0 0, .slice none 0 0] 90) = W at *
  generalize hb1 : w.heap.size + 1 = b1 at *
  generalize hb0 : w.heap.size = b0 at *
  clear hb0 hb1
  refine (C1.out _ ua.out).mono ?_
  rintro x wA ⟨rfl, uA⟩
  replace ua := Lib.hid (ua.out.trans uA)
  replace X0 := Lib.hid (X0.out.up uA)
  replace X1 := Lib.hid (X1.out.up uA)
  clear uA
  have z0 := X0.out.cell (j := 0) rfl
  have z1 := X0.out.cell (j := 1) rfl
  have z2 := X0.out.cell (j := 2) rfl
  have z3 := X0.out.cell (j := 3) rfl
  have z4 := X0.out.cell (j := 4) rfl
  have z5 := X0.out.cell (j := 5) rfl
  have z6 := X0.out.cell (j := 6) rfl
  have z7 := X0.out.cell (j := 7) rfl
  have lz := X0.out.lt
  have y0 := X1.out.cell (j := 0) rfl
  have y1 := X1.out.cell (j := 1) rfl
  have y2 := X1.out.cell (j := 2) rfl
  have y3 := X1.out.cell (j := 3) rfl
  have y4 := X1.out.cell (j := 4) rfl
  have y5 := X1.out.cell (j := 5) rfl
  have y6 := X1.out.cell (j := 6) rfl
  have y7 := X1.out.cell (j := 7) rfl
  have ly := X1.out.lt
  go_wp2_with fail
  refine (C2.out _).mono ?_
  rintro x wA ⟨rfl, uA⟩
  clear z0 z1 z2 z3 z4 z5 z6 z7 y0 y1 y2 y3 y4 y5 y6 y7 lz ly
  replace ua := Lib.hid (ua.out.trans uA)
  replace X0 := Lib.hid (X0.out.up uA)
  replace X1 := Lib.hid (X1.out.up uA)
  clear uA
  have z0 := X0.out.cell (j := 0) rfl
  have z1 := X0.out.cell (j := 1) rfl
  have z2 := X0.out.cell (j := 2) rfl
  have z3 := X0.out.cell (j := 3) rfl
  have z4 := X0.out.cell (j := 4) rfl
  have z5 := X0.out.cell (j := 5) rfl
  have z6 := X0.out.cell (j := 6) rfl
  have z7 := X0.out.cell (j := 7) rfl
  have lz := X0.out.lt
  have y0 := X1.out.cell (j := 0) rfl
  have y1 := X1.out.cell (j := 1) rfl
  have y2 := X1.out.cell (j := 2) rfl
  have y3 := X1.out.cell (j := 3) rfl
  have y4 := X1.out.cell (j := 4) rfl
  have y5 := X1.out.cell (j := 5) rfl
  have y6 := X1.out.cell (j := 6) rfl
  have y7 := X1.out.cell (j := 7) rfl
  have ly := X1.out.lt
  go_wp2
  go_loopw [5] (fun i wr => i = .int .i64 0 ∧ Up wA wr) (fun _ _ => 0)
  case atStart => exact ⟨rfl, Up.refl _⟩
  case round =>
    obtain ⟨rfl, u⟩ := hrel
    replace ua := Lib.hid (ua.out.trans u)
    replace X0 := Lib.hid (X0.out.up u)
    replace X1 := Lib.hid (X1.out.up u)
    clear u
    clear z0 z1 z2 z3 z4 z5 z6 z7 y0 y1 y2 y3 y4 y5 y6 y7 lz ly
    have z0 := X0.out.cell (j := 0) rfl
    have z1 := X0.out.cell (j := 1) rfl
    have z2 := X0.out.cell (j := 2) rfl
    have z3 := X0.out.cell (j := 3) rfl
    have z4 := X0.out.cell (j := 4) rfl
    have z5 := X0.out.cell (j := 5) rfl
    have z6 := X0.out.cell (j := 6) rfl
    have z7 := X0.out.cell (j := 7) rfl
    have lz := X0.out.lt
    have y0 := X1.out.cell (j := 0) rfl
    have y1 := X1.out.cell (j := 1) rfl
    have y2 := X1.out.cell (j := 2) rfl
    have y3 := X1.out.cell (j := 3) rfl
    have y4 := X1.out.cell (j := 4) rfl
    have y5 := X1.out.cell (j := 5) rfl
    have y6 := X1.out.cell (j := 6) rfl
    have y7 := X1.out.cell (j := 7) rfl
    have ly := X1.out.lt
    go_wp2
    go_loopw [8] (fun i w2 => i = .int .i64 0 ∧ Up wr w2) (fun _ _ => 0)
    case atStart => exact ⟨rfl, Up.refl _⟩
    case round =>
      obtain ⟨rfl, u⟩ := hrel
      replace ua := Lib.hid (ua.out.trans u)
      replace X0 := Lib.hid (X0.out.up u)
      clear u
      clear z0 z1 z2 z3 z4 z5 z6 z7 y0 y1 y2 y3 y4 y5 y6 y7 lz ly
      have z0 := X0.out.cell (j := 0) rfl
      have z1 := X0.out.cell (j := 1) rfl
      have z2 := X0.out.cell (j := 2) rfl
      have z3 := X0.out.cell (j := 3) rfl
      have z4 := X0.out.cell (j := 4) rfl
      have z5 := X0.out.cell (j := 5) rfl
      have z6 := X0.out.cell (j := 6) rfl
      have z7 := X0.out.cell (j := 7) rfl
      have lz := X0.out.lt
      go_wp2
      go_ret
      exact ⟨rfl, ua.out⟩

end Go.Proofs.Ytkfjemgelmbcfaa

/-
  What impl.SeqOk returns, in one sentence: whether the model is one and the simulator is one of it; for every model and every simulator of short lists that lie in memory.
-/
import Derived.Test.YtkfjemgelmbcfaaKSqOkDef
import Derived.Test.YtkfjemgelmbcfaaKW
namespace Go.Proofs.Ytkfjemgelmbcfaa
set_option maxRecDepth 100000
open Go.RowKit

set_option maxHeartbeats 8000000 in
theorem implSeqOk_any (A : Option Addr) (n c : Nat) (B : Option Addr) (k d : Nat) (m : Mdl) (Ac : Option Addr) (nc cc : Nat) (Aw : Option Addr) (nw cw : Nat) (Al : Option Addr) (nl cl : Nat) (s : Sq) (w : World) (hM : MdlV w A n B k m) (hS : ShortSq nc nw nl) (hV : SqV w Ac nc Aw nw Al nl s) :
    Calls Try.prog 49 #[.agg #[.slice A n c, .slice B k d, .int .i64 m.til], .agg #[.slice Ac nc cc, .slice Aw nw cw, .slice Al nl cl]] w fun x w' => x = .returned (.bool (sqS m n nc s)) ∧ Up w w' := by
  have RB := Lib.hid (show sqS m n nc s = (mdlB m && fitB m.rules.length m.til nc s) by rw [hM.rules.1]; exact sqS_fit m n nc s)
  have CM := Lib.hid (fun W (u : Up w W) => newMachine_any A n c B k d m W (hM.up u))
  have CF := Lib.hid (fun mp W (u : Up w W) => fits_any mp m.rules.length m.til Ac nc cc Aw nw cw Al nl cl s W hS (hV.up u))
  generalize sqS m n nc s = res at RB ⊢
  generalize fitB m.rules.length m.til nc s = g at RB CF
  have B1 := Box3.new (w.alloc (.cells #[.slice A n c, .slice B k d, .int .i64 m.til] 26)) (.slice Ac nc cc) (.slice Aw nw cw) (.slice Al nl cl) 72
  simp only [World.size_alloc] at B1
  have U0 := Lib.hid (((Up.refl w).alloc (.cells #[.slice A n c, .slice B k d, .int .i64 m.til] 26)).alloc (.cells #[.slice Ac nc cc, .slice Aw nw cw, .slice Al nl cl] 72))
  have B1 := Lib.hid B1
  clear hM hV hS
  unfold MachPost at CM
  go_enter Try.func49, Try.ntmps49
  go_wp2_with fail
  generalize (w.alloc (.cells #[.slice A n c, .slice B k d, .int .i64 m.til] 26)).alloc (.cells #[.slice Ac nc cc, .slice Aw nw cw, .slice Al nl cl] 72) = W at *
  generalize hb1 : w.heap.size + 1 = b1 at *
  clear hb1
  refine (CM.out _ U0.out).mono ?_
  rintro x w1 ⟨u1, h⟩
  have U1 := Lib.hid (U0.out.trans u1)
  have B1 := Lib.hid (B1.out.up u1)
  clear u1 CM
  rcases h with ⟨hm, rfl⟩ | ⟨hm, b, rfl, _, _⟩
  · have RT := Lib.hid (show res = false by rw [RB.out, hm]; rfl)
    have UE := Lib.hid (U1.out.alloc (.cells #[.map none, .int .i64 0, .int .i64 0] 119))
    clear hm RB
    go_wp2
    go_ret
    exact ⟨ret_bool (by rw [RT.out]), UE.out⟩
  · have RT := Lib.hid (show res = g by rw [RB.out, hm]; rfl)
    have ua := (Up.refl w1).alloc (.cells #[.map (some b), .int .i64 m.rules.length, .int .i64 m.til] 119)
    have B1 := Lib.hid (B1.out.up ua)
    have U1 := Lib.hid (U1.out.trans ua)
    obtain ⟨p0, p1, p2⟩ := And.intro B1.out.c0 (And.intro B1.out.c1 B1.out.c2)
    clear hm RB ua
    go_wp2_with fail
    refine (CF.out (some b) _ U1.out).mono ?_
    rintro x w2 ⟨rfl, u2⟩
    have UE := Lib.hid (U1.out.trans u2)
    clear u2
    go_wp2
    go_ret
    exact ⟨ret_bool (by rw [RT.out]), UE.out⟩

end Go.Proofs.Ytkfjemgelmbcfaa

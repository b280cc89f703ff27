/-
  What FnExactSeqStep returns, in one sentence: true, with new blocks alone; for every model and every simulator that lie in memory.
-/
import Derived.Deep.RegionHeld3
import Derived.Test.YtlikekmhccnilaaGreatDLEsst12
import Derived.Test.YtlikekmhccnilaaGreatDLEsst43
import Derived.Test.YtlikekmhccnilaaGreatDLEsst44
namespace Go.Proofs.YtlikekmhccnilaaGreat
set_option maxRecDepth 100000
open Go.RowKit
def IsMv (m : Mdl) (til : Int) (n k : Nat) (v : Value) (w : World) : Prop := ∃ A B, v = .agg #[.slice A n n, .slice B k k, .int .i64 til] ∧ MdlV w A n B k m
theorem IsMv.up {m : Mdl} {til : Int} {n k : Nat} {v : Value} {w w' : World} (h : IsMv m til n k v w) (u : Up w w') : IsMv m til n k v w' := by
  obtain ⟨A, B, h0, h1⟩ := h
  exact ⟨A, B, h0, h1.up u⟩
def IsSv (nc nw nl : Nat) (s : Sq) (v : Value) (w : World) : Prop := ∃ g1 g2 g3 : Nat, v = .agg #[.slice (some ⟨g1, 0, none⟩) nc nc, .slice (some ⟨g2, 0, none⟩) nw nw, .slice (some ⟨g3, 0, none⟩) nl nl] ∧ SqV w (some ⟨g1, 0, none⟩) nc (some ⟨g2, 0, none⟩) nw (some ⟨g3, 0, none⟩) nl s
theorem IsSv.up {nc nw nl : Nat} {s : Sq} {v : Value} {w w' : World} (h : IsSv nc nw nl s v w) (u : Up w w') : IsSv nc nw nl s v w' := by
  obtain ⟨g1, g2, g3, h0, h1⟩ := h
  exact ⟨g1, g2, g3, h0, h1.up u⟩
def IsR (lo NC NW NL : Nat) (S : Sq) (v : Value) (w : World) : Prop := ∃ Ac cc Aw cw Al cl, v = .agg #[.slice Ac NC cc, .slice Aw NW cw, .slice Al NL cl] ∧ SqW w lo Ac NC Aw NW Al NL S
theorem IsR.up {lo NC NW NL : Nat} {S : Sq} {v : Value} {w w' : World} (h : IsR lo NC NW NL S v w) (u : Up w w') : IsR lo NC NW NL S v w' := by
  obtain ⟨Ac, cc, Aw, cw, Al, cl, h0, h1⟩ := h
  exact ⟨Ac, cc, Aw, cw, Al, cl, h0, h1.up u⟩
def IsT (lo NC NW NL : Nat) (S : Sq) (rb : Bool) (v : Value) (w : World) : Prop := ∃ u, v = .tuple #[u, .bool rb] ∧ IsR lo NC NW NL S u w
theorem IsT.up {lo NC NW NL : Nat} {S : Sq} {rb : Bool} {v : Value} {w w' : World} (h : IsT lo NC NW NL S rb v w) (u : Up w w') : IsT lo NC NW NL S rb v w' := by
  obtain ⟨x, h0, h1⟩ := h
  exact ⟨x, h0, h1.up u⟩
def IsN9 (lo : Nat) (v : Value) (w : World) : Prop := ∃ b, v = .pointer (some ⟨b, 0, none⟩) ∧ lo ≤ b ∧ BoxF w b (.slice none 0 0) (.slice none 0 0) (.slice none 0 0)
theorem ap_ne {g g' n n' : Nat} (h : g ≠ g') : Ap (some ⟨g, 0, none⟩) n (some ⟨g', 0, none⟩) n' := fun _ _ b o b' o' e1 e2 e => by
  injection e1 with e1
  injection e1 with e1 _ _
  injection e2 with e2
  injection e2 with e2 _ _
  omega
theorem IntsOwn.int {lo hi g N : Nat} {w w' : World} (h : IntsOwn w g N) (m : Ints lo hi w w') : IntsOwn w' g N := ⟨Nat.lt_of_lt_of_le h.1 m.size, fun j hj => (h.2 j hj).ints m h.1⟩
theorem IsN9.up {lo : Nat} {v : Value} {w w' : World} (h : IsN9 lo v w) (u : Up w w') : IsN9 lo v w' := by
  obtain ⟨x, h0, h1, h2⟩ := h
  exact ⟨x, h0, h1, h2.up u⟩
def ssA (VM VS : Value) (m : Mdl) (til : Int) (n k nc nw nl lo NC NW NL : Nat) (s S : Sq) (rb : Bool) (d : Nat) (v : Value) (w : World) : Prop :=
  if d = 28 then v = VM else if d = 29 then IsMv m til n k v w else if d = 30 then v = VS else if d = 31 then IsSv nc nw nl s v w else if d = 32 then IsT lo NC NW NL S rb v w else if d = 27 then IsT lo NC NW NL S rb v w else if d = 33 then IsR lo NC NW NL S v w else if d = 34 then v = .bool rb else if d = 6 then IsN9 lo v w else True
theorem ssA_28 (VM VS : Value) (m : Mdl) (til : Int) (n k nc nw nl lo NC NW NL : Nat) (s S : Sq) (rb : Bool) (v : Value) (w : World) : ssA VM VS m til n k nc nw nl lo NC NW NL s S rb 28 v w = (v = VM) := by simp [ssA]
theorem ssA_29 (VM VS : Value) (m : Mdl) (til : Int) (n k nc nw nl lo NC NW NL : Nat) (s S : Sq) (rb : Bool) (v : Value) (w : World) : ssA VM VS m til n k nc nw nl lo NC NW NL s S rb 29 v w = (IsMv m til n k v w) := by simp [ssA]
theorem ssA_30 (VM VS : Value) (m : Mdl) (til : Int) (n k nc nw nl lo NC NW NL : Nat) (s S : Sq) (rb : Bool) (v : Value) (w : World) : ssA VM VS m til n k nc nw nl lo NC NW NL s S rb 30 v w = (v = VS) := by simp [ssA]
theorem ssA_31 (VM VS : Value) (m : Mdl) (til : Int) (n k nc nw nl lo NC NW NL : Nat) (s S : Sq) (rb : Bool) (v : Value) (w : World) : ssA VM VS m til n k nc nw nl lo NC NW NL s S rb 31 v w = (IsSv nc nw nl s v w) := by simp [ssA]
theorem ssA_32 (VM VS : Value) (m : Mdl) (til : Int) (n k nc nw nl lo NC NW NL : Nat) (s S : Sq) (rb : Bool) (v : Value) (w : World) : ssA VM VS m til n k nc nw nl lo NC NW NL s S rb 32 v w = (IsT lo NC NW NL S rb v w) := by simp [ssA]
theorem ssA_27 (VM VS : Value) (m : Mdl) (til : Int) (n k nc nw nl lo NC NW NL : Nat) (s S : Sq) (rb : Bool) (v : Value) (w : World) : ssA VM VS m til n k nc nw nl lo NC NW NL s S rb 27 v w = (IsT lo NC NW NL S rb v w) := by simp [ssA]
theorem ssA_33 (VM VS : Value) (m : Mdl) (til : Int) (n k nc nw nl lo NC NW NL : Nat) (s S : Sq) (rb : Bool) (v : Value) (w : World) : ssA VM VS m til n k nc nw nl lo NC NW NL s S rb 33 v w = (IsR lo NC NW NL S v w) := by simp [ssA]
theorem ssA_34 (VM VS : Value) (m : Mdl) (til : Int) (n k nc nw nl lo NC NW NL : Nat) (s S : Sq) (rb : Bool) (v : Value) (w : World) : ssA VM VS m til n k nc nw nl lo NC NW NL s S rb 34 v w = (v = .bool rb) := by simp [ssA]
theorem ssA_6 (VM VS : Value) (m : Mdl) (til : Int) (n k nc nw nl lo NC NW NL : Nat) (s S : Sq) (rb : Bool) (v : Value) (w : World) : ssA VM VS m til n k nc nw nl lo NC NW NL s S rb 6 v w = (IsN9 lo v w) := by simp [ssA]
theorem ssA_up (VM VS : Value) (m : Mdl) (til : Int) (n k nc nw nl lo NC NW NL : Nat) (s S : Sq) (rb : Bool) (d : Nat) {v : Value} {w w' : World} (h : ssA VM VS m til n k nc nw nl lo NC NW NL s S rb d v w) (u : Up w w') : ssA VM VS m til n k nc nw nl lo NC NW NL s S rb d v w' := by
  unfold ssA at h ⊢
  by_cases h28 : d = 28
  · rw [if_pos h28] at h ⊢
    exact h
  rw [if_neg h28] at h ⊢
  by_cases h29 : d = 29
  · rw [if_pos h29] at h ⊢
    exact h.up u
  rw [if_neg h29] at h ⊢
  by_cases h30 : d = 30
  · rw [if_pos h30] at h ⊢
    exact h
  rw [if_neg h30] at h ⊢
  by_cases h31 : d = 31
  · rw [if_pos h31] at h ⊢
    exact h.up u
  rw [if_neg h31] at h ⊢
  by_cases h32 : d = 32
  · rw [if_pos h32] at h ⊢
    exact h.up u
  rw [if_neg h32] at h ⊢
  by_cases h27 : d = 27
  · rw [if_pos h27] at h ⊢
    exact h.up u
  rw [if_neg h27] at h ⊢
  by_cases h33 : d = 33
  · rw [if_pos h33] at h ⊢
    exact h.up u
  rw [if_neg h33] at h ⊢
  by_cases h34 : d = 34
  · rw [if_pos h34] at h ⊢
    exact h
  rw [if_neg h34] at h ⊢
  by_cases h6 : d = 6
  · rw [if_pos h6] at h ⊢
    exact h.up u
  rw [if_neg h6] at h ⊢
  exact trivial
def ssC (VM VS : Value) (m : Mdl) (til : Int) (n k nc nw nl lo NC NW NL : Nat) (s S : Sq) (rb : Bool) (d : Nat) (v : Value) (w : World) : Prop :=
  if d = 95 then v = VM else if d = 96 then IsMv m til n k v w else if d = 97 then v = VS else if d = 98 then IsSv nc nw nl s v w else if d = 99 then IsT lo NC NW NL S rb v w else if d = 94 then IsT lo NC NW NL S rb v w else if d = 100 then IsR lo NC NW NL S v w else if d = 101 then v = .bool rb else if d = 15 then IsN9 lo v w else True
theorem ssC_95 (VM VS : Value) (m : Mdl) (til : Int) (n k nc nw nl lo NC NW NL : Nat) (s S : Sq) (rb : Bool) (v : Value) (w : World) : ssC VM VS m til n k nc nw nl lo NC NW NL s S rb 95 v w = (v = VM) := by simp [ssC]
theorem ssC_96 (VM VS : Value) (m : Mdl) (til : Int) (n k nc nw nl lo NC NW NL : Nat) (s S : Sq) (rb : Bool) (v : Value) (w : World) : ssC VM VS m til n k nc nw nl lo NC NW NL s S rb 96 v w = (IsMv m til n k v w) := by simp [ssC]
theorem ssC_97 (VM VS : Value) (m : Mdl) (til : Int) (n k nc nw nl lo NC NW NL : Nat) (s S : Sq) (rb : Bool) (v : Value) (w : World) : ssC VM VS m til n k nc nw nl lo NC NW NL s S rb 97 v w = (v = VS) := by simp [ssC]
theorem ssC_98 (VM VS : Value) (m : Mdl) (til : Int) (n k nc nw nl lo NC NW NL : Nat) (s S : Sq) (rb : Bool) (v : Value) (w : World) : ssC VM VS m til n k nc nw nl lo NC NW NL s S rb 98 v w = (IsSv nc nw nl s v w) := by simp [ssC]
theorem ssC_99 (VM VS : Value) (m : Mdl) (til : Int) (n k nc nw nl lo NC NW NL : Nat) (s S : Sq) (rb : Bool) (v : Value) (w : World) : ssC VM VS m til n k nc nw nl lo NC NW NL s S rb 99 v w = (IsT lo NC NW NL S rb v w) := by simp [ssC]
theorem ssC_94 (VM VS : Value) (m : Mdl) (til : Int) (n k nc nw nl lo NC NW NL : Nat) (s S : Sq) (rb : Bool) (v : Value) (w : World) : ssC VM VS m til n k nc nw nl lo NC NW NL s S rb 94 v w = (IsT lo NC NW NL S rb v w) := by simp [ssC]
theorem ssC_100 (VM VS : Value) (m : Mdl) (til : Int) (n k nc nw nl lo NC NW NL : Nat) (s S : Sq) (rb : Bool) (v : Value) (w : World) : ssC VM VS m til n k nc nw nl lo NC NW NL s S rb 100 v w = (IsR lo NC NW NL S v w) := by simp [ssC]
theorem ssC_101 (VM VS : Value) (m : Mdl) (til : Int) (n k nc nw nl lo NC NW NL : Nat) (s S : Sq) (rb : Bool) (v : Value) (w : World) : ssC VM VS m til n k nc nw nl lo NC NW NL s S rb 101 v w = (v = .bool rb) := by simp [ssC]
theorem ssC_15 (VM VS : Value) (m : Mdl) (til : Int) (n k nc nw nl lo NC NW NL : Nat) (s S : Sq) (rb : Bool) (v : Value) (w : World) : ssC VM VS m til n k nc nw nl lo NC NW NL s S rb 15 v w = (IsN9 lo v w) := by simp [ssC]
theorem ssC_up (VM VS : Value) (m : Mdl) (til : Int) (n k nc nw nl lo NC NW NL : Nat) (s S : Sq) (rb : Bool) (d : Nat) {v : Value} {w w' : World} (h : ssC VM VS m til n k nc nw nl lo NC NW NL s S rb d v w) (u : Up w w') : ssC VM VS m til n k nc nw nl lo NC NW NL s S rb d v w' := by
  unfold ssC at h ⊢
  by_cases h95 : d = 95
  · rw [if_pos h95] at h ⊢
    exact h
  rw [if_neg h95] at h ⊢
  by_cases h96 : d = 96
  · rw [if_pos h96] at h ⊢
    exact h.up u
  rw [if_neg h96] at h ⊢
  by_cases h97 : d = 97
  · rw [if_pos h97] at h ⊢
    exact h
  rw [if_neg h97] at h ⊢
  by_cases h98 : d = 98
  · rw [if_pos h98] at h ⊢
    exact h.up u
  rw [if_neg h98] at h ⊢
  by_cases h99 : d = 99
  · rw [if_pos h99] at h ⊢
    exact h.up u
  rw [if_neg h99] at h ⊢
  by_cases h94 : d = 94
  · rw [if_pos h94] at h ⊢
    exact h.up u
  rw [if_neg h94] at h ⊢
  by_cases h100 : d = 100
  · rw [if_pos h100] at h ⊢
    exact h.up u
  rw [if_neg h100] at h ⊢
  by_cases h101 : d = 101
  · rw [if_pos h101] at h ⊢
    exact h
  rw [if_neg h101] at h ⊢
  by_cases h15 : d = 15
  · rw [if_pos h15] at h ⊢
    exact h.up u
  rw [if_neg h15] at h ⊢
  exact trivial
set_option maxHeartbeats 16000000 in
theorem walkEsst (v : Value) (m : Mdl) (v' : Value) (s : Sq) {w : World} (h : ∃ A n c B k d, v = .agg #[.slice A n c, .slice B k d, .int .i64 m.til] ∧ MdlV w A n B k m)
    (h' : ∃ Ac nc cc Aw nw cw Al nl cl, v' = .agg #[.slice Ac nc cc, .slice Aw nw cw, .slice Al nl cl] ∧ (nc ≤ 9223372036854775807 ∧ nw ≤ 9223372036854775807 ∧ nl ≤ 9223372036854775807) ∧ SqV w Ac nc Aw nw Al nl s) :
    Calls Tryz.prog 3 #[v, v'] w fun x w' => x = .returned (.bool true) ∧ Up w w' := by
  obtain ⟨A, n, c, B, k, d, rfl, hM⟩ := h; obtain ⟨Ac, nc, cc, Aw, nw, cw, Al, nl, cl, rfl, ⟨bc, bw, bl⟩, hV⟩ := h'
  have HM := Lib.hid hM
  have hk := hM.big
  have B0 := Lib.hid ((Box3.new w (.slice A n c) (.slice B k d) (.int .i64 m.til) 25).up ((Up.refl _).alloc (.cells #[.slice Ac nc cc, .slice Aw nw cw, .slice Al nl cl] 29)))
  have B1 := Box3.new (w.alloc (.cells #[.slice A n c, .slice B k d, .int .i64 m.til] 25)) (.slice Ac nc cc) (.slice Aw nw cw) (.slice Al nl cl) 29
  simp only [World.size_alloc] at B1
  have B1 := Lib.hid B1
  have UC := Lib.hid (((Up.refl w).alloc (.cells #[.slice A n c, .slice B k d, .int .i64 m.til] 25)).alloc (.cells #[.slice Ac nc cc, .slice Aw nw cw, .slice Al nl cl] 29))
  have CS := Lib.hid (fun W (u : Up w W) => szMdl_any A n c B k d m W (hM.up u))
  have CZ := Lib.hid (fun l W a b => szSq_sum Ac nc cc Aw nw cw Al nl cl l W a b bc bw bl)
  have CT := Lib.hid (fun W (u : Up w W) hS => toMdl_any A n c B k d m W (hM.up u) hS)
  have CQ := Lib.hid (fun W (u : Up w W) hS => toSq_own Ac nc cc Aw nw cw Al nl cl s W hS (hV.up u))
  have cp := (fun A B Ac Aw Al W (h : MdlV W A n B k m) (hS : ShortSq nc nw nl) (hv : SqV W Ac nc Aw nw Al nl s) (hs : nc + nw + nl ≤ 1048576) => specSeqStep_any A n n B k k m Ac nc nc Aw nw nw Al nl nl s W h hS hv hs)
  have ci := (fun A B Ac Aw Al W (h : MdlV W A n B k m) (hS : ShortSq nc nw nl) (hv : SqV W Ac nc Aw nw Al nl s) (_ : nc + nw + nl ≤ 1048576) => (implSeqStep_any A n n B k k m Ac nc nc Aw nw nw Al nl nl s W h hS (by have := hS.w; omega) hv).mono (fun _ _ hp => hp.str))
  have fw := fun hs => stpR_few (s := s) hM.rules.1 ⟨hV.comps.1, hV.wait.1, hV.log.1⟩ hs
  have CE := Lib.hid (fun A n c B k d A' n' c' B' k' d' W (h1 : MdlV W A n B k m) (h2 : MdlV W A' n' B' k' m) (hS : FitM m) => eqMdl_any A n c B k d m A' n' c' B' k' d' m W h1 h2 hS)
  have CV := Lib.hid (fun Ac Aw Al Bc Bw Bl W (hS : ShortSq nc nw nl) (h1 : SqV W Ac nc Aw nw Al nl s) (h2 : SqV W Bc nc Bw nw Bl nl s) => eqSq_any Ac nc nc Aw nw nw Al nl nl s Bc nc nc Bw nw nw Bl nl nl s W (by have := hS.c; omega) (by have := hS.w; omega) (by have := hS.l; omega) h1 h2)
  rw [decide_eq_true (rfl : m = m)] at CE; rw [decide_eq_true (rfl : s = s)] at CV; unfold StR at cp ci
  generalize stpR m n nc s = R at cp ci fw
  obtain ⟨S, rb⟩ := R; dsimp only at cp ci fw
  generalize S.comps.length = NC at cp ci fw
  generalize S.wait.length = NW at cp ci fw
  generalize S.log.length = NL at cp ci fw
  have CP := Lib.hid cp
  have CI := Lib.hid ci
  have CR := Lib.hid (fun Ac cc Aw cw Al cl Bc dc Bw dw Bl dl W (h0 : NC ≤ 1048576 ∧ NW ≤ 1048576 ∧ NL ≤ 1048576) (h1 : SqV W Ac NC Aw NW Al NL S) (h2 : SqV W Bc NC Bw NW Bl NL S) => eqSq_any Ac NC cc Aw NW cw Al NL cl S Bc NC dc Bw NW dw Bl NL dl S W (by omega) (by omega) (by omega) h1 h2)
  rw [decide_eq_true (rfl : S = S)] at CR
  have bne0 : (rb != rb) = false := by cases rb <;> rfl
  clear hM hV cp ci; unfold NewMdl at CT
  generalize htil : m.til = til at *
  go_enter Tryz.func3, Tryz.ntmps3
  go_wp2_with fail
  generalize (w.alloc (.cells #[.slice A n c, .slice B k d, .int .i64 til] 25)).alloc (.cells #[.slice Ac nc cc, .slice Aw nw cw, .slice Al nl cl] 29) = W at *
  generalize hb1 : w.heap.size + 1 = b1 at *
  generalize hb0 : w.heap.size = b0 at *
  clear hb1 hb0; refine (CS.out _ UC.out).mono ?_; rintro x w1 ⟨z, rfl, hz, u1⟩
  have UC := Lib.hid (UC.out.trans u1)
  have B0 := Lib.hid (B0.out.up u1)
  have B1 := Lib.hid (B1.out.up u1)
  clear u1
  rcases hz with rfl | ⟨z0, z1, hS⟩
  · go_wp2
    go_ret
    exact ⟨rfl, UC.out⟩
  have SH := Lib.hid hS
  have j0 : ¬ z < 0 := by omega
  have hn6 : n ≤ 1048576 := hS.few
  have hk6 : k ≤ 1048576 := by have := hS.fit.2; have := HM.out.starts.1; omega
  clear hS; obtain ⟨p0, p1, p2⟩ := And.intro B1.out.c0 (And.intro B1.out.c1 B1.out.c2)
  go_wp2_with fail
  refine (CZ.out z _ z0 z1).mono ?_; rintro x w2 ⟨y, rfl, hz, u1⟩
  have UC := Lib.hid (UC.out.trans u1)
  have B0 := Lib.hid (B0.out.up u1)
  have B1 := Lib.hid (B1.out.up u1)
  clear u1 p0 p1 p2
  rcases hz with rfl | ⟨y0, y1, hS, hsum⟩
  · go_wp2
    go_ret
    exact ⟨rfl, UC.out⟩
  have SS := Lib.hid hS
  have HSS := Lib.hid (show nc + nw + nl ≤ 1048576 by omega)
  have FW := Lib.hid (fw HSS.out)
  have j1 : ¬ y < 0 := by omega
  clear hS hsum fw
  go_wp2_with fail
  generalize w2 = W0 at *
  refine region_relyT 9 [(5, 7)] [(9, false), (10, false)] [28, 29, 30, 31, 32, 27, 33, 34, 6] 8 (fun _ w1 => Up W0 w1) Up (fun i v w => ssA (.agg #[.slice A n c, .slice B k d, .int .i64 til]) (.agg #[.slice Ac nc cc, .slice Aw nw cw, .slice Al nl cl]) m til n k nc nw nl W0.heap.size NC NW NL s S rb i v w) (by kernel_rfl) (by kernel_rfl) (by kernel_rfl) (by kernel_rfl) ((Up.refl _).drew) (fun slot_ _ _ _ h u => ssA_up (.agg #[.slice A n c, .slice B k d, .int .i64 til]) (.agg #[.slice Ac nc cc, .slice Aw nw cw, .slice Al nl cl]) m til n k nc nw nl W0.heap.size NC NW NL s S rb slot_ h u) ?_ ?_ ?_
  · simp only [List.take_succ_cons, List.take_zero]
    refine stepsT_op (by kernel_rfl) ?_ ?_
    · intro X w1 k1 hG hdep
      obtain ⟨q0, q1, q2⟩ := And.intro (B0.out.up hG).c0 (And.intro (B0.out.up hG).c1 (B0.out.up hG).c2); simp only [opW_def, mixT]; go_simp
      exact ⟨⟨_, by first | rfl | simp [Act.put], Up.refl _, hG, (show ssA (.agg #[.slice A n c, .slice B k d, .int .i64 til]) (.agg #[.slice Ac nc cc, .slice Aw nw cw, .slice Al nl cl]) m til n k nc nw nl W0.heap.size NC NW NL s S rb 28 _ _ from by first | (rw [ssA_28]; exact rfl) | rw [ssA_28])⟩⟩
    refine stepsT_op (by kernel_rfl) ?_ ?_
    · intro X w1 k1 hG hdep
      have e28 : ssA (.agg #[.slice A n c, .slice B k d, .int .i64 til]) (.agg #[.slice Ac nc cc, .slice Aw nw cw, .slice Al nl cl]) m til n k nc nw nl W0.heap.size NC NW NL s S rb 28 (X 28) w1 := hdep 28 (by decide +kernel)
      rw [ssA_28] at e28; simp only [opW_def, mixT, e28]; go_simp; refine (CT.out _ (UC.out.trans hG) SH.out).mono ?_; rintro x w2 ⟨g1, g2, rfl, _, _, o1, o2, u⟩
      exact ⟨⟨_, by first | rfl | simp [Act.put], u, hG.trans u, (show ssA (.agg #[.slice A n c, .slice B k d, .int .i64 til]) (.agg #[.slice Ac nc cc, .slice Aw nw cw, .slice Al nl cl]) m til n k nc nw nl W0.heap.size NC NW NL s S rb 29 _ _ from by first | (rw [ssA_29]; exact ⟨_, _, rfl, NewMdl.v o1 o2 hk⟩) | rw [ssA_29])⟩⟩
    refine stepsT_op (by kernel_rfl) ?_ ?_
    · intro X w1 k1 hG hdep
      obtain ⟨q0, q1, q2⟩ := And.intro (B1.out.up hG).c0 (And.intro (B1.out.up hG).c1 (B1.out.up hG).c2); simp only [opW_def, mixT]; go_simp
      exact ⟨⟨_, by first | rfl | simp [Act.put], Up.refl _, hG, (show ssA (.agg #[.slice A n c, .slice B k d, .int .i64 til]) (.agg #[.slice Ac nc cc, .slice Aw nw cw, .slice Al nl cl]) m til n k nc nw nl W0.heap.size NC NW NL s S rb 30 _ _ from by first | (rw [ssA_30]; exact rfl) | rw [ssA_30])⟩⟩
    refine stepsT_op (by kernel_rfl) ?_ ?_
    · intro X w1 k1 hG hdep
      have e30 : ssA (.agg #[.slice A n c, .slice B k d, .int .i64 til]) (.agg #[.slice Ac nc cc, .slice Aw nw cw, .slice Al nl cl]) m til n k nc nw nl W0.heap.size NC NW NL s S rb 30 (X 30) w1 := hdep 30 (by decide +kernel)
      rw [ssA_30] at e30; simp only [opW_def, mixT, e30]; go_simp; refine (CQ.out _ (UC.out.trans hG) SS.out).mono ?_; rintro x w2 ⟨g1, g2, g3, rfl, v, _, u⟩
      exact ⟨⟨_, by first | rfl | simp [Act.put], u, hG.trans u, (show ssA (.agg #[.slice A n c, .slice B k d, .int .i64 til]) (.agg #[.slice Ac nc cc, .slice Aw nw cw, .slice Al nl cl]) m til n k nc nw nl W0.heap.size NC NW NL s S rb 31 _ _ from by first | (rw [ssA_31]; exact ⟨_, _, _, rfl, v⟩) | rw [ssA_31])⟩⟩
    refine stepsT_op (by kernel_rfl) ?_ ?_
    · intro X w1 k1 hG hdep
      have e29 : ssA (.agg #[.slice A n c, .slice B k d, .int .i64 til]) (.agg #[.slice Ac nc cc, .slice Aw nw cw, .slice Al nl cl]) m til n k nc nw nl W0.heap.size NC NW NL s S rb 29 (X 29) w1 := hdep 29 (by decide +kernel)
      rw [ssA_29] at e29; obtain ⟨A1, B1, e29, mv⟩ := e29
      have e31 : ssA (.agg #[.slice A n c, .slice B k d, .int .i64 til]) (.agg #[.slice Ac nc cc, .slice Aw nw cw, .slice Al nl cl]) m til n k nc nw nl W0.heap.size NC NW NL s S rb 31 (X 31) w1 := hdep 31 (by decide +kernel)
      rw [ssA_31] at e31; obtain ⟨g1, g2, g3, e31, sv⟩ := e31; simp only [opW_def, mixT, e29, e31]; go_simp; refine (CP.out _ _ _ _ _ w1 mv SS.out sv HSS.out).mono ?_; rintro x w2 ⟨⟨Ac1, cc1, Aw1, cw1, Al1, cl1, rfl, sq⟩, u⟩
      exact ⟨⟨_, by first | rfl | simp [Act.put], u, hG.trans u, (show ssA (.agg #[.slice A n c, .slice B k d, .int .i64 til]) (.agg #[.slice Ac nc cc, .slice Aw nw cw, .slice Al nl cl]) m til n k nc nw nl W0.heap.size NC NW NL s S rb 32 _ _ from by first | (rw [ssA_32]; exact ⟨_, rfl, _, _, _, _, _, _, rfl, sq.mono hG.size⟩) | rw [ssA_32])⟩⟩
    refine stepsT_op (by kernel_rfl) ?_ ?_
    · intro X w1 k1 hG hdep
      have e32 : ssA (.agg #[.slice A n c, .slice B k d, .int .i64 til]) (.agg #[.slice Ac nc cc, .slice Aw nw cw, .slice Al nl cl]) m til n k nc nw nl W0.heap.size NC NW NL s S rb 32 (X 32) w1 := hdep 32 (by decide +kernel)
      rw [ssA_32] at e32; obtain ⟨u, e32, hr⟩ := e32; simp only [opW_def, mixT, e32]; go_simp
      exact ⟨⟨_, by first | rfl | simp [Act.put], Up.refl _, hG, (show ssA (.agg #[.slice A n c, .slice B k d, .int .i64 til]) (.agg #[.slice Ac nc cc, .slice Aw nw cw, .slice Al nl cl]) m til n k nc nw nl W0.heap.size NC NW NL s S rb 27 _ _ from by first | (rw [ssA_27]; exact ⟨_, rfl, hr⟩) | rw [ssA_27])⟩⟩
    refine stepsT_op (by kernel_rfl) ?_ ?_
    · intro X w1 k1 hG hdep
      have e27 : ssA (.agg #[.slice A n c, .slice B k d, .int .i64 til]) (.agg #[.slice Ac nc cc, .slice Aw nw cw, .slice Al nl cl]) m til n k nc nw nl W0.heap.size NC NW NL s S rb 27 (X 27) w1 := hdep 27 (by decide +kernel)
      rw [ssA_27] at e27; obtain ⟨u, e27, hr⟩ := e27; simp only [opW_def, mixT, e27]; go_simp
      exact ⟨⟨_, by first | rfl | simp [Act.put], Up.refl _, hG, (show ssA (.agg #[.slice A n c, .slice B k d, .int .i64 til]) (.agg #[.slice Ac nc cc, .slice Aw nw cw, .slice Al nl cl]) m til n k nc nw nl W0.heap.size NC NW NL s S rb 33 _ _ from by first | (rw [ssA_33]; exact hr) | rw [ssA_33])⟩⟩
    refine stepsT_guest (by kernel_rfl) ?_; refine stepsT_op (by kernel_rfl) ?_ ?_
    · intro X w1 k1 hG hdep
      simp only [opW_def, mixT]; go_simp
      exact ⟨⟨_, by first | rfl | simp [Act.put], (Up.refl _).alloc _, hG.alloc _, (show ssA (.agg #[.slice A n c, .slice B k d, .int .i64 til]) (.agg #[.slice Ac nc cc, .slice Aw nw cw, .slice Al nl cl]) m til n k nc nw nl W0.heap.size NC NW NL s S rb 6 _ _ from by first | (rw [ssA_6]; exact ⟨w1.heap.size, rfl, hG.size, BoxF.new w1 _ _ _ _⟩) | rw [ssA_6])⟩⟩
    exact trivial
  · intro h p _ hp
    obtain ⟨rfl, rfl⟩ := gOf_one hp; intro X w1 o ho hr
    have ho2 : some _ = some o := ho
    injection ho2 with ho2
    subst ho2
    have e27 : ssA (.agg #[.slice A n c, .slice B k d, .int .i64 til]) (.agg #[.slice Ac nc cc, .slice Aw nw cw, .slice Al nl cl]) m til n k nc nw nl W0.heap.size NC NW NL s S rb 27 (X 27) w1 := hr
    rw [ssA_27] at e27; obtain ⟨u, e27, hr⟩ := e27; refine ⟨.bool rb, fun w2 => ?_, (show ssA (.agg #[.slice A n c, .slice B k d, .int .i64 til]) (.agg #[.slice Ac nc cc, .slice Aw nw cw, .slice Al nl cl]) m til n k nc nw nl W0.heap.size NC NW NL s S rb 34 _ _ from by first | (rw [ssA_34]; exact rfl) | rw [ssA_34])⟩; simp only [mixT, e27]; go_simp
  · intro X w1 hG hR
    have e33 : ssA (.agg #[.slice A n c, .slice B k d, .int .i64 til]) (.agg #[.slice Ac nc cc, .slice Aw nw cw, .slice Al nl cl]) m til n k nc nw nl W0.heap.size NC NW NL s S rb 33 (X 33) w1 := hR 6 (by omega)
    rw [ssA_33] at e33; obtain ⟨Pc, Pcc, Pw, Pcw, Pl, Pcl, e33, sqo⟩ := e33
    have e34 : ssA (.agg #[.slice A n c, .slice B k d, .int .i64 til]) (.agg #[.slice Ac nc cc, .slice Aw nw cw, .slice Al nl cl]) m til n k nc nw nl W0.heap.size NC NW NL s S rb 34 (X 34) w1 := hR 7 (by omega)
    rw [ssA_34] at e34
    have e6 : ssA (.agg #[.slice A n c, .slice B k d, .int .i64 til]) (.agg #[.slice Ac nc cc, .slice Aw nw cw, .slice Al nl cl]) m til n k nc nw nl W0.heap.size NC NW NL s S rb 6 (X 6) w1 := hR 8 (by omega)
    rw [ssA_6] at e6; obtain ⟨b6, e6, lob, xb⟩ := e6; clear hR; obtain ⟨b0c, b1c, b2c⟩ := And.intro xb.k.c0 (And.intro xb.k.c1 xb.k.c2)
    have bl := xb.k.lt
    have bf := xb.f
    have LBX := Lib.hid (xb.laid (.slice Pc NC Pcc) (.slice Pw NW Pcw) (.slice Pl NL Pcl))
    have MX := ((((Up.refl w1).mv b6).setCell (o := 0) (.slice Pc NC Pcc)).setCell (o := 1) (.slice Pw NW Pcw) |>.setCell (o := 2) (.slice Pl NL Pcl))
    have SQX := Lib.hid (sqo.mv MX b0c)
    have UX := Lib.hid (MX.up hG lob)
    have LOX := Lib.hid lob
    clear MX sqo hG xb lob; simp only [mixT, e33, e34, e6]; refine mix_go rfl (by rfl) (fun K hK => ?_); go_simp; refine hK _ _ ?_; clear hK K; refine mix_go rfl (by rfl) (fun K hK => ?_); go_simp; refine hK _ _ ?_; clear hK K; refine mix_nil ?_; clear b0c b1c b2c bl bf e33 e34 e6
    have UC := Lib.hid (UC.out.trans UX.out)
    have B0 := Lib.hid (B0.out.up UX.out)
    have B1 := Lib.hid (B1.out.up UX.out)
    have X6 := Lib.hid LBX.out
    have SV := Lib.hid SQX.out.v
    clear UX LOX LBX SQX
    generalize ((w1.setCell ⟨b6, 0, none⟩ (.slice Pc NC Pcc)).setCell ⟨b6, 1, none⟩ (.slice Pw NW Pcw)).setCell ⟨b6, 2, none⟩ (.slice Pl NL Pcl) = W3 at *
    have UC3 := Lib.hid UC.out
    have B03 := Lib.hid B0.out
    have B13 := Lib.hid B1.out
    obtain ⟨q0, q1, q2⟩ := And.intro B0.out.c0 (And.intro B0.out.c1 B0.out.c2)
    go_wp2_with fail
    refine (CT.out _ UC.out SH.out).mono ?_; rintro x w4 ⟨g1, g2, rfl, hg1, hg2, o1, o2, u4⟩
    have SZ1 := Lib.hid (o1.sh (lo := W3.heap.size) (hi := w4.heap.size) SH.out.shorts hg1 (Nat.le_refl _))
    have SZ2 := Lib.hid (o2.sh (lo := W3.heap.size) (hi := w4.heap.size) hg2 (Nat.le_refl _))
    have ua := (Up.refl w4).alloc (.cells #[.slice (some ⟨g1, 0, none⟩) n n, .slice (some ⟨g2, 0, none⟩) k k, .int .i64 til] 41)
    have X8 := Lib.hid (Box3.new w4 (.slice (some ⟨g1, 0, none⟩) n n) (.slice (some ⟨g2, 0, none⟩) k k) (.int .i64 til) 41)
    have VX := Lib.hid ((NewMdl.v o1 o2 hk).up ua)
    have SZ1 := Lib.hid (SZ1.out.ints ua.ints)
    have SZ2 := Lib.hid (SZ2.out.ints ua.ints)
    have U3 := Lib.hid (u4.trans ua)
    have HI4 := Lib.hid (show W3.heap.size ≤ w4.heap.size from u4.size)
    have UC := Lib.hid (UC.out.trans U3.out)
    have B0 := Lib.hid (B0.out.up U3.out)
    have B1 := Lib.hid (B1.out.up U3.out)
    clear o1 o2 u4 ua q0 q1 q2 hg1 hg2; obtain ⟨p0, p1, p2⟩ := And.intro B1.out.c0 (And.intro B1.out.c1 B1.out.c2)
    go_wp2_with fail
    have HV4 := Lib.hid (show w4.heap.size + 1 = (w4.alloc (.cells #[.slice (some ⟨g1, 0, none⟩) n n, .slice (some ⟨g2, 0, none⟩) k k, .int .i64 til] 41)).heap.size by simp)
    generalize hb8 : w4.heap.size = b8 at *
    generalize w4.alloc (.cells #[.slice (some ⟨g1, 0, none⟩) n n, .slice (some ⟨g2, 0, none⟩) k k, .int .i64 til] 41) = W4 at *
    clear hb8; refine (CQ.out _ UC.out SS.out).mono ?_; rintro x w5 ⟨g3, g4, g5, rfl, sv, ⟨i1, i2, i3, lg3, lg4, lg5⟩, u5⟩
    have ua := (Up.refl w5).alloc (.cells #[.slice (some ⟨g3, 0, none⟩) nc nc, .slice (some ⟨g4, 0, none⟩) nw nw, .slice (some ⟨g5, 0, none⟩) nl nl] 36)
    have X9 := Lib.hid (Box3.new w5 (.slice (some ⟨g3, 0, none⟩) nc nc) (.slice (some ⟨g4, 0, none⟩) nw nw) (.slice (some ⟨g5, 0, none⟩) nl nl) 36)
    have V9 := Lib.hid (sv.up ua)
    have I9 := Lib.hid (And.intro (i1.up ua) (And.intro (i2.up ua) (i3.up ua)))
    have LG := Lib.hid (show W4.heap.size ≤ g3 ∧ g3 < g4 ∧ g4 < g5 ∧ g5 < w5.heap.size from ⟨lg3, lg4, lg5, i3.1⟩)
    have u := u5.trans ua
    have U3 := Lib.hid (U3.out.trans u)
    have UC := Lib.hid (UC.out.trans u)
    have B0 := Lib.hid (B0.out.up u)
    have B1 := Lib.hid (B1.out.up u)
    have VX := Lib.hid (VX.out.up u)
    have SZ1 := Lib.hid (SZ1.out.ints u.ints)
    have SZ2 := Lib.hid (SZ2.out.ints u.ints)
    have X8c := X8.out.up u5
    clear sv i1 i2 i3 lg3 lg4 lg5 ua p0 p1 p2; obtain ⟨p0, p1, p2⟩ := And.intro X8c.c0 (And.intro X8c.c1 X8c.c2)
    have pl := X8c.lt
    have X8 := Lib.hid (X8.out.up u)
    clear X8c u5 u
    go_wp2_with fail
    have HV5 := Lib.hid (show w5.heap.size + 1 = (w5.alloc (.cells #[.slice (some ⟨g3, 0, none⟩) nc nc, .slice (some ⟨g4, 0, none⟩) nw nw, .slice (some ⟨g5, 0, none⟩) nl nl] 36)).heap.size by simp)
    generalize hb9 : w5.heap.size = b9 at *
    generalize w5.alloc (.cells #[.slice (some ⟨g3, 0, none⟩) nc nc, .slice (some ⟨g4, 0, none⟩) nw nw, .slice (some ⟨g5, 0, none⟩) nl nl] 36) = W5 at *
    clear hb9 p0 p1 p2 pl
    have W45 := Lib.hid (show W3.heap.size ≤ W4.heap.size ∧ W4.heap.size ≤ W5.heap.size ∧ b8 < W4.heap.size ∧ b9 < W5.heap.size by have h1 := HI4.out; have h2 := HV4.out; have h3 := LG.out; have h4 := HV5.out; omega)
    refine (CI.out _ _ _ _ _ _ VX.out SS.out V9.out HSS.out).mono ?_; rintro x w6 ⟨⟨Gc, Gcc, Gw, Gcw, Gl, Gcl, rfl, sqo⟩, u6⟩
    have ua := (Up.refl w6).alloc (.cells #[.slice Gc NC Gcc, .slice Gw NW Gcw, .slice Gl NL Gcl] 36)
    have X10 := Lib.hid (Box3.new w6 (.slice Gc NC Gcc) (.slice Gw NW Gcw) (.slice Gl NL Gcl) 36)
    have GO := Lib.hid (sqo.up ua)
    have NE := Lib.hid (And.intro (fun h g => sqo.m1.ne (Nat.le_refl _) h g) (And.intro (fun h g => sqo.m2.ne (Nat.le_refl _) h g) (fun h g => sqo.m3.ne (Nat.le_refl _) h g)))
    have H56 := Lib.hid (show W5.heap.size ≤ w6.heap.size from u6.size)
    have X6c := X6.out.up (U3.out.trans u6)
    obtain ⟨p0, p1, p2⟩ := And.intro X6c.c0 (And.intro X6c.c1 X6c.c2)
    have pl := X6c.lt
    have u := u6.trans ua
    have U3 := Lib.hid (U3.out.trans u)
    have X8 := Lib.hid (X8.out.up u)
    have X9 := Lib.hid (X9.out.up u)
    have VX := Lib.hid (VX.out.up u)
    have V9 := Lib.hid (V9.out.up u)
    have I9 := Lib.hid (And.intro (I9.out.1.up u) (And.intro (I9.out.2.1.up u) (I9.out.2.2.up u)))
    have SZ1 := Lib.hid (SZ1.out.ints u.ints)
    have SZ2 := Lib.hid (SZ2.out.ints u.ints)
    clear sqo u6 ua u X6c
    go_wp2_with fail
    generalize hb10 : w6.heap.size = b10 at *
    generalize w6.alloc (.cells #[.slice Gc NC Gcc, .slice Gw NW Gcw, .slice Gl NL Gcl] 36) = W6 at *
    clear hb10 p0 p1 p2 pl; refine (CR.out _ _ _ _ _ _ _ _ _ _ _ _ _ FW.out GO.out.v (SV.out.up U3.out)).mono ?_; rintro x w7 ⟨rfl, u⟩
    have U3 := Lib.hid (U3.out.trans u)
    have X8 := Lib.hid (X8.out.up u)
    have X9 := Lib.hid (X9.out.up u)
    have X10 := Lib.hid (X10.out.up u)
    have GO := Lib.hid (GO.out.up u)
    have VX := Lib.hid (VX.out.up u)
    have V9 := Lib.hid (V9.out.up u)
    have I9 := Lib.hid (And.intro (I9.out.1.up u) (And.intro (I9.out.2.1.up u) (I9.out.2.2.up u)))
    have SZ1 := Lib.hid (SZ1.out.ints u.ints)
    have SZ2 := Lib.hid (SZ2.out.ints u.ints)
    clear u
    have UC := Lib.hid (UC3.out.trans U3.out)
    have B0 := Lib.hid (B03.out.up U3.out)
    have B1 := Lib.hid (B13.out.up U3.out)
    go_wp2_with fail
    have HB := And.intro B0.out.lt (And.intro X8.out.lt (And.intro B0.out.c0 (And.intro B0.out.c1 (And.intro B0.out.c2 (And.intro X8.out.c0 (And.intro X8.out.c1 X8.out.c2))))))
    have HH := Lib.hid HB
    obtain ⟨l0, l1, q0, q1, q2, r0, r1, r2⟩ := HB
    go_region_held3 (fun w' => b0 < w'.heap.size ∧ b8 < w'.heap.size ∧ w'.cell? ⟨b0, 0, none⟩ = some (.slice A n c) ∧ w'.cell? ⟨b0, 1, none⟩ = some (.slice B k d) ∧ w'.cell? ⟨b0, 2, none⟩ = some (.int .i64 til) ∧ w'.cell? ⟨b8, 0, none⟩ = some (.slice (some ⟨g1, 0, none⟩) n n) ∧ w'.cell? ⟨b8, 1, none⟩ = some (.slice (some ⟨g2, 0, none⟩) k k) ∧ w'.cell? ⟨b8, 2, none⟩ = some (.int .i64 til))
      (first | (exact HH.out) | (exact two_up uF (by assumption)) | (exact two_up uE (by assumption)))
      (first
        | (go_at_call 14; refine (CT.out _ (UC.out.trans (Up.refl _).drew) SH.out).mono ?_; rintro x wE ⟨g6, g7, rfl, hg5, hg6, o5, o6, uE⟩; have VE := Lib.hid (NewMdl.v o5 o6 hk); clear o5 o6)
        | (go_at_call 18; refine (CE.out _ n n _ k k _ n n _ k k _ (VX.out.up ((Up.refl _).drew.trans uE)) VE.out SH.out.fit).mono ?_; rintro x wF ⟨rfl, uF⟩))
    have u := ((Up.refl w7).drew.trans uE).trans uF
    have U3 := Lib.hid (U3.out.trans u)
    have X8 := Lib.hid (X8.out.up u)
    have X9 := Lib.hid (X9.out.up u)
    have X10 := Lib.hid (X10.out.up u)
    have GO := Lib.hid (GO.out.up u)
    have VX := Lib.hid (VX.out.up u)
    have V9 := Lib.hid (V9.out.up u)
    have I9 := Lib.hid (And.intro (I9.out.1.up u) (And.intro (I9.out.2.1.up u) (I9.out.2.2.up u)))
    have SZ1 := Lib.hid (SZ1.out.ints u.ints)
    have SZ2 := Lib.hid (SZ2.out.ints u.ints)
    have UC := Lib.hid (UC.out.trans u)
    have B1 := Lib.hid (B1.out.up u)
    clear u uE uF l0 l1 q0 q1 q2 r0 r1 r2 VE HH B0
    go_wp2_with fail
    have HB := And.intro B1.out.lt (And.intro X9.out.lt (And.intro B1.out.c0 (And.intro B1.out.c1 (And.intro B1.out.c2 (And.intro X9.out.c0 (And.intro X9.out.c1 X9.out.c2))))))
    have HH := Lib.hid HB
    obtain ⟨l0, l1, q0, q1, q2, r0, r1, r2⟩ := HB
    go_region_held3 (fun w' => b1 < w'.heap.size ∧ b9 < w'.heap.size ∧ w'.cell? ⟨b1, 0, none⟩ = some (.slice Ac nc cc) ∧ w'.cell? ⟨b1, 1, none⟩ = some (.slice Aw nw cw) ∧ w'.cell? ⟨b1, 2, none⟩ = some (.slice Al nl cl) ∧ w'.cell? ⟨b9, 0, none⟩ = some (.slice (some ⟨g3, 0, none⟩) nc nc) ∧ w'.cell? ⟨b9, 1, none⟩ = some (.slice (some ⟨g4, 0, none⟩) nw nw) ∧ w'.cell? ⟨b9, 2, none⟩ = some (.slice (some ⟨g5, 0, none⟩) nl nl))
      (first | (exact HH.out) | (exact two_up uF (by assumption)) | (exact two_up uE (by assumption)))
      (first
        | (go_at_call 15; refine (CQ.out _ (UC.out.trans (Up.refl _).drew) SS.out).mono ?_; rintro x wE ⟨g6, g7, g8, rfl, ve, _, uE⟩; have VE := Lib.hid ve; clear ve)
        | (go_at_call 17; refine (CV.out _ _ _ _ _ _ _ SS.out (V9.out.up ((Up.refl _).drew.trans uE)) VE.out).mono ?_; rintro x wG ⟨rfl, uF⟩))
    have u := ((Up.refl wF).drew.trans uE).trans uF
    have U3 := Lib.hid (U3.out.trans u)
    have X8 := Lib.hid (X8.out.up u)
    have X9 := Lib.hid (X9.out.up u)
    have X10 := Lib.hid (X10.out.up u)
    have GO := Lib.hid (GO.out.up u)
    have VX := Lib.hid (VX.out.up u)
    have V9 := Lib.hid (V9.out.up u)
    have I9 := Lib.hid (And.intro (I9.out.1.up u) (And.intro (I9.out.2.1.up u) (I9.out.2.2.up u)))
    have SZ1 := Lib.hid (SZ1.out.ints u.ints)
    have SZ2 := Lib.hid (SZ2.out.ints u.ints)
    clear u uE uF l0 l1 q0 q1 q2 r0 r1 r2 VE HH B1 UC V9 VX; obtain ⟨q0, q1, q2⟩ := And.intro X8.out.c0 (And.intro X8.out.c1 X8.out.c2)
    go_wp2_with fail
    have W10 := Lib.hid (show W5.heap.size ≤ b10 ∧ b10 < wG.heap.size from ⟨H56.out, X10.out.lt⟩)
    refine (markMdl_any W3.heap.size b8 g1 g2 n n k k til _ hn6 hk6 SZ1.out SZ2.out (Nat.le_of_lt X8.out.lt)).mono ?_; rintro x wm ⟨mz, rfl, hmz0, hmz1, m8⟩
    have HMZ := Lib.hid (And.intro hmz0 hmz1)
    have X9 := Lib.hid (X9.out.ints m8 (by have := LG.out; have := W45.out; have := HV5.out; omega))
    have X10 := Lib.hid (X10.out.ints m8 (by have := W45.out; have := W10.out; omega))
    have GO := Lib.hid (GO.out.ints m8 (by have := W45.out; omega))
    have I9 := Lib.hid (And.intro (I9.out.1.int m8) (And.intro (I9.out.2.1.int m8) (I9.out.2.2.int m8)))
    have U3 := Lib.hid (m8.up U3.out (Nat.le_refl _))
    have W10 := Lib.hid (show W5.heap.size ≤ b10 ∧ b10 < wm.heap.size from ⟨H56.out, X10.out.lt⟩)
    clear m8 q0 q1 q2 SZ1 SZ2 X8 hmz0 hmz1; obtain ⟨q0, q1, q2⟩ := And.intro X9.out.c0 (And.intro X9.out.c1 X9.out.c2)
    have nzm : ¬ mz < 0 := by have := HMZ.out; omega
    go_wp2_with fail
    refine (markSq_k W4.heap.size mz _ nc nc _ nw nw _ nl nl _ HMZ.out SS.out.c SS.out.w SS.out.l (fun _ => ⟨g3, rfl, LG.out.1, I9.out.1⟩) (fun _ => ⟨g4, rfl, by have := LG.out; omega, I9.out.2.1⟩) (fun _ => ⟨g5, rfl, by have := LG.out; omega, I9.out.2.2⟩) (ap_ne (by have := LG.out; omega)) (ap_ne (by have := LG.out; omega)) (ap_ne (by have := LG.out; omega))).mono ?_; rintro x wn ⟨rfl, hup, hkb, hsz⟩
    have KB := Lib.hid (fun b (h1 : W5.heap.size ≤ b) (h2 : b < wm.heap.size) => hkb b h2 (fun _ g e => by injection e with e; injection e with e _ _; have := LG.out; have := W45.out; have := HV5.out; omega) (fun _ g e => by injection e with e; injection e with e _ _; have := LG.out; have := W45.out; have := HV5.out; omega) (fun _ g e => by injection e with e; injection e with e _ _; have := LG.out; have := W45.out; have := HV5.out; omega))
    have GO := Lib.hid (GO.out.keep hsz (fun _ g _ h1 h2 => KB.out g h1 h2) (fun _ g _ h1 h2 => KB.out g h1 h2) (fun _ g _ h1 h2 => KB.out g h1 h2))
    have X10 := Lib.hid (X10.out.keepB hsz (KB.out b10 W10.out.1 W10.out.2))
    have U3 := Lib.hid (hup _ U3.out W45.out.1)
    have jm : ¬ (mz + 3 * (nc : Int) + 6 * (nw : Int) + 7 * (nl : Int)) < 0 := by have := HMZ.out; omega
    clear hup hkb hsz q0 q1 q2 KB I9 X9
    have X6c := X6.out.up U3.out
    obtain ⟨p0, p1, p2⟩ := And.intro X6c.c0 (And.intro X6c.c1 X6c.c2); obtain ⟨q0, q1, q2⟩ := And.intro X10.out.c0 (And.intro X10.out.c1 X10.out.c2)
    go_wp2_with fail
    refine (CR.out _ _ _ _ _ _ _ _ _ _ _ _ _ FW.out GO.out.v (SV.out.up U3.out)).mono ?_; rintro x wp ⟨rfl, u⟩
    have U3 := Lib.hid (U3.out.trans u)
    have X10 := Lib.hid (X10.out.up u)
    have GO := Lib.hid (GO.out.up u)
    clear u p0 p1 p2 q0 q1 q2 X6c; obtain ⟨q0, q1, q2⟩ := And.intro X10.out.c0 (And.intro X10.out.c1 X10.out.c2)
    go_wp2_with fail
    refine (markSq_ap W5.heap.size Gc NC Gcc Gw NW Gcw Gl NL Gcl _ FW.out.1 FW.out.2.1 FW.out.2.2 GO.out.m1 GO.out.m2 GO.out.m3 GO.out.p12 GO.out.p13 GO.out.p23).mono ?_; rintro x wq ⟨rfl, hheld, hup, hbx, hsz⟩
    have HE := Lib.hid hheld
    have U3 := Lib.hid (hup _ U3.out (by have := W45.out; omega) (by have := X10.out.lt; have := W10.out; omega))
    have X10 := Lib.hid (hbx _ _ _ _ X10.out NE.out.1 NE.out.2.1 NE.out.2.2)
    clear hheld hup hbx hsz q0 q1 q2 GO NE; obtain ⟨q0, q1, q2⟩ := And.intro X10.out.c0 (And.intro X10.out.c1 X10.out.c2)
    have jq : ¬ (1 + 3 * (NC : Int) + 6 * (NW : Int) + 7 * (NL : Int)) < 0 := by omega
    go_wp2_with fail
    refine (heldSq_any Gc NC Gcc Gw NW Gcw Gl NL Gcl _ FW.out.1 FW.out.2.1 FW.out.2.2 HE.out).mono ?_; rintro x W9 ⟨rfl, u⟩
    have HE := Lib.hid (HE.out.up u)
    have U3 := Lib.hid (U3.out.trans u)
    have X10 := Lib.hid (X10.out.up u)
    have UC := Lib.hid (UC3.out.trans U3.out)
    have B0 := Lib.hid (B03.out.up U3.out)
    have B1 := Lib.hid (B13.out.up U3.out)
    clear u q0 q1 q2
    go_wp2_with fail
    refine region_relyT 9 [(5, 7)] [(9, false), (10, false)] [95, 96, 97, 98, 99, 94, 100, 101, 15] 8 (fun _ w1 => Up W9 w1) Up (fun i v w => ssC (.agg #[.slice A n c, .slice B k d, .int .i64 til]) (.agg #[.slice Ac nc cc, .slice Aw nw cw, .slice Al nl cl]) m til n k nc nw nl W9.heap.size NC NW NL s S rb i v w) (by kernel_rfl) (by kernel_rfl) (by kernel_rfl) (by kernel_rfl) ((Up.refl _).drew) (fun slot_ _ _ _ h u => ssC_up (.agg #[.slice A n c, .slice B k d, .int .i64 til]) (.agg #[.slice Ac nc cc, .slice Aw nw cw, .slice Al nl cl]) m til n k nc nw nl W9.heap.size NC NW NL s S rb slot_ h u) ?_ ?_ ?_
    · simp only [List.take_succ_cons, List.take_zero]
      refine stepsT_op (by kernel_rfl) ?_ ?_
      · intro X w1 k1 hG hdep
        obtain ⟨q0, q1, q2⟩ := And.intro (B0.out.up hG).c0 (And.intro (B0.out.up hG).c1 (B0.out.up hG).c2); simp only [opW_def, mixT]; go_simp
        exact ⟨⟨_, by first | rfl | simp [Act.put], Up.refl _, hG, (show ssC (.agg #[.slice A n c, .slice B k d, .int .i64 til]) (.agg #[.slice Ac nc cc, .slice Aw nw cw, .slice Al nl cl]) m til n k nc nw nl W9.heap.size NC NW NL s S rb 95 _ _ from by first | (rw [ssC_95]; exact rfl) | rw [ssC_95])⟩⟩
      refine stepsT_op (by kernel_rfl) ?_ ?_
      · intro X w1 k1 hG hdep
        have e95 : ssC (.agg #[.slice A n c, .slice B k d, .int .i64 til]) (.agg #[.slice Ac nc cc, .slice Aw nw cw, .slice Al nl cl]) m til n k nc nw nl W9.heap.size NC NW NL s S rb 95 (X 95) w1 := hdep 95 (by decide +kernel)
        rw [ssC_95] at e95; simp only [opW_def, mixT, e95]; go_simp; refine (CT.out _ (UC.out.trans hG) SH.out).mono ?_; rintro x w2 ⟨g1, g2, rfl, _, _, o1, o2, u⟩
        exact ⟨⟨_, by first | rfl | simp [Act.put], u, hG.trans u, (show ssC (.agg #[.slice A n c, .slice B k d, .int .i64 til]) (.agg #[.slice Ac nc cc, .slice Aw nw cw, .slice Al nl cl]) m til n k nc nw nl W9.heap.size NC NW NL s S rb 96 _ _ from by first | (rw [ssC_96]; exact ⟨_, _, rfl, NewMdl.v o1 o2 hk⟩) | rw [ssC_96])⟩⟩
      refine stepsT_op (by kernel_rfl) ?_ ?_
      · intro X w1 k1 hG hdep
        obtain ⟨q0, q1, q2⟩ := And.intro (B1.out.up hG).c0 (And.intro (B1.out.up hG).c1 (B1.out.up hG).c2); simp only [opW_def, mixT]; go_simp
        exact ⟨⟨_, by first | rfl | simp [Act.put], Up.refl _, hG, (show ssC (.agg #[.slice A n c, .slice B k d, .int .i64 til]) (.agg #[.slice Ac nc cc, .slice Aw nw cw, .slice Al nl cl]) m til n k nc nw nl W9.heap.size NC NW NL s S rb 97 _ _ from by first | (rw [ssC_97]; exact rfl) | rw [ssC_97])⟩⟩
      refine stepsT_op (by kernel_rfl) ?_ ?_
      · intro X w1 k1 hG hdep
        have e97 : ssC (.agg #[.slice A n c, .slice B k d, .int .i64 til]) (.agg #[.slice Ac nc cc, .slice Aw nw cw, .slice Al nl cl]) m til n k nc nw nl W9.heap.size NC NW NL s S rb 97 (X 97) w1 := hdep 97 (by decide +kernel)
        rw [ssC_97] at e97; simp only [opW_def, mixT, e97]; go_simp; refine (CQ.out _ (UC.out.trans hG) SS.out).mono ?_; rintro x w2 ⟨g1, g2, g3, rfl, v, _, u⟩
        exact ⟨⟨_, by first | rfl | simp [Act.put], u, hG.trans u, (show ssC (.agg #[.slice A n c, .slice B k d, .int .i64 til]) (.agg #[.slice Ac nc cc, .slice Aw nw cw, .slice Al nl cl]) m til n k nc nw nl W9.heap.size NC NW NL s S rb 98 _ _ from by first | (rw [ssC_98]; exact ⟨_, _, _, rfl, v⟩) | rw [ssC_98])⟩⟩
      refine stepsT_op (by kernel_rfl) ?_ ?_
      · intro X w1 k1 hG hdep
        have e96 : ssC (.agg #[.slice A n c, .slice B k d, .int .i64 til]) (.agg #[.slice Ac nc cc, .slice Aw nw cw, .slice Al nl cl]) m til n k nc nw nl W9.heap.size NC NW NL s S rb 96 (X 96) w1 := hdep 96 (by decide +kernel)
        rw [ssC_96] at e96; obtain ⟨A1, B1, e96, mv⟩ := e96
        have e98 : ssC (.agg #[.slice A n c, .slice B k d, .int .i64 til]) (.agg #[.slice Ac nc cc, .slice Aw nw cw, .slice Al nl cl]) m til n k nc nw nl W9.heap.size NC NW NL s S rb 98 (X 98) w1 := hdep 98 (by decide +kernel)
        rw [ssC_98] at e98; obtain ⟨g1, g2, g3, e98, sv⟩ := e98; simp only [opW_def, mixT, e96, e98]; go_simp; refine (CI.out _ _ _ _ _ w1 mv SS.out sv HSS.out).mono ?_; rintro x w2 ⟨⟨Ac1, cc1, Aw1, cw1, Al1, cl1, rfl, sq⟩, u⟩
        exact ⟨⟨_, by first | rfl | simp [Act.put], u, hG.trans u, (show ssC (.agg #[.slice A n c, .slice B k d, .int .i64 til]) (.agg #[.slice Ac nc cc, .slice Aw nw cw, .slice Al nl cl]) m til n k nc nw nl W9.heap.size NC NW NL s S rb 99 _ _ from by first | (rw [ssC_99]; exact ⟨_, rfl, _, _, _, _, _, _, rfl, sq.mono hG.size⟩) | rw [ssC_99])⟩⟩
      refine stepsT_op (by kernel_rfl) ?_ ?_
      · intro X w1 k1 hG hdep
        have e99 : ssC (.agg #[.slice A n c, .slice B k d, .int .i64 til]) (.agg #[.slice Ac nc cc, .slice Aw nw cw, .slice Al nl cl]) m til n k nc nw nl W9.heap.size NC NW NL s S rb 99 (X 99) w1 := hdep 99 (by decide +kernel)
        rw [ssC_99] at e99; obtain ⟨u, e99, hr⟩ := e99; simp only [opW_def, mixT, e99]; go_simp
        exact ⟨⟨_, by first | rfl | simp [Act.put], Up.refl _, hG, (show ssC (.agg #[.slice A n c, .slice B k d, .int .i64 til]) (.agg #[.slice Ac nc cc, .slice Aw nw cw, .slice Al nl cl]) m til n k nc nw nl W9.heap.size NC NW NL s S rb 94 _ _ from by first | (rw [ssC_94]; exact ⟨_, rfl, hr⟩) | rw [ssC_94])⟩⟩
      refine stepsT_op (by kernel_rfl) ?_ ?_
      · intro X w1 k1 hG hdep
        have e94 : ssC (.agg #[.slice A n c, .slice B k d, .int .i64 til]) (.agg #[.slice Ac nc cc, .slice Aw nw cw, .slice Al nl cl]) m til n k nc nw nl W9.heap.size NC NW NL s S rb 94 (X 94) w1 := hdep 94 (by decide +kernel)
        rw [ssC_94] at e94; obtain ⟨u, e94, hr⟩ := e94; simp only [opW_def, mixT, e94]; go_simp
        exact ⟨⟨_, by first | rfl | simp [Act.put], Up.refl _, hG, (show ssC (.agg #[.slice A n c, .slice B k d, .int .i64 til]) (.agg #[.slice Ac nc cc, .slice Aw nw cw, .slice Al nl cl]) m til n k nc nw nl W9.heap.size NC NW NL s S rb 100 _ _ from by first | (rw [ssC_100]; exact hr) | rw [ssC_100])⟩⟩
      refine stepsT_guest (by kernel_rfl) ?_; refine stepsT_op (by kernel_rfl) ?_ ?_
      · intro X w1 k1 hG hdep
        simp only [opW_def, mixT]; go_simp
        exact ⟨⟨_, by first | rfl | simp [Act.put], (Up.refl _).alloc _, hG.alloc _, (show ssC (.agg #[.slice A n c, .slice B k d, .int .i64 til]) (.agg #[.slice Ac nc cc, .slice Aw nw cw, .slice Al nl cl]) m til n k nc nw nl W9.heap.size NC NW NL s S rb 15 _ _ from by first | (rw [ssC_15]; exact ⟨w1.heap.size, rfl, hG.size, BoxF.new w1 _ _ _ _⟩) | rw [ssC_15])⟩⟩
      exact trivial
    · intro h p _ hp
      obtain ⟨rfl, rfl⟩ := gOf_one hp; intro X w1 o ho hr
      have ho2 : some _ = some o := ho
      injection ho2 with ho2
      subst ho2
      have e94 : ssC (.agg #[.slice A n c, .slice B k d, .int .i64 til]) (.agg #[.slice Ac nc cc, .slice Aw nw cw, .slice Al nl cl]) m til n k nc nw nl W9.heap.size NC NW NL s S rb 94 (X 94) w1 := hr
      rw [ssC_94] at e94; obtain ⟨u, e94, hr⟩ := e94; refine ⟨.bool rb, fun w2 => ?_, (show ssC (.agg #[.slice A n c, .slice B k d, .int .i64 til]) (.agg #[.slice Ac nc cc, .slice Aw nw cw, .slice Al nl cl]) m til n k nc nw nl W9.heap.size NC NW NL s S rb 101 _ _ from by first | (rw [ssC_101]; exact rfl) | rw [ssC_101])⟩; simp only [mixT, e94]; go_simp
    · intro X w1 hG hR
      have e100 : ssC (.agg #[.slice A n c, .slice B k d, .int .i64 til]) (.agg #[.slice Ac nc cc, .slice Aw nw cw, .slice Al nl cl]) m til n k nc nw nl W9.heap.size NC NW NL s S rb 100 (X 100) w1 := hR 6 (by omega)
      rw [ssC_100] at e100; obtain ⟨Hc, Hcc, Hw, Hcw, Hl, Hcl, e100, sqo⟩ := e100
      have e101 : ssC (.agg #[.slice A n c, .slice B k d, .int .i64 til]) (.agg #[.slice Ac nc cc, .slice Aw nw cw, .slice Al nl cl]) m til n k nc nw nl W9.heap.size NC NW NL s S rb 101 (X 101) w1 := hR 7 (by omega)
      rw [ssC_101] at e101
      have e15 : ssC (.agg #[.slice A n c, .slice B k d, .int .i64 til]) (.agg #[.slice Ac nc cc, .slice Aw nw cw, .slice Al nl cl]) m til n k nc nw nl W9.heap.size NC NW NL s S rb 15 (X 15) w1 := hR 8 (by omega)
      rw [ssC_15] at e15; obtain ⟨b15, e15, lob, xb⟩ := e15; clear hR; obtain ⟨b0c, b1c, b2c⟩ := And.intro xb.k.c0 (And.intro xb.k.c1 xb.k.c2)
      have bl := xb.k.lt
      have bf := xb.f
      have LBX := Lib.hid (xb.laid (.slice Hc NC Hcc) (.slice Hw NW Hcw) (.slice Hl NL Hcl))
      have MX := ((((Up.refl w1).mv b15).setCell (o := 0) (.slice Hc NC Hcc)).setCell (o := 1) (.slice Hw NW Hcw) |>.setCell (o := 2) (.slice Hl NL Hcl))
      have SQX := Lib.hid (sqo.mv MX b0c)
      have UX := Lib.hid (MX.up hG lob)
      have LOX := Lib.hid lob
      clear MX sqo hG xb lob; simp only [mixT, e100, e101, e15]; refine mix_go rfl (by rfl) (fun K hK => ?_); go_simp; refine hK _ _ ?_; clear hK K; refine mix_go rfl (by rfl) (fun K hK => ?_); go_simp; refine hK _ _ ?_; clear hK K; refine mix_nil ?_; clear b0c b1c b2c bl bf e100 e101 e15
      have UC := Lib.hid (UC.out.trans UX.out)
      have U3 := Lib.hid (U3.out.trans UX.out)
      have X10 := Lib.hid (X10.out.up UX.out)
      have HE := Lib.hid (HE.out.up UX.out)
      have X15 := Lib.hid LBX.out
      have HV := Lib.hid SQX.out.v
      clear UX LOX LBX SQX B0 B1
      generalize ((w1.setCell ⟨b15, 0, none⟩ (.slice Hc NC Hcc)).setCell ⟨b15, 1, none⟩ (.slice Hw NW Hcw)).setCell ⟨b15, 2, none⟩ (.slice Hl NL Hcl) = WA at *
      have X6c := X6.out.up U3.out
      obtain ⟨p0, p1, p2⟩ := And.intro X6c.c0 (And.intro X6c.c1 X6c.c2); obtain ⟨q0, q1, q2⟩ := And.intro X15.out.c0 (And.intro X15.out.c1 X15.out.c2)
      go_wp2_with fail
      refine (CR.out _ _ _ _ _ _ _ _ _ _ _ _ _ FW.out HV.out (SV.out.up U3.out)).mono ?_; rintro x wB ⟨rfl, u⟩
      have HE := Lib.hid (HE.out.up u)
      have UC := Lib.hid (UC.out.trans u)
      have X10 := Lib.hid (X10.out.up u)
      clear u p0 p1 p2 q0 q1 q2 X6c U3; obtain ⟨q0, q1, q2⟩ := And.intro X10.out.c0 (And.intro X10.out.c1 X10.out.c2)
      go_wp2_with fail
      refine (heldSq_any Gc NC Gcc Gw NW Gcw Gl NL Gcl _ FW.out.1 FW.out.2.1 FW.out.2.2 HE.out).mono ?_; rintro x wC ⟨rfl, u⟩
      have UC := Lib.hid (UC.out.trans u)
      clear u q0 q1 q2; go_wp2; go_ret
      exact ⟨rfl, UC.out⟩
end Go.Proofs.YtlikekmhccnilaaGreat
